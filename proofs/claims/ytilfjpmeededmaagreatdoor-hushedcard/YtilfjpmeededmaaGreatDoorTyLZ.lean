/- A text read as an expression, where no columns are known. -/
/- What a text is read as is fit to be typed. -/
import Derived.Test.YtilfjpmeededmaaGreatDoorTyJZ
namespace Go.Proofs.YtilfjpmeededmaaGreatDoor
open Go.RowKit

def sizedS (o : Except Int Ex) : Except Int Ex := match o with
  | .error n => .error n
  | .ok x => if 300 < x.size then .error 4 else .ok x
def readS (atoi : Bs → Int) (ps : List Int) (fns : List Fn) (l : Bs) : Except Int Ex := match parseS l with
  | none => .error 1
  | some t => sizedS (typS atoi ps fns t)
theorem first2_any (w : World) (o : Obj) (a b : Int) : Calls Tryz.prog 46 #[.slice (some ⟨w.heap.size + 1, 0, none⟩) 2 2] ((w.alloc o).alloc (.cells #[.int .i64 a, .int .i64 b] 44)) fun e w' => e = .returned (.int .i64 (firstS [a, b])) ∧ w' = (w.alloc o).alloc (.cells #[.int .i64 a, .int .i64 b] 44) := by
  have hn := heap_alloc_new (w.alloc o) (.cells #[.int .i64 a, .int .i64 b] 44)
  rw [World.size_alloc] at hn
  refine first_any _ (w.heap.size + 1) 2 [a, b] (by simp) fun j u hj => ?_
  rw [blk_at hn]
  match j, hj with
  | 0, hj => simp at hj; subst hj; rfl
  | 1, hj => simp at hj; subst hj; rfl

set_option maxHeartbeats 4000000 in
set_option maxRecDepth 100000 in
theorem scopeRead_any (atoi : Bs → Int) (ps : List Int) (fns : List Fn) (hf : ∀ fn ∈ fns, 0 ≤ fn.body.size ∧ fn.body.size ≤ 300) (s : ByteArray) (hs : s.size ≤ maxLen) (hfit : ∀ t, parseS s.toList = some t → Fit (TokOK atoi) t ∧ nodT t ≤ 1000)
    (w : World) (FB : List Nat) (po : Option Addr) (pn pc : Nat) (fo : Option Addr) (fnn fc : Nat) (hsc : ScIn w FB (.slice po pn pc) (.slice fo fnn fc) ps fns) :
    Calls Tryz.prog 137 #[.agg #[.slice none 0 0, .slice po pn pc, .slice fo fnn fc], .string s] w fun e w' => Typd w FB (readS atoi ps fns s.toList) e w' := by
  have hx0 := below_box2 w (.cells #[.slice none 0 0, .slice po pn pc, .slice fo fnn fc] 206) ex0
  go_enter Tryz.func137, Tryz.ntmps137
  go_wp2_with (go_at_call 106; refine (parse_any s _ hs).mono ?_)
  rintro e w2 ⟨hb2, hres⟩
  have hS2 := res_box2f hb2
  obtain ⟨hR2, B2, hs2⟩ := res_box2 hb2
  rcases hres with ⟨ho, rfl⟩ | ⟨k, tx, br, ao, n, cap, t, ho, rfl, hT⟩
  · have HO : Hid (readS atoi ps fns s.toList = .error 1) := by rw [Hid, readS, ho]
    obtain ⟨⟨z0, z1, z2, z3, z4, z5, z6, z7, z8, z9, z10⟩, g0, g1, g2, g3, g4, g5, g6, g7, g8, g9, g10⟩ := cells11 hR2
    have hR6 : w.heap.size + 1 < w2.heap.size := by omega
    clear ho hfit hf hsc hS2 hR2 hb2 hx0
    go_wp2_with fail
    refine bodyPost_ret (v := .tuple #[.agg #[.int .i64 0, .int .i64 0, .int .i64 0, .bool false, .int .i64 0, .int .i64 0, .string ⟨#[]⟩, .int .i64 0, .string ⟨#[]⟩, .pointer none, .slice none 0 0], .int .i64 1]) (by simp [results, Tryz.results137, go_sem, hR6, z0, z1, z2, z3, z4, z5, z6, z7, z8, z9, z10]) rfl ⟨?_, .inl ⟨1, HO.out, by decide, rfl⟩⟩
    exact (set11_below B2 (by omega) _ _ _ _ _ _ _ _ _ _ _).alloc (by simp only [World.size_setCell]; exact B2.size) _
  · obtain ⟨hF, hnod⟩ := hfit t ho
    have HC : ∀ x : World, Below w2.heap.size w2 x → Calls Tryz.prog 209 #[.agg #[.slice none 0 0, .slice po pn pc, .slice fo fnn fc], .agg #[.int .i64 k, .string (ofBs tx), .bool br, .slice ao n cap]] x fun e w' => Typd x FB (typS atoi ps fns t) e w' :=
      fun x hx => expr_any atoi _ t x FB ps fns po pn pc fo fnn fc _ (Nat.le_refl _) hnod hF (hT.bounded.move (fun g hg => hx.block g hg.2) (fun _ _ => trivial)) ((hsc.keep B2).keep hx) hf
    have HO : Hid (readS atoi ps fns s.toList = sizedS (typS atoi ps fns t)) := by rw [Hid, readS, ho]
    have hS6 : w.heap.size < w2.heap.size := by omega
    have s0 : w2.cell? ⟨w.heap.size, 0, none⟩ = some (.slice none 0 0) := (blk_at hS2).trans rfl
    have s1 : w2.cell? ⟨w.heap.size, 1, none⟩ = some (.slice po pn pc) := (blk_at hS2).trans rfl
    have s2 : w2.cell? ⟨w.heap.size, 2, none⟩ = some (.slice fo fnn fc) := (blk_at hS2).trans rfl
    have HZ := fun x (hx : typS atoi ps fns t = .ok x) => typS_size atoi ps hf _ t (Nat.le_refl _) x hx
    obtain ⟨o, hoo⟩ : ∃ o, o = typS atoi ps fns t := ⟨_, rfl⟩
    rw [← hoo] at HO HC HZ
    clear ho hfit hf hsc hoo hF hT hb2 hx0
    go_wp2_with (go_at_call 209; refine (HC _ ?c1).mono ?_)
    case c1 => exact below_box w2 _
    rintro e w3 ⟨hb3, hres⟩
    have hB3 : Below w2.heap.size w2 w3 := (below_box w2 _).trans (hb3.mono (by simp [World.size_alloc]))
    have hs3 := hB3.size
    have hR3 := (hB3.block _ (by omega)).trans hR2
    have hR6 : w.heap.size + 1 < w3.heap.size := by omega
    have hR8 : w.heap.size < w3.heap.size := by omega
    have BX : Below w.heap.size w w3 := B2.trans (hB3.mono B2.size)
    obtain ⟨⟨z0, z1, z2, z3, z4, z5, z6, z7, z8, z9, z10⟩, g0, g1, g2, g3, g4, g5, g6, g7, g8, g9, g10⟩ := cells11 hR3
    clear HC s0 s1 s2 hS2 hR2 hS6
    rcases hres with ⟨n2, rfl, hn2, rfl⟩ | ⟨x, c5, rfl, rfl, hx⟩
    · have HE : Hid (readS atoi ps fns s.toList = .error n2) := HO.out
      have HFi : Hid (firstS [n2, gvS false 4] = n2) := by rw [Hid, firstS, if_neg hn2]
      have hne : (n2 == 0) = false := by simpa using hn2
      have HC1 := first2_any w3 (.cells #[.int .i64 0, .int .i64 0, .int .i64 0, .bool false, .int .i64 0, .int .i64 0, .string ⟨#[]⟩, .int .i64 0, .string ⟨#[]⟩, .pointer none, .slice none 0 0] 122) n2 (gvS false 4)
      rw [HFi.out] at HC1
      clear HO HZ hb3 hR3 HFi
      go_wp2_with (first
        | (go_at_call 79; refine (when_any _ _ _).mono ?_; rintro e w4 ⟨rfl, rfl⟩)
        | (go_at_call 46; refine HC1.mono ?_; rintro e w4 ⟨rfl, rfl⟩))
      refine bodyPost_ret (v := .tuple #[.agg #[.int .i64 0, .int .i64 0, .int .i64 0, .bool false, .int .i64 0, .int .i64 0, .string ⟨#[]⟩, .int .i64 0, .string ⟨#[]⟩, .pointer none, .slice none 0 0], .int .i64 n2]) (by simp [results, Tryz.results137, go_sem, hR6, hR8, z0, z1, z2, z3, z4, z5, z6, z7, z8, z9, z10]) rfl ⟨?_, .inl ⟨n2, HE.out, hn2, rfl⟩⟩
      exact ((set11_below BX (by omega) _ _ _ _ _ _ _ _ _ _ _).alloc (by simp only [World.size_setCell]; exact BX.size) _).alloc (by simp only [World.size_alloc, World.size_setCell]; omega) _
    · obtain ⟨sort, ty, size, quiet, vk, vn, vs, place, head, fi, xops, fp, xo, xn, xc, xcs, hxe, hxc, -, -, -, -, -⟩ := hx.inv
      have hc5 : c5 = #[.int .i64 sort, .int .i64 ty, .int .i64 size, .bool quiet, .int .i64 vk, .int .i64 vn, .string (ofBs vs), .int .i64 place, .string (ofBs head), .pointer fp, .slice xo xn xc] := by rw [← Array.toList_inj]; exact hxc
      subst hc5
      have hxz : x.size = size := by rw [hxe]; rfl
      have hsb := HZ x rfl
      rw [hxz] at hsb
      by_cases h3 : 300 < size
      · have HE : Hid (readS atoi ps fns s.toList = .error 4) := by rw [Hid, HO.out, sizedS, if_pos (by omega)]
        have HFi : Hid (firstS [0, gvS true 4] = 4) := rfl
        have HC1 := first2_any w3 (.cells #[.int .i64 sort, .int .i64 ty, .int .i64 size, .bool quiet, .int .i64 vk, .int .i64 vn, .string (ofBs vs), .int .i64 place, .string (ofBs head), .pointer fp, .slice xo xn xc] 122) 0 (gvS true 4)
        rw [HFi.out] at HC1
        have hdec : decide ((300 : Int) < size) = true := by simpa using h3
        clear HO HZ hb3 hR3 HFi hx hxe hxc hxz
        go_wp2_with (first
          | (go_at_call 79; refine (when_any _ _ _).mono ?_; rintro e w4 ⟨rfl, rfl⟩)
          | (go_at_call 46; refine HC1.mono ?_; rintro e w4 ⟨rfl, rfl⟩))
        refine bodyPost_ret (v := .tuple #[.agg #[.int .i64 0, .int .i64 0, .int .i64 0, .bool false, .int .i64 0, .int .i64 0, .string ⟨#[]⟩, .int .i64 0, .string ⟨#[]⟩, .pointer none, .slice none 0 0], .int .i64 4]) (by simp [results, Tryz.results137, go_sem, hR6, hR8, z0, z1, z2, z3, z4, z5, z6, z7, z8, z9, z10]) rfl ⟨?_, .inl ⟨4, HE.out, by decide, rfl⟩⟩
        exact ((set11_below BX (by omega) _ _ _ _ _ _ _ _ _ _ _).alloc (by simp only [World.size_setCell]; exact BX.size) _).alloc (by simp only [World.size_alloc, World.size_setCell]; omega) _
      · have HE : Hid (readS atoi ps fns s.toList = .ok x) := by rw [Hid, HO.out, sizedS, if_neg (by omega)]
        have HFi : Hid (firstS [0, gvS false 4] = 0) := rfl
        have HC1 := first2_any w3 (.cells #[.int .i64 sort, .int .i64 ty, .int .i64 size, .bool quiet, .int .i64 vk, .int .i64 vn, .string (ofBs vs), .int .i64 place, .string (ofBs head), .pointer fp, .slice xo xn xc] 122) 0 (gvS false 4)
        rw [HFi.out] at HC1
        have hdec : decide ((300 : Int) < size) = false := by simpa using h3
        have HX : Hid (IsEx w3 FB (fun g => w2.heap.size + 1 ≤ g) [.int .i64 sort, .int .i64 ty, .int .i64 size, .bool quiet, .int .i64 vk, .int .i64 vn, .string (ofBs vs), .int .i64 place, .string (ofBs head), .pointer fp, .slice xo xn xc] x) := hx.move (fun _ _ => rfl) (fun g hg => by simpa only [World.size_alloc] using hg)
        clear HO HZ hb3 hR3 HFi hx hxe hxc hxz
        go_wp2_with (first
          | (go_at_call 79; refine (when_any _ _ _).mono ?_; rintro e w4 ⟨rfl, rfl⟩)
          | (go_at_call 46; refine HC1.mono ?_; rintro e w4 ⟨rfl, rfl⟩))
        refine bodyPost_ret (v := .tuple #[.agg #[.int .i64 sort, .int .i64 ty, .int .i64 size, .bool quiet, .int .i64 vk, .int .i64 vn, .string (ofBs vs), .int .i64 place, .string (ofBs head), .pointer fp, .slice xo xn xc], .int .i64 0]) (by simp [results, Tryz.results137, go_sem, hR6, hR8, z0, z1, z2, z3, z4, z5, z6, z7, z8, z9, z10]) rfl ⟨?_, .inr ⟨x, _, HE.out, rfl, ?_⟩⟩
        · exact ((set11_below BX (by omega) _ _ _ _ _ _ _ _ _ _ _).alloc (by simp only [World.size_setCell]; exact BX.size) _).alloc (by simp only [World.size_alloc, World.size_setCell]; omega) _
        · refine HX.out.bounded.move (fun g hg => ?_) (fun g hg => by have := hg.1; omega)
          rw [Below.heap_alloc _ _ _ (by simp only [World.size_alloc, World.size_setCell]; have := hg.2; omega), Below.heap_alloc _ _ _ (by simp only [World.size_setCell]; exact hg.2)]
          exact set11_other _ _ _ _ _ _ _ _ _ _ _ _ _ _ (by have := hg.1; omega)
end Go.Proofs.YtilfjpmeededmaaGreatDoor

namespace Go.Proofs.YtilfjpmeededmaaGreatDoor
open Go.RowKit

theorem tree_fit (P : Int → Bs → Prop) : ∀ f : Nat, (∀ deep ts t r, treeF f deep ts = some (t, r) → (∀ c ∈ ts, P c.1 c.2) → Fit P t ∧ (∀ c ∈ r, c ∈ ts) ∧ nodT t + r.length ≤ ts.length) ∧
    (∀ deep ts t r, brF f deep ts = some (t, r) → (∀ c ∈ ts, P c.1 c.2) → Fit P t ∧ (∀ c ∈ r, c ∈ ts) ∧ nodT t + r.length ≤ ts.length) ∧
    (∀ deep ts xs r, opsF f deep ts = some (xs, r) → (∀ c ∈ ts, P c.1 c.2) → Fits P xs ∧ (∀ c ∈ r, c ∈ ts) ∧ nodTs xs + r.length ≤ ts.length) := by
  intro f
  induction f with
  | zero => exact ⟨fun _ _ _ _ h => by simp [treeF] at h, fun _ _ _ _ h => by simp [brF] at h, fun _ _ _ _ h => by simp [opsF] at h⟩
  | succ f ih =>
    obtain ⟨i1, i2, i3⟩ := ih
    refine ⟨fun deep ts t r h hP => ?_, fun deep ts t r h hP => ?_, fun deep ts xs r h hP => ?_⟩
    · cases ts with
      | nil => simp [treeF] at h
      | cons c ts =>
        rw [treeF] at h
        by_cases hc : c.1 = 1
        · rw [if_pos hc] at h
          obtain ⟨h1, h2, h3⟩ := i2 _ _ _ _ h fun c' hc' => hP c' (List.mem_cons_of_mem _ hc')
          exact ⟨h1, fun c' hc' => List.mem_cons_of_mem _ (h2 c' hc'), by simp; omega⟩
        · rw [if_neg hc] at h
          cases hA : aloneS c.1 c.2 with
          | false => rw [hA] at h; simp at h
          | true =>
            rw [hA, if_pos rfl] at h
            simp only [Option.some.injEq, Prod.mk.injEq] at h
            obtain ⟨rfl, rfl⟩ := h
            exact ⟨.mk (fun _ => hP c (by simp)) .nil, fun c' hc' => List.mem_cons_of_mem _ hc', by simp [nodT, nodTs]; omega⟩
    · cases ts with
      | nil => simp [brF] at h
      | cons c ts =>
        rw [brF] at h
        by_cases hd : 20 < deep
        · rw [if_pos hd] at h; simp at h
        · rw [if_neg hd] at h
          cases hA : headS c.1 c.2 with
          | false => rw [hA] at h; simp at h
          | true =>
            rw [hA, if_pos rfl] at h
            obtain ⟨⟨xs, r'⟩, ho, he⟩ := Option.map_eq_some_iff.mp h
            simp only [Prod.mk.injEq] at he
            obtain ⟨rfl, rfl⟩ := he
            obtain ⟨h1, h2, h3⟩ := i3 _ _ _ _ ho fun c' hc' => hP c' (List.mem_cons_of_mem _ hc')
            exact ⟨.mk (fun e => by cases e) h1, fun c' hc' => List.mem_cons_of_mem _ (h2 c' hc'), by simp [nodT]; omega⟩
    · cases ts with
      | nil => simp [opsF] at h
      | cons c ts =>
        rw [opsF] at h
        by_cases hc : c.1 = 2
        · rw [if_pos hc] at h
          simp only [Option.some.injEq, Prod.mk.injEq] at h
          obtain ⟨rfl, rfl⟩ := h
          exact ⟨.nil, fun c' hc' => List.mem_cons_of_mem _ hc', by simp [nodTs]⟩
        · rw [if_neg hc] at h
          cases ht : treeF f deep (c :: ts) with
          | none => rw [ht] at h; simp at h
          | some p =>
            obtain ⟨x, r'⟩ := p
            rw [ht] at h
            obtain ⟨⟨xs', r''⟩, ho, he⟩ := Option.map_eq_some_iff.mp h
            simp only [Prod.mk.injEq] at he
            obtain ⟨rfl, rfl⟩ := he
            obtain ⟨a1, a2, a3⟩ := i1 _ _ _ _ ht hP
            obtain ⟨b1, b2, b3⟩ := i3 _ _ _ _ ho fun c' hc' => hP c' (a2 c' hc')
            exact ⟨.cons a1 b1, fun c' hc' => a2 c' (b2 c' hc'), by simp [nodTs]; simp at a3; omega⟩
theorem scan_kinds : ∀ (n : Nat) (l : Bs) (ts : List Tk), l.length ≤ n → scanS l = some ts → (∀ c ∈ ts, c.1 = kindS c.2) ∧ ts.length ≤ l.length := by
  intro n
  induction n with
  | zero => intro l ts h hs; rw [scanS_nil l (by omega)] at hs; simp only [Option.some.injEq] at hs; subst hs; simp
  | succ n ih =>
    intro l ts h hs
    by_cases h0 : l.length = 0
    · rw [scanS_nil l h0] at hs; simp only [Option.some.injEq] at hs; subst hs; simp
    · rw [scanS_eq l (by omega)] at hs
      cases hb : blankB (l.headD 0).toNat with
      | true =>
        rw [hb, if_pos rfl] at hs
        obtain ⟨h1, h2⟩ := ih _ _ (by simp; omega) hs
        exact ⟨h1, by simp at h2; omega⟩
      | false =>
        have hp := plen_pos l (by omega) hb
        have hp2 := plen_le l (by omega)
        rw [hb, if_neg Bool.false_ne_true] at hs
        by_cases hk : kindS (l.take (plen l)) = 0
        · rw [if_pos hk] at hs; simp at hs
        · rw [if_neg hk] at hs
          obtain ⟨ts', hs', rfl⟩ := Option.map_eq_some_iff.mp hs
          obtain ⟨h1, h2⟩ := ih _ _ (by simp; omega) hs'
          refine ⟨fun c hc => ?_, by simp at h2 ⊢; omega⟩
          rcases List.mem_cons.mp hc with rfl | hc
          · rfl
          · exact h1 c hc
theorem parse_fit (P : Int → Bs → Prop) (hP : ∀ l, P (kindS l) l) (l : Bs) (t : Tr) (h : parseS l = some t) : Fit P t ∧ nodT t ≤ 1000 := by
  unfold parseS at h
  by_cases hl : 400 < l.length
  · rw [if_pos hl] at h; simp at h
  · rw [if_neg hl] at h
    obtain ⟨ts, h1, h2⟩ := Option.bind_eq_some_iff.mp h
    obtain ⟨hk, hn⟩ := scan_kinds _ l ts (Nat.le_refl _) h1
    unfold parseT at h2
    cases ht : treeF (2 * ts.length) 0 ts with
    | none => rw [ht] at h2; simp at h2
    | some p =>
      obtain ⟨x, r⟩ := p
      rw [ht] at h2
      cases r with
      | cons _ _ => simp at h2
      | nil =>
        simp only [Option.some.injEq] at h2
        subst h2
        obtain ⟨a1, _, a3⟩ := (tree_fit P _).1 _ _ _ _ ht fun c hc => by rw [hk c hc]; exact hP _
        exact ⟨a1, by simp at a3; omega⟩
theorem kind_num {l : Bs} (h : kindS l = 3) : numS l = true := by
  unfold kindS at h
  repeat' (split at h)
  all_goals first | omega | assumption
theorem kind_quote {l : Bs} (h : kindS l = 4) : quoteS l = true := by
  unfold kindS at h
  repeat' (split at h)
  all_goals first | omega | assumption
theorem kind_par {l : Bs} (h : kindS l = 7) : parS l = true := by
  unfold kindS at h
  repeat' (split at h)
  all_goals first | omega | assumption
end Go.Proofs.YtilfjpmeededmaaGreatDoor

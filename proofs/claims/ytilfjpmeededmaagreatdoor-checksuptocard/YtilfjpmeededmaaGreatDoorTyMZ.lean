import Derived.Test.YtilfjpmeededmaaGreatDoorTyJZ
import Derived.Shelf.Strings.Builder1
import Derived.Shelf.Small.Bits
import Derived.Shelf.Small.Strs
import Derived.Shelf.Small.Wraps
import Derived.Shelf.Strings.BuilderF
import Derived.Shelf.Strings.BuilderK
import Derived.Shelf.Strconv.Atoi
import Derived.Shelf.Strconv.Itoa0
import Derived.Shelf.Strconv.Itoa1
import Derived.Shelf.LaysM
import Derived.Shelf.Strconv.Itoa2
import Derived.Shelf.Strconv.Itoa3
import Derived.Shelf.Strconv.AtoiErrFast
import Derived.Shelf.Strconv.Clone
import Derived.Shelf.Strings.Search1
import Derived.Shelf.Strings.Search2
import Derived.Shelf.Strings.Cut
import Derived.Shelf.Strings.Shaped
import Derived.Shelf.Strings.Prefix
import Derived.Shelf.Slices.Turned
import Derived.Shelf.Slices.Equal
import Derived.Ground.Names2Prog
import Derived.Shelf.Slices.Clone
import Derived.Shelf.Slices.SearchI
import Derived.Ground.SlgnProg
import Derived.Shelf.SlicesE.Clone
import Derived.Test.YtilfjpmeededmaaGreatDoorProg
import Derived.Lib.AtoiErrMem
set_option linter.unusedVariables false
set_option linter.unusedSimpArgs false
namespace Go.Proofs.YtilfjpmeededmaaGreatDoor
open Go.RowKit
def sizedS (o : Except Int Ex) : Except Int Ex := match o with
  | .error n => .error n
  | .ok x => if 300 < x.size then .error 4 else .ok x
def readS (atoi : Bs → Int) (ps : Sc) (fns : List Fn) (l : Bs) : Except Int Ex := match parseS l with
  | none => .error 1
  | some t => sizedS (typS atoi ps fns t)
theorem first2_any (w : World) (o : Obj) (a b : Int) : Calls Tryz.prog 46 #[.slice (some ⟨w.heap.size + 1, 0, none⟩) 2 2] ((w.alloc o).alloc (.cells #[.int .i64 a, .int .i64 b] 44)) fun e w' => e = .returned (.int .i64 (firstS [a, b])) ∧ w' = (w.alloc o).alloc (.cells #[.int .i64 a, .int .i64 b] 44) := by
  have hn := heap_alloc_new (w.alloc o) (.cells #[.int .i64 a, .int .i64 b] 44)
  rw [World.size_alloc] at hn
  refine first_any _ (w.heap.size + 1) 2 [a, b] (by simp) fun j u hj => ?_
  rw [blk_at hn]
  match j, hj with
  | 0, hj => simp at hj; subst hj; rfl
  | 1, hj => simp at hj; subst hj; rfl
set_option maxHeartbeats 4000000 in
set_option maxRecDepth 100000 in
theorem scopeRead_any (atoi : Bs → Int) (ps : Sc) (fns : List Fn) (hf : ∀ fn ∈ fns, 0 ≤ fn.body.size ∧ fn.body.size ≤ 300) (s : ByteArray) (hs : s.size ≤ maxLen) (hfit : ∀ t, parseS s.toList = some t → Fit (TokOK atoi) t ∧ nodT t ≤ 1000)
    (w : World) (FB : List Nat) (qo : Option Addr) (qn qc : Nat) (po : Option Addr) (pn pc : Nat) (fo : Option Addr) (fnn fc : Nat) (hsc : ScIn w FB (.slice qo qn qc) (.slice po pn pc) (.slice fo fnn fc) ps fns) :
    Calls Tryz.prog 137 #[.agg #[.slice qo qn qc, .slice po pn pc, .slice fo fnn fc], .string s] w fun e w' => Typd w FB (readS atoi ps fns s.toList) e w' := by
  have hx0 := below_box2 w (.cells #[.slice qo qn qc, .slice po pn pc, .slice fo fnn fc] 206) ex0
  go_enter Tryz.func137, Tryz.ntmps137
  go_wp2_with (go_at_call 106; refine (parse_any s _ hs).mono ?_)
  rintro e w2 ⟨hb2, hres⟩
  have hS2 := res_box2f hb2
  obtain ⟨hR2, B2, hs2⟩ := res_box2 hb2
  rcases hres with ⟨ho, rfl⟩ | ⟨k, tx, br, ao, n, cap, t, ho, rfl, hT⟩
  · have HO : Hid (readS atoi ps fns s.toList = .error 1) := by rw [Hid, readS, ho]
    obtain ⟨⟨z0, z1, z2, z3, z4, z5, z6, z7, z8, z9, z10⟩, g0, g1, g2, g3, g4, g5, g6, g7, g8, g9, g10⟩ := cells11 hR2
    have hR6 : w.heap.size + 1 < w2.heap.size := by omega
    clear ho hfit hf hsc hS2 hR2 hb2 hx0
    go_wp2_with fail
    refine bodyPost_ret (v := .tuple #[.agg #[.int .i64 0, .int .i64 0, .int .i64 0, .bool false, .int .i64 0, .int .i64 0, .string ⟨#[]⟩, .int .i64 0, .string ⟨#[]⟩, .pointer none, .slice none 0 0], .int .i64 1]) (by simp [results, Tryz.results137, go_sem, hR6, z0, z1, z2, z3, z4, z5, z6, z7, z8, z9, z10]) rfl ⟨?_, .inl ⟨1, HO.out, by decide, rfl⟩⟩
    exact (set11_below B2 (by omega) _ _ _ _ _ _ _ _ _ _ _).alloc (by simp only [World.size_setCell]; exact B2.size) _
  · obtain ⟨hF, hnod⟩ := hfit t ho
    have HC : ∀ x : World, Below w2.heap.size w2 x → Calls Tryz.prog 209 #[.agg #[.slice qo qn qc, .slice po pn pc, .slice fo fnn fc], .agg #[.int .i64 k, .string (ofBs tx), .bool br, .slice ao n cap]] x fun e w' => Typd x FB (typS atoi ps fns t) e w' :=
      fun x hx => expr_any atoi _ t x FB ps fns qo qn qc po pn pc fo fnn fc _ (Nat.le_refl _) hnod hF (hT.bounded.move (fun g hg => hx.block g hg.2) (fun _ _ => trivial)) ((hsc.keep B2).keep hx) hf
    have HO : Hid (readS atoi ps fns s.toList = sizedS (typS atoi ps fns t)) := by rw [Hid, readS, ho]
    have hS6 : w.heap.size < w2.heap.size := by omega
    have s0 : w2.cell? ⟨w.heap.size, 0, none⟩ = some (.slice qo qn qc) := (blk_at hS2).trans rfl
    have s1 : w2.cell? ⟨w.heap.size, 1, none⟩ = some (.slice po pn pc) := (blk_at hS2).trans rfl
    have s2 : w2.cell? ⟨w.heap.size, 2, none⟩ = some (.slice fo fnn fc) := (blk_at hS2).trans rfl
    have HZ := fun x (hx : typS atoi ps fns t = .ok x) => typS_size atoi ps hf _ t (Nat.le_refl _) x hx
    obtain ⟨o, hoo⟩ : ∃ o, o = typS atoi ps fns t := ⟨_, rfl⟩
    rw [← hoo] at HO HC HZ
    clear ho hfit hf hsc hoo hF hT hb2 hx0
    go_wp2_with (go_at_call 209; refine (HC _ ?c1).mono ?_)
    case c1 => exact below_box w2 _
    rintro e w3 ⟨hb3, hres⟩
    have hB3 : Below w2.heap.size w2 w3 := (below_box w2 _).trans (hb3.mono (by simp [World.size_alloc]))
    have hs3 := hB3.size
    have hR3 := (hB3.block _ (by omega)).trans hR2
    have hR6 : w.heap.size + 1 < w3.heap.size := by omega
    have hR8 : w.heap.size < w3.heap.size := by omega
    have BX : Below w.heap.size w w3 := B2.trans (hB3.mono B2.size)
    obtain ⟨⟨z0, z1, z2, z3, z4, z5, z6, z7, z8, z9, z10⟩, g0, g1, g2, g3, g4, g5, g6, g7, g8, g9, g10⟩ := cells11 hR3
    clear HC s0 s1 s2 hS2 hR2 hS6
    rcases hres with ⟨n2, rfl, hn2, rfl⟩ | ⟨x, c5, rfl, rfl, hx⟩
    · have HE : Hid (readS atoi ps fns s.toList = .error n2) := HO.out
      have HFi : Hid (firstS [n2, gvS false 4] = n2) := by rw [Hid, firstS, if_neg hn2]
      have hne : (n2 == 0) = false := by simpa using hn2
      have HC1 := first2_any w3 (.cells #[.int .i64 0, .int .i64 0, .int .i64 0, .bool false, .int .i64 0, .int .i64 0, .string ⟨#[]⟩, .int .i64 0, .string ⟨#[]⟩, .pointer none, .slice none 0 0] 122) n2 (gvS false 4)
      rw [HFi.out] at HC1
      clear HO HZ hb3 hR3 HFi
      go_wp2_with (first
        | (go_at_call 79; refine (when_any _ _ _).mono ?_; rintro e w4 ⟨rfl, rfl⟩)
        | (go_at_call 46; refine HC1.mono ?_; rintro e w4 ⟨rfl, rfl⟩))
      refine bodyPost_ret (v := .tuple #[.agg #[.int .i64 0, .int .i64 0, .int .i64 0, .bool false, .int .i64 0, .int .i64 0, .string ⟨#[]⟩, .int .i64 0, .string ⟨#[]⟩, .pointer none, .slice none 0 0], .int .i64 n2]) (by simp [results, Tryz.results137, go_sem, hR6, hR8, z0, z1, z2, z3, z4, z5, z6, z7, z8, z9, z10]) rfl ⟨?_, .inl ⟨n2, HE.out, hn2, rfl⟩⟩
      exact ((set11_below BX (by omega) _ _ _ _ _ _ _ _ _ _ _).alloc (by simp only [World.size_setCell]; exact BX.size) _).alloc (by simp only [World.size_alloc, World.size_setCell]; omega) _
    · obtain ⟨sort, ty, size, quiet, vk, vn, vs, place, head, fi, xops, fp, xo, xn, xc, xcs, hxe, hxc, -, -, -, -, -⟩ := hx.inv
      have hc5 : c5 = #[.int .i64 sort, .int .i64 ty, .int .i64 size, .bool quiet, .int .i64 vk, .int .i64 vn, .string (ofBs vs), .int .i64 place, .string (ofBs head), .pointer fp, .slice xo xn xc] := by rw [← Array.toList_inj]; exact hxc
      subst hc5
      have hxz : x.size = size := by rw [hxe]; rfl
      have hsb := HZ x rfl
      rw [hxz] at hsb
      by_cases h3 : 300 < size
      · have HE : Hid (readS atoi ps fns s.toList = .error 4) := by rw [Hid, HO.out, sizedS, if_pos (by omega)]
        have HFi : Hid (firstS [0, gvS true 4] = 4) := rfl
        have HC1 := first2_any w3 (.cells #[.int .i64 sort, .int .i64 ty, .int .i64 size, .bool quiet, .int .i64 vk, .int .i64 vn, .string (ofBs vs), .int .i64 place, .string (ofBs head), .pointer fp, .slice xo xn xc] 122) 0 (gvS true 4)
        rw [HFi.out] at HC1
        have hdec : decide ((300 : Int) < size) = true := by simpa using h3
        clear HO HZ hb3 hR3 HFi hx hxe hxc hxz
        go_wp2_with (first
          | (go_at_call 79; refine (when_any _ _ _).mono ?_; rintro e w4 ⟨rfl, rfl⟩)
          | (go_at_call 46; refine HC1.mono ?_; rintro e w4 ⟨rfl, rfl⟩))
        refine bodyPost_ret (v := .tuple #[.agg #[.int .i64 0, .int .i64 0, .int .i64 0, .bool false, .int .i64 0, .int .i64 0, .string ⟨#[]⟩, .int .i64 0, .string ⟨#[]⟩, .pointer none, .slice none 0 0], .int .i64 4]) (by simp [results, Tryz.results137, go_sem, hR6, hR8, z0, z1, z2, z3, z4, z5, z6, z7, z8, z9, z10]) rfl ⟨?_, .inl ⟨4, HE.out, by decide, rfl⟩⟩
        exact ((set11_below BX (by omega) _ _ _ _ _ _ _ _ _ _ _).alloc (by simp only [World.size_setCell]; exact BX.size) _).alloc (by simp only [World.size_alloc, World.size_setCell]; omega) _
      · have HE : Hid (readS atoi ps fns s.toList = .ok x) := by rw [Hid, HO.out, sizedS, if_neg (by omega)]
        have HFi : Hid (firstS [0, gvS false 4] = 0) := rfl
        have HC1 := first2_any w3 (.cells #[.int .i64 sort, .int .i64 ty, .int .i64 size, .bool quiet, .int .i64 vk, .int .i64 vn, .string (ofBs vs), .int .i64 place, .string (ofBs head), .pointer fp, .slice xo xn xc] 122) 0 (gvS false 4)
        rw [HFi.out] at HC1
        have hdec : decide ((300 : Int) < size) = false := by simpa using h3
        have HX : Hid (IsEx w3 FB (fun g => w2.heap.size + 1 ≤ g) [.int .i64 sort, .int .i64 ty, .int .i64 size, .bool quiet, .int .i64 vk, .int .i64 vn, .string (ofBs vs), .int .i64 place, .string (ofBs head), .pointer fp, .slice xo xn xc] x) := hx.move (fun _ _ => rfl) (fun g hg => by simpa only [World.size_alloc] using hg)
        clear HO HZ hb3 hR3 HFi hx hxe hxc hxz
        go_wp2_with (first
          | (go_at_call 79; refine (when_any _ _ _).mono ?_; rintro e w4 ⟨rfl, rfl⟩)
          | (go_at_call 46; refine HC1.mono ?_; rintro e w4 ⟨rfl, rfl⟩))
        refine bodyPost_ret (v := .tuple #[.agg #[.int .i64 sort, .int .i64 ty, .int .i64 size, .bool quiet, .int .i64 vk, .int .i64 vn, .string (ofBs vs), .int .i64 place, .string (ofBs head), .pointer fp, .slice xo xn xc], .int .i64 0]) (by simp [results, Tryz.results137, go_sem, hR6, hR8, z0, z1, z2, z3, z4, z5, z6, z7, z8, z9, z10]) rfl ⟨?_, .inr ⟨x, _, HE.out, rfl, ?_⟩⟩
        · exact ((set11_below BX (by omega) _ _ _ _ _ _ _ _ _ _ _).alloc (by simp only [World.size_setCell]; exact BX.size) _).alloc (by simp only [World.size_alloc, World.size_setCell]; omega) _
        · refine HX.out.bounded.move (fun g hg => ?_) (fun g hg => by have := hg.1; omega)
          rw [Below.heap_alloc _ _ _ (by simp only [World.size_alloc, World.size_setCell]; have := hg.2; omega), Below.heap_alloc _ _ _ (by simp only [World.size_setCell]; exact hg.2)]
          exact set11_other _ _ _ _ _ _ _ _ _ _ _ _ _ _ (by have := hg.1; omega)
end Go.Proofs.YtilfjpmeededmaaGreatDoor

namespace Go.Proofs.YtilfjpmeededmaaGreatDoor
open Go.RowKit
theorem tree_fit (P : Int → Bs → Prop) : ∀ f : Nat, (∀ deep ts t r, treeF f deep ts = some (t, r) → (∀ c ∈ ts, P c.1 c.2) → Fit P t ∧ (∀ c ∈ r, c ∈ ts) ∧ nodT t + r.length ≤ ts.length) ∧
    (∀ deep ts t r, brF f deep ts = some (t, r) → (∀ c ∈ ts, P c.1 c.2) → Fit P t ∧ (∀ c ∈ r, c ∈ ts) ∧ nodT t + r.length ≤ ts.length) ∧
    (∀ deep ts xs r, opsF f deep ts = some (xs, r) → (∀ c ∈ ts, P c.1 c.2) → Fits P xs ∧ (∀ c ∈ r, c ∈ ts) ∧ nodTs xs + r.length ≤ ts.length) := by
  intro f
  induction f with
  | zero => exact ⟨fun _ _ _ _ h => by simp [treeF] at h, fun _ _ _ _ h => by simp [brF] at h, fun _ _ _ _ h => by simp [opsF] at h⟩
  | succ f ih =>
    obtain ⟨i1, i2, i3⟩ := ih
    refine ⟨fun deep ts t r h hP => ?_, fun deep ts t r h hP => ?_, fun deep ts xs r h hP => ?_⟩
    · cases ts with
      | nil => simp [treeF] at h
      | cons c ts =>
        rw [treeF] at h
        by_cases hc : c.1 = 1
        · rw [if_pos hc] at h
          obtain ⟨h1, h2, h3⟩ := i2 _ _ _ _ h fun c' hc' => hP c' (List.mem_cons_of_mem _ hc')
          exact ⟨h1, fun c' hc' => List.mem_cons_of_mem _ (h2 c' hc'), by simp; omega⟩
        · rw [if_neg hc] at h
          cases hA : aloneS c.1 c.2 with
          | false => rw [hA] at h; simp at h
          | true =>
            rw [hA, if_pos rfl] at h
            simp only [Option.some.injEq, Prod.mk.injEq] at h
            obtain ⟨rfl, rfl⟩ := h
            exact ⟨.mk (fun _ => hP c (by simp)) .nil, fun c' hc' => List.mem_cons_of_mem _ hc', by simp [nodT, nodTs]; omega⟩
    · cases ts with
      | nil => simp [brF] at h
      | cons c ts =>
        rw [brF] at h
        by_cases hd : 20 < deep
        · rw [if_pos hd] at h; simp at h
        · rw [if_neg hd] at h
          cases hA : headS c.1 c.2 with
          | false => rw [hA] at h; simp at h
          | true =>
            rw [hA, if_pos rfl] at h
            obtain ⟨⟨xs, r'⟩, ho, he⟩ := Option.map_eq_some_iff.mp h
            simp only [Prod.mk.injEq] at he
            obtain ⟨rfl, rfl⟩ := he
            obtain ⟨h1, h2, h3⟩ := i3 _ _ _ _ ho fun c' hc' => hP c' (List.mem_cons_of_mem _ hc')
            exact ⟨.mk (fun e => by cases e) h1, fun c' hc' => List.mem_cons_of_mem _ (h2 c' hc'), by simp [nodT]; omega⟩
    · cases ts with
      | nil => simp [opsF] at h
      | cons c ts =>
        rw [opsF] at h
        by_cases hc : c.1 = 2
        · rw [if_pos hc] at h
          simp only [Option.some.injEq, Prod.mk.injEq] at h
          obtain ⟨rfl, rfl⟩ := h
          exact ⟨.nil, fun c' hc' => List.mem_cons_of_mem _ hc', by simp [nodTs]⟩
        · rw [if_neg hc] at h
          cases ht : treeF f deep (c :: ts) with
          | none => rw [ht] at h; simp at h
          | some p =>
            obtain ⟨x, r'⟩ := p
            rw [ht] at h
            obtain ⟨⟨xs', r''⟩, ho, he⟩ := Option.map_eq_some_iff.mp h
            simp only [Prod.mk.injEq] at he
            obtain ⟨rfl, rfl⟩ := he
            obtain ⟨a1, a2, a3⟩ := i1 _ _ _ _ ht hP
            obtain ⟨b1, b2, b3⟩ := i3 _ _ _ _ ho fun c' hc' => hP c' (a2 c' hc')
            exact ⟨.cons a1 b1, fun c' hc' => a2 c' (b2 c' hc'), by simp [nodTs]; simp at a3; omega⟩
theorem scan_kinds : ∀ (n : Nat) (l : Bs) (ts : List Tk), l.length ≤ n → scanS l = some ts → (∀ c ∈ ts, c.1 = kindS c.2) ∧ ts.length ≤ l.length := by
  intro n
  induction n with
  | zero => intro l ts h hs; rw [scanS_nil l (by omega)] at hs; simp only [Option.some.injEq] at hs; subst hs; simp
  | succ n ih =>
    intro l ts h hs
    by_cases h0 : l.length = 0
    · rw [scanS_nil l h0] at hs; simp only [Option.some.injEq] at hs; subst hs; simp
    · rw [scanS_eq l (by omega)] at hs
      cases hb : blankB (l.headD 0).toNat with
      | true =>
        rw [hb, if_pos rfl] at hs
        obtain ⟨h1, h2⟩ := ih _ _ (by simp; omega) hs
        exact ⟨h1, by simp at h2; omega⟩
      | false =>
        have hp := plen_pos l (by omega) hb
        have hp2 := plen_le l (by omega)
        rw [hb, if_neg Bool.false_ne_true] at hs
        by_cases hk : kindS (l.take (plen l)) = 0
        · rw [if_pos hk] at hs; simp at hs
        · rw [if_neg hk] at hs
          obtain ⟨ts', hs', rfl⟩ := Option.map_eq_some_iff.mp hs
          obtain ⟨h1, h2⟩ := ih _ _ (by simp; omega) hs'
          refine ⟨fun c hc => ?_, by simp at h2 ⊢; omega⟩
          rcases List.mem_cons.mp hc with rfl | hc
          · rfl
          · exact h1 c hc
theorem parse_fit (P : Int → Bs → Prop) (hP : ∀ l, P (kindS l) l) (l : Bs) (t : Tr) (h : parseS l = some t) : Fit P t ∧ nodT t ≤ 1000 := by
  unfold parseS at h
  by_cases hl : 400 < l.length
  · rw [if_pos hl] at h; simp at h
  · rw [if_neg hl] at h
    obtain ⟨ts, h1, h2⟩ := Option.bind_eq_some_iff.mp h
    obtain ⟨hk, hn⟩ := scan_kinds _ l ts (Nat.le_refl _) h1
    unfold parseT at h2
    cases ht : treeF (2 * ts.length) 0 ts with
    | none => rw [ht] at h2; simp at h2
    | some p =>
      obtain ⟨x, r⟩ := p
      rw [ht] at h2
      cases r with
      | cons _ _ => simp at h2
      | nil =>
        simp only [Option.some.injEq] at h2
        subst h2
        obtain ⟨a1, _, a3⟩ := (tree_fit P _).1 _ _ _ _ ht fun c hc => by rw [hk c hc]; exact hP _
        exact ⟨a1, by simp at a3; omega⟩
theorem kind_num {l : Bs} (h : kindS l = 3) : numS l = true := by
  unfold kindS at h
  repeat' (split at h)
  all_goals first | omega | assumption
theorem kind_quote {l : Bs} (h : kindS l = 4) : quoteS l = true := by
  unfold kindS at h
  repeat' (split at h)
  all_goals first | omega | assumption
theorem kind_par {l : Bs} (h : kindS l = 7) : parS l = true := by
  unfold kindS at h
  repeat' (split at h)
  all_goals first | omega | assumption
end Go.Proofs.YtilfjpmeededmaaGreatDoor

namespace Go.Proofs
open Go.Shelf
def Tryz.lays172_ren : Go.Shelf.Ren := ⟨fun | 172 => 353 | 244 => 381 | 245 => 382 | 247 => 393 | 279 => 394 | 280 => 395 | 281 => 396 | 282 => 397 | 287 => 404 | 316 => 148 | 171 => 358 | 205 => 405 | 321 => 414 | 322 => 415 | 243 => 383 | 246 => 398 | 283 => 406 | 284 => 407 | 285 => 408 | 286 => 409 | 129 => 321 | 317 => 416 | 318 => 417 | 319 => 418 | 320 => 419 | 337 => 421 | 338 => 422 | n => n, fun | 9 => 9 | 3 => 3 | 75 => 463 | 76 => 464 | 4 => 4 | 5 => 5 | 167 => 556 | 37 => 351 | 0 => 0 | 85 => 557 | 2 => 2 | 168 => 559 | 53 => 324 | 175 => 565 | 46 => 211 | 210 => 568 | 127 => 422 | 145 => 578 | 143 => 576 | 21 => 21 | 171 => 570 | 173 => 572 | 212 => 580 | 51 => 327 | 20 => 20 | 213 => 581 | 232 => 584 | 233 => 585 | 80 => 239 | n => n, fun | 15 => 1 | 16 => 2 | 17 => 3 | 18 => 4 | 19 => 5 | n => n⟩
theorem Tryz.lays172 : Go.Proofs.Lays.n172 Tryz.prog Tryz.lays172_ren := {
  mixed := by kernel_rfl
  f129 := Tryz.func321.trans (congrArg some (by kernel_rfl))
  f171 := Tryz.func358.trans (congrArg some (by kernel_rfl))
  f172 := Tryz.func353.trans (congrArg some (by kernel_rfl))
  f205 := Tryz.func405.trans (congrArg some (by kernel_rfl))
  f243 := Tryz.func383.trans (congrArg some (by kernel_rfl))
  f244 := Tryz.func381.trans (congrArg some (by kernel_rfl))
  f245 := Tryz.func382.trans (congrArg some (by kernel_rfl))
  f246 := Tryz.func398.trans (congrArg some (by kernel_rfl))
  f247 := Tryz.func393.trans (congrArg some (by kernel_rfl))
  f279 := Tryz.func394.trans (congrArg some (by kernel_rfl))
  f280 := Tryz.func395.trans (congrArg some (by kernel_rfl))
  f281 := Tryz.func396.trans (congrArg some (by kernel_rfl))
  f282 := Tryz.func397.trans (congrArg some (by kernel_rfl))
  f283 := Tryz.func406.trans (congrArg some (by kernel_rfl))
  f284 := Tryz.func407.trans (congrArg some (by kernel_rfl))
  f285 := Tryz.func408.trans (congrArg some (by kernel_rfl))
  f286 := Tryz.func409.trans (congrArg some (by kernel_rfl))
  f287 := Tryz.func404.trans (congrArg some (by kernel_rfl))
  f316 := Tryz.func148.trans (congrArg some (by kernel_rfl))
  f317 := Tryz.func416.trans (congrArg some (by kernel_rfl))
  f318 := Tryz.func417.trans (congrArg some (by kernel_rfl))
  f319 := Tryz.func418.trans (congrArg some (by kernel_rfl))
  f320 := Tryz.func419.trans (congrArg some (by kernel_rfl))
  f321 := Tryz.func414.trans (congrArg some (by kernel_rfl))
  f322 := Tryz.func415.trans (congrArg some (by kernel_rfl))
  f337 := Tryz.func421.trans (congrArg some (by kernel_rfl))
  f338 := Tryz.func422.trans (congrArg some (by kernel_rfl))
  t0 := Tryz.underlying0
  a0 := Tryz.isAgg0
  z0 := Tryz.sizeOf0
  v0 := Tryz.zeroValue0
  t2 := Tryz.underlying2
  a2 := Tryz.isAgg2
  z2 := Tryz.sizeOf2
  v2 := Tryz.zeroValue2
  t3 := Tryz.underlying3
  a3 := Tryz.isAgg3
  z3 := Tryz.sizeOf3
  v3 := Tryz.zeroValue3
  t4 := Tryz.underlying4
  a4 := Tryz.isAgg4
  z4 := Tryz.sizeOf4
  v4 := Tryz.zeroValue4
  t5 := Tryz.underlying5
  a5 := Tryz.isAgg5
  z5 := Tryz.sizeOf5
  v5 := Tryz.zeroValue5
  t9 := Tryz.underlying9
  a9 := Tryz.isAgg9
  z9 := Tryz.sizeOf9
  v9 := Tryz.zeroValue9
  t20 := Tryz.underlying20
  a20 := Tryz.isAgg20
  z20 := Tryz.sizeOf20
  v20 := Tryz.zeroValue20
  t21 := Tryz.underlying21
  a21 := Tryz.isAgg21
  z21 := Tryz.sizeOf21
  v21 := Tryz.zeroValue21
  t37 := Tryz.underlying351
  a37 := Tryz.isAgg351
  z37 := Tryz.sizeOf351
  v37 := Tryz.zeroValue351
  t46 := Tryz.underlying211
  a46 := Tryz.isAgg211
  z46 := Tryz.sizeOf211
  v46 := Tryz.zeroValue211
  t51 := Tryz.underlying327
  a51 := Tryz.isAgg327
  z51 := Tryz.sizeOf327
  v51 := Tryz.zeroValue327
  t53 := Tryz.underlying324
  a53 := Tryz.isAgg324
  z53 := Tryz.sizeOf324
  v53 := Tryz.zeroValue324
  t75 := Tryz.underlying463
  a75 := Tryz.isAgg463
  z75 := Tryz.sizeOf463
  v75 := Tryz.zeroValue463
  t76 := Tryz.underlying464
  a76 := Tryz.isAgg464
  z76 := Tryz.sizeOf464
  v76 := Tryz.zeroValue464
  t85 := Tryz.underlying557
  a85 := Tryz.isAgg557
  z85 := Tryz.sizeOf557
  v85 := Tryz.zeroValue557
  t127 := Tryz.underlying422
  a127 := Tryz.isAgg422
  z127 := Tryz.sizeOf422
  v127 := Tryz.zeroValue422
  t143 := Tryz.underlying576
  a143 := Tryz.isAgg576
  z143 := Tryz.sizeOf576
  v143 := Tryz.zeroValue576
  t145 := Tryz.underlying578
  a145 := Tryz.isAgg578
  z145 := Tryz.sizeOf578
  v145 := Tryz.zeroValue578
  t167 := Tryz.underlying556
  a167 := Tryz.isAgg556
  z167 := Tryz.sizeOf556
  v167 := Tryz.zeroValue556
  t168 := Tryz.underlying559
  a168 := Tryz.isAgg559
  z168 := Tryz.sizeOf559
  v168 := Tryz.zeroValue559
  t171 := Tryz.underlying570
  a171 := Tryz.isAgg570
  z171 := Tryz.sizeOf570
  v171 := Tryz.zeroValue570
  t173 := Tryz.underlying572
  a173 := Tryz.isAgg572
  z173 := Tryz.sizeOf572
  v173 := Tryz.zeroValue572
  t175 := Tryz.underlying565
  a175 := Tryz.isAgg565
  z175 := Tryz.sizeOf565
  v175 := Tryz.zeroValue565
  t210 := Tryz.underlying568
  a210 := Tryz.isAgg568
  z210 := Tryz.sizeOf568
  v210 := Tryz.zeroValue568
  t212 := Tryz.underlying580
  a212 := Tryz.isAgg580
  z212 := Tryz.sizeOf580
  v212 := Tryz.zeroValue580
  t213 := Tryz.underlying581
  a213 := Tryz.isAgg581
  z213 := Tryz.sizeOf581
  t232 := Tryz.underlying584
  a232 := Tryz.isAgg584
  z232 := Tryz.sizeOf584
  v232 := Tryz.zeroValue584
  t233 := Tryz.underlying585
  a233 := Tryz.isAgg585
  z233 := Tryz.sizeOf585
  v233 := Tryz.zeroValue585
  g15 := by kernel_rfl
  g16 := by kernel_rfl
  g17 := by kernel_rfl
  g18 := by kernel_rfl
  g19 := by kernel_rfl }
open Go.RowKit in
theorem Tryz.strconv_Atoi (s : ByteArray) (n : Int) (hl : s.size ≤ 18) (h : Lib.atoi s.data.toList = some n) (w : World) :
    Calls Tryz.prog 353 #[.string s] w fun e w' => e = .returned (.tuple #[.int .i64 n, .nilIface]) ∧ ∃ t, w' = Lib.bytesWorld w 5 t := Any.strconv_Atoi Tryz.lays172 s n hl h w
def Tryz.lays121_ren : Go.Shelf.Ren := ⟨fun | 121 => 359 | 214 => 384 | n => n, fun | 4 => 4 | 9 => 9 | n => n, fun | n => n⟩
theorem Tryz.lays121 : Go.Proofs.Lays.n121 Tryz.prog Tryz.lays121_ren := {
  mixed := by kernel_rfl
  f121 := Tryz.func359.trans (congrArg some (by kernel_rfl))
  f214 := Tryz.func384.trans (congrArg some (by kernel_rfl))
  t4 := Tryz.underlying4
  a4 := Tryz.isAgg4
  z4 := Tryz.sizeOf4
  v4 := Tryz.zeroValue4
  t9 := Tryz.underlying9
  a9 := Tryz.isAgg9
  z9 := Tryz.sizeOf9
  v9 := Tryz.zeroValue9 }
open Go.RowKit in
theorem Tryz.strconv_FormatBool (b : Bool) (w : World) :
    Calls Tryz.prog 359 #[.bool b] w fun e w' => e = .returned (.string ⟨(Lib.formatBool b).toArray⟩) ∧ w' = w := Any.strconv_FormatBool Tryz.lays121 b w
def Tryz.lays122_ren : Go.Shelf.Ren := ⟨fun | 122 => 250 | 215 => 323 | n => n, fun | 3 => 3 | 4 => 4 | n => n, fun | n => n⟩
theorem Tryz.lays122 : Go.Proofs.Lays.n122 Tryz.prog Tryz.lays122_ren := {
  mixed := by kernel_rfl
  f122 := Tryz.func250.trans (congrArg some (by kernel_rfl))
  f215 := Tryz.func323.trans (congrArg some (by kernel_rfl))
  t3 := Tryz.underlying3
  a3 := Tryz.isAgg3
  z3 := Tryz.sizeOf3
  v3 := Tryz.zeroValue3
  t4 := Tryz.underlying4
  a4 := Tryz.isAgg4
  z4 := Tryz.sizeOf4
  v4 := Tryz.zeroValue4 }
open Go.RowKit in
theorem Tryz.cmp_Compare_int (x y : Int) (w : World) :
    Calls Tryz.prog 250 #[.int .i64 x, .int .i64 y] w fun e w' => e = .returned (.int .i64 (Lib.compareInt x y)) ∧ w' = w := Any.cmp_Compare_int Tryz.lays122 x y w
def Tryz.laysM316_ren : Go.Shelf.Ren := ⟨fun | 316 => 148 | n => n, fun | 9 => 9 | 3 => 3 | 4 => 4 | 37 => 351 | 0 => 0 | 127 => 422 | 5 => 5 | n => n, fun | n => n⟩
theorem Tryz.laysM316 : Go.Proofs.LaysM.n316 Tryz.prog Tryz.laysM316_ren := {
  mixed := by kernel_rfl
  f316 := Tryz.func148.trans (congrArg some (by kernel_rfl))
  t0 := Tryz.underlying0
  a0 := Tryz.isAgg0
  z0 := Tryz.sizeOf0
  v0 := Tryz.zeroValue0
  t3 := Tryz.underlying3
  a3 := Tryz.isAgg3
  z3 := Tryz.sizeOf3
  v3 := Tryz.zeroValue3
  t4 := Tryz.underlying4
  a4 := Tryz.isAgg4
  z4 := Tryz.sizeOf4
  v4 := Tryz.zeroValue4
  t9 := Tryz.underlying9
  a9 := Tryz.isAgg9
  z9 := Tryz.sizeOf9
  v9 := Tryz.zeroValue9
  t37 := Tryz.underlying351
  a37 := Tryz.isAgg351
  z37 := Tryz.sizeOf351
  v37 := Tryz.zeroValue351
  t127 := Tryz.underlying422
  a127 := Tryz.isAgg422
  z127 := Tryz.sizeOf422
  v127 := Tryz.zeroValue422
  t5 := Tryz.underlying5
  a5 := Tryz.isAgg5
  z5 := Tryz.sizeOf5
  v5 := Tryz.zeroValue5
  i0 := by kernel_rfl
  i3 := by kernel_rfl
  i4 := by kernel_rfl
  i5 := by kernel_rfl
  i9 := by kernel_rfl
  i37 := by kernel_rfl
  i127 := by kernel_rfl }
open Go.RowKit in
theorem Tryz.stringslite_Clone (s : ByteArray) (w : World) (hlim : s.size ≤ 281474976710656) :
    Calls Tryz.prog 148 #[.string s] w fun e w' => e = .returned (.string s) ∧ Below w.heap.size w w' := Any.stringslite_Clone Tryz.laysM316 s w hlim
def Tryz.lays106_ren : Go.Shelf.Ren := ⟨fun | 106 => 322 | 213 => 369 | 265 => 386 | n => n, fun | 9 => 9 | 3 => 3 | n => n, fun | n => n⟩
theorem Tryz.lays106 : Go.Proofs.Lays.n106 Tryz.prog Tryz.lays106_ren := {
  mixed := by kernel_rfl
  f106 := Tryz.func322.trans (congrArg some (by kernel_rfl))
  f213 := Tryz.func369.trans (congrArg some (by kernel_rfl))
  f265 := Tryz.func386.trans (congrArg some (by kernel_rfl))
  t3 := Tryz.underlying3
  a3 := Tryz.isAgg3
  z3 := Tryz.sizeOf3
  v3 := Tryz.zeroValue3
  t9 := Tryz.underlying9
  a9 := Tryz.isAgg9
  z9 := Tryz.sizeOf9
  v9 := Tryz.zeroValue9 }
open Go.RowKit in
theorem Tryz.strings_Compare (a b : ByteArray) (w : World) :
    Calls Tryz.prog 322 #[.string a, .string b] w fun e w' => e = .returned (.int .i64 (Lib.compareBytes a.data.toList b.data.toList)) ∧ w' = w := Any.strings_Compare Tryz.lays106 a b w
def Tryz.laysM171_ren : Go.Shelf.Ren := ⟨fun | 171 => 358 | 243 => 383 | 246 => 398 | 283 => 406 | 284 => 407 | 285 => 408 | 286 => 409 | 129 => 321 | 317 => 416 | 318 => 417 | 319 => 418 | 320 => 419 | 337 => 421 | 338 => 422 | n => n, fun | 3 => 3 | 9 => 9 | 2 => 2 | 4 => 4 | 171 => 570 | 0 => 0 | 53 => 324 | 37 => 351 | 5 => 5 | 173 => 572 | 212 => 580 | 51 => 327 | 20 => 20 | 213 => 581 | 46 => 211 | 232 => 584 | 233 => 585 | n => n, fun | 17 => 3 | 18 => 4 | 19 => 5 | n => n⟩
theorem Tryz.laysM171 : Go.Proofs.LaysM.n171 Tryz.prog Tryz.laysM171_ren := {
  mixed := by kernel_rfl
  f129 := Tryz.func321.trans (congrArg some (by kernel_rfl))
  f171 := Tryz.func358.trans (congrArg some (by kernel_rfl))
  f243 := Tryz.func383.trans (congrArg some (by kernel_rfl))
  f246 := Tryz.func398.trans (congrArg some (by kernel_rfl))
  f283 := Tryz.func406.trans (congrArg some (by kernel_rfl))
  f284 := Tryz.func407.trans (congrArg some (by kernel_rfl))
  f285 := Tryz.func408.trans (congrArg some (by kernel_rfl))
  f286 := Tryz.func409.trans (congrArg some (by kernel_rfl))
  f317 := Tryz.func416.trans (congrArg some (by kernel_rfl))
  f318 := Tryz.func417.trans (congrArg some (by kernel_rfl))
  f319 := Tryz.func418.trans (congrArg some (by kernel_rfl))
  f320 := Tryz.func419.trans (congrArg some (by kernel_rfl))
  f337 := Tryz.func421.trans (congrArg some (by kernel_rfl))
  f338 := Tryz.func422.trans (congrArg some (by kernel_rfl))
  t0 := Tryz.underlying0
  a0 := Tryz.isAgg0
  z0 := Tryz.sizeOf0
  v0 := Tryz.zeroValue0
  t2 := Tryz.underlying2
  a2 := Tryz.isAgg2
  z2 := Tryz.sizeOf2
  v2 := Tryz.zeroValue2
  t3 := Tryz.underlying3
  a3 := Tryz.isAgg3
  z3 := Tryz.sizeOf3
  v3 := Tryz.zeroValue3
  t4 := Tryz.underlying4
  a4 := Tryz.isAgg4
  z4 := Tryz.sizeOf4
  v4 := Tryz.zeroValue4
  t5 := Tryz.underlying5
  a5 := Tryz.isAgg5
  z5 := Tryz.sizeOf5
  v5 := Tryz.zeroValue5
  t9 := Tryz.underlying9
  a9 := Tryz.isAgg9
  z9 := Tryz.sizeOf9
  v9 := Tryz.zeroValue9
  t20 := Tryz.underlying20
  a20 := Tryz.isAgg20
  z20 := Tryz.sizeOf20
  v20 := Tryz.zeroValue20
  t37 := Tryz.underlying351
  a37 := Tryz.isAgg351
  z37 := Tryz.sizeOf351
  v37 := Tryz.zeroValue351
  t46 := Tryz.underlying211
  a46 := Tryz.isAgg211
  z46 := Tryz.sizeOf211
  v46 := Tryz.zeroValue211
  t51 := Tryz.underlying327
  a51 := Tryz.isAgg327
  z51 := Tryz.sizeOf327
  v51 := Tryz.zeroValue327
  t53 := Tryz.underlying324
  a53 := Tryz.isAgg324
  z53 := Tryz.sizeOf324
  v53 := Tryz.zeroValue324
  t171 := Tryz.underlying570
  a171 := Tryz.isAgg570
  z171 := Tryz.sizeOf570
  v171 := Tryz.zeroValue570
  t173 := Tryz.underlying572
  a173 := Tryz.isAgg572
  z173 := Tryz.sizeOf572
  v173 := Tryz.zeroValue572
  t212 := Tryz.underlying580
  a212 := Tryz.isAgg580
  z212 := Tryz.sizeOf580
  v212 := Tryz.zeroValue580
  t213 := Tryz.underlying581
  a213 := Tryz.isAgg581
  z213 := Tryz.sizeOf581
  t232 := Tryz.underlying584
  a232 := Tryz.isAgg584
  z232 := Tryz.sizeOf584
  v232 := Tryz.zeroValue584
  t233 := Tryz.underlying585
  a233 := Tryz.isAgg585
  z233 := Tryz.sizeOf585
  v233 := Tryz.zeroValue585
  g17 := by kernel_rfl
  g18 := by kernel_rfl
  g19 := by kernel_rfl
  i0 := by kernel_rfl
  i2 := by kernel_rfl
  i3 := by kernel_rfl
  i4 := by kernel_rfl
  i5 := by kernel_rfl
  i9 := by kernel_rfl
  i20 := by kernel_rfl
  i37 := by kernel_rfl
  i46 := by kernel_rfl
  i51 := by kernel_rfl
  i53 := by kernel_rfl
  i171 := by kernel_rfl
  i173 := by kernel_rfl
  i212 := by kernel_rfl
  i232 := by kernel_rfl
  i233 := by kernel_rfl
  m17 := by kernel_rfl
  m18 := by kernel_rfl
  m19 := by kernel_rfl }
open Go.RowKit Go.Sort Go.Lib in
theorem Tryz.strconv_Itoa (n : Int) (h0 : -9223372036854775808 ≤ n) (h1 : n ≤ 9223372036854775807) (w : World) (htab : Lib.TabIs Tryz.prog w "internal/strconv.uint64pow10" .u64 Lib.pow10Tab) :
    Calls Tryz.prog 358 #[.int .i64 n] w fun e w' => e = .returned (.string ⟨(Lib.itoa n).toArray⟩) ∧ ∃ k os, w' = grow (w.drewN k) os := Any.strconv_Itoa Tryz.laysM171 n h0 h1 w htab
def Tryz.lays171_ren : Go.Shelf.Ren := ⟨fun | 171 => 358 | 243 => 383 | 246 => 398 | 283 => 406 | 284 => 407 | 285 => 408 | 286 => 409 | 129 => 321 | 317 => 416 | 318 => 417 | 319 => 418 | 320 => 419 | 337 => 421 | 338 => 422 | n => n, fun | 3 => 3 | 9 => 9 | 2 => 2 | 4 => 4 | 171 => 570 | 0 => 0 | 53 => 324 | 37 => 351 | 5 => 5 | 173 => 572 | 212 => 580 | 51 => 327 | 20 => 20 | 213 => 581 | 46 => 211 | 232 => 584 | 233 => 585 | n => n, fun | 17 => 3 | 18 => 4 | 19 => 5 | n => n⟩
theorem Tryz.lays171 : Go.Proofs.Lays.n171 Tryz.prog Tryz.lays171_ren := {
  mixed := by kernel_rfl
  f129 := Tryz.func321.trans (congrArg some (by kernel_rfl))
  f171 := Tryz.func358.trans (congrArg some (by kernel_rfl))
  f243 := Tryz.func383.trans (congrArg some (by kernel_rfl))
  f246 := Tryz.func398.trans (congrArg some (by kernel_rfl))
  f283 := Tryz.func406.trans (congrArg some (by kernel_rfl))
  f284 := Tryz.func407.trans (congrArg some (by kernel_rfl))
  f285 := Tryz.func408.trans (congrArg some (by kernel_rfl))
  f286 := Tryz.func409.trans (congrArg some (by kernel_rfl))
  f317 := Tryz.func416.trans (congrArg some (by kernel_rfl))
  f318 := Tryz.func417.trans (congrArg some (by kernel_rfl))
  f319 := Tryz.func418.trans (congrArg some (by kernel_rfl))
  f320 := Tryz.func419.trans (congrArg some (by kernel_rfl))
  f337 := Tryz.func421.trans (congrArg some (by kernel_rfl))
  f338 := Tryz.func422.trans (congrArg some (by kernel_rfl))
  t0 := Tryz.underlying0
  a0 := Tryz.isAgg0
  z0 := Tryz.sizeOf0
  v0 := Tryz.zeroValue0
  t2 := Tryz.underlying2
  a2 := Tryz.isAgg2
  z2 := Tryz.sizeOf2
  v2 := Tryz.zeroValue2
  t3 := Tryz.underlying3
  a3 := Tryz.isAgg3
  z3 := Tryz.sizeOf3
  v3 := Tryz.zeroValue3
  t4 := Tryz.underlying4
  a4 := Tryz.isAgg4
  z4 := Tryz.sizeOf4
  v4 := Tryz.zeroValue4
  t5 := Tryz.underlying5
  a5 := Tryz.isAgg5
  z5 := Tryz.sizeOf5
  v5 := Tryz.zeroValue5
  t9 := Tryz.underlying9
  a9 := Tryz.isAgg9
  z9 := Tryz.sizeOf9
  v9 := Tryz.zeroValue9
  t20 := Tryz.underlying20
  a20 := Tryz.isAgg20
  z20 := Tryz.sizeOf20
  v20 := Tryz.zeroValue20
  t37 := Tryz.underlying351
  a37 := Tryz.isAgg351
  z37 := Tryz.sizeOf351
  v37 := Tryz.zeroValue351
  t46 := Tryz.underlying211
  a46 := Tryz.isAgg211
  z46 := Tryz.sizeOf211
  v46 := Tryz.zeroValue211
  t51 := Tryz.underlying327
  a51 := Tryz.isAgg327
  z51 := Tryz.sizeOf327
  v51 := Tryz.zeroValue327
  t53 := Tryz.underlying324
  a53 := Tryz.isAgg324
  z53 := Tryz.sizeOf324
  v53 := Tryz.zeroValue324
  t171 := Tryz.underlying570
  a171 := Tryz.isAgg570
  z171 := Tryz.sizeOf570
  v171 := Tryz.zeroValue570
  t173 := Tryz.underlying572
  a173 := Tryz.isAgg572
  z173 := Tryz.sizeOf572
  v173 := Tryz.zeroValue572
  t212 := Tryz.underlying580
  a212 := Tryz.isAgg580
  z212 := Tryz.sizeOf580
  v212 := Tryz.zeroValue580
  t213 := Tryz.underlying581
  a213 := Tryz.isAgg581
  z213 := Tryz.sizeOf581
  t232 := Tryz.underlying584
  a232 := Tryz.isAgg584
  z232 := Tryz.sizeOf584
  v232 := Tryz.zeroValue584
  t233 := Tryz.underlying585
  a233 := Tryz.isAgg585
  z233 := Tryz.sizeOf585
  v233 := Tryz.zeroValue585
  g17 := by kernel_rfl
  g18 := by kernel_rfl
  g19 := by kernel_rfl }
open Go.RowKit Go.Sort Go.Lib in
theorem Tryz.strconv_Itoa_small (i : Nat) (hi : i < 100) (w : World) :
    Calls Tryz.prog 358 #[.int .i64 i] w fun e w' => e = .returned (.string ⟨(Lib.decDigits i).toArray⟩) ∧ w' = w := Any.strconv_Itoa_small Tryz.lays171 i hi w
end Go.Proofs

namespace Go.Proofs.YtilfjpmeededmaaGreatDoor
open Go.RowKit
def atoiS (l : Bs) : Int := (Lib.atoi l).getD 0
theorem numLoop_dec : ∀ (l : Bs) (n : Nat), numLoop l n = true → ∃ m, Lib.decFrom n l = some m
  | [], n, _ => ⟨n, rfl⟩
  | c :: r, n, h => by
    rw [numLoop] at h
    simp only [Bool.and_eq_true, decide_eq_true_eq, digitB] at h
    obtain ⟨⟨⟨h1, h2⟩, h3⟩, h4⟩ := h
    have hd : Lib.digitVal c = some (c.toNat - 48) := by unfold Lib.digitVal; rw [if_pos (by omega)]
    have e : ((n : Int) * 10 + ((c.toNat : Int) - 48)) = ((n * 10 + (c.toNat - 48) : Nat) : Int) := by omega
    rw [e] at h4
    obtain ⟨m, hm⟩ := numLoop_dec r _ h4
    exact ⟨m, by rw [Lib.decFrom, hd]; exact hm⟩
theorem numLoop_len : ∀ (l : Bs) (n : Nat), numLoop l n = true → 1 ≤ n → n * 10 ^ l.length ≤ 1000000000 ∨ l = []
  | [], _, _, _ => .inr rfl
  | c :: r, n, h, hn => by
    rw [numLoop] at h
    simp only [Bool.and_eq_true, decide_eq_true_eq, digitB] at h
    obtain ⟨⟨⟨h1, h2⟩, h3⟩, h4⟩ := h
    have e : ((n : Int) * 10 + ((c.toNat : Int) - 48)) = ((n * 10 + (c.toNat - 48) : Nat) : Int) := by omega
    rw [e] at h4
    left
    rcases numLoop_len r _ h4 (by omega) with h5 | h5
    · rw [List.length_cons, Nat.pow_succ]
      have : n * (10 ^ r.length * 10) = (n * 10) * 10 ^ r.length := by rw [Nat.mul_comm (10 ^ r.length) 10, Nat.mul_assoc]
      rw [this]
      refine Nat.le_trans (Nat.mul_le_mul_right _ (by omega)) h5
    · subst h5; simp; omega
theorem num_short {l : Bs} (h0 : !(l.headD 0 == 48)) (h1 : 0 < l.length) (h : numLoop l 0 = true) : l.length ≤ 11 := by
  match l, h1 with
  | c :: r, _ =>
    rw [numLoop] at h
    simp only [Bool.and_eq_true, decide_eq_true_eq, digitB] at h
    obtain ⟨⟨⟨h2, h3⟩, h4⟩, h5⟩ := h
    simp only [List.headD_cons, Bool.not_eq_true', beq_eq_false_iff_ne, ne_eq] at h0
    have hc : c.toNat ≠ 48 := fun e => h0 (UInt8.toNat.inj (by rw [e]; rfl))
    have e : ((0 : Int) * 10 + ((c.toNat : Int) - 48)) = ((c.toNat - 48 : Nat) : Int) := by omega
    rw [e] at h5
    rcases numLoop_len r _ h5 (by omega) with h6 | h6
    · have : 10 ^ r.length ≤ 1000000000 := Nat.le_trans (Nat.le_mul_of_pos_left _ (by omega)) h6
      have hr : r.length ≤ 10 := by
        rcases Nat.lt_or_ge 10 r.length with hgt | hle
        · have : 10 ^ 11 ≤ 10 ^ r.length := Nat.pow_le_pow_right (by omega) hgt
          omega
        · exact hle
      simp; omega
    · subst h6; simp
theorem num_atoi {l : Bs} (h : numS l = true) : l.length ≤ 18 ∧ Lib.atoi l = some (atoiS l) := by
  suffices hs : l.length ≤ 18 ∧ ∃ n, Lib.atoi l = some n by
    obtain ⟨h1, n, hn⟩ := hs
    exact ⟨h1, by rw [atoiS, hn]; rfl⟩
  simp only [numS, Bool.or_eq_true, beq_iff_eq, Bool.and_eq_true, decide_eq_true_eq] at h
  rcases h with rfl | ⟨⟨h1, h2⟩, h3⟩
  · exact ⟨by simp, ⟨0, by decide⟩⟩
  · have hsh := num_short h2 h1 h3
    obtain ⟨m, hm⟩ := numLoop_dec (unminus l) 0 h3
    have hde : Lib.decNat (unminus l) = some m := by
      unfold Lib.decNat
      rw [if_neg (by intro e; rw [List.isEmpty_iff_length_eq_zero] at e; omega)]
      exact hm
    match l with
    | [] => simp [unminus] at h1
    | b :: r =>
      by_cases hb : b = 45
      · subst hb
        have e : unminus (45 :: r) = r := by simp [unminus]
        rw [e] at hde hsh
        exact ⟨by simp; omega, _, by rw [Lib.atoi, if_pos (by decide), hde]; rfl⟩
      · have e : unminus (b :: r) = b :: r := by simp [unminus, hb]
        rw [e] at hde hsh h3
        have h43 : (b == 43) = false := by
          rw [numLoop] at h3
          simp only [Bool.and_eq_true, decide_eq_true_eq, digitB] at h3
          have := h3.1.1.1
          rw [beq_eq_false_iff_ne]; intro e; subst e; simp at this
        exact ⟨by omega, _, by rw [Lib.atoi, if_neg (by simpa using hb), if_neg (by rw [h43]; exact Bool.false_ne_true), hde]; rfl⟩
theorem tok_ok (l : Bs) : TokOK atoiS (kindS l) l := by
  refine ⟨fun h x => ?_, fun h => ?_, fun h => kind_par h⟩
  · obtain ⟨h1, h2⟩ := num_atoi (kind_num h)
    refine (Tryz.strconv_Atoi (ofBs l) (atoiS l) (by rw [ofBs_size]; exact h1) (by simpa [ofBs] using h2) x).mono fun e w' ⟨he, t, hw⟩ => ?_
    subst hw
    exact ⟨he, Lib.bytesWorld_below _ _ _⟩
  · have := kind_quote h
    simp only [quoteS, Bool.and_eq_true, decide_eq_true_eq] at this
    exact ⟨this.1.1.1.1, this.1.1.1.2⟩
theorem readFit (s : Bs) (t : Tr) (h : parseS s = some t) : Fit (TokOK atoiS) t ∧ nodT t ≤ 1000 := parse_fit _ tok_ok s t h
end Go.Proofs.YtilfjpmeededmaaGreatDoor

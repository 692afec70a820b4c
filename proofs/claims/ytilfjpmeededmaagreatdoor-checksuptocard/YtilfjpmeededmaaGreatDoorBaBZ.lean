import Derived.Test.YtilfjpmeededmaaGreatDoorTyMZ
import Derived.Deep.AppendLies
set_option linter.unusedVariables false
set_option linter.unusedSimpArgs false
namespace Go.Proofs.YtilfjpmeededmaaGreatDoor
open Go.RowKit
def typesL (l : Bs) : List Int := l.map fun c => typeB c.toNat
set_option maxHeartbeats 4000000 in
set_option maxRecDepth 100000 in
theorem typesOf_any (s : ByteArray) (w : World) (hs : s.size ≤ 1000) :
    Calls Tryz.prog 136 #[.string s] w fun e w' => ∃ v', e = .returned v' ∧ (IntsIn w' v' (typesL s.toList) ∧ w'.ownsRow w.heap.size 3 1 v' (typesL s.toList).length (intCells (typesL s.toList))) ∧ Below w.heap.size w w' := by
  obtain ⟨i0, hi, hz0, hz1, hz2⟩ := info_parts infoIntT
  go_enter Tryz.func136, Tryz.ntmps136
  go_wp2_with fail
  go_loopw [3, 7] (fun kv iv wr => ∃ (i kn kc : Nat) (ko : Option Addr), i ≤ s.size ∧ kv = .slice ko kn kc ∧ iv = .int .i64 i ∧ wr.ownsRow w.heap.size 3 1 (.slice ko kn kc) i (intCells (typesL (s.toList.take i))) ∧ Below w.heap.size w wr) (fun _ iv _ => s.size - (intOf iv).toNat)
  case atStart => exact ⟨0, 0, 0, none, Nat.zero_le _, rfl, rfl, World.ownsRow_nil _ _ _ _, Below.refl _ _⟩
  case round =>
    obtain ⟨i, kn, kc, ko, hi', rfl, rfl, hko, hB⟩ := hrel
    have hsz := hB.size
    by_cases hlt : i < s.size
    · have HT : Hid (typesL (s.toList.take (i + 1)) = typesL (s.toList.take i) ++ [typeB s[i].toNat]) := by
        have e : s.toList.take (i + 1) = s.toList.take i ++ [s[i]] := by
          rw [List.take_succ_eq_append_getElem (by rw [toList_length]; exact hlt), toList_get s i hlt]
        rw [Hid, typesL, e, List.map_append]; rfl
      go_wp2_with (first
        | (go_at_call 208; refine (typeOfB_any _ _).mono ?_; rintro e w2 ⟨rfl, rfl⟩)
        | (at_builtin; refine wpList_append_own _ rfl (.tmp 10) (.tmp 15) 30 rfl w.heap.size 3 i0 (.int .i64 0) 1 8 Tryz.underlying30 hi hz0 hz1 hz2 rfl (by decide) _ _ _ rfl (hko.alloc _) ⟨w2.heap.size, 0, none⟩ 1 1 [.int .i64 (typeB s[i].toNat)] rfl rfl ?c1 ?c2 ?c3 ?c4 ?c5 ?_))
      case c1 =>
        intro j u hj
        match j, hj with
        | 0, hj => simp at hj; subst hj; simp [Addr.add]
      case c2 => intro u hu; simp at hu; subst hu; rfl
      case c3 => unfold maxLen; omega
      case c4 => omega
      case c5 => simp; omega
      · intro v' w3 hown' hgrow _
        obtain ⟨ao', n', cap', rfl⟩ : ∃ ao' n' cap', v' = .slice ao' n' cap' := by
          rcases hown'.2 with ⟨e, _⟩ | ⟨q, cap', cur, e, _⟩ <;> exact ⟨_, _, _, e⟩
        have R : w3.ownsRow w.heap.size 3 1 (.slice ao' n' cap') (i + 1) (intCells (typesL (s.toList.take (i + 1)))) := by
          rw [HT.out]; simp only [intCells, List.map_append, List.map_cons, List.map_nil] at hown' ⊢; exact hown'
        have RB : Below w.heap.size w w3 := (hB.alloc hsz _).grown hgrow (by simp; omega) (fun k hk => (hko.lt k hk).1)
        clear hown' hgrow hko HT
        go_wp2
        go_roundw
        case rel => exact ⟨i + 1, _, _, _, by omega, rfl, by go_num, R, RB⟩
        case measure => simp [intOf]; omega
    · have hie : s.toList.take i = s.toList := List.take_of_length_le (by rw [toList_length]; omega)
      have HI : Hid (IntsIn wr (.slice ko kn kc) (typesL s.toList) ∧ wr.ownsRow w.heap.size 3 1 (.slice ko kn kc) (typesL s.toList).length (intCells (typesL s.toList))) := by
        rw [hie] at hko
        have hl : (typesL s.toList).length = i := by rw [typesL, List.length_map, toList_length]; omega
        rw [← hl] at hko
        exact ⟨intsIn_own (b := w.heap.size) hko (by rw [hl]; omega), hko⟩
      clear hko hie
      go_wp2_with fail
      go_ret
      exact ⟨_, rfl, HI.out, hB⟩
def areTypesS (l : Bs) : Bool := decide (l.length ≤ 4) && !(typesL l).any (· == 0)
set_option maxHeartbeats 1600000 in
set_option maxRecDepth 100000 in
theorem areTypes_any (s : ByteArray) (w : World) : Calls Tryz.prog 135 #[.string s] w fun e w' => e = .returned (.bool (areTypesS s.toList)) ∧ Below w.heap.size w w' := by
  by_cases h4 : s.size ≤ 4
  · have HC := typesOf_any s w (by omega)
    have HK : ∀ (x : World) (v : Value), IntsIn x v (typesL s.toList) → Calls Tryz.prog 95 #[v, .int .i64 0] x fun e w' => e = .returned (.bool ((typesL s.toList).any (· == 0))) ∧ w' = x := fun x v h => sliContains_any x v _ 0 h
    obtain ⟨d, hd⟩ : ∃ d, d = (typesL s.toList).any (· == 0) := ⟨_, rfl⟩
    have HR : Hid (areTypesS s.toList = !d) := by rw [Hid, areTypesS, toList_length, decide_eq_true h4, ← hd, Bool.true_and]
    rw [← hd] at HK
    obtain ⟨zs, hzs⟩ : ∃ zs, zs = typesL s.toList := ⟨_, rfl⟩
    rw [← hzs] at HC HK
    have hdec : decide ((s.size : Int) ≤ 4) = true := by simp; omega
    clear hd hzs h4
    go_enter Tryz.func135, Tryz.ntmps135
    go_wp2_with (first
      | (go_at_call 136; refine HC.mono ?_; rintro e w2 ⟨v', rfl, ⟨hi2, _⟩, hb2⟩)
      | (go_at_call 95; refine (HK _ _ hi2).mono ?_; rintro e w3 ⟨rfl, rfl⟩))
    go_ret
    exact ⟨by rw [HR.out]; rfl, hb2⟩
  · have HR : Hid (areTypesS s.toList = false) := by rw [Hid, areTypesS, toList_length, decide_eq_false h4]; rfl
    have hdec : decide ((s.size : Int) ≤ 4) = false := by simp; omega
    go_enter Tryz.func135, Tryz.ntmps135
    go_wp2_with fail
    go_ret
    exact ⟨ret_bool HR.out.symm, Below.refl _ _⟩
def freeS (fns : List Fn) (l : Bs) : Bool := wordS l && !valS l && !builtS l && (findS fns l).isNone
set_option maxHeartbeats 1600000 in
set_option maxRecDepth 100000 in
theorem isFree_any (w : World) (FB : List Nat) (fns : List Fn) (bb : Nat) (fo : Option Addr) (fnn fc : Nat) (hbb : bb < w.heap.size) (hc : w.cell? ⟨bb, 0, none⟩ = some (.slice fo fnn fc)) (hF : FnsIn w FB (.slice fo fnn fc) fns) (l : Bs) (hl : l.length ≤ maxLen) :
    Calls Tryz.prog 134 #[.pointer (some ⟨bb, 0, none⟩), .string (ofBs l)] w fun e w' => e = .returned (.bool (freeS fns l)) ∧ Below w.heap.size w w' := by
  have HW : ∀ x : World, Calls Tryz.prog 138 #[.string (ofBs l)] x fun e w' => e = .returned (.bool (wordS l)) ∧ w' = x := by
    intro x; have := isWord_any (ofBs l) x (by rw [ofBs_size]; exact hl); rw [ofBs_toList] at this; exact this
  have HV : ∀ x : World, Calls Tryz.prog 206 #[.string (ofBs l)] x fun e w' => e = .returned (.bool (valS l)) ∧ Below x.heap.size x w' := by
    intro x; have := isValueWord_any (ofBs l) x; rw [ofBs_toList] at this; exact this
  have HB : ∀ x : World, Calls Tryz.prog 207 #[.string (ofBs l)] x fun e w' => e = .returned (.bool (builtS l)) ∧ w' = x := by
    intro x; have := isBuiltIn_any (ofBs l) x; rw [ofBs_toList] at this; exact this
  have HD : ∀ x : World, Below w.heap.size w x → Calls Tryz.prog 78 #[.slice fo fnn fc, .string (ofBs l)] x fun e w' => (∃ p, e = .returned (.pointer p) ∧ FpIs FB (findS fns l) p) ∧ Below x.heap.size x w' := fun x hx => find_any x FB _ fns l (hF.keep hx)
  have HR : Hid (freeS fns l = (wordS l && !valS l && !builtS l && (findS fns l).isNone)) := rfl
  obtain ⟨a, ha⟩ : ∃ a, a = wordS l := ⟨_, rfl⟩
  obtain ⟨b, hb⟩ : ∃ b, b = valS l := ⟨_, rfl⟩
  obtain ⟨d, hd⟩ : ∃ d, d = builtS l := ⟨_, rfl⟩
  obtain ⟨o, ho⟩ : ∃ o, o = findS fns l := ⟨_, rfl⟩
  rw [← ha] at HW HR
  rw [← hb] at HV HR
  rw [← hd] at HB HR
  rw [← ho] at HD HR
  clear ha hb hd ho hF
  cases a
  · go_enter Tryz.func134, Tryz.ntmps134
    go_wp2_with (go_at_call 138; refine (HW _).mono ?_; rintro e w2 ⟨rfl, rfl⟩)
    go_ret
    exact ⟨by rw [HR.out]; rfl, Below.refl _ _⟩
  · cases b
    · cases d
      · go_enter Tryz.func134, Tryz.ntmps134
        go_wp2_with (first
          | (go_at_call 138; refine (HW _).mono ?_; rintro e w2 ⟨rfl, rfl⟩)
          | (go_at_call 206; refine (HV _).mono ?_; rintro e w3 ⟨rfl, hb3⟩)
          | (go_at_call 207; refine (HB _).mono ?_; rintro e w4 ⟨rfl, rfl⟩; have c4 := (hb3.cell (p := ⟨bb, 0, none⟩) hbb).trans hc)
          | (go_at_call 78; refine (HD _ hb3).mono ?_; rintro e w5 ⟨⟨p, rfl, hp⟩, hb5⟩))
        have hpn : p.isNone = o.isNone := by
          cases o with
          | none => have : p = none := hp; rw [this]; rfl
          | some i => obtain ⟨q, _, rfl⟩ := hp; rfl
        go_ret
        exact ⟨by rw [HR.out, ← hpn]; rfl, hb3.trans (hb5.mono hb3.size)⟩
      · go_enter Tryz.func134, Tryz.ntmps134
        go_wp2_with (first
          | (go_at_call 138; refine (HW _).mono ?_; rintro e w2 ⟨rfl, rfl⟩)
          | (go_at_call 206; refine (HV _).mono ?_; rintro e w3 ⟨rfl, hb3⟩)
          | (go_at_call 207; refine (HB _).mono ?_; rintro e w4 ⟨rfl, rfl⟩))
        go_ret
        exact ⟨by rw [HR.out]; rfl, hb3⟩
    · go_enter Tryz.func134, Tryz.ntmps134
      go_wp2_with (first
        | (go_at_call 138; refine (HW _).mono ?_; rintro e w2 ⟨rfl, rfl⟩)
        | (go_at_call 206; refine (HV _).mono ?_; rintro e w3 ⟨rfl, hb3⟩))
      go_ret
      exact ⟨by rw [HR.out]; rfl, hb3⟩
end Go.Proofs.YtilfjpmeededmaaGreatDoor

namespace Go.Proofs.YtilfjpmeededmaaGreatDoor
open Go.RowKit
def ptrs (FB : List Nat) : List Value := FB.map fun q => Value.pointer (some ⟨q, 0, none⟩)
def BaseIs (w : World) (bb : Nat) (FB : List Nat) (fns : List Fn) : Prop := ∃ fo fnn fc, w.heap[bb]? = some (.cells #[.slice fo fnn fc, .slice none 0 0] 112 (0, 0)) ∧ w.ownsRow (bb + 1) 115 1 (.slice fo fnn fc) fns.length (ptrs FB) ∧ FB.length = fns.length ∧ fns.length ≤ 8 ∧
  ∀ (i q : Nat) (fn : Fn), FB[i]? = some q → fns[i]? = some fn → FnAt w FB q fn
theorem fnsIn_own {w : World} {b : Nat} {FB : List Nat} {fns : List Fn} {fo : Option Addr} {fnn fc : Nat} (h : w.ownsRow b 115 1 (.slice fo fnn fc) fns.length (ptrs FB)) (hl : FB.length = fns.length) (h8 : fns.length ≤ 8) (hf : ∀ (i q : Nat) (fn : Fn), FB[i]? = some q → fns[i]? = some fn → FnAt w FB q fn) : FnsIn w FB (.slice fo fnn fc) fns := by
  rcases h.2 with ⟨e, h0⟩ | ⟨g, cap, cur, e, hr⟩
  · cases e
    have : fns = [] := List.length_eq_zero_iff.mp h0
    subst this; exact ⟨_, _, rfl, hl, by simp, .inl rfl, hf⟩
  · cases e
    refine ⟨_, _, rfl, hl, by omega, .inr ⟨g, rfl, (h.lt g rfl).2, fun i q hq => ?_⟩, hf⟩
    have := h.cells (g := g) rfl i (.pointer (some ⟨q, 0, none⟩)) (by simp [ptrs, hq])
    rw [Addr.add_lit] at this
    simpa using this
theorem FpIs.more {FB : List Nat} {fi : Option Nat} {fp : Option Addr} (h : FpIs FB fi fp) (l : List Nat) : FpIs (FB ++ l) fi fp := by
  cases fi with
  | none => exact h
  | some i => obtain ⟨b, h1, h2⟩ := h; exact ⟨b, by rw [List.getElem?_append_left (List.getElem?_eq_some_iff.mp h1).1]; exact h1, h2⟩
mutual
theorem IsEx.more {w : World} {FB : List Nat} {S : Nat → Prop} (l : List Nat) : ∀ {c : List Value} {t : Ex}, IsEx w FB S c t → IsEx w (FB ++ l) S c t
  | _, _, .mk a b d f => .mk (IsExs.more l a) b d (f.more l)
theorem IsExs.more {w : World} {FB : List Nat} {S : Nat → Prop} (l : List Nat) : ∀ {c : List Value} {t : List Ex}, IsExs w FB S c t → IsExs w (FB ++ l) S c t
  | _, _, .nil => .nil
  | _, _, .cons a b => .cons (IsEx.more l a) (IsExs.more l b)
end
theorem FnAt.more {w : World} {FB : List Nat} {b : Nat} {fn : Fn} (h : FnAt w FB b fn) (l : List Nat) : FnAt w (FB ++ l) b fn := by
  obtain ⟨av, c, h1, h2, h2', h3⟩ := h
  exact ⟨av, c, h1, h2, h2', h3.more l⟩
def addS (fns : List Fn) (name args body : Bs) : Except Int Fn :=
  if firstS [gvS (!freeS fns name) 2, gvS (!areTypesS args) 9] ≠ 0 then .error (firstS [gvS (!freeS fns name) 2, gvS (!areTypesS args) 9]) else
  match readS atoiS ([], typesL args) fns body with
  | .error n => .error n
  | .ok x => .ok ⟨name, typesL args, x⟩
def AddRes (w : World) (bb : Nat) (FB : List Nat) (fns : List Fn) (o : Except Int Fn) (e : Ending) (w' : World) : Prop :=
  (∃ n : Int, o = .error n ∧ n ≠ 0 ∧ e = .returned (.int .i64 n) ∧ Below w.heap.size w w') ∨
  (∃ (fn : Fn) (q : Nat), o = .ok fn ∧ e = .returned (.int .i64 0) ∧ BaseIs w' bb (FB ++ [q]) (fns ++ [fn]) ∧ Below bb w w')
theorem first2n_any (w : World) (a b : Int) : Calls Tryz.prog 46 #[.slice (some ⟨w.heap.size, 0, none⟩) 2 2] (w.alloc (.cells #[.int .i64 a, .int .i64 b] 44)) fun e w' => e = .returned (.int .i64 (firstS [a, b])) ∧ w' = w.alloc (.cells #[.int .i64 a, .int .i64 b] 44) := by
  refine first_any _ w.heap.size 2 [a, b] (by simp) fun j u hj => ?_
  rw [blk_at (heap_alloc_new w _)]
  match j, hj with
  | 0, hj => simp at hj; subst hj; rfl
  | 1, hj => simp at hj; subst hj; rfl
theorem Typd.form {w : World} {FB : List Nat} {o : Except Int Ex} {e : Ending} {w' : World} (h : Typd w FB o e w') : Below w.heap.size w w' ∧ ∃ sort ty size quiet vk vn vs place head fp xo xn xc n,
    e = .returned (.tuple #[.agg #[.int .i64 sort, .int .i64 ty, .int .i64 size, .bool quiet, .int .i64 vk, .int .i64 vn, .string (ofBs vs), .int .i64 place, .string (ofBs head), .pointer fp, .slice xo xn xc], .int .i64 n]) ∧ Hid ((o = .error n ∧ n ≠ 0) ∨ (∃ x, o = .ok x ∧ n = 0 ∧ IsEx w' FB (fun g => w.heap.size ≤ g) [.int .i64 sort, .int .i64 ty, .int .i64 size, .bool quiet, .int .i64 vk, .int .i64 vn, .string (ofBs vs), .int .i64 place, .string (ofBs head), .pointer fp, .slice xo xn xc] x)) := by
  obtain ⟨hb, ⟨n, ho, hn, rfl⟩ | ⟨x, c, ho, rfl, hx⟩⟩ := h
  · exact ⟨hb, 0, 0, 0, false, 0, 0, [], 0, [], none, none, 0, 0, n, rfl, .inl ⟨ho, hn⟩⟩
  · obtain ⟨sort, ty, size, quiet, vk, vn, vs, place, head, fi, xops, fp, xo, xn, xc, xcs, hxe, hxc, -, -, -, -, -⟩ := hx.inv
    have hc : c = #[.int .i64 sort, .int .i64 ty, .int .i64 size, .bool quiet, .int .i64 vk, .int .i64 vn, .string (ofBs vs), .int .i64 place, .string (ofBs head), .pointer fp, .slice xo xn xc] := by rw [← Array.toList_inj]; exact hxc
    subst hc
    exact ⟨hb, sort, ty, size, quiet, vk, vn, vs, place, head, fp, xo, xn, xc, 0, rfl, .inr ⟨x, ho, rfl, hx⟩⟩
theorem set11_block {x : World} {b : Nat} {b0 b1 b2 b3 b4 b5 b6 b7 b8 b9 b10 : Value} {T : TypeId} {fz : Nat × Nat} (h : x.heap[b]? = some (.cells #[b0, b1, b2, b3, b4, b5, b6, b7, b8, b9, b10] T fz)) (a0 a1 a2 a3 a4 a5 a6 a7 a8 a9 a10 : Value) : (((((((((((x.setCell ⟨b, 0, none⟩ a0).setCell ⟨b, 1, none⟩ a1).setCell ⟨b, 2, none⟩ a2).setCell ⟨b, 3, none⟩ a3).setCell ⟨b, 4, none⟩ a4).setCell ⟨b, 5, none⟩ a5).setCell ⟨b, 6, none⟩ a6).setCell ⟨b, 7, none⟩ a7).setCell ⟨b, 8, none⟩ a8).setCell ⟨b, 9, none⟩ a9).setCell ⟨b, 10, none⟩ a10).heap[b]? = some (.cells #[a0, a1, a2, a3, a4, a5, a6, a7, a8, a9, a10] T fz) := by
  simp [World.setCell, Array.getElem?_modify, h]
theorem readS_size {ps : Sc} {fns : List Fn} (hf : ∀ fn ∈ fns, 0 ≤ fn.body.size ∧ fn.body.size ≤ 300) {l : Bs} {x : Ex} (h : readS atoiS ps fns l = .ok x) : 0 ≤ x.size ∧ x.size ≤ 300 := by
  unfold readS at h
  split at h
  · cases h
  · next t ht =>
    unfold sizedS at h
    split at h
    · cases h
    · next y hy =>
      split at h
      · cases h
      · next hle =>
        cases h
        have := typS_size atoiS ps hf _ t (Nat.le_refl _) x hy
        omega
theorem cellsB {x : World} {b : Nat} {a0 a1 : Value} {T : TypeId} (h : x.heap[b]? = some (.cells #[a0, a1] T (0, 0))) : x.cell? ⟨b, 0, none⟩ = some a0 ∧ x.frozen? ⟨b, 0, none⟩ = false ∧ x.cell? ⟨b, 1, none⟩ = some a1 ∧ x.frozen? ⟨b, 1, none⟩ = false := by
  simp [World.cell?, World.frozen?, h]
theorem blk2_new (x : World) (o o' : Obj) : ((x.alloc o).alloc o').drew.heap[x.heap.size + 1]? = some o' := by
  have := heap_alloc_new (x.alloc o) o'
  rw [World.size_alloc] at this; exact this
theorem areTypes_short {args : Bs} (h : areTypesS args = true) : args.length ≤ 4 := by
  simp only [areTypesS, Bool.and_eq_true, decide_eq_true_eq] at h; exact h.1
theorem first_ar {a b : Bool} (h : firstS [gvS (!a) 2, gvS (!b) 9] = 0) : a = true ∧ b = true := by
  cases a <;> cases b <;> simp [firstS, gvS] at h ⊢
theorem infoPF : (Tryz.prog.info? 115).map (fun i => (i.zero, i.size, i.bytes)) = some (some (.pointer none), 1, 8) := by kernel_rfl
theorem add_fin {w wc w7 : World} {bb g7 cap7 : Nat} {FB : List Nat} {fns : List Fn} {fo : Option Addr} {fnn fc : Nat} (hbl : bb < w.heap.size) (hlen : FB.length = fns.length) (h7 : fns.length ≤ 7)
    (hfn : ∀ (i q : Nat) (fn : Fn), FB[i]? = some q → fns[i]? = some fn → FnAt w FB q fn) (B3 : Below w.heap.size w wc) (own4 : wc.ownsRow (bb + 1) 115 1 (.slice fo fnn fc) fns.length (ptrs FB)) (hbk4 : wc.heap[bb]? = some (.cells #[.slice fo fnn fc, .slice none 0 0] 112 (0, 0)))
    {S : Nat → Prop} {name : Bs} {ta : List Int} (hta : ta.length ≤ 1000) {po : Option Addr} {pn pc : Nat} {sort ty size : Int} {quiet : Bool} {vk vn : Int} {vs : Bs} {place : Int} {head : Bs} {fp xo : Option Addr} {xn xc : Nat} {x : Ex} (ho : wc.ownsRow 0 3 1 (.slice po pn pc) ta.length (intCells ta)) (hx : IsEx wc FB S [.int .i64 sort, .int .i64 ty, .int .i64 size, .bool quiet, .int .i64 vk, .int .i64 vn, .string (ofBs vs), .int .i64 place, .string (ofBs head), .pointer fp, .slice xo xn xc] x)
    (hown7 : w7.ownsRow (bb + 1) 115 1 (.slice (some ⟨g7, 0, none⟩) (fns.length + 1) cap7) (fns.length + 1) (ptrs FB ++ [.pointer (some ⟨wc.heap.size, 0, none⟩)])) {L : Obj}
    (hgrow : ((wc.alloc (.cells #[.string (ofBs name), .slice po pn pc, .int .i64 sort, .int .i64 ty, .int .i64 size, .bool quiet, .int .i64 vk, .int .i64 vn, .string (ofBs vs), .int .i64 place, .string (ofBs head), .pointer fp, .slice xo xn xc] 124)).alloc L).drew.grownBy w7 (Value.slice fo fnn fc).ownBlock)
    (kB : w7.heap[bb]? = some (.cells #[.slice fo fnn fc, .slice none 0 0] 112 (0, 0))) :
    BaseIs (w7.setCell ⟨bb, 0, none⟩ (.slice (some ⟨g7, 0, none⟩) (fns.length + 1) cap7)) bb (FB ++ [wc.heap.size]) (fns ++ [⟨name, ta, x⟩]) ∧ Below bb w (w7.setCell ⟨bb, 0, none⟩ (.slice (some ⟨g7, 0, none⟩) (fns.length + 1) cap7)) := by
  have hs3 := B3.size
  have hgs := hgrow.size
  simp only [World.size_drew, World.size_alloc] at hgs
  have keepW : ∀ g, g < wc.heap.size → g ≠ bb → (Value.slice fo fnn fc).ownBlock ≠ some g → (w7.setCell ⟨bb, 0, none⟩ (.slice (some ⟨g7, 0, none⟩) (fns.length + 1) cap7)).heap[g]? = wc.heap[g]? := by
    intro g h1 h2 h3
    rw [Below.heap_setCell _ _ _ _ h2, hgrow.block g (by simp only [World.size_drew, World.size_alloc]; omega) (fun e => h3 e.symm)]
    exact (Below.heap_alloc _ _ _ (by simp only [World.size_alloc]; omega)).trans (Below.heap_alloc _ _ _ h1)
  have keepT : ∀ (g : Nat) (cur : Array Value) (T : TypeId) (fz : Nat × Nat), wc.heap[g]? = some (.cells cur T fz) → T = 124 ∨ T = 3 ∨ T = 122 → (w7.setCell ⟨bb, 0, none⟩ (.slice (some ⟨g7, 0, none⟩) (fns.length + 1) cap7)).heap[g]? = wc.heap[g]? := by
    intro g cur T fz he hT
    refine keepW g (block_lt he) (fun e => ?_) (fun e => ?_)
    · subst e; rw [hbk4] at he; cases he; revert hT; decide
    · rcases own4.2 with ⟨h, _⟩ | ⟨g', cap', cur', h, _, hr, _⟩
      · rw [h] at e; cases e
      · rw [h] at e; cases e; rw [hr] at he; cases he; revert hT; decide
  have hvlt : (Value.slice fo fnn fc).ownBlock ≠ some wc.heap.size := fun e => by have := (own4.lt _ e).2; omega
  refine ⟨⟨some ⟨g7, 0, none⟩, fns.length + 1, cap7, by simp [World.setCell, Array.getElem?_modify, kB], ?_, by simp [hlen], by simp; omega, fun i q fn hq hfi => ?_⟩, ?_⟩
  · have e : ptrs (FB ++ [wc.heap.size]) = ptrs FB ++ [.pointer (some ⟨wc.heap.size, 0, none⟩)] := by simp [ptrs]
    rw [e, List.length_append]
    exact ownsRow_setCell_below hown7 (by simp) _
  · rcases Nat.lt_or_ge i FB.length with hlt | hge
    · rw [List.getElem?_append_left hlt] at hq
      rw [List.getElem?_append_left (by omega)] at hfi
      exact (((hfn i q fn hq hfi).keep B3).grow keepT).more _
    · rw [List.getElem?_append_right hge] at hq
      rw [List.getElem?_append_right (by omega)] at hfi
      have hi0 : i - FB.length = 0 := by
        have := (List.getElem?_eq_some_iff.mp hq).1; simp at this; omega
      rw [hi0] at hq
      rw [show i - fns.length = 0 by omega] at hfi
      simp at hq hfi
      subst hq hfi
      refine (show FnAt _ FB _ _ from ⟨.slice po pn pc, [.int .i64 sort, .int .i64 ty, .int .i64 size, .bool quiet, .int .i64 vk, .int .i64 vn, .string (ofBs vs), .int .i64 place, .string (ofBs head), .pointer fp, .slice xo xn xc], ?_, owns_keep ho fun g hg => ?_, hta, hx.typed.move (fun g hg => ?_) (fun _ _ => trivial)⟩).more _
      · rw [Below.heap_setCell _ _ _ _ (by show wc.heap.size ≠ bb; omega), hgrow.block _ (by simp only [World.size_drew, World.size_alloc]; omega) (fun e => hvlt e.symm)]
        exact (Below.heap_alloc _ _ _ (by simp only [World.size_alloc]; omega)).trans (heap_alloc_new wc _)
      · rcases ho.2 with ⟨h, _⟩ | ⟨g', cap', cur', h, _, hr, _⟩
        · rw [h] at hg; cases hg
        · rw [h] at hg; cases hg; exact keepT _ _ _ _ hr (.inr (.inl rfl))
      · obtain ⟨_, cur, fz, he⟩ := hg
        exact keepT g cur _ fz he (.inr (.inr rfl))
  · suffices hB : Below bb w w7 from hB.setCell (p := ⟨bb, 0, none⟩) (Nat.le_refl _) _
    refine ⟨hgrow.os.trans B3.os, hgrow.tape.trans B3.tape, hgrow.output.trans B3.output, by omega, fun g hg => ?_⟩
    have := keepW g (by omega) (by omega) (fun e => by have := (own4.lt _ e).1; omega)
    rw [Below.heap_setCell _ _ _ _ (by show g ≠ bb; omega)] at this
    exact this.trans (B3.block g (by omega))
set_option maxHeartbeats 8000000 in
set_option maxRecDepth 100000 in
theorem addFunc_any (w : World) (bb : Nat) (FB : List Nat) (fns : List Fn) (hB : BaseIs w bb FB fns) (h7 : fns.length ≤ 7) (hf : ∀ fn ∈ fns, 0 ≤ fn.body.size ∧ fn.body.size ≤ 300) (name args body : Bs) (hn : name.length ≤ maxLen) (hb : body.length ≤ maxLen) :
    Calls Tryz.prog 76 #[.pointer (some ⟨bb, 0, none⟩), .agg #[.string (ofBs name), .string (ofBs args), .string (ofBs body)]] w fun e w' => AddRes w bb FB fns (addS fns name args body) e w' := by
  obtain ⟨i0, hi, hz0, hz1, hz2⟩ := info_parts infoPF
  obtain ⟨fo, fnn, fc, hbk, hown, hlen, h8, hfn⟩ := hB
  have hbl := block_lt hbk
  have hFn := fnsIn_own hown hlen h8 hfn
  have HF : ∀ x : World, Below w.heap.size w x → Calls Tryz.prog 134 #[.pointer (some ⟨bb, 0, none⟩), .string (ofBs name)] x fun e w' => e = .returned (.bool (freeS fns name)) ∧ Below x.heap.size x w' :=
    fun x hx => isFree_any x FB fns bb fo fnn fc (by have := hx.size; omega) ((blk_at ((hx.block bb hbl).trans hbk)).trans rfl) (hFn.keep hx) name hn
  have HA : ∀ x : World, Calls Tryz.prog 135 #[.string (ofBs args)] x fun e w' => e = .returned (.bool (areTypesS args)) ∧ Below x.heap.size x w' := by
    intro x; have := areTypes_any (ofBs args) x; rw [ofBs_toList] at this; exact this
  obtain ⟨fr, hfr⟩ : ∃ x, x = freeS fns name := ⟨_, rfl⟩
  obtain ⟨ar, har⟩ : ∃ x, x = areTypesS args := ⟨_, rfl⟩
  rw [← hfr] at HF
  rw [← har] at HA
  go_enter Tryz.func76, Tryz.ntmps76
  go_upto_region 1 with fail
  go_cut [5] (fun s5 wx => s5 = .int .i64 (firstS [gvS (!fr) 2, gvS (!ar) 9]) ∧ Below (w.alloc (.cells #[.string (ofBs name), .string (ofBs args), .string (ofBs body)] 39)).heap.size (w.alloc (.cells #[.string (ofBs name), .string (ofBs args), .string (ofBs body)] 39)) wx)
  case first =>
    clear hfr har hFn hfn hown
    go_region_with (first
      | (go_at_call 134; refine (HF _ ?_).mono ?_; exact (below_box w _).drew; rintro e w2 ⟨rfl, hb2⟩; replace hb2 := undrewB hb2; have f2 := (hb2.block w.heap.size (by simp [World.size_alloc])).trans (heap_alloc_new w _); have c20 := (blk_at (j := 0) f2).trans rfl; have c21 := (blk_at (j := 1) f2).trans rfl)
      | (go_at_call 135; refine (HA _).mono ?_; rintro e w3 ⟨rfl, hb3⟩)
      | (go_at_call 79; refine (when_any _ _ _).mono ?_; rintro e w4 ⟨rfl, rfl⟩)
      | (go_at_call 46; refine (first2n_any _ _ _).mono ?_; rintro e w5 ⟨rfl, rfl⟩))
    all_goals (go_wp2_with fail; go_meet)
    all_goals exact ⟨rfl, (hb2.trans (hb3.mono hb2.size)).alloc (by have := hb2.size; have := hb3.size; omega) _⟩
  case rest =>
    obtain ⟨rfl, hbc⟩ := hcut
    obtain ⟨n0, hn0⟩ : ∃ n0, n0 = firstS [gvS (!fr) 2, gvS (!ar) 9] := ⟨_, rfl⟩
    rw [← hn0]
    have hsc := hbc.size
    simp only [World.size_alloc] at hsc
    have BC : Below w.heap.size w wc := (below_box w _).trans (hbc.mono (by simp [World.size_alloc]))
    have fC := (hbc.block w.heap.size (by simp [World.size_alloc])).trans (heap_alloc_new w _)
    by_cases h0 : n0 = 0
    · have hfa := first_ar (hn0.symm.trans h0)
      have h4 : args.length ≤ 4 := areTypes_short (by rw [← har]; exact hfa.2)
      have HO : Hid (addS fns name args body = match readS atoiS ([], typesL args) fns body with | .error n => .error n | .ok x => .ok ⟨name, typesL args, x⟩) := by
        rw [Hid, addS, ← hfr, ← har, ← hn0, if_neg (by simpa using h0)]
      subst h0
      have HT : Calls Tryz.prog 136 #[.string (ofBs args)] wc fun e w' => ∃ v', e = .returned v' ∧ (IntsIn w' v' (typesL args) ∧ w'.ownsRow wc.heap.size 3 1 v' (typesL args).length (intCells (typesL args))) ∧ Below wc.heap.size wc w' := by
        have := typesOf_any (ofBs args) wc (by rw [ofBs_size]; omega); rw [ofBs_toList] at this; exact this
      have c1 : wc.cell? ⟨w.heap.size, 1, none⟩ = some (.string (ofBs args)) := (blk_at fC).trans rfl
      clear hn0 hfr har HF HA hbc hfa
      go_wp2_with (go_at_call 136; refine HT.mono ?_)
      rintro e w2 ⟨v2, rfl, ⟨hi2, ho2⟩, hb2⟩
      obtain ⟨po, pc, rfl⟩ := hi2.form
      have hs2 := hb2.size
      have B2 : Below w.heap.size w w2 := BC.trans (hb2.mono BC.size)
      have f2 := (hb2.block w.heap.size (by omega)).trans fC
      have d0 : w2.cell? ⟨w.heap.size, 0, none⟩ = some (.string (ofBs name)) := (blk_at f2).trans rfl
      have d2 : w2.cell? ⟨w.heap.size, 2, none⟩ = some (.string (ofBs body)) := (blk_at f2).trans rfl
      have e0 : w2.cell? ⟨bb, 0, none⟩ = some (.slice fo fnn fc) := (blk_at ((B2.block bb hbl).trans hbk)).trans rfl
      have HR : ∀ x : World, Below w2.heap.size w2 x → Calls Tryz.prog 137 #[.agg #[.slice none 0 0, .slice po (typesL args).length pc, .slice fo fnn fc], .string (ofBs body)] x fun e w' => Typd x FB (readS atoiS ([], typesL args) fns body) e w' := by
        intro x hx
        have := scopeRead_any atoiS ([], typesL args) fns hf (ofBs body) (by rw [ofBs_size]; exact hb) (fun t ht => readFit _ t ht) x FB none 0 0 po (typesL args).length pc fo fnn fc ⟨namesIn_nil _ _, hi2.keep hx, (hFn.keep B2).keep hx⟩
        rw [ofBs_toList] at this; exact this
      have hw2 : w.heap.size < w2.heap.size := by omega
      have hbw2 : bb < w2.heap.size := by omega
      obtain ⟨rd, hrd⟩ : ∃ rd, rd = readS atoiS ([], typesL args) fns body := ⟨_, rfl⟩
      rw [← hrd] at HR HO
      obtain ⟨ta, hta⟩ : ∃ ta, ta = typesL args := ⟨_, rfl⟩
      rw [← hta] at HR HO hi2 ho2 ⊢
      have hrz : ∀ x, rd = .ok x → 0 ≤ x.size ∧ x.size ≤ 300 := fun x hx => readS_size hf (hrd.symm.trans hx)
      have hta1 : ta.length ≤ 1000 := by rw [hta, typesL, List.length_map]; omega
      clear hrd hta HT c1 fC hsc
      go_upto_region 5 with fail
      go_cut [5, 7] (fun s5 s7 wx => ∃ (k7 : Nat) (c : List Value) (n : Int), s5 = .int .i64 n ∧ s7 = .pointer (some ⟨k7, 0, none⟩) ∧ Below w2.heap.size w2 wx ∧ w2.heap.size ≤ k7 ∧ wx.heap[k7]? = some (.cells c.toArray 122 (0, 0)) ∧ Hid ((rd = .error n ∧ n ≠ 0) ∨ (∃ x, rd = .ok x ∧ n = 0 ∧ IsEx wx FB (fun g => w2.heap.size ≤ g) c x)))
      case first =>
        go_region_with (first
          | (go_at_call 137; refine (HR _ ?_).mono ?_; exact (Below.refl w2.heap.size w2).drew; intro e w3 hty; obtain ⟨hb3, sort, ty, size, quiet, vk, vn, vs, place, head, fp, xo, xn, xc, n, rfl, HX⟩ := hty.form; clear hty; replace hb3 := undrewB hb3)
          | (go_at_call 137; refine (HR _ ?_).mono ?_; exact (below_box w2 ex0).drew; intro e w3 hty; obtain ⟨hb3, sort, ty, size, quiet, vk, vn, vs, place, head, fp, xo, xn, xc, n, rfl, HX⟩ := hty.form; clear hty; replace hb3 := undrewB hb3; have hk3 := (hb3.block w2.heap.size (by simp [World.size_alloc])).trans (heap_alloc_new w2 ex0); obtain ⟨⟨z0, z1, z2, z3, z4, z5, z6, z7, z8, z9, z10⟩, g0, g1, g2, g3, g4, g5, g6, g7, g8, g9, g10⟩ := cells11 hk3))
        all_goals (go_wp2_with fail; go_meet)
        all_goals first
          | (refine ⟨w3.heap.size, [.int .i64 sort, .int .i64 ty, .int .i64 size, .bool quiet, .int .i64 vk, .int .i64 vn, .string (ofBs vs), .int .i64 place, .string (ofBs head), .pointer fp, .slice xo xn xc], n, rfl, rfl, hb3.alloc hb3.size _, hb3.size, heap_alloc_new _ _, ?_⟩
             rcases HX.out with h | ⟨x, h1, h2, h3⟩
             · exact .inl h
             · exact .inr ⟨x, h1, h2, h3.bounded.move (fun g hg => Below.heap_alloc _ _ _ hg.2) (fun g hg => hg.1)⟩)
          | (refine ⟨w2.heap.size, [.int .i64 sort, .int .i64 ty, .int .i64 size, .bool quiet, .int .i64 vk, .int .i64 vn, .string (ofBs vs), .int .i64 place, .string (ofBs head), .pointer fp, .slice xo xn xc], n, rfl, rfl, set11_below ((below_box w2 ex0).trans (hb3.mono (by simp [World.size_alloc]))) (Nat.le_refl _) _ _ _ _ _ _ _ _ _ _ _, Nat.le_refl _, set11_block hk3 _ _ _ _ _ _ _ _ _ _ _, ?_⟩
             rcases HX.out with h | ⟨x, h1, h2, h3⟩
             · exact .inl h
             · exact .inr ⟨x, h1, h2, h3.move (fun g hg => set11_other _ _ _ _ _ _ _ _ _ _ _ _ _ _ (by simp only [World.size_drew, World.size_alloc] at hg; omega)) (fun g hg => by simp only [World.size_drew, World.size_alloc] at hg; omega)⟩)
      case rest =>
        obtain ⟨k7, c, n, rfl, rfl, hb3, hk7, hk7b, HX⟩ := hcut
        have B3 : Below w.heap.size w wc := B2.trans (hb3.mono B2.size)
        have hs3 := hb3.size
        have f4 := (hb3.block w.heap.size (by omega)).trans f2
        have d4 : wc.cell? ⟨w.heap.size, 0, none⟩ = some (.string (ofBs name)) := (blk_at f4).trans rfl
        have hbk4 := (B3.block bb hbl).trans hbk
        obtain ⟨e4, g4, _⟩ := cellsB hbk4
        clear d0 d2 e0 HR
        rcases HX.out with ⟨ho, hn0⟩ | ⟨x, ho, rfl, hx⟩
        · have HE : Hid (addS fns name args body = .error n) := by rw [Hid, HO.out, ho]
          have hne : (n == 0) = false := by simpa using hn0
          clear HX HO
          go_wp2_with fail
          go_ret
          exact .inl ⟨n, HE.out, hn0, rfl, B3⟩
        · have HE : Hid (addS fns name args body = .ok ⟨name, ta, x⟩) := by rw [Hid, HO.out, ho]
          obtain ⟨sort, ty, size, quiet, vk, vn, vs, place, head, fi, xops, fp, xo, xn, xc, xcs, hxe, rfl, -, -, -, -, -⟩ := hx.inv
          obtain ⟨⟨y0, y1, y2, y3, y4, y5, y6, y7, y8, y9, y10⟩, f0, f1, f2, f3, f4, f5, f6, f7, f8, f9, f10⟩ := cells11 hk7b
          have own4 : wc.ownsRow (bb + 1) 115 1 (.slice fo fnn fc) fns.length (ptrs FB) := owns_keep hown fun g hg => B3.block g (hown.lt g hg).2
          have HOWN : ∀ o o' : Obj, ((wc.alloc o).alloc o').drew.ownsRow (bb + 1) 115 1 (.slice fo fnn fc) fns.length (ptrs FB) := fun o o' => World.ownsRow.drew (World.ownsRow.alloc (World.ownsRow.alloc own4 o) o')
          have ho4 : wc.ownsRow 0 3 1 (.slice po ta.length pc) ta.length (intCells ta) := owns_base (owns_keep ho2 fun g hg => hb3.block g (ho2.lt g hg).2) fun _ _ => Nat.zero_le _
          have hvb : (Value.slice fo fnn fc).ownBlock ≠ some bb := fun e => by have := (hown.lt _ e).1; omega
          have hk7l := block_lt hk7b
          have hbl4 : bb < wc.heap.size := by omega
          have hwl4 : w.heap.size < wc.heap.size := by omega
          clear HX HO ho hxe
          go_upto_region 8 with fail
          go_region_law (refine step_append_lies _ rfl (.tmp 46) (.tmp 53) 109 rfl (bb + 1) 115 i0 _ 1 8 Tryz.underlying109 hi hz0 hz1 hz2 rfl (by decide) (.slice fo fnn fc) fns.length (ptrs FB) (by simp [Act.eval]) (HOWN _ _) ⟨wc.heap.size + 1, 0, none⟩ 1 1 [.pointer (some ⟨wc.heap.size, 0, none⟩)] (by simp [Act.eval]) rfl (World.news_of_block (blk2_new wc _ _)) (by intro u hu; simp at hu; subst hu; rfl) (by decide) (by unfold maxLen; omega) (by omega) (by simp; omega) (wc.heap.size + 2) (by simp) ?_; intro g7 cap7 w7 hown7 hgrow7 hat7 hlt7; have kB : w7.heap[bb]? = _ := (hgrow7.block bb (by simp; omega) hvb.symm).trans ((Below.heap_alloc _ _ _ (by simp [World.size_alloc]; omega)).trans ((Below.heap_alloc _ _ _ hbl4).trans hbk4)); have hb7 := block_lt kB; obtain ⟨r0, t0, _⟩ := cellsB kB)
          all_goals (go_wp2_with fail; go_ret)
          all_goals
            obtain ⟨A1, A2⟩ := add_fin hbl hlen h7 hfn B3 own4 hbk4 hta1 ho4 hx hown7 hgrow7 kB
            exact .inr ⟨_, _, HE.out, rfl, A1, A2⟩
    · have HO : Hid (addS fns name args body = .error n0) := by
        rw [Hid, addS, ← hfr, ← har, ← hn0, if_pos h0]
      have hne : (n0 == 0) = false := by simpa using h0
      clear hn0 hfr har HF HA hbc hFn hfn hown
      go_wp2_with fail
      go_ret
      exact .inl ⟨n0, HO.out, h0, rfl, BC⟩
end Go.Proofs.YtilfjpmeededmaaGreatDoor

import Derived.Test.YtilfjpmeededmaaGreatDoorTyH
set_option linter.unusedVariables false
set_option linter.unusedSimpArgs false
namespace Go.Proofs.YtilfjpmeededmaaGreatDoor
open Go.RowKit
set_option maxHeartbeats 800000 in
set_option maxRecDepth 100000 in
theorem column1_any (w : World) (nb : Nat) (x : Bs) (t : Int) (l : Bs) (hnl : nb < w.heap.size) (hn : w.cell? ⟨nb, 0, none⟩ = some (.string (ofBs l))) :
    Calls Tryz.prog 352 #[.agg #[.string (ofBs x), .int .i64 t], .pointer (some ⟨nb, 0, none⟩)] w fun e w' => e = .returned (.bool (x == l)) ∧ Below w.heap.size w w' := by
  have HR : Hid ((x == l) = ((ofBs x).toList == (ofBs l).toList)) := by rw [Hid, ofBs_toList, ofBs_toList]
  have hb := below_box w (.cells #[.string (ofBs x), .int .i64 t] 301)
  have hn2 := (hb.cell (p := ⟨nb, 0, none⟩) hnl).trans hn
  go_enter Tryz.func352, Tryz.ntmps352
  go_upto_region 1 with fail
  first
    | (go_region; go_wp2_with fail; go_ret; exact ⟨by rw [HR.out]; rfl, hb.drew⟩)
    | (go_wp2_with fail; go_ret; exact ⟨by rw [HR.out]; rfl, hb⟩)
set_option maxHeartbeats 1600000 in
set_option maxRecDepth 100000 in
theorem namesIndexFunc_any (w : World) (v : Value) (ns : List (Bs × Int)) (nb : Nat) (l : Bs) (h : NamesIn w v ns) (hnl : nb < w.heap.size) (hn : w.cell? ⟨nb, 0, none⟩ = some (.string (ofBs l))) :
    Calls Tryz.prog 351 #[v, .func (Fn.func 352) #[] #[.pointer (some ⟨nb, 0, none⟩)]] w fun e w' => (∃ k : Int, e = .returned (.int .i64 k) ∧ ((colIx ns l = none ∧ k = -1) ∨ ∃ i : Nat, colIx ns l = some i ∧ k = i ∧ i < ns.length)) ∧ Below w.heap.size w w' := by
  obtain ⟨ao, cap, rfl, hl, hz⟩ := h
  go_enter Tryz.func351, Tryz.ntmps351
  go_wp2_with fail
  go_loopw [8] (fun iv wx => ∃ i : Nat, i ≤ ns.length ∧ iv = .int .i64 i ∧ Below w.heap.size w wx ∧ Hid (colIx ns l = ((ns.drop i).findIdx? (fun f => f.1 == l)).map (· + i))) (fun iv _ => ns.length - (intOf iv).toNat)
  case atStart => exact ⟨0, Nat.zero_le _, rfl, Below.refl _ _, by rw [Hid]; simp [colIx]⟩
  case round =>
    obtain ⟨i, hi, rfl, hB, HE⟩ := hrel
    by_cases hlt : i < ns.length
    · obtain ⟨b, rfl, hb, hc⟩ : ∃ b, ao = some ⟨b, 0, none⟩ ∧ b < w.heap.size ∧ ∀ (i : Nat) (n : Bs × Int), ns[i]? = some n → w.cell? ⟨b, i * 2, none⟩ = some (.string (ofBs n.1)) ∧ w.cell? ⟨b, i * 2 + 1, none⟩ = some (.int .i64 n.2) := by
        rcases hz with h | h
        · subst h; simp at hlt
        · exact h
      obtain ⟨c0, c1⟩ := hc i ns[i] (List.getElem?_eq_getElem hlt)
      replace c0 := (hB.cell (p := ⟨b, i * 2, none⟩) hb).trans c0
      replace c1 := (hB.cell (p := ⟨b, i * 2 + 1, none⟩) hb).trans c1
      have hn' := (hB.cell (p := ⟨nb, 0, none⟩) hnl).trans hn
      have hd : ns.drop i = ns[i] :: ns.drop (i + 1) := List.drop_eq_getElem_cons hlt
      have HA : Hid (colIx ns l = if (ns[i].1 == l) then some i else ((ns.drop (i + 1)).findIdx? (fun f => f.1 == l)).map (· + (i + 1))) := by
        rw [Hid, HE.out, hd, List.findIdx?_cons]
        cases (ns[i].1 == l)
        · simp only [Bool.false_eq_true, if_false, Option.map_map]; congr 1; funext x; simp; omega
        · simp
      obtain ⟨n, hne⟩ : ∃ n, n = ns[i] := ⟨_, rfl⟩
      rw [← hne] at c0 c1 HA
      obtain ⟨x, t⟩ := n
      simp only at c0 c1 HA
      have hnr : nb < wr.heap.size := by have := hB.size; omega
      have HC := column1_any wr nb x t l hnr hn'
      clear hc hd hz HE hne
      obtain ⟨d, hde⟩ : ∃ d, d = (x == l) := ⟨_, rfl⟩
      rw [← hde] at HC HA
      clear hde
      cases d with
      | true =>
        have HN : Hid (colIx ns l = some i) := by rw [Hid, HA.out, if_pos rfl]
        clear HA
        go_wp2_with (go_at_call 352; refine HC.mono ?_; rintro e w2 ⟨rfl, hb2⟩)
        go_ret
        exact ⟨⟨_, rfl, .inr ⟨i, HN.out, rfl, hlt⟩⟩, hB.trans (hb2.mono hB.size)⟩
      | false =>
        have HN : Hid (colIx ns l = ((ns.drop (i + 1)).findIdx? (fun f => f.1 == l)).map (· + (i + 1))) := by rw [Hid, HA.out, if_neg Bool.false_ne_true]
        clear HA
        go_wp2_with (go_at_call 352; refine HC.mono ?_; rintro e w2 ⟨rfl, hb2⟩)
        go_roundw
        case rel => exact ⟨i + 1, by omega, by go_num, hB.trans (hb2.mono hB.size), HN⟩
        case measure => simp [intOf]; omega
    · have HN : Hid (colIx ns l = none) := by rw [Hid, HE.out, List.drop_of_length_le (by omega)]; rfl
      clear HE hz
      go_wp2_with fail
      go_ret
      exact ⟨⟨_, rfl, .inl ⟨HN.out, rfl⟩⟩, hB⟩
theorem col_box {w w2 : World} {a b c : Obj} (h : Below (((w.alloc a).alloc b).alloc c).heap.size (((w.alloc a).alloc b).alloc c) w2) : Below w.heap.size w w2 ∧ (w2.heap[w.heap.size]? = some a ∧ w2.heap[w.heap.size + 2]? = some c) ∧ w.heap.size < w2.heap.size ∧ w.heap.size + 2 < w2.heap.size := by
  have hs := h.size
  simp only [World.size_alloc] at hs
  have k0 : (((w.alloc a).alloc b).alloc c).heap[w.heap.size]? = some a := (Below.heap_alloc _ _ _ (by simp only [World.size_alloc]; omega)).trans ((Below.heap_alloc _ _ _ (by simp only [World.size_alloc]; omega)).trans (heap_alloc_new w a))
  have k2 : (((w.alloc a).alloc b).alloc c).heap[w.heap.size + 2]? = some c := by
    have := heap_alloc_new ((w.alloc a).alloc b) c
    simp only [World.size_alloc] at this; exact this
  exact ⟨(((Below.refl _ w).alloc (Nat.le_refl _) _).alloc (by simp [World.size_alloc]) _ |>.alloc (by simp only [World.size_alloc]; omega) _).trans (h.mono (by simp only [World.size_alloc]; omega)), ⟨(h.block _ (by simp only [World.size_alloc]; omega)).trans k0, (h.block _ (by simp only [World.size_alloc]; omega)).trans k2⟩, by omega, by omega⟩
set_option maxHeartbeats 1600000 in
set_option maxRecDepth 100000 in
theorem column_any (w : World) (FB : List Nat) (ns : List (Bs × Int)) (qo : Option Addr) (qn qc : Nat) (hns : NamesIn w (.slice qo qn qc) ns) (po : Option Addr) (pn pc : Nat) (fo : Option Addr) (fnn fc : Nat) (l : Bs) :
    Calls Tryz.prog 290 #[.agg #[.slice qo qn qc, .slice po pn pc, .slice fo fnn fc], .string (ofBs l)] w fun e w' => Typd w FB (colT ns l) e w' := by
  have hb3 : Below w.heap.size w (((w.alloc (.cells #[.slice qo qn qc, .slice po pn pc, .slice fo fnn fc] 206)).alloc (.cells #[.string (ofBs l)] 9)).alloc ex0) := (col_box (Below.refl _ _)).1
  have hq : (((w.alloc (.cells #[.slice qo qn qc, .slice po pn pc, .slice fo fnn fc] 206)).alloc (.cells #[.string (ofBs l)] 9)).alloc ex0).cell? ⟨w.heap.size + 1, 0, none⟩ = some (.string (ofBs l)) := by
    have := heap_alloc_new (w.alloc (.cells #[.slice qo qn qc, .slice po pn pc, .slice fo fnn fc] 206)) (.cells #[.string (ofBs l)] 9)
    rw [World.size_alloc] at this
    exact (blk_at ((Below.heap_alloc _ _ _ (by simp only [World.size_alloc]; omega)).trans this)).trans rfl
  have HC := namesIndexFunc_any _ _ ns (w.heap.size + 1) l (hns.keep hb3) (by simp only [World.size_alloc]; omega) hq
  obtain ⟨ao, cap, he, hl, hz⟩ := hns
  cases he
  go_enter Tryz.func290, Tryz.ntmps290
  go_wp2_with (go_at_call 351; refine HC.mono ?_)
  clear HC hq
  rintro e w2 ⟨⟨k, rfl, ⟨hN, rfl⟩ | ⟨i, hN, rfl, hlt⟩⟩, hb2⟩
  · have HO : Hid (colT ns l = .error 2) := by rw [Hid, colT, hN]
    obtain ⟨B2, ⟨_, hR⟩, l0, l2⟩ := col_box hb2
    obtain ⟨⟨z0, z1, z2, z3, z4, z5, z6, z7, z8, z9, z10⟩, g0, g1, g2, g3, g4, g5, g6, g7, g8, g9, g10⟩ := cells11 hR
    clear hN hb2 hz hR
    go_wp2_with fail
    exact bodyPost_ret (v := .tuple #[.agg #[.int .i64 0, .int .i64 0, .int .i64 0, .bool false, .int .i64 0, .int .i64 0, .string ⟨#[]⟩, .int .i64 0, .string ⟨#[]⟩, .pointer none, .slice none 0 0], .int .i64 2]) (by simp [results, Tryz.results290, go_sem, z0, z1, z2, z3, z4, z5, z6, z7, z8, z9, z10]) rfl ⟨set11_below B2 (by omega) _ _ _ _ _ _ _ _ _ _ _, .inl ⟨2, HO.out, by decide, rfl⟩⟩
  · obtain ⟨b, rfl, hb, hc⟩ : ∃ b, qo = some ⟨b, 0, none⟩ ∧ b < w.heap.size ∧ ∀ (i : Nat) (n : Bs × Int), ns[i]? = some n → w.cell? ⟨b, i * 2, none⟩ = some (.string (ofBs n.1)) ∧ w.cell? ⟨b, i * 2 + 1, none⟩ = some (.int .i64 n.2) := by
      rcases hz with h | h
      · subst h; simp at hlt
      · exact h
    have hget := List.getElem?_eq_getElem hlt
    have HO : Hid (colT ns l = .ok (colEx ns[i].2 i)) := by rw [Hid, colT, hN]; simp only [hget]
    obtain ⟨B2, ⟨hS, hR⟩, l0, l2⟩ := col_box hb2
    have c1 := (B2.cell (p := ⟨b, i * 2 + 1, none⟩) hb).trans (hc i _ hget).2
    have s0 : w2.cell? ⟨w.heap.size, 0, none⟩ = some (.slice (some ⟨b, 0, none⟩) ns.length qc) := (blk_at hS).trans rfl
    obtain ⟨⟨z0, z1, z2, z3, z4, z5, z6, z7, z8, z9, z10⟩, g0, g1, g2, g3, g4, g5, g6, g7, g8, g9, g10⟩ := cells11 hR
    obtain ⟨t, ht⟩ : ∃ t, t = ns[i].2 := ⟨_, rfl⟩
    rw [← ht] at c1 HO
    clear hN hb2 hz hR hS hc ht hget
    go_wp2_with fail
    refine bodyPost_ret (v := .tuple #[.agg #[.int .i64 2, .int .i64 t, .int .i64 1, .bool true, .int .i64 0, .int .i64 0, .string ⟨#[]⟩, .int .i64 i, .string ⟨#[]⟩, .pointer none, .slice none 0 0], .int .i64 0]) (by simp [results, Tryz.results290, go_sem, z0, z1, z2, z3, z4, z5, z6, z7, z8, z9, z10]) rfl ⟨set11_below B2 (by omega) _ _ _ _ _ _ _ _ _ _ _, .inr ⟨_, _, HO.out, rfl, ?_⟩⟩
    exact isEx_leaf _ _ _ 2 t 1 true 0 0 [] i []
theorem parS_inv {l : Bs} (h : parS l = true) : ∃ c : UInt8, l = [36, c] ∧ 49 ≤ c.toNat ∧ c.toNat ≤ 57 := by
  simp only [parS, Bool.and_eq_true, decide_eq_true_eq, beq_iff_eq, Bool.not_eq_true', digitB] at h
  obtain ⟨⟨⟨h1, h2⟩, h3, h4⟩, h5⟩ := h
  match l, h1 with
  | [a, c], _ =>
    simp at h2 h3 h4 h5
    refine ⟨c, by rw [h2], ?_, by omega⟩
    have : c.toNat ≠ 48 := fun e => h5 (UInt8.toNat.inj (by rw [e]; rfl))
    omega
set_option maxHeartbeats 1600000 in
set_option maxRecDepth 100000 in
theorem parameter_any (w : World) (FB : List Nat) (ps : List Int) (qo : Option Addr) (qn qc : Nat) (po : Option Addr) (pn pc : Nat) (hp : IntsIn w (.slice po pn pc) ps) (fo : Option Addr) (fnn fc : Nat) (l : Bs) (hl : parS l = true) :
    Calls Tryz.prog 291 #[.agg #[.slice qo qn qc, .slice po pn pc, .slice fo fnn fc], .string (ofBs l)] w fun e w' => Typd w FB (parT ps l) e w' := by
  obtain ⟨c, rfl, hc1, hc2⟩ := parS_inv hl
  obtain ⟨ao, cap, he, hlen, hz⟩ := hp
  cases he
  have HP : Hid (parT ps [36, c] = match ps[c.toNat - 49]? with | none => .error 2 | some t => .ok (parEx t (c.toNat - 49 : Nat))) := rfl
  have hlit : ofBs [36, c] = ⟨#[36, c]⟩ := rfl
  rw [hlit]
  obtain ⟨m, hm⟩ : ∃ m : Nat, c.toNat = 49 + m := ⟨c.toNat - 49, by omega⟩
  have hm9 : m ≤ 8 := by omega
  have hmod : ((((ByteArray.mk #[36, c])[1]'(by show 1 < 2; omega)).toNat : Int) - 49) % 256 = (m : Int) := by show ((c.toNat : Int) - 49) % 256 = (m : Int); omega
  rw [hm, Nat.add_sub_cancel_left] at HP
  clear hl hlit
  by_cases hlt : m < ps.length
  · obtain ⟨b, off, rfl, hb, hcell⟩ : ∃ b off, po = some ⟨b, off, none⟩ ∧ b < w.heap.size ∧ ∀ j u, ps[j]? = some u → w.cell? ⟨b, off + j, none⟩ = some (.int .i64 u) := by
      rcases hz with h | h
      · subst h; simp at hlt
      · exact h
    have q := hcell m ps[m] (List.getElem?_eq_getElem hlt)
    rw [List.getElem?_eq_getElem hlt] at HP
    obtain ⟨t, ht⟩ : ∃ t, t = ps[m] := ⟨_, rfl⟩
    rw [← ht] at q HP
    clear ht hcell hz
    go_enter Tryz.func291, Tryz.ntmps291
    go_wp2_with fail
    refine bodyPost_ret (v := .tuple #[.agg #[.int .i64 3, .int .i64 t, .int .i64 1, .bool true, .int .i64 0, .int .i64 0, .string ⟨#[]⟩, .int .i64 m, .string ⟨#[]⟩, .pointer none, .slice none 0 0], .int .i64 0]) (by simp [results, Tryz.results291, go_sem]) rfl ⟨below_box2 _ _ _, .inr ⟨_, _, HP.out, rfl, ?_⟩⟩
    exact isEx_leaf _ _ _ 3 t 1 true 0 0 [] m []
  · have hnone : ps[m]? = none := List.getElem?_eq_none (by omega)
    rw [hnone] at HP
    have hge : ps.length ≤ m := by omega
    clear hz hnone
    go_enter Tryz.func291, Tryz.ntmps291
    go_wp2_with fail
    exact bodyPost_ret (v := .tuple #[.agg #[.int .i64 0, .int .i64 0, .int .i64 0, .bool false, .int .i64 0, .int .i64 0, .string ⟨#[]⟩, .int .i64 0, .string ⟨#[]⟩, .pointer none, .slice none 0 0], .int .i64 2]) (by simp [results, Tryz.results291, go_sem]) rfl ⟨below_box2 _ _ _, .inl ⟨2, HP.out, by decide, rfl⟩⟩
end Go.Proofs.YtilfjpmeededmaaGreatDoor

namespace Go.Proofs.YtilfjpmeededmaaGreatDoor
open Go.RowKit
def TokOK (atoi : Bs → Int) (k : Int) (l : Bs) : Prop := (k = 3 → ∀ x : World, Calls Tryz.prog 353 #[.string (ofBs l)] x fun e w' => e = .returned (.tuple #[.int .i64 (atoi l), .nilIface]) ∧ Below x.heap.size x w') ∧ (k = 4 → 2 ≤ l.length ∧ l.length ≤ 32) ∧ (k = 7 → parS l = true)
theorem box3_below (w : World) (o o' o2 : Obj) : Below w.heap.size w (((w.alloc o).alloc o').alloc o2) := (below_box2 w o o').alloc (by simp only [World.size_alloc]; omega) _
set_option maxHeartbeats 4000000 in
set_option maxRecDepth 100000 in
theorem expr_call (atoi : Bs → Int) (ps : Sc) (fns : List Fn) (FB : List Nat) (w : World) (qo : Option Addr) (qn qc : Nat) (po : Option Addr) (pn pc : Nat) (fo : Option Addr) (fnn fc : Nat) (k : Int) (tx : Bs) (tro : Option Addr) (tn tc : Nat) (T : Tr) (o : Except Int Ex) (HE : Hid (typS atoi ps fns T = o))
    (HB : ∀ x : World, Below w.heap.size w x → Calls Tryz.prog 289 #[.agg #[.slice qo qn qc, .slice po pn pc, .slice fo fnn fc], .agg #[.int .i64 k, .string (ofBs tx), .bool true, .slice tro tn tc]] x fun e w' => Typd x FB o e w') :
    Calls Tryz.prog 209 #[.agg #[.slice qo qn qc, .slice po pn pc, .slice fo fnn fc], .agg #[.int .i64 k, .string (ofBs tx), .bool true, .slice tro tn tc]] w fun e w' => Typd w FB (typS atoi ps fns T) e w' := by
  have HC := HB _ (box3_below w (.cells #[.slice qo qn qc, .slice po pn pc, .slice fo fnn fc] 206) (.cells #[.int .i64 k, .string (ofBs tx), .bool true, .slice tro tn tc] 236) ex0)
  clear HB
  go_enter Tryz.func209, Tryz.ntmps209
  go_wp2_with (go_at_call 289; refine HC.mono ?_)
  rintro e w2 ⟨hb2, hres⟩
  obtain ⟨hS2, hT2, hR2, B2, hs2⟩ := res_box3 hb2
  obtain ⟨⟨z0, z1, z2, z3, z4, z5, z6, z7, z8, z9, z10⟩, g0, g1, g2, g3, g4, g5, g6, g7, g8, g9, g10⟩ := cells11 hR2
  rcases hres with ⟨n2, ho, hn2, rfl⟩ | ⟨x, c5, ho, rfl, hx⟩
  · have HO : Hid (typS atoi ps fns T = .error n2) := by rw [Hid, HE.out]; exact ho
    clear HE ho hS2 hT2 hR2 hb2
    go_wp2_with fail
    exact bodyPost_ret (v := .tuple #[.agg #[.int .i64 0, .int .i64 0, .int .i64 0, .bool false, .int .i64 0, .int .i64 0, .string ⟨#[]⟩, .int .i64 0, .string ⟨#[]⟩, .pointer none, .slice none 0 0], .int .i64 n2]) (by simp [results, Tryz.results209, go_sem, z0, z1, z2, z3, z4, z5, z6, z7, z8, z9, z10]) rfl ⟨set11_below B2 (by omega) _ _ _ _ _ _ _ _ _ _ _, .inl ⟨n2, HO.out, hn2, rfl⟩⟩
  · have HO : Hid (typS atoi ps fns T = .ok x) := by rw [Hid, HE.out]; exact ho
    obtain ⟨sort, ty, size, quiet, vk, vn, vs, place, head, fi, xops, fp, xo, xn, xc, xcs, hxe, hxc, -, -, -, -, -⟩ := hx.inv
    have hc5 : c5 = #[.int .i64 sort, .int .i64 ty, .int .i64 size, .bool quiet, .int .i64 vk, .int .i64 vn, .string (ofBs vs), .int .i64 place, .string (ofBs head), .pointer fp, .slice xo xn xc] := by rw [← Array.toList_inj]; exact hxc
    subst hc5
    have HX : Hid _ := hx
    clear HE ho hS2 hT2 hR2 hxe hxc hx
    go_wp2_with fail
    refine bodyPost_ret (v := .tuple #[.agg #[.int .i64 sort, .int .i64 ty, .int .i64 size, .bool quiet, .int .i64 vk, .int .i64 vn, .string (ofBs vs), .int .i64 place, .string (ofBs head), .pointer fp, .slice xo xn xc], .int .i64 0]) (by simp [results, Tryz.results209, go_sem, z0, z1, z2, z3, z4, z5, z6, z7, z8, z9, z10]) rfl ⟨set11_below B2 (by omega) _ _ _ _ _ _ _ _ _ _ _, .inr ⟨x, _, HO.out, rfl, ?_⟩⟩
    exact HX.out.bounded.move (fun g hg => set11_other _ _ _ _ _ _ _ _ _ _ _ _ _ _ (by have := hg.1; simp only [World.size_alloc] at this; omega)) (fun g hg => by have := hg.1; simp only [World.size_alloc] at this; omega)
set_option maxHeartbeats 4000000 in
set_option maxRecDepth 100000 in
theorem expr_col (atoi : Bs → Int) (ps : Sc) (fns : List Fn) (FB : List Nat) (w : World) (qo : Option Addr) (qn qc : Nat) (hns : NamesIn w (.slice qo qn qc) ps.1) (po : Option Addr) (pn pc : Nat) (fo : Option Addr) (fnn fc : Nat) (tx : Bs) (tro : Option Addr) (tn tc : Nat) (T : Tr) (HE : Hid (typS atoi ps fns T = colT ps.1 tx)) :
    Calls Tryz.prog 209 #[.agg #[.slice qo qn qc, .slice po pn pc, .slice fo fnn fc], .agg #[.int .i64 6, .string (ofBs tx), .bool false, .slice tro tn tc]] w fun e w' => Typd w FB (typS atoi ps fns T) e w' := by
  have HC := column_any _ FB ps.1 qo qn qc (hns.keep (box3_below w (.cells #[.slice qo qn qc, .slice po pn pc, .slice fo fnn fc] 206) (.cells #[.int .i64 6, .string (ofBs tx), .bool false, .slice tro tn tc] 236) ex0)) po pn pc fo fnn fc tx
  obtain ⟨o, ho'⟩ : ∃ o, o = colT ps.1 tx := ⟨_, rfl⟩
  rw [← ho'] at HC HE
  clear ho' hns
  go_enter Tryz.func209, Tryz.ntmps209
  go_wp2_with (go_at_call 290; refine HC.mono ?_)
  rintro e w2 ⟨hb2, hres⟩
  obtain ⟨hS2, hT2, hR2, B2, hs2⟩ := res_box3 hb2
  obtain ⟨⟨z0, z1, z2, z3, z4, z5, z6, z7, z8, z9, z10⟩, g0, g1, g2, g3, g4, g5, g6, g7, g8, g9, g10⟩ := cells11 hR2
  rcases hres with ⟨n2, ho, hn2, rfl⟩ | ⟨x, c5, ho, rfl, hx⟩
  · have HO : Hid (typS atoi ps fns T = .error n2) := by rw [Hid, HE.out]; exact ho
    clear HE ho hS2 hT2 hR2 hb2
    go_wp2_with fail
    exact bodyPost_ret (v := .tuple #[.agg #[.int .i64 0, .int .i64 0, .int .i64 0, .bool false, .int .i64 0, .int .i64 0, .string ⟨#[]⟩, .int .i64 0, .string ⟨#[]⟩, .pointer none, .slice none 0 0], .int .i64 n2]) (by simp [results, Tryz.results209, go_sem, z0, z1, z2, z3, z4, z5, z6, z7, z8, z9, z10]) rfl ⟨set11_below B2 (by omega) _ _ _ _ _ _ _ _ _ _ _, .inl ⟨n2, HO.out, hn2, rfl⟩⟩
  · have HO : Hid (typS atoi ps fns T = .ok x) := by rw [Hid, HE.out]; exact ho
    obtain ⟨sort, ty, size, quiet, vk, vn, vs, place, head, fi, xops, fp, xo, xn, xc, xcs, hxe, hxc, -, -, -, -, -⟩ := hx.inv
    have hc5 : c5 = #[.int .i64 sort, .int .i64 ty, .int .i64 size, .bool quiet, .int .i64 vk, .int .i64 vn, .string (ofBs vs), .int .i64 place, .string (ofBs head), .pointer fp, .slice xo xn xc] := by rw [← Array.toList_inj]; exact hxc
    subst hc5
    have HX : Hid _ := hx
    clear HE ho hS2 hT2 hR2 hxe hxc hx
    go_wp2_with fail
    refine bodyPost_ret (v := .tuple #[.agg #[.int .i64 sort, .int .i64 ty, .int .i64 size, .bool quiet, .int .i64 vk, .int .i64 vn, .string (ofBs vs), .int .i64 place, .string (ofBs head), .pointer fp, .slice xo xn xc], .int .i64 0]) (by simp [results, Tryz.results209, go_sem, z0, z1, z2, z3, z4, z5, z6, z7, z8, z9, z10]) rfl ⟨set11_below B2 (by omega) _ _ _ _ _ _ _ _ _ _ _, .inr ⟨x, _, HO.out, rfl, ?_⟩⟩
    exact HX.out.bounded.move (fun g hg => set11_other _ _ _ _ _ _ _ _ _ _ _ _ _ _ (by have := hg.1; simp only [World.size_alloc] at this; omega)) (fun g hg => by have := hg.1; simp only [World.size_alloc] at this; omega)
set_option maxHeartbeats 4000000 in
set_option maxRecDepth 100000 in
theorem expr_par (atoi : Bs → Int) (ps : Sc) (fns : List Fn) (FB : List Nat) (w : World) (qo : Option Addr) (qn qc : Nat) (po : Option Addr) (pn pc : Nat) (hp : IntsIn w (.slice po pn pc) ps.2) (fo : Option Addr) (fnn fc : Nat) (tx : Bs) (hl : parS tx = true) (tro : Option Addr) (tn tc : Nat) (T : Tr) (HE : Hid (typS atoi ps fns T = parT ps.2 tx)) :
    Calls Tryz.prog 209 #[.agg #[.slice qo qn qc, .slice po pn pc, .slice fo fnn fc], .agg #[.int .i64 7, .string (ofBs tx), .bool false, .slice tro tn tc]] w fun e w' => Typd w FB (typS atoi ps fns T) e w' := by
  have HC := parameter_any _ FB ps.2 qo qn qc po pn pc (hp.keep (box3_below w (.cells #[.slice qo qn qc, .slice po pn pc, .slice fo fnn fc] 206) (.cells #[.int .i64 7, .string (ofBs tx), .bool false, .slice tro tn tc] 236) ex0)) fo fnn fc tx hl
  obtain ⟨o, ho'⟩ : ∃ o, o = parT ps.2 tx := ⟨_, rfl⟩
  rw [← ho'] at HC HE
  clear ho' hp
  go_enter Tryz.func209, Tryz.ntmps209
  go_wp2_with (go_at_call 291; refine HC.mono ?_)
  rintro e w2 ⟨hb2, hres⟩
  obtain ⟨hS2, hT2, hR2, B2, hs2⟩ := res_box3 hb2
  obtain ⟨⟨z0, z1, z2, z3, z4, z5, z6, z7, z8, z9, z10⟩, g0, g1, g2, g3, g4, g5, g6, g7, g8, g9, g10⟩ := cells11 hR2
  rcases hres with ⟨n2, ho, hn2, rfl⟩ | ⟨x, c5, ho, rfl, hx⟩
  · have HO : Hid (typS atoi ps fns T = .error n2) := by rw [Hid, HE.out]; exact ho
    clear HE ho hS2 hT2 hR2 hb2
    go_wp2_with fail
    exact bodyPost_ret (v := .tuple #[.agg #[.int .i64 0, .int .i64 0, .int .i64 0, .bool false, .int .i64 0, .int .i64 0, .string ⟨#[]⟩, .int .i64 0, .string ⟨#[]⟩, .pointer none, .slice none 0 0], .int .i64 n2]) (by simp [results, Tryz.results209, go_sem, z0, z1, z2, z3, z4, z5, z6, z7, z8, z9, z10]) rfl ⟨set11_below B2 (by omega) _ _ _ _ _ _ _ _ _ _ _, .inl ⟨n2, HO.out, hn2, rfl⟩⟩
  · have HO : Hid (typS atoi ps fns T = .ok x) := by rw [Hid, HE.out]; exact ho
    obtain ⟨sort, ty, size, quiet, vk, vn, vs, place, head, fi, xops, fp, xo, xn, xc, xcs, hxe, hxc, -, -, -, -, -⟩ := hx.inv
    have hc5 : c5 = #[.int .i64 sort, .int .i64 ty, .int .i64 size, .bool quiet, .int .i64 vk, .int .i64 vn, .string (ofBs vs), .int .i64 place, .string (ofBs head), .pointer fp, .slice xo xn xc] := by rw [← Array.toList_inj]; exact hxc
    subst hc5
    have HX : Hid _ := hx
    clear HE ho hS2 hT2 hR2 hxe hxc hx
    go_wp2_with fail
    refine bodyPost_ret (v := .tuple #[.agg #[.int .i64 sort, .int .i64 ty, .int .i64 size, .bool quiet, .int .i64 vk, .int .i64 vn, .string (ofBs vs), .int .i64 place, .string (ofBs head), .pointer fp, .slice xo xn xc], .int .i64 0]) (by simp [results, Tryz.results209, go_sem, z0, z1, z2, z3, z4, z5, z6, z7, z8, z9, z10]) rfl ⟨set11_below B2 (by omega) _ _ _ _ _ _ _ _ _ _ _, .inr ⟨x, _, HO.out, rfl, ?_⟩⟩
    exact HX.out.bounded.move (fun g hg => set11_other _ _ _ _ _ _ _ _ _ _ _ _ _ _ (by have := hg.1; simp only [World.size_alloc] at this; omega)) (fun g hg => by have := hg.1; simp only [World.size_alloc] at this; omega)
set_option maxHeartbeats 4000000 in
set_option maxRecDepth 100000 in
theorem expr_single (atoi : Bs → Int) (ps : Sc) (fns : List Fn) (FB : List Nat) (w : World) (qo : Option Addr) (qn qc : Nat) (po : Option Addr) (pn pc : Nat) (fo : Option Addr) (fnn fc : Nat) (k : Int) (tx : Bs) (hk6 : k ≠ 6) (hk7 : k ≠ 7) (hT : TokOK atoi k tx) (tro : Option Addr) (tn tc : Nat) (T : Tr) (HE : Hid (typS atoi ps fns T = .ok (singleS atoi k tx))) :
    Calls Tryz.prog 209 #[.agg #[.slice qo qn qc, .slice po pn pc, .slice fo fnn fc], .agg #[.int .i64 k, .string (ofBs tx), .bool false, .slice tro tn tc]] w fun e w' => Typd w FB (typS atoi ps fns T) e w' := by
  have HC := single_any atoi k tx (((w.alloc (.cells #[.slice qo qn qc, .slice po pn pc, .slice fo fnn fc] 206)).alloc (.cells #[.int .i64 k, .string (ofBs tx), .bool false, .slice tro tn tc] 236)).alloc ex0) FB hT.1 hT.2.1
  have h6 : (k == 6) = false := by simpa using hk6
  have h7 : (k == 7) = false := by simpa using hk7
  obtain ⟨x, hxx⟩ : ∃ x, x = singleS atoi k tx := ⟨_, rfl⟩
  rw [← hxx] at HC HE
  clear hxx hT hk6 hk7
  go_enter Tryz.func209, Tryz.ntmps209
  go_wp2_with (go_at_call 292; refine HC.mono ?_)
  rintro e w2 ⟨hb2, c5, rfl, hx⟩
  obtain ⟨hS2, hT2, hR2, B2, hs2⟩ := res_box3 hb2
  obtain ⟨⟨z0, z1, z2, z3, z4, z5, z6, z7, z8, z9, z10⟩, g0, g1, g2, g3, g4, g5, g6, g7, g8, g9, g10⟩ := cells11 hR2
  obtain ⟨sort, ty, size, quiet, vk, vn, vs, place, head, fi, xops, fp, xo, xn, xc, xcs, hxe, hxc, -, -, -, -, -⟩ := hx.inv
  have hc5 : c5 = #[.int .i64 sort, .int .i64 ty, .int .i64 size, .bool quiet, .int .i64 vk, .int .i64 vn, .string (ofBs vs), .int .i64 place, .string (ofBs head), .pointer fp, .slice xo xn xc] := by rw [← Array.toList_inj]; exact hxc
  subst hc5
  have HX : Hid _ := hx
  clear hS2 hT2 hR2 hxe hxc hx
  go_wp2_with fail
  refine bodyPost_ret (v := .tuple #[.agg #[.int .i64 sort, .int .i64 ty, .int .i64 size, .bool quiet, .int .i64 vk, .int .i64 vn, .string (ofBs vs), .int .i64 place, .string (ofBs head), .pointer fp, .slice xo xn xc], .int .i64 0]) (by simp [results, Tryz.results209, go_sem, z0, z1, z2, z3, z4, z5, z6, z7, z8, z9, z10]) rfl ⟨set11_below B2 (by omega) _ _ _ _ _ _ _ _ _ _ _, .inr ⟨x, _, HE.out, rfl, ?_⟩⟩
  exact HX.out.bounded.move (fun g hg => set11_other _ _ _ _ _ _ _ _ _ _ _ _ _ _ (by have := hg.1; simp only [World.size_alloc] at this; omega)) (fun g hg => by have := hg.1; simp only [World.size_alloc] at this; omega)
theorem expr_any (atoi : Bs → Int) (N : Nat) : ExprSpec atoi (TokOK atoi) N := by
  induction N using Nat.strongRecOn with
  | ind N ih =>
    intro t w FB ps fns qo qn qc po pn pc fo fnn fc c hsz hnod hfit hT hsc hf
    obtain ⟨k, tx, br, ops, ao, n, cap, cs, rfl, hc, hn, hS, hown, hv⟩ := hT.inv
    obtain ⟨l⟩ := c
    simp only at hc
    subst hc
    cases hfit with
    | mk hP hfs =>
      cases br with
      | true =>
        have hz : 0 < SizeOf.sizeOf (Tr.mk k tx true ops) := by simp only [Tr.mk.sizeOf_spec]; omega
        have hin : ∀ t ∈ ops, SizeOf.sizeOf t ≤ SizeOf.sizeOf (Tr.mk k tx true ops) - 1 := by
          intro t ht
          have := List.sizeOf_lt_of_mem ht
          simp only [Tr.mk.sizeOf_spec]; omega
        simp only [nodT] at hnod
        refine expr_call atoi ps fns FB w qo qn qc po pn pc fo fnn fc k tx ao n cap _ _ rfl fun x hx => ?_
        exact bracketT_any atoi _ _ (ih _ (by omega)) k tx ops hin (by omega) hfs x FB ps fns qo qn qc po pn pc fo fnn fc ao n cap hn cs (hS.bounded.move (fun g hg => hx.block g hg.2) (fun _ _ => trivial)) (owns_keep hown fun g hg => hx.block g (hown.lt g hg).2) (hsc.keep hx) hf
      | false =>
        have hP := hP rfl
        by_cases h6 : k = 6
        · subst h6
          exact expr_col atoi ps fns FB w qo qn qc hsc.ns po pn pc fo fnn fc tx ao n cap _ (by rw [Hid, typS, if_neg Bool.false_ne_true, if_pos rfl])
        · by_cases h7 : k = 7
          · subst h7
            exact expr_par atoi ps fns FB w qo qn qc po pn pc hsc.ps fo fnn fc tx (hP.2.2 rfl) ao n cap _ (by rw [Hid, typS, if_neg Bool.false_ne_true, if_neg (by omega), if_pos rfl])
          · exact expr_single atoi ps fns FB w qo qn qc po pn pc fo fnn fc k tx h6 h7 hP ao n cap _ (by rw [Hid, typS, if_neg Bool.false_ne_true, if_neg h6, if_neg h7])
end Go.Proofs.YtilfjpmeededmaaGreatDoor

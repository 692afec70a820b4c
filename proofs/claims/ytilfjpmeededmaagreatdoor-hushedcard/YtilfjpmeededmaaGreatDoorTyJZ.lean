/- Expressions, typed. -/
/- Whatever expression: typed. -/
import Derived.Test.YtilfjpmeededmaaGreatDoorTyH
namespace Go.Proofs.YtilfjpmeededmaaGreatDoor
open Go.RowKit

set_option maxHeartbeats 800000 in
set_option maxRecDepth 100000 in
theorem namesIndexFunc0 (w : World) (cb : Nat) : Calls Tryz.prog 351 #[.slice none 0 0, .func (Fn.func 352) #[] #[.pointer (some ⟨cb, 0, none⟩)]] w fun e w' => e = .returned (.int .i64 (-1)) ∧ w' = w := by
  go_enter Tryz.func351, Tryz.ntmps351
  go_wp2_with fail
  go_loopw [8] (fun iv wx => iv = .int .i64 0 ∧ wx = w) (fun _ _ => 0)
  case atStart => exact ⟨rfl, rfl⟩
  case round =>
    obtain ⟨rfl, rfl⟩ := hrel
    go_wp2_with fail
    go_ret
    exact ⟨rfl, rfl⟩

set_option maxHeartbeats 1600000 in
set_option maxRecDepth 100000 in
theorem column0_any (w : World) (FB : List Nat) (po : Option Addr) (pn pc : Nat) (fo : Option Addr) (fnn fc : Nat) (l : Bs) :
    Calls Tryz.prog 290 #[.agg #[.slice none 0 0, .slice po pn pc, .slice fo fnn fc], .string (ofBs l)] w fun e w' => Typd w FB (.error 2) e w' := by
  go_enter Tryz.func290, Tryz.ntmps290
  go_wp2_with (go_at_call 351; refine (namesIndexFunc0 _ _).mono ?_; rintro e w2 ⟨rfl, rfl⟩)
  refine bodyPost_ret (v := .tuple #[.agg #[.int .i64 0, .int .i64 0, .int .i64 0, .bool false, .int .i64 0, .int .i64 0, .string ⟨#[]⟩, .int .i64 0, .string ⟨#[]⟩, .pointer none, .slice none 0 0], .int .i64 2]) (by simp [results, Tryz.results290, go_sem]) rfl ⟨?_, .inl ⟨2, rfl, by decide, rfl⟩⟩
  iterate 3 (refine Below.alloc ?_ (by simp [World.size_alloc]; try omega) _)
  exact Below.refl _ _

theorem parS_inv {l : Bs} (h : parS l = true) : ∃ c : UInt8, l = [36, c] ∧ 49 ≤ c.toNat ∧ c.toNat ≤ 57 := by
  simp only [parS, Bool.and_eq_true, decide_eq_true_eq, beq_iff_eq, Bool.not_eq_true', digitB] at h
  obtain ⟨⟨⟨h1, h2⟩, h3, h4⟩, h5⟩ := h
  match l, h1 with
  | [a, c], _ =>
    simp at h2 h3 h4 h5
    refine ⟨c, by rw [h2], ?_, by omega⟩
    have : c.toNat ≠ 48 := fun e => h5 (UInt8.toNat.inj (by rw [e]; rfl))
    omega

set_option maxHeartbeats 1600000 in
set_option maxRecDepth 100000 in
theorem parameter_any (w : World) (FB : List Nat) (ps : List Int) (po : Option Addr) (pn pc : Nat) (hp : IntsIn w (.slice po pn pc) ps) (fo : Option Addr) (fnn fc : Nat) (l : Bs) (hl : parS l = true) :
    Calls Tryz.prog 291 #[.agg #[.slice none 0 0, .slice po pn pc, .slice fo fnn fc], .string (ofBs l)] w fun e w' => Typd w FB (parT ps l) e w' := by
  obtain ⟨c, rfl, hc1, hc2⟩ := parS_inv hl
  obtain ⟨ao, cap, he, hlen, hz⟩ := hp
  cases he
  have HP : Hid (parT ps [36, c] = match ps[c.toNat - 49]? with | none => .error 2 | some t => .ok (parEx t (c.toNat - 49 : Nat))) := rfl
  have hlit : ofBs [36, c] = ⟨#[36, c]⟩ := rfl
  rw [hlit]
  obtain ⟨m, hm⟩ : ∃ m : Nat, c.toNat = 49 + m := ⟨c.toNat - 49, by omega⟩
  have hm9 : m ≤ 8 := by omega
  have hmod : ((((ByteArray.mk #[36, c])[1]'(by show 1 < 2; omega)).toNat : Int) - 49) % 256 = (m : Int) := by show ((c.toNat : Int) - 49) % 256 = (m : Int); omega
  rw [hm, Nat.add_sub_cancel_left] at HP
  clear hl hlit
  by_cases hlt : m < ps.length
  · obtain ⟨b, off, rfl, hb, hcell⟩ : ∃ b off, po = some ⟨b, off, none⟩ ∧ b < w.heap.size ∧ ∀ j u, ps[j]? = some u → w.cell? ⟨b, off + j, none⟩ = some (.int .i64 u) := by
      rcases hz with h | h
      · subst h; simp at hlt
      · exact h
    have q := hcell m ps[m] (List.getElem?_eq_getElem hlt)
    rw [List.getElem?_eq_getElem hlt] at HP
    obtain ⟨t, ht⟩ : ∃ t, t = ps[m] := ⟨_, rfl⟩
    rw [← ht] at q HP
    clear ht hcell hz
    go_enter Tryz.func291, Tryz.ntmps291
    go_wp2_with fail
    refine bodyPost_ret (v := .tuple #[.agg #[.int .i64 3, .int .i64 t, .int .i64 1, .bool true, .int .i64 0, .int .i64 0, .string ⟨#[]⟩, .int .i64 m, .string ⟨#[]⟩, .pointer none, .slice none 0 0], .int .i64 0]) (by simp [results, Tryz.results291, go_sem]) rfl ⟨below_box2 _ _ _, .inr ⟨_, _, HP.out, rfl, ?_⟩⟩
    exact isEx_leaf _ _ _ 3 t 1 true 0 0 [] m []
  · have hnone : ps[m]? = none := List.getElem?_eq_none (by omega)
    rw [hnone] at HP
    have hge : ps.length ≤ m := by omega
    clear hz hnone
    go_enter Tryz.func291, Tryz.ntmps291
    go_wp2_with fail
    exact bodyPost_ret (v := .tuple #[.agg #[.int .i64 0, .int .i64 0, .int .i64 0, .bool false, .int .i64 0, .int .i64 0, .string ⟨#[]⟩, .int .i64 0, .string ⟨#[]⟩, .pointer none, .slice none 0 0], .int .i64 2]) (by simp [results, Tryz.results291, go_sem]) rfl ⟨below_box2 _ _ _, .inl ⟨2, HP.out, by decide, rfl⟩⟩
end Go.Proofs.YtilfjpmeededmaaGreatDoor

namespace Go.Proofs.YtilfjpmeededmaaGreatDoor
open Go.RowKit

/-- A token that is fit to be typed. -/
def TokOK (atoi : Bs → Int) (k : Int) (l : Bs) : Prop := (k = 3 → ∀ x : World, Calls Tryz.prog 353 #[.string (ofBs l)] x fun e w' => e = .returned (.tuple #[.int .i64 (atoi l), .nilIface]) ∧ Below x.heap.size x w') ∧ (k = 4 → 2 ≤ l.length ∧ l.length ≤ 32) ∧ (k = 7 → parS l = true)
theorem box3_below (w : World) (o o' o2 : Obj) : Below w.heap.size w (((w.alloc o).alloc o').alloc o2) := (below_box2 w o o').alloc (by simp only [World.size_alloc]; omega) _

set_option maxHeartbeats 4000000 in
set_option maxRecDepth 100000 in
theorem expr_call (atoi : Bs → Int) (ps : List Int) (fns : List Fn) (FB : List Nat) (w : World) (po : Option Addr) (pn pc : Nat) (fo : Option Addr) (fnn fc : Nat) (k : Int) (tx : Bs) (tro : Option Addr) (tn tc : Nat) (T : Tr) (o : Except Int Ex) (HE : Hid (typS atoi ps fns T = o))
    (HB : ∀ x : World, Below w.heap.size w x → Calls Tryz.prog 289 #[.agg #[.slice none 0 0, .slice po pn pc, .slice fo fnn fc], .agg #[.int .i64 k, .string (ofBs tx), .bool true, .slice tro tn tc]] x fun e w' => Typd x FB o e w') :
    Calls Tryz.prog 209 #[.agg #[.slice none 0 0, .slice po pn pc, .slice fo fnn fc], .agg #[.int .i64 k, .string (ofBs tx), .bool true, .slice tro tn tc]] w fun e w' => Typd w FB (typS atoi ps fns T) e w' := by
  have HC := HB _ (box3_below w (.cells #[.slice none 0 0, .slice po pn pc, .slice fo fnn fc] 206) (.cells #[.int .i64 k, .string (ofBs tx), .bool true, .slice tro tn tc] 236) ex0)
  clear HB
  go_enter Tryz.func209, Tryz.ntmps209
  go_wp2_with (go_at_call 289; refine HC.mono ?_)
  rintro e w2 ⟨hb2, hres⟩
  obtain ⟨hS2, hT2, hR2, B2, hs2⟩ := res_box3 hb2
  obtain ⟨⟨z0, z1, z2, z3, z4, z5, z6, z7, z8, z9, z10⟩, g0, g1, g2, g3, g4, g5, g6, g7, g8, g9, g10⟩ := cells11 hR2
  rcases hres with ⟨n2, ho, hn2, rfl⟩ | ⟨x, c5, ho, rfl, hx⟩
  · have HO : Hid (typS atoi ps fns T = .error n2) := by rw [Hid, HE.out]; exact ho
    clear HE ho hS2 hT2 hR2 hb2
    go_wp2_with fail
    exact bodyPost_ret (v := .tuple #[.agg #[.int .i64 0, .int .i64 0, .int .i64 0, .bool false, .int .i64 0, .int .i64 0, .string ⟨#[]⟩, .int .i64 0, .string ⟨#[]⟩, .pointer none, .slice none 0 0], .int .i64 n2]) (by simp [results, Tryz.results209, go_sem, z0, z1, z2, z3, z4, z5, z6, z7, z8, z9, z10]) rfl ⟨set11_below B2 (by omega) _ _ _ _ _ _ _ _ _ _ _, .inl ⟨n2, HO.out, hn2, rfl⟩⟩
  · have HO : Hid (typS atoi ps fns T = .ok x) := by rw [Hid, HE.out]; exact ho
    obtain ⟨sort, ty, size, quiet, vk, vn, vs, place, head, fi, xops, fp, xo, xn, xc, xcs, hxe, hxc, -, -, -, -, -⟩ := hx.inv
    have hc5 : c5 = #[.int .i64 sort, .int .i64 ty, .int .i64 size, .bool quiet, .int .i64 vk, .int .i64 vn, .string (ofBs vs), .int .i64 place, .string (ofBs head), .pointer fp, .slice xo xn xc] := by rw [← Array.toList_inj]; exact hxc
    subst hc5
    have HX : Hid _ := hx
    clear HE ho hS2 hT2 hR2 hxe hxc hx
    go_wp2_with fail
    refine bodyPost_ret (v := .tuple #[.agg #[.int .i64 sort, .int .i64 ty, .int .i64 size, .bool quiet, .int .i64 vk, .int .i64 vn, .string (ofBs vs), .int .i64 place, .string (ofBs head), .pointer fp, .slice xo xn xc], .int .i64 0]) (by simp [results, Tryz.results209, go_sem, z0, z1, z2, z3, z4, z5, z6, z7, z8, z9, z10]) rfl ⟨set11_below B2 (by omega) _ _ _ _ _ _ _ _ _ _ _, .inr ⟨x, _, HO.out, rfl, ?_⟩⟩
    exact HX.out.bounded.move (fun g hg => set11_other _ _ _ _ _ _ _ _ _ _ _ _ _ _ (by have := hg.1; simp only [World.size_alloc] at this; omega)) (fun g hg => by have := hg.1; simp only [World.size_alloc] at this; omega)

set_option maxHeartbeats 4000000 in
set_option maxRecDepth 100000 in
theorem expr_col (atoi : Bs → Int) (ps : List Int) (fns : List Fn) (FB : List Nat) (w : World) (po : Option Addr) (pn pc : Nat) (fo : Option Addr) (fnn fc : Nat) (tx : Bs) (tro : Option Addr) (tn tc : Nat) (T : Tr) (HE : Hid (typS atoi ps fns T = .error 2)) :
    Calls Tryz.prog 209 #[.agg #[.slice none 0 0, .slice po pn pc, .slice fo fnn fc], .agg #[.int .i64 6, .string (ofBs tx), .bool false, .slice tro tn tc]] w fun e w' => Typd w FB (typS atoi ps fns T) e w' := by
  have HC := column0_any (((w.alloc (.cells #[.slice none 0 0, .slice po pn pc, .slice fo fnn fc] 206)).alloc (.cells #[.int .i64 6, .string (ofBs tx), .bool false, .slice tro tn tc] 236)).alloc ex0) FB po pn pc fo fnn fc tx
  go_enter Tryz.func209, Tryz.ntmps209
  go_wp2_with (go_at_call 290; refine HC.mono ?_)
  rintro e w2 ⟨hb2, hres⟩
  obtain ⟨hS2, hT2, hR2, B2, hs2⟩ := res_box3 hb2
  obtain ⟨⟨z0, z1, z2, z3, z4, z5, z6, z7, z8, z9, z10⟩, g0, g1, g2, g3, g4, g5, g6, g7, g8, g9, g10⟩ := cells11 hR2
  rcases hres with ⟨n2, ho, hn2, rfl⟩ | ⟨x, c5, ho, rfl, hx⟩
  · have HO : Hid (typS atoi ps fns T = .error n2) := by rw [Hid, HE.out]; exact ho
    clear HE ho hS2 hT2 hR2 hb2
    go_wp2_with fail
    exact bodyPost_ret (v := .tuple #[.agg #[.int .i64 0, .int .i64 0, .int .i64 0, .bool false, .int .i64 0, .int .i64 0, .string ⟨#[]⟩, .int .i64 0, .string ⟨#[]⟩, .pointer none, .slice none 0 0], .int .i64 n2]) (by simp [results, Tryz.results209, go_sem, z0, z1, z2, z3, z4, z5, z6, z7, z8, z9, z10]) rfl ⟨set11_below B2 (by omega) _ _ _ _ _ _ _ _ _ _ _, .inl ⟨n2, HO.out, hn2, rfl⟩⟩
  · have HO : Hid (typS atoi ps fns T = .ok x) := by rw [Hid, HE.out]; exact ho
    obtain ⟨sort, ty, size, quiet, vk, vn, vs, place, head, fi, xops, fp, xo, xn, xc, xcs, hxe, hxc, -, -, -, -, -⟩ := hx.inv
    have hc5 : c5 = #[.int .i64 sort, .int .i64 ty, .int .i64 size, .bool quiet, .int .i64 vk, .int .i64 vn, .string (ofBs vs), .int .i64 place, .string (ofBs head), .pointer fp, .slice xo xn xc] := by rw [← Array.toList_inj]; exact hxc
    subst hc5
    have HX : Hid _ := hx
    clear HE ho hS2 hT2 hR2 hxe hxc hx
    go_wp2_with fail
    refine bodyPost_ret (v := .tuple #[.agg #[.int .i64 sort, .int .i64 ty, .int .i64 size, .bool quiet, .int .i64 vk, .int .i64 vn, .string (ofBs vs), .int .i64 place, .string (ofBs head), .pointer fp, .slice xo xn xc], .int .i64 0]) (by simp [results, Tryz.results209, go_sem, z0, z1, z2, z3, z4, z5, z6, z7, z8, z9, z10]) rfl ⟨set11_below B2 (by omega) _ _ _ _ _ _ _ _ _ _ _, .inr ⟨x, _, HO.out, rfl, ?_⟩⟩
    exact HX.out.bounded.move (fun g hg => set11_other _ _ _ _ _ _ _ _ _ _ _ _ _ _ (by have := hg.1; simp only [World.size_alloc] at this; omega)) (fun g hg => by have := hg.1; simp only [World.size_alloc] at this; omega)

set_option maxHeartbeats 4000000 in
set_option maxRecDepth 100000 in
theorem expr_par (atoi : Bs → Int) (ps : List Int) (fns : List Fn) (FB : List Nat) (w : World) (po : Option Addr) (pn pc : Nat) (hp : IntsIn w (.slice po pn pc) ps) (fo : Option Addr) (fnn fc : Nat) (tx : Bs) (hl : parS tx = true) (tro : Option Addr) (tn tc : Nat) (T : Tr) (HE : Hid (typS atoi ps fns T = parT ps tx)) :
    Calls Tryz.prog 209 #[.agg #[.slice none 0 0, .slice po pn pc, .slice fo fnn fc], .agg #[.int .i64 7, .string (ofBs tx), .bool false, .slice tro tn tc]] w fun e w' => Typd w FB (typS atoi ps fns T) e w' := by
  have HC := parameter_any _ FB ps po pn pc (hp.keep (box3_below w (.cells #[.slice none 0 0, .slice po pn pc, .slice fo fnn fc] 206) (.cells #[.int .i64 7, .string (ofBs tx), .bool false, .slice tro tn tc] 236) ex0)) fo fnn fc tx hl
  obtain ⟨o, ho'⟩ : ∃ o, o = parT ps tx := ⟨_, rfl⟩
  rw [← ho'] at HC HE
  clear ho' hp
  go_enter Tryz.func209, Tryz.ntmps209
  go_wp2_with (go_at_call 291; refine HC.mono ?_)
  rintro e w2 ⟨hb2, hres⟩
  obtain ⟨hS2, hT2, hR2, B2, hs2⟩ := res_box3 hb2
  obtain ⟨⟨z0, z1, z2, z3, z4, z5, z6, z7, z8, z9, z10⟩, g0, g1, g2, g3, g4, g5, g6, g7, g8, g9, g10⟩ := cells11 hR2
  rcases hres with ⟨n2, ho, hn2, rfl⟩ | ⟨x, c5, ho, rfl, hx⟩
  · have HO : Hid (typS atoi ps fns T = .error n2) := by rw [Hid, HE.out]; exact ho
    clear HE ho hS2 hT2 hR2 hb2
    go_wp2_with fail
    exact bodyPost_ret (v := .tuple #[.agg #[.int .i64 0, .int .i64 0, .int .i64 0, .bool false, .int .i64 0, .int .i64 0, .string ⟨#[]⟩, .int .i64 0, .string ⟨#[]⟩, .pointer none, .slice none 0 0], .int .i64 n2]) (by simp [results, Tryz.results209, go_sem, z0, z1, z2, z3, z4, z5, z6, z7, z8, z9, z10]) rfl ⟨set11_below B2 (by omega) _ _ _ _ _ _ _ _ _ _ _, .inl ⟨n2, HO.out, hn2, rfl⟩⟩
  · have HO : Hid (typS atoi ps fns T = .ok x) := by rw [Hid, HE.out]; exact ho
    obtain ⟨sort, ty, size, quiet, vk, vn, vs, place, head, fi, xops, fp, xo, xn, xc, xcs, hxe, hxc, -, -, -, -, -⟩ := hx.inv
    have hc5 : c5 = #[.int .i64 sort, .int .i64 ty, .int .i64 size, .bool quiet, .int .i64 vk, .int .i64 vn, .string (ofBs vs), .int .i64 place, .string (ofBs head), .pointer fp, .slice xo xn xc] := by rw [← Array.toList_inj]; exact hxc
    subst hc5
    have HX : Hid _ := hx
    clear HE ho hS2 hT2 hR2 hxe hxc hx
    go_wp2_with fail
    refine bodyPost_ret (v := .tuple #[.agg #[.int .i64 sort, .int .i64 ty, .int .i64 size, .bool quiet, .int .i64 vk, .int .i64 vn, .string (ofBs vs), .int .i64 place, .string (ofBs head), .pointer fp, .slice xo xn xc], .int .i64 0]) (by simp [results, Tryz.results209, go_sem, z0, z1, z2, z3, z4, z5, z6, z7, z8, z9, z10]) rfl ⟨set11_below B2 (by omega) _ _ _ _ _ _ _ _ _ _ _, .inr ⟨x, _, HO.out, rfl, ?_⟩⟩
    exact HX.out.bounded.move (fun g hg => set11_other _ _ _ _ _ _ _ _ _ _ _ _ _ _ (by have := hg.1; simp only [World.size_alloc] at this; omega)) (fun g hg => by have := hg.1; simp only [World.size_alloc] at this; omega)

set_option maxHeartbeats 4000000 in
set_option maxRecDepth 100000 in
theorem expr_single (atoi : Bs → Int) (ps : List Int) (fns : List Fn) (FB : List Nat) (w : World) (po : Option Addr) (pn pc : Nat) (fo : Option Addr) (fnn fc : Nat) (k : Int) (tx : Bs) (hk6 : k ≠ 6) (hk7 : k ≠ 7) (hT : TokOK atoi k tx) (tro : Option Addr) (tn tc : Nat) (T : Tr) (HE : Hid (typS atoi ps fns T = .ok (singleS atoi k tx))) :
    Calls Tryz.prog 209 #[.agg #[.slice none 0 0, .slice po pn pc, .slice fo fnn fc], .agg #[.int .i64 k, .string (ofBs tx), .bool false, .slice tro tn tc]] w fun e w' => Typd w FB (typS atoi ps fns T) e w' := by
  have HC := single_any atoi k tx (((w.alloc (.cells #[.slice none 0 0, .slice po pn pc, .slice fo fnn fc] 206)).alloc (.cells #[.int .i64 k, .string (ofBs tx), .bool false, .slice tro tn tc] 236)).alloc ex0) FB hT.1 hT.2.1
  have h6 : (k == 6) = false := by simpa using hk6
  have h7 : (k == 7) = false := by simpa using hk7
  obtain ⟨x, hxx⟩ : ∃ x, x = singleS atoi k tx := ⟨_, rfl⟩
  rw [← hxx] at HC HE
  clear hxx hT hk6 hk7
  go_enter Tryz.func209, Tryz.ntmps209
  go_wp2_with (go_at_call 292; refine HC.mono ?_)
  rintro e w2 ⟨hb2, c5, rfl, hx⟩
  obtain ⟨hS2, hT2, hR2, B2, hs2⟩ := res_box3 hb2
  obtain ⟨⟨z0, z1, z2, z3, z4, z5, z6, z7, z8, z9, z10⟩, g0, g1, g2, g3, g4, g5, g6, g7, g8, g9, g10⟩ := cells11 hR2
  obtain ⟨sort, ty, size, quiet, vk, vn, vs, place, head, fi, xops, fp, xo, xn, xc, xcs, hxe, hxc, -, -, -, -, -⟩ := hx.inv
  have hc5 : c5 = #[.int .i64 sort, .int .i64 ty, .int .i64 size, .bool quiet, .int .i64 vk, .int .i64 vn, .string (ofBs vs), .int .i64 place, .string (ofBs head), .pointer fp, .slice xo xn xc] := by rw [← Array.toList_inj]; exact hxc
  subst hc5
  have HX : Hid _ := hx
  clear hS2 hT2 hR2 hxe hxc hx
  go_wp2_with fail
  refine bodyPost_ret (v := .tuple #[.agg #[.int .i64 sort, .int .i64 ty, .int .i64 size, .bool quiet, .int .i64 vk, .int .i64 vn, .string (ofBs vs), .int .i64 place, .string (ofBs head), .pointer fp, .slice xo xn xc], .int .i64 0]) (by simp [results, Tryz.results209, go_sem, z0, z1, z2, z3, z4, z5, z6, z7, z8, z9, z10]) rfl ⟨set11_below B2 (by omega) _ _ _ _ _ _ _ _ _ _ _, .inr ⟨x, _, HE.out, rfl, ?_⟩⟩
  exact HX.out.bounded.move (fun g hg => set11_other _ _ _ _ _ _ _ _ _ _ _ _ _ _ (by have := hg.1; simp only [World.size_alloc] at this; omega)) (fun g hg => by have := hg.1; simp only [World.size_alloc] at this; omega)

theorem expr_any (atoi : Bs → Int) (N : Nat) : ExprSpec atoi (TokOK atoi) N := by
  induction N using Nat.strongRecOn with
  | ind N ih =>
    intro t w FB ps fns po pn pc fo fnn fc c hsz hnod hfit hT hsc hf
    obtain ⟨k, tx, br, ops, ao, n, cap, cs, rfl, hc, hn, hS, hown, hv⟩ := hT.inv
    obtain ⟨l⟩ := c
    simp only at hc
    subst hc
    cases hfit with
    | mk hP hfs =>
      cases br with
      | true =>
        have hz : 0 < SizeOf.sizeOf (Tr.mk k tx true ops) := by simp only [Tr.mk.sizeOf_spec]; omega
        have hin : ∀ t ∈ ops, SizeOf.sizeOf t ≤ SizeOf.sizeOf (Tr.mk k tx true ops) - 1 := by
          intro t ht
          have := List.sizeOf_lt_of_mem ht
          simp only [Tr.mk.sizeOf_spec]; omega
        simp only [nodT] at hnod
        refine expr_call atoi ps fns FB w po pn pc fo fnn fc k tx ao n cap _ _ rfl fun x hx => ?_
        exact bracketT_any atoi _ _ (ih _ (by omega)) k tx ops hin (by omega) hfs x FB ps fns po pn pc fo fnn fc ao n cap hn cs (hS.bounded.move (fun g hg => hx.block g hg.2) (fun _ _ => trivial)) (owns_keep hown fun g hg => hx.block g (hown.lt g hg).2) (hsc.keep hx) hf
      | false =>
        have hP := hP rfl
        by_cases h6 : k = 6
        · subst h6
          exact expr_col atoi ps fns FB w po pn pc fo fnn fc tx ao n cap _ (by rw [Hid, typS, if_neg Bool.false_ne_true, if_pos rfl])
        · by_cases h7 : k = 7
          · subst h7
            exact expr_par atoi ps fns FB w po pn pc hsc.ps fo fnn fc tx (hP.2.2 rfl) ao n cap _ (by rw [Hid, typS, if_neg Bool.false_ne_true, if_neg (by omega), if_pos rfl])
          · exact expr_single atoi ps fns FB w po pn pc fo fnn fc k tx h6 h7 hP ao n cap _ (by rw [Hid, typS, if_neg Bool.false_ne_true, if_neg h6, if_neg h7])
end Go.Proofs.YtilfjpmeededmaaGreatDoor

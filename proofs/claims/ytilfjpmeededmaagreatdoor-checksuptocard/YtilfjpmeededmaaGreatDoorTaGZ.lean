import Derived.Test.YtilfjpmeededmaaGreatDoorTaEZ
set_option linter.unusedVariables false
set_option linter.unusedSimpArgs false
namespace Go.Proofs.YtilfjpmeededmaaGreatDoor
open Go.RowKit
theorem set17_block {x : World} {b : Nat} {b0 b1 b2 b3 b4 b5 b6 b7 b8 b9 b10 b11 b12 b13 b14 b15 b16 : Value} {T : TypeId} {fz : Nat × Nat} (h : x.heap[b]? = some (.cells #[b0, b1, b2, b3, b4, b5, b6, b7, b8, b9, b10, b11, b12, b13, b14, b15, b16] T fz)) (a0 a1 a2 a3 a4 a5 a6 a7 a8 a9 a10 a11 a12 a13 a14 a15 a16 : Value) : (((((((((((((((((x.setCell ⟨b, 0, none⟩ a0).setCell ⟨b, 1, none⟩ a1).setCell ⟨b, 2, none⟩ a2).setCell ⟨b, 3, none⟩ a3).setCell ⟨b, 4, none⟩ a4).setCell ⟨b, 5, none⟩ a5).setCell ⟨b, 6, none⟩ a6).setCell ⟨b, 7, none⟩ a7).setCell ⟨b, 8, none⟩ a8).setCell ⟨b, 9, none⟩ a9).setCell ⟨b, 10, none⟩ a10).setCell ⟨b, 11, none⟩ a11).setCell ⟨b, 12, none⟩ a12).setCell ⟨b, 13, none⟩ a13).setCell ⟨b, 14, none⟩ a14).setCell ⟨b, 15, none⟩ a15).setCell ⟨b, 16, none⟩ a16).heap[b]? = some (.cells #[a0, a1, a2, a3, a4, a5, a6, a7, a8, a9, a10, a11, a12, a13, a14, a15, a16] T fz) := by
  simp [World.setCell, Array.getElem?_modify, h]
set_option maxHeartbeats 4000000 in
set_option maxRecDepth 100000 in
theorem baseTable_none (w : World) (FB : List Nat) (ts : List (TabT × Ex)) (fo : Option Addr) (fnn fc : Nat) (to' : Option Addr) (tn tc : Nat) (h : TabsIn w FB (.slice to' tn tc) ts) (l : Bs) (h0 : tabIx ts l = none) :
    Calls Tryz.prog 62 #[.agg #[.slice fo fnn fc, .slice to' tn tc], .string (ofBs l)] w fun e w' => Below w.heap.size w w' ∧ ((tabIx ts l = none ∧ e = .returned (.tuple #[.agg #[.string ⟨#[]⟩, .slice none 0 0, .slice none 0 0, .int .i64 0, .string ⟨#[]⟩, .slice none 0 0, .int .i64 0, .int .i64 0, .int .i64 0, .bool false, .int .i64 0, .int .i64 0, .string ⟨#[]⟩, .int .i64 0, .string ⟨#[]⟩, .pointer none, .slice none 0 0], .int .i64 2])) ∨ ∃ (i : Nat) (te : TabT × Ex) (r : TbRaw), tabIx ts l = some i ∧ ts[i]? = some te ∧ e = .returned (.tuple #[.agg #[.string (ofBs r.name), .slice r.co r.cn r.cc, .slice r.ro r.rn r.rc, .int .i64 r.count, .string (ofBs r.policy), .slice r.uo r.un r.uc, .int .i64 r.sort, .int .i64 r.ty, .int .i64 r.size, .bool r.quiet, .int .i64 r.vk, .int .i64 r.vn, .string (ofBs r.vs), .int .i64 r.place, .string (ofBs r.head), .pointer r.fp, .slice r.xo r.xn r.xc], .int .i64 0]) ∧ TabRow w' FB r te.1 te.2) := by
  have hb3 : Below w.heap.size w (((w.alloc (.cells #[.slice fo fnn fc, .slice to' tn tc] 112)).alloc (.cells #[.string (ofBs l)] 9)).alloc (.cells #[.string ⟨#[]⟩, .slice none 0 0, .slice none 0 0, .int .i64 0, .string ⟨#[]⟩, .slice none 0 0, .int .i64 0, .int .i64 0, .int .i64 0, .bool false, .int .i64 0, .int .i64 0, .string ⟨#[]⟩, .int .i64 0, .string ⟨#[]⟩, .pointer none, .slice none 0 0] 155)) := (col_box (Below.refl _ _)).1
  have hq : (((w.alloc (.cells #[.slice fo fnn fc, .slice to' tn tc] 112)).alloc (.cells #[.string (ofBs l)] 9)).alloc (.cells #[.string ⟨#[]⟩, .slice none 0 0, .slice none 0 0, .int .i64 0, .string ⟨#[]⟩, .slice none 0 0, .int .i64 0, .int .i64 0, .int .i64 0, .bool false, .int .i64 0, .int .i64 0, .string ⟨#[]⟩, .int .i64 0, .string ⟨#[]⟩, .pointer none, .slice none 0 0] 155)).cell? ⟨w.heap.size + 1, 0, none⟩ = some (.string (ofBs l)) := by
    have := heap_alloc_new (w.alloc (.cells #[.slice fo fnn fc, .slice to' tn tc] 112)) (.cells #[.string (ofBs l)] 9)
    rw [World.size_alloc] at this
    exact (blk_at ((Below.heap_alloc _ _ _ (by simp only [World.size_alloc]; omega)).trans this)).trans rfl
  have HC := tabsIndexFunc_any _ FB _ ts (w.heap.size + 1) l (h.keep hb3) (by simp only [World.size_alloc]; omega) hq
  have h' := h
  obtain ⟨ao, cap, he, hl, hz⟩ := h
  cases he
  go_enter Tryz.func62, Tryz.ntmps62
  go_wp2_with (go_at_call 101; refine HC.mono ?_)
  clear HC hq
  rintro e w2 ⟨⟨k, rfl, ⟨hN, rfl⟩ | ⟨i, hN, rfl, hlt⟩⟩, hb2⟩
  · have HO : Hid (tabIx ts l = none) := hN
    obtain ⟨B2, ⟨_, hR⟩, l0, l2⟩ := col_box hb2
    obtain ⟨⟨z0, z1, z2, z3, z4, z5, z6, z7, z8, z9, z10, z11, z12, z13, z14, z15, z16⟩, g0, g1, g2, g3, g4, g5, g6, g7, g8, g9, g10, g11, g12, g13, g14, g15, g16⟩ := cells17 hR
    clear hN hb2 hz hR h'
    go_wp2_with fail
    refine bodyPost_ret (v := .tuple #[.agg #[.string ⟨#[]⟩, .slice none 0 0, .slice none 0 0, .int .i64 0, .string ⟨#[]⟩, .slice none 0 0, .int .i64 0, .int .i64 0, .int .i64 0, .bool false, .int .i64 0, .int .i64 0, .string ⟨#[]⟩, .int .i64 0, .string ⟨#[]⟩, .pointer none, .slice none 0 0], .int .i64 2]) (by simp [results, Tryz.results62, go_sem, z0, z1, z2, z3, z4, z5, z6, z7, z8, z9, z10, z11, z12, z13, z14, z15, z16]) rfl ⟨?_, .inl ⟨HO.out, rfl⟩⟩
    exact set17_below B2 (by omega) _ _ _ _ _ _ _ _ _ _ _ _ _ _ _ _ _
  · rw [h0] at hN; cases hN
end Go.Proofs.YtilfjpmeededmaaGreatDoor

namespace Go.Proofs.YtilfjpmeededmaaGreatDoor
open Go.RowKit
theorem store_step {P : Program} {x : World} {b j : Nat} {arr : Array Value} {T : TypeId} {v : Value} (h : x.heap[b]? = some (.cells arr T (0, 0))) (hj : j < arr.size) (hv : v.oneCell' = true) : (store ⟨b, j, none⟩ v).run P x = .ok () (x.setCell ⟨b, j, none⟩ v) ∧ (x.setCell ⟨b, j, none⟩ v).heap[b]? = some (.cells (arr.set! j v) T (0, 0)) := by
  have hc : x.cell? ⟨b, j, none⟩ = some arr[j] := by simp [World.cell?, h, hj]
  have hf : x.frozen? ⟨b, j, none⟩ = false := by simp [World.frozen?, h]
  refine ⟨?_, ?_⟩
  · rw [run_store _ _ _ _ _ hv, hc]; simp [hf]
  · simp [World.setCell, Array.getElem?_modify, h]
set_option maxHeartbeats 4000000 in
set_option maxRecDepth 100000 in
theorem baseTable_some (w : World) (FB : List Nat) (ts : List (TabT × Ex)) (fo : Option Addr) (fnn fc : Nat) (to' : Option Addr) (tn tc : Nat) (h : TabsIn w FB (.slice to' tn tc) ts) (l : Bs) (h0 : tabIx ts l ≠ none) :
    Calls Tryz.prog 62 #[.agg #[.slice fo fnn fc, .slice to' tn tc], .string (ofBs l)] w fun e w' => Below w.heap.size w w' ∧ ((tabIx ts l = none ∧ e = .returned (.tuple #[.agg #[.string ⟨#[]⟩, .slice none 0 0, .slice none 0 0, .int .i64 0, .string ⟨#[]⟩, .slice none 0 0, .int .i64 0, .int .i64 0, .int .i64 0, .bool false, .int .i64 0, .int .i64 0, .string ⟨#[]⟩, .int .i64 0, .string ⟨#[]⟩, .pointer none, .slice none 0 0], .int .i64 2])) ∨ ∃ (i : Nat) (te : TabT × Ex) (r : TbRaw), tabIx ts l = some i ∧ ts[i]? = some te ∧ e = .returned (.tuple #[.agg #[.string (ofBs r.name), .slice r.co r.cn r.cc, .slice r.ro r.rn r.rc, .int .i64 r.count, .string (ofBs r.policy), .slice r.uo r.un r.uc, .int .i64 r.sort, .int .i64 r.ty, .int .i64 r.size, .bool r.quiet, .int .i64 r.vk, .int .i64 r.vn, .string (ofBs r.vs), .int .i64 r.place, .string (ofBs r.head), .pointer r.fp, .slice r.xo r.xn r.xc], .int .i64 0]) ∧ TabRow w' FB r te.1 te.2) := by
  have hb3 : Below w.heap.size w (((w.alloc (.cells #[.slice fo fnn fc, .slice to' tn tc] 112)).alloc (.cells #[.string (ofBs l)] 9)).alloc (.cells #[.string ⟨#[]⟩, .slice none 0 0, .slice none 0 0, .int .i64 0, .string ⟨#[]⟩, .slice none 0 0, .int .i64 0, .int .i64 0, .int .i64 0, .bool false, .int .i64 0, .int .i64 0, .string ⟨#[]⟩, .int .i64 0, .string ⟨#[]⟩, .pointer none, .slice none 0 0] 155)) := (col_box (Below.refl _ _)).1
  have hq : (((w.alloc (.cells #[.slice fo fnn fc, .slice to' tn tc] 112)).alloc (.cells #[.string (ofBs l)] 9)).alloc (.cells #[.string ⟨#[]⟩, .slice none 0 0, .slice none 0 0, .int .i64 0, .string ⟨#[]⟩, .slice none 0 0, .int .i64 0, .int .i64 0, .int .i64 0, .bool false, .int .i64 0, .int .i64 0, .string ⟨#[]⟩, .int .i64 0, .string ⟨#[]⟩, .pointer none, .slice none 0 0] 155)).cell? ⟨w.heap.size + 1, 0, none⟩ = some (.string (ofBs l)) := by
    have := heap_alloc_new (w.alloc (.cells #[.slice fo fnn fc, .slice to' tn tc] 112)) (.cells #[.string (ofBs l)] 9)
    rw [World.size_alloc] at this
    exact (blk_at ((Below.heap_alloc _ _ _ (by simp only [World.size_alloc]; omega)).trans this)).trans rfl
  have HC := tabsIndexFunc_any _ FB _ ts (w.heap.size + 1) l (h.keep hb3) (by simp only [World.size_alloc]; omega) hq
  have h' := h
  obtain ⟨ao, cap, he, hl, hz⟩ := h
  cases he
  go_enter Tryz.func62, Tryz.ntmps62
  go_wp2_with (go_at_call 101; refine HC.mono ?_)
  clear HC hq
  rintro e w2 ⟨⟨k, rfl, ⟨hN, rfl⟩ | ⟨i, hN, rfl, hlt⟩⟩, hb2⟩
  · exact absurd hN h0
  · obtain ⟨b, rfl, hb, hc⟩ : ∃ b, to' = some ⟨b, 0, none⟩ ∧ b < w.heap.size ∧ ∀ (i : Nat) (te : TabT × Ex), ts[i]? = some te → ∃ r : TbRaw, Row17 w b i r ∧ TabRow w FB r te.1 te.2 := by
      rcases hz with h | h
      · subst h; simp at hlt
      · exact h
    have hget := List.getElem?_eq_getElem hlt
    obtain ⟨r, hrow, hr⟩ := hc i ts[i] hget
    have HO : Hid (tabIx ts l = some i ∧ ts[i]? = some ts[i]) := ⟨hN, hget⟩
    obtain ⟨B2, ⟨hS, hR⟩, l0, l2⟩ := col_box hb2
    obtain ⟨q0, q1, q2, q3, q4, q5, q6, q7, q8, q9, q10, q11, q12, q13, q14, q15, q16⟩ := hrow.keep fun o => B2.cell (p := ⟨b, o, none⟩) hb
    have s1 : w2.cell? ⟨w.heap.size, 1, none⟩ = some (.slice (some ⟨b, 0, none⟩) ts.length tc) := (blk_at hS).trans rfl
    obtain ⟨⟨z0, z1, z2, z3, z4, z5, z6, z7, z8, z9, z10, z11, z12, z13, z14, z15, z16⟩, g0, g1, g2, g3, g4, g5, g6, g7, g8, g9, g10, g11, g12, g13, g14, g15, g16⟩ := cells17 hR
    have HX : Hid (TabRow w FB r ts[i].1 ts[i].2) := hr
    have hR2 := hR
    obtain ⟨a0, E0⟩ : ∃ a, Hid (a = Value.string (ofBs r.name)) := ⟨_, rfl⟩
    rw [← E0.out] at q0
    have o0 : a0.oneCell' = true := by rw [E0.out]; rfl
    obtain ⟨a1, E1⟩ : ∃ a, Hid (a = Value.slice r.co r.cn r.cc) := ⟨_, rfl⟩
    rw [← E1.out] at q1
    have o1 : a1.oneCell' = true := by rw [E1.out]; rfl
    obtain ⟨a2, E2⟩ : ∃ a, Hid (a = Value.slice r.ro r.rn r.rc) := ⟨_, rfl⟩
    rw [← E2.out] at q2
    have o2 : a2.oneCell' = true := by rw [E2.out]; rfl
    obtain ⟨a3, E3⟩ : ∃ a, Hid (a = Value.int .i64 r.count) := ⟨_, rfl⟩
    rw [← E3.out] at q3
    have o3 : a3.oneCell' = true := by rw [E3.out]; rfl
    obtain ⟨a4, E4⟩ : ∃ a, Hid (a = Value.string (ofBs r.policy)) := ⟨_, rfl⟩
    rw [← E4.out] at q4
    have o4 : a4.oneCell' = true := by rw [E4.out]; rfl
    obtain ⟨a5, E5⟩ : ∃ a, Hid (a = Value.slice r.uo r.un r.uc) := ⟨_, rfl⟩
    rw [← E5.out] at q5
    have o5 : a5.oneCell' = true := by rw [E5.out]; rfl
    obtain ⟨a6, E6⟩ : ∃ a, Hid (a = Value.int .i64 r.sort) := ⟨_, rfl⟩
    rw [← E6.out] at q6
    have o6 : a6.oneCell' = true := by rw [E6.out]; rfl
    obtain ⟨a7, E7⟩ : ∃ a, Hid (a = Value.int .i64 r.ty) := ⟨_, rfl⟩
    rw [← E7.out] at q7
    have o7 : a7.oneCell' = true := by rw [E7.out]; rfl
    obtain ⟨a8, E8⟩ : ∃ a, Hid (a = Value.int .i64 r.size) := ⟨_, rfl⟩
    rw [← E8.out] at q8
    have o8 : a8.oneCell' = true := by rw [E8.out]; rfl
    obtain ⟨a9, E9⟩ : ∃ a, Hid (a = Value.bool r.quiet) := ⟨_, rfl⟩
    rw [← E9.out] at q9
    have o9 : a9.oneCell' = true := by rw [E9.out]; rfl
    obtain ⟨a10, E10⟩ : ∃ a, Hid (a = Value.int .i64 r.vk) := ⟨_, rfl⟩
    rw [← E10.out] at q10
    have o10 : a10.oneCell' = true := by rw [E10.out]; rfl
    obtain ⟨a11, E11⟩ : ∃ a, Hid (a = Value.int .i64 r.vn) := ⟨_, rfl⟩
    rw [← E11.out] at q11
    have o11 : a11.oneCell' = true := by rw [E11.out]; rfl
    obtain ⟨a12, E12⟩ : ∃ a, Hid (a = Value.string (ofBs r.vs)) := ⟨_, rfl⟩
    rw [← E12.out] at q12
    have o12 : a12.oneCell' = true := by rw [E12.out]; rfl
    obtain ⟨a13, E13⟩ : ∃ a, Hid (a = Value.int .i64 r.place) := ⟨_, rfl⟩
    rw [← E13.out] at q13
    have o13 : a13.oneCell' = true := by rw [E13.out]; rfl
    obtain ⟨a14, E14⟩ : ∃ a, Hid (a = Value.string (ofBs r.head)) := ⟨_, rfl⟩
    rw [← E14.out] at q14
    have o14 : a14.oneCell' = true := by rw [E14.out]; rfl
    obtain ⟨a15, E15⟩ : ∃ a, Hid (a = Value.pointer r.fp) := ⟨_, rfl⟩
    rw [← E15.out] at q15
    have o15 : a15.oneCell' = true := by rw [E15.out]; rfl
    obtain ⟨a16, E16⟩ : ∃ a, Hid (a = Value.slice r.xo r.xn r.xc) := ⟨_, rfl⟩
    rw [← E16.out] at q16
    have o16 : a16.oneCell' = true := by rw [E16.out]; rfl
    clear hN hb2 hz hR hS hc hget hr hrow h'
    go_wp2_with fail
    have m : w2.heap[w.heap.size + 1 + 1]? = _ := hR2
    obtain ⟨r0', m0⟩ := store_step (P := Tryz.prog) (j := 0) m (by simp) o0
    obtain ⟨r1', m1⟩ := store_step (P := Tryz.prog) (j := 1) m0 (by simp) o1
    obtain ⟨r2', m2⟩ := store_step (P := Tryz.prog) (j := 2) m1 (by simp) o2
    obtain ⟨r3', m3⟩ := store_step (P := Tryz.prog) (j := 3) m2 (by simp) o3
    obtain ⟨r4', m4⟩ := store_step (P := Tryz.prog) (j := 4) m3 (by simp) o4
    obtain ⟨r5', m5⟩ := store_step (P := Tryz.prog) (j := 5) m4 (by simp) o5
    obtain ⟨r6', m6⟩ := store_step (P := Tryz.prog) (j := 6) m5 (by simp) o6
    obtain ⟨r7', m7⟩ := store_step (P := Tryz.prog) (j := 7) m6 (by simp) o7
    obtain ⟨r8', m8⟩ := store_step (P := Tryz.prog) (j := 8) m7 (by simp) o8
    obtain ⟨r9', m9⟩ := store_step (P := Tryz.prog) (j := 9) m8 (by simp) o9
    obtain ⟨r10', m10⟩ := store_step (P := Tryz.prog) (j := 10) m9 (by simp) o10
    obtain ⟨r11', m11⟩ := store_step (P := Tryz.prog) (j := 11) m10 (by simp) o11
    obtain ⟨r12', m12⟩ := store_step (P := Tryz.prog) (j := 12) m11 (by simp) o12
    obtain ⟨r13', m13⟩ := store_step (P := Tryz.prog) (j := 13) m12 (by simp) o13
    obtain ⟨r14', m14⟩ := store_step (P := Tryz.prog) (j := 14) m13 (by simp) o14
    obtain ⟨r15', m15⟩ := store_step (P := Tryz.prog) (j := 15) m14 (by simp) o15
    obtain ⟨r16', m16⟩ := store_step (P := Tryz.prog) (j := 16) m15 (by simp) o16
    clear m0 m1 m2 m3 m4 m5 m6 m7 m8 m9 m10 m11 m12 m13 m14 m15 m16
    simp only [r0', r1', r2', r3', r4', r5', r6', r7', r8', r9', r10', r11', r12', r13', r14', r15', r16', Result.andThen]
    clear r0' r1' r2' r3' r4' r5' r6' r7' r8' r9' r10' r11' r12' r13' r14' r15' r16'
    go_wp2_with fail
    have BF := set17_below B2 (b := w.heap.size + 2) (by omega) a0 a1 a2 a3 a4 a5 a6 a7 a8 a9 a10 a11 a12 a13 a14 a15 a16
    have KF := set17_block hR2 a0 a1 a2 a3 a4 a5 a6 a7 a8 a9 a10 a11 a12 a13 a14 a15 a16
    refine (show ∀ W' : World, W' = _ → bodyPost Tryz.prog Tryz.f62 _ Exit.ret _ W' from fun W' hW' => ?_) _ rfl
    replace BF : Below w.heap.size w W' := by rw [hW']; exact BF
    replace KF : W'.heap[w.heap.size + 2]? = some (.cells #[a0, a1, a2, a3, a4, a5, a6, a7, a8, a9, a10, a11, a12, a13, a14, a15, a16] 155 (0, 0)) := by rw [hW']; exact KF
    clear hW'
    obtain ⟨⟨y0, y1, y2, y3, y4, y5, y6, y7, y8, y9, y10, y11, y12, y13, y14, y15, y16⟩, _⟩ := cells17 KF
    refine bodyPost_ret (v := .tuple #[.agg #[a0, a1, a2, a3, a4, a5, a6, a7, a8, a9, a10, a11, a12, a13, a14, a15, a16], .int .i64 0]) (by simp [results, Tryz.results62, go_sem, y0, y1, y2, y3, y4, y5, y6, y7, y8, y9, y10, y11, y12, y13, y14, y15, y16]) rfl ?_
    exact ⟨BF, .inr ⟨i, ts[i], r, HO.out.1, HO.out.2, by rw [E0.out, E1.out, E2.out, E3.out, E4.out, E5.out, E6.out, E7.out, E8.out, E9.out, E10.out, E11.out, E12.out, E13.out, E14.out, E15.out, E16.out], HX.out.keep BF⟩⟩
theorem baseTable_any (w : World) (FB : List Nat) (ts : List (TabT × Ex)) (fo : Option Addr) (fnn fc : Nat) (to' : Option Addr) (tn tc : Nat) (h : TabsIn w FB (.slice to' tn tc) ts) (l : Bs) :
    Calls Tryz.prog 62 #[.agg #[.slice fo fnn fc, .slice to' tn tc], .string (ofBs l)] w fun e w' => Below w.heap.size w w' ∧ ((tabIx ts l = none ∧ e = .returned (.tuple #[.agg #[.string ⟨#[]⟩, .slice none 0 0, .slice none 0 0, .int .i64 0, .string ⟨#[]⟩, .slice none 0 0, .int .i64 0, .int .i64 0, .int .i64 0, .bool false, .int .i64 0, .int .i64 0, .string ⟨#[]⟩, .int .i64 0, .string ⟨#[]⟩, .pointer none, .slice none 0 0], .int .i64 2])) ∨ ∃ (i : Nat) (te : TabT × Ex) (r : TbRaw), tabIx ts l = some i ∧ ts[i]? = some te ∧ e = .returned (.tuple #[.agg #[.string (ofBs r.name), .slice r.co r.cn r.cc, .slice r.ro r.rn r.rc, .int .i64 r.count, .string (ofBs r.policy), .slice r.uo r.un r.uc, .int .i64 r.sort, .int .i64 r.ty, .int .i64 r.size, .bool r.quiet, .int .i64 r.vk, .int .i64 r.vn, .string (ofBs r.vs), .int .i64 r.place, .string (ofBs r.head), .pointer r.fp, .slice r.xo r.xn r.xc], .int .i64 0]) ∧ TabRow w' FB r te.1 te.2) := by
  by_cases h0 : tabIx ts l = none
  · exact baseTable_none w FB ts fo fnn fc to' tn tc h l h0
  · exact baseTable_some w FB ts fo fnn fc to' tn tc h l h0
end Go.Proofs.YtilfjpmeededmaaGreatDoor

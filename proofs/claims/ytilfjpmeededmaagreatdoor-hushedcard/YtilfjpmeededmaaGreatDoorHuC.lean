/- The arguments of the promise: each is nothing or of its type. -/
import Derived.Test.YtilfjpmeededmaaGreatDoorHuB
namespace Go.Proofs.YtilfjpmeededmaaGreatDoor
open Go.RowKit

def FitC (t : Int) (c : CellT) : Prop := fitsS c (typeB t) = true ∧ OkC t c
theorem fit_nil (t : Int) : FitC t nilC := ⟨by simp [fitsS, nilC, isCellS], ok_nil t⟩
theorem fit_num {z : Int} (h1 : 0 ≤ z) (h2 : z < 2000000001) : FitC 110 (1, z - 1000000000, []) := by
  refine ⟨?_, .inr rfl, by simp only; omega, by simp only; omega, by simp⟩
  have : inRangeS (z - 1000000000) = true := by simp only [inRangeS, Bool.and_eq_true, decide_eq_true_eq]; omega
  simp [fitsS, isCellS, this, typeB]
theorem fit_text {l : Bs} (h : l.length ≤ 30) : FitC 116 (2, 0, l) := by
  refine ⟨?_, .inr rfl, by simp, by simp, by simp only; omega⟩
  simp [fitsS, isCellS, typeB, h]
theorem fit_tru {z : Int} (h1 : 0 ≤ z) (h2 : z < 2) : FitC 98 (3, z, []) := by
  refine ⟨?_, .inr rfl, by simp only; omega, by simp only; omega, by simp⟩
  have : z = 0 ∨ z = 1 := by omega
  rcases this with rfl | rfl <;> rfl
set_option maxHeartbeats 2000000 in
set_option maxRecDepth 100000 in
theorem keepCell_any (k n : Int) (l : Bs) (t : Int) (w : World) (hk1 : -9223372036854775808 ≤ k) (hk2 : k ≤ 9223372036854775807) (hn1 : -9223372036854775808 ≤ n) (hn2 : n ≤ 9223372036854775807) (ht : isTy t) :
    Calls Tryz.prog 18 #[.agg #[.int .i64 k, .int .i64 n, .string (ofBs l)], .int .u8 t] w fun e w' => (∃ c : CellT, FitC t c ∧ e = .returned (.agg #[.int .i64 c.1, .int .i64 c.2.1, .string (ofBs c.2.2)])) ∧ Below w.heap.size w w' := by
  have hbx := below_box2 w (.cells #[.int .i64 k, .int .i64 n, .string (ofBs l)] 49) (cellO 0 0 ⟨#[]⟩)
  have HP := fun (x : World) => pick_any k 5 x (by decide) (by decide) hk1 hk2
  obtain ⟨p, hp⟩ : ∃ p, p = pickR k 5 := ⟨_, rfl⟩
  rw [← hp] at HP
  clear hp
  by_cases h0 : p = 0
  · subst h0
    go_enter Tryz.func18, Tryz.ntmps18
    go_wp2_with (go_at_call 15; refine (HP _).mono ?_; rintro e w2 ⟨rfl, rfl⟩)
    refine bodyPost_ret (v := .agg #[.int .i64 0, .int .i64 0, .string ⟨#[]⟩]) (by simp [results, Tryz.results18, go_sem]) rfl ⟨⟨nilC, fit_nil t, rfl⟩, ?_⟩
    exact below_box2 w _ _
  · have h0' : (p == 0) = false := by simpa using h0
    rcases ht with rfl | rfl | rfl
    · have HQ := fun (x : World) => pick_any n 2000000001 x (by decide) (by decide) hn1 hn2
      obtain ⟨z1, z2⟩ := pickR_bd n 2000000001 (by decide)
      obtain ⟨z, hz⟩ : ∃ z, z = pickR n 2000000001 := ⟨_, rfl⟩
      rw [← hz] at HQ z1 z2
      clear hz
      go_enter Tryz.func18, Tryz.ntmps18
      go_upto_region 5 with (go_at_call 15; refine (HP _).mono ?_; rintro e w2 ⟨rfl, rfl⟩)
      go_wp2_with (go_at_call 15; refine (HQ _).mono ?_; rintro e w2 ⟨rfl, rfl⟩)
      refine bodyPost_ret (v := .agg #[.int .i64 1, .int .i64 (z - 1000000000), .string ⟨#[]⟩]) (by simp [results, Tryz.results18, go_sem]) rfl ⟨⟨(1, z - 1000000000, []), fit_num z1 z2, rfl⟩, ?_⟩
      exact below_box2 w _ _
    · by_cases hl : 30 < l.length
      · have hsz : (ofBs l).size = l.length := ofBs_size l
        have hd : decide ((30 : Int) < ((ofBs l).size : Int)) = true := by rw [hsz]; simp; omega
        have hex : (ofBs l).extract 0 30 = ofBs (l.take 30) := by rw [ofBs_extract]; simp
        go_enter Tryz.func18, Tryz.ntmps18
        go_wp2_with (go_at_call 15; refine (HP _).mono ?_; rintro e w2 ⟨rfl, rfl⟩)
        refine bodyPost_ret (v := .agg #[.int .i64 2, .int .i64 0, .string (ofBs (l.take 30))]) (by simp [results, Tryz.results18, go_sem]) rfl ⟨⟨(2, 0, l.take 30), fit_text (by simp; omega), rfl⟩, ?_⟩
        exact below_box2 w _ _
      · have hsz : (ofBs l).size = l.length := ofBs_size l
        have hd : decide ((30 : Int) < ((ofBs l).size : Int)) = false := by rw [hsz]; simp; omega
        go_enter Tryz.func18, Tryz.ntmps18
        go_wp2_with (go_at_call 15; refine (HP _).mono ?_; rintro e w2 ⟨rfl, rfl⟩)
        refine bodyPost_ret (v := .agg #[.int .i64 2, .int .i64 0, .string (ofBs l)]) (by simp [results, Tryz.results18, go_sem]) rfl ⟨⟨(2, 0, l), fit_text (by omega), rfl⟩, ?_⟩
        exact below_box2 w _ _
    · have HQ := fun (x : World) => pick_any n 2 x (by decide) (by decide) hn1 hn2
      obtain ⟨z1, z2⟩ := pickR_bd n 2 (by decide)
      obtain ⟨z, hz⟩ : ∃ z, z = pickR n 2 := ⟨_, rfl⟩
      rw [← hz] at HQ z1 z2
      clear hz
      go_enter Tryz.func18, Tryz.ntmps18
      go_upto_region 11 with (go_at_call 15; refine (HP _).mono ?_; rintro e w2 ⟨rfl, rfl⟩)
      go_wp2_with (go_at_call 15; refine (HQ _).mono ?_; rintro e w2 ⟨rfl, rfl⟩)
      refine bodyPost_ret (v := .agg #[.int .i64 3, .int .i64 z, .string ⟨#[]⟩]) (by simp [results, Tryz.results18, go_sem]) rfl ⟨⟨(3, z, []), fit_tru z1 z2, rfl⟩, ?_⟩
      exact below_box2 w _ _
end Go.Proofs.YtilfjpmeededmaaGreatDoor

/- A script of which the Tidies are played. -/
import Derived.Test.YtilfjpmeededmaaGreatDoorLawS
namespace Go.Proofs.YtilfjpmeededmaaGreatDoor
open Go.RowKit

theorem worldIs_new (x : World) (g0 g1 g2 : Value) : WorldIs (x.alloc (.cells #[g0, g1, g2, .slice none 0 0, .slice none 0 0, .slice none 0 0, .slice none 0 0, .slice none 0 0] 100)) x.heap.size := ⟨g0, g1, g2, heap_alloc_new _ _⟩

set_option maxHeartbeats 8000000 in
set_option maxRecDepth 100000 in
theorem plays_tidy (w : World) (a0 a1 a2 ao : Option Addr) (l0 c0 l1 c1 l2 c2 n cap : Nat) (hn : n ≤ maxLen) (hops : n = 0 ∨ ∃ b off, ao = some ⟨b, off, none⟩ ∧ b < w.heap.size ∧ OpsAt w b off n) :
    Calls Tryz.prog 14 #[.agg #[.slice a0 l0 c0, .slice a1 l1 c1, .slice a2 l2 c2], .slice ao n cap, .int .i64 1, .int .i64 1] w fun e w' => e = .returned (.bool true) ∧ Below w.heap.size w w' := by
  unfold maxLen at hn
  go_enter Tryz.func14, Tryz.ntmps14
  go_wp2_with (first
    | (go_at_call 34; refine (known_any _).mono ?_; rintro e w2 ⟨rfl, hb2⟩)
    | (go_at_call 35; refine (opening_any _).mono ?_; rintro e w3 ⟨rfl, hb3, hlt3, hops3⟩))
  have B2 : Below w.heap.size w w2 := ((Below.refl _ w).alloc (Nat.le_refl _) _).trans (hb2.mono (by simp [World.size_alloc]))
  have hs2 := hb2.size
  have hs3 := hb3.size
  simp only [World.size_alloc] at hlt3 hops3 hs2 hs3
  have B3 : Below w.heap.size w w3 := (B2.alloc B2.size _).trans (hb3.mono (by simp [World.size_alloc]; omega))
  have hG : w3.heap[w.heap.size]? = some (.cells #[.slice a0 l0 c0, .slice a1 l1 c1, .slice a2 l2 c2] 26 (0, 0)) :=
    (hb3.block _ (by simp [World.size_alloc]; omega)).trans ((Below.heap_alloc _ _ _ (by omega)).trans ((hb2.block _ (by simp [World.size_alloc])).trans (heap_alloc_new w _)))
  clear hb2 hb3 B2
  go_loopw [11] (fun iv wr => ∃ i : Nat, i ≤ 9 ∧ iv = .int .i64 i ∧ Below w3.heap.size w3 wr) (fun iv _ => 9 - (intOf iv).toNat)
  case atStart => exact ⟨0, by omega, rfl, Below.refl _ _⟩
  case round =>
    obtain ⟨i, hi, rfl, hBr⟩ := hrel
    have hbr := hBr.size
    by_cases hlt : i < 9
    · clear hops hG
      obtain ⟨k, x, y, s, t, lo, ln, lc, q0, q1, q2, q3, q4, q5, hs⟩ := (hops3.keep hBr (by omega)) i hlt
      simp only [Nat.zero_add] at q0 q1 q2 q3 q4 q5
      clear hops3
      rcases Int.lt_trichotomy k 1 with hk | rfl | hk
      · go_wp2_with fail
        go_roundw
        case rel => exact ⟨i + 1, by omega, by go_num, hBr⟩
        case measure => simp [intOf]; omega
      · go_wp2_with (go_at_call 36; refine (step_tidy _ _ x y s t lo ln lc hs).mono ?_; rintro e w4 ⟨rfl, hb4⟩)
        go_roundw
        case rel => exact ⟨i + 1, by omega, by go_num, hBr.trans (hb4.mono hbr)⟩
        case measure => simp [intOf]; omega
      · go_wp2_with fail
        go_roundw
        case rel => exact ⟨i + 1, by omega, by go_num, hBr⟩
        case measure => simp [intOf]; omega
    · have hGr := (hBr.block _ (by omega)).trans hG
      have z0 : wr.cell? ⟨w.heap.size, 0, none⟩ = some (.slice a0 l0 c0) := (cells_at hGr).trans rfl
      have z1 : wr.cell? ⟨w.heap.size, 1, none⟩ = some (.slice a1 l1 c1) := (cells_at hGr).trans rfl
      have z2 : wr.cell? ⟨w.heap.size, 2, none⟩ = some (.slice a2 l2 c2) := (cells_at hGr).trans rfl
      have B4 : Below w.heap.size w wr := B3.trans (hBr.mono B3.size)
      clear hops3 hBr hG hGr B3
      obtain ⟨W, hW⟩ : ∃ W, W = wr.alloc (.cells #[.slice a0 l0 c0, .slice a1 l1 c1, .slice a2 l2 c2, .slice none 0 0, .slice none 0 0, .slice none 0 0, .slice none 0 0, .slice none 0 0] 100) := ⟨_, rfl⟩
      have hWi : WorldIs W wr.heap.size := by rw [hW]; exact worldIs_new _ _ _ _
      have hWs : W.heap.size = wr.heap.size + 1 := by rw [hW]; simp [World.size_alloc]
      have B5 : Below w.heap.size w W := by rw [hW]; exact B4.alloc B4.size _
      have HAT : ∀ P : World → Prop, P W → P (wr.alloc (.cells #[.slice a0 l0 c0, .slice a1 l1 c1, .slice a2 l2 c2, .slice none 0 0, .slice none 0 0, .slice none 0 0, .slice none 0 0, .slice none 0 0] 100)) := by intro P h; rw [← hW]; exact h
      clear hW
      go_wp2_with fail
      go_loopw [14] (fun iv wx => ∃ i : Nat, i ≤ n ∧ iv = .int .i64 i ∧ Below W.heap.size W wx) (fun iv _ => n - (intOf iv).toNat)
      case atStart => exact ⟨0, Nat.zero_le _, rfl, HAT (fun x => Below W.heap.size W x) (Below.refl _ _)⟩
      case round =>
        clear z0 z1 z2 HAT
        obtain ⟨i2, hi2, rfl, hBx⟩ := hrel
        have hbx := hBx.size
        by_cases hlt2 : i2 < n
        · obtain ⟨b, off, rfl, hbl, hO⟩ : ∃ b off, ao = some ⟨b, off, none⟩ ∧ b < w.heap.size ∧ OpsAt w b off n := by
            rcases hops with h | h
            · omega
            · exact h
          have hbw := B5.size
          obtain ⟨k, x, y, s, t, lo, ln, lc, q0, q1, q2, q3, q4, q5, hs⟩ := ((hO.keep B5 hbl).keep hBx (by omega)) i2 hlt2
          clear hops hO
          rcases Int.lt_trichotomy k 1 with hk | rfl | hk
          · go_wp2_with fail
            go_roundw
            case rel => exact ⟨i2 + 1, by omega, by go_num, hBx⟩
            case measure => simp [intOf]; omega
          · go_wp2_with (first
              | (go_at_call 36; refine (step_tidy _ _ x y s t lo ln lc hs).mono ?_; rintro e w4 ⟨rfl, hb4⟩)
              | (go_at_call 37; refine (whole_any _ _ ?_).mono ?_; exact hWi.keep (hBx.trans (hb4.mono hbx)) (by omega); rintro e w5 ⟨rfl, rfl⟩))
            go_roundw
            case rel => exact ⟨i2 + 1, by omega, by go_num, hBx.trans (hb4.mono hbx)⟩
            case measure => simp [intOf]; omega
          · go_wp2_with fail
            go_roundw
            case rel => exact ⟨i2 + 1, by omega, by go_num, hBx⟩
            case measure => simp [intOf]; omega
        · go_wp2_with fail
          go_ret
          exact ⟨rfl, B5.trans (hBx.mono B5.size)⟩
end Go.Proofs.YtilfjpmeededmaaGreatDoor

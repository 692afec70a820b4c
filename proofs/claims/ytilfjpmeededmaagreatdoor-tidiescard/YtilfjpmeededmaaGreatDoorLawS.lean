/- One step of a script that is a Tidy: its answer is the document's. -/
import Derived.Test.YtilfjpmeededmaaGreatDoorRefV
import Derived.Test.YtilfjpmeededmaaGreatDoorLawB
namespace Go.Proofs.YtilfjpmeededmaaGreatDoor
open Go.RowKit

set_option maxHeartbeats 400000 in
set_option maxRecDepth 100000 in
theorem num_any (n : Int) (w : World) : Calls Tryz.prog 68 #[.int .i64 n] w fun e w' => e = .returned (.int .i64 n) ∧ w' = w := by
  go_enter Tryz.func68, Tryz.ntmps68
  go_wp2_with fail
  go_ret
  exact ⟨rfl, rfl⟩

set_option maxHeartbeats 4000000 in
set_option maxRecDepth 100000 in
theorem step_tidy (w : World) (b : Nat) (x y : Int) (s t : ByteArray) (lo : Option Addr) (ln lc : Nat) (hs : s.size ≤ maxLen) :
    Calls Tryz.prog 36 #[.pointer (some ⟨b, 0, none⟩), .agg #[.int .i64 1, .int .i64 x, .int .i64 y, .string s, .string t, .slice lo ln lc]] w fun e w' => e = .returned (.bool true) ∧ Below w.heap.size w w' := by
  go_enter Tryz.func36, Tryz.ntmps36
  go_wp2_with (go_at_call 66; refine (tidy_any s _ hs).mono ?_)
  rintro e w2 ⟨hb2, hres⟩
  have hP2 : w2.heap[w.heap.size]? = some (.cells #[.int .i64 1, .int .i64 x, .int .i64 y, .string s, .string t, .slice lo ln lc] 103 (0, 0)) :=
    (hb2.block _ (by simp [World.size_alloc])).trans (heap_alloc_new w _)
  have c3 : w2.cell? ⟨w.heap.size, 3, none⟩ = some (.string s) := (cells_at hP2).trans rfl
  have B2 : Below w.heap.size w w2 := ((Below.refl _ w).alloc (Nat.le_refl _) _).trans (hb2.mono (by simp [World.size_alloc]))
  clear hb2 hP2
  rcases hres with ⟨ho, rfl⟩ | ⟨l, ho, hl, rfl⟩
  · go_wp2_with (go_at_call 67; refine (refTidy_any s _).mono ?_)
    rintro e w3 ⟨hb3, ⟨_, rfl⟩ | ⟨l', ho', _⟩⟩
    · have B3 : Below w.heap.size w w3 := B2.trans (hb3.mono B2.size)
      clear ho hb3 B2 c3
      go_wp2_with (go_at_call 68; refine (num_any _ _).mono ?_; rintro e w4 ⟨rfl, rfl⟩)
      go_ret
      exact ⟨rfl, B3⟩
    · rw [ho] at ho'; cases ho'
  · go_wp2_with (go_at_call 67; refine (refTidy_any s _).mono ?_)
    rintro e w3 ⟨hb3, ⟨ho', _⟩ | ⟨l', ho', rfl⟩⟩
    · rw [ho] at ho'; cases ho'
    · have : l' = l := by rw [ho] at ho'; exact (Option.some.inj ho').symm
      subst this
      have B3 : Below w.heap.size w w3 := B2.trans (hb3.mono B2.size)
      clear ho ho' hb3 B2 c3
      go_wp2_with (go_at_call 68; refine (num_any _ _).mono ?_; rintro e w4 ⟨rfl, rfl⟩)
      go_ret
      exact ⟨rfl, B3⟩
end Go.Proofs.YtilfjpmeededmaaGreatDoor

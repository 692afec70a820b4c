/- whole of package curtainlaw's Books, of which all lists are empty. -/
import Derived.Test.YtilfjpmeededmaaGreatDoorLawK
namespace Go.Proofs.YtilfjpmeededmaaGreatDoor
open Go.RowKit

/-- Block b holds a World in which nothing has come out. -/
def WorldIs (w : World) (b : Nat) : Prop := ∃ g0 g1 g2 : Value, w.heap[b]? = some (.cells #[g0, g1, g2, .slice none 0 0, .slice none 0 0, .slice none 0 0, .slice none 0 0, .slice none 0 0] 100 (0, 0))
theorem WorldIs.cells {w : World} {b : Nat} (h : WorldIs w b) : w.cell? ⟨b, 3, none⟩ = some (.slice none 0 0) ∧ w.cell? ⟨b, 4, none⟩ = some (.slice none 0 0) ∧ w.cell? ⟨b, 5, none⟩ = some (.slice none 0 0) ∧ w.cell? ⟨b, 6, none⟩ = some (.slice none 0 0) ∧ w.cell? ⟨b, 7, none⟩ = some (.slice none 0 0) := by
  obtain ⟨g0, g1, g2, h⟩ := h
  exact ⟨(cells_at h).trans rfl, (cells_at h).trans rfl, (cells_at h).trans rfl, (cells_at h).trans rfl, (cells_at h).trans rfl⟩
theorem WorldIs.keep {w x : World} {b B : Nat} (h : WorldIs w b) (hb : Below B w x) (hlt : b < B) : WorldIs x b := by
  obtain ⟨g0, g1, g2, h⟩ := h
  exact ⟨g0, g1, g2, (hb.block b hlt).trans h⟩

set_option maxHeartbeats 4000000 in
set_option maxRecDepth 100000 in
theorem whole_any (w : World) (b : Nat) (h : WorldIs w b) : Calls Tryz.prog 37 #[.pointer (some ⟨b, 3, none⟩)] w fun e w' => e = .returned (.bool true) ∧ w' = w := by
  obtain ⟨y3, y4, y5, y6, y7⟩ := h.cells
  clear h
  go_enter Tryz.func37, Tryz.ntmps37
  go_wp2_with fail
  go_loopw [3, 4] (fun ov iv wx => ov = .bool true ∧ iv = .int .i64 0 ∧ wx = w) (fun _ _ _ => 0)
  case atStart => exact ⟨rfl, rfl, rfl⟩
  case round =>
    obtain ⟨rfl, rfl, hw4⟩ := hrel
    cases hw4
    go_wp2_with fail
    go_loopw [3, 6] (fun ov iv wx => ov = .bool true ∧ iv = .int .i64 0 ∧ wx = w) (fun _ _ _ => 0)
    case atStart => exact ⟨rfl, rfl, rfl⟩
    case round =>
      obtain ⟨rfl, rfl, hw6⟩ := hrel
      cases hw6
      go_wp2_with fail
      go_loopw [3, 8] (fun ov iv wx => ov = .bool true ∧ iv = .int .i64 0 ∧ wx = w) (fun _ _ _ => 0)
      case atStart => exact ⟨rfl, rfl, rfl⟩
      case round =>
        obtain ⟨rfl, rfl, hw8⟩ := hrel
        cases hw8
        go_wp2_with fail
        go_loopw [3, 10] (fun ov iv wx => ov = .bool true ∧ iv = .int .i64 0 ∧ wx = w) (fun _ _ _ => 0)
        case atStart => exact ⟨rfl, rfl, rfl⟩
        case round =>
          obtain ⟨rfl, rfl, hw10⟩ := hrel
          cases hw10
          go_wp2_with fail
          go_loopw [3, 12] (fun ov iv wx => ov = .bool true ∧ iv = .int .i64 0 ∧ wx = w) (fun _ _ _ => 0)
          case atStart => exact ⟨rfl, rfl, rfl⟩
          case round =>
            obtain ⟨rfl, rfl, hw12⟩ := hrel
            cases hw12
            go_wp2_with fail
            go_ret
            exact ⟨rfl, rfl⟩
end Go.Proofs.YtilfjpmeededmaaGreatDoor

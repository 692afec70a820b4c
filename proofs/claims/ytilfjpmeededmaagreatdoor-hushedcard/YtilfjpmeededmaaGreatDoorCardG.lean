/- Closed facts of the cards, one by one. -/
import Derived.Test.YtilfjpmeededmaaGreatDoorRows
import Derived.Test.YtilfjpmeededmaaGreatDoorCards
import Derived.Test.YtilfjpmeededmaaGreatDoorTie
import Derived.ProofKit
import Derived.KernelRfl
namespace Go.Proofs.YtilfjpmeededmaaGreatDoor
open Go
theorem cg_m : Tryz.pinned.checked.prog.mainIs = some (true, "6fd12d082dd462b6ee9d8164c12dd7c438499c6601c3c9515c9beeaddf52b2cb".toList) := by kernel_rfl
theorem cg_lk : true = Tryz.pinned.checked.prog.looks [] := by kernel_rfl
theorem cg_st : ([30, 31, 3, 26, 27].all fun u => !Tryz.prog.wantsStandIn u) = true := by kernel_rfl
theorem cg_fh : Tryz.prog.funcNamed "curtain/curtainkeep.Hushed" = some 6 := by kernel_rfl
theorem cg_ft : Tryz.prog.funcNamed "curtain/curtainlaw.Tidies" = some 3 := by kernel_rfl
theorem cg_wh : Rows.hushedRow.wfByText (OpenSpec.ofChange Rows.hushedSpec) = true := by kernel_rfl
theorem cg_wt : Rows.tidiesRow.wfByText (OpenSpec.ofChange Rows.tidiesSpec) = true := by kernel_rfl
end Go.Proofs.YtilfjpmeededmaaGreatDoor

/- The calls can start goroutines: something is called by no plain name, and one function's text holds a go statement. -/
import Derived.Test.YtilfjpmeededmaaGreatDoorCardG
import Derived.SevenTiedAt
namespace Go.Proofs.YtilfjpmeededmaaGreatDoor
open Go
theorem goes_any : Tryz.prog.funcs.any Func.goes = true := by
  rw [Array.any_eq_true]
  obtain ⟨h, e⟩ := Array.getElem?_eq_some_iff.mp Tryz.func97
  exact ⟨_, h, by rw [e]; kernel_rfl⟩
theorem goes_of {f : FuncId} (hu : Tryz.prog.unfollowed f = true) : Tryz.prog.goes f = true := by
  unfold Program.goes
  rw [hu, goes_any, Bool.and_true, Bool.or_true]
end Go.Proofs.YtilfjpmeededmaaGreatDoor

/- The closed facts of the row of Tidies, one by one. -/
import Derived.Test.YtilfjpmeededmaaGreatDoorRows
import Derived.ProofKit
import Derived.OpenShut
import Derived.KernelRfl
namespace Go.Proofs.YtilfjpmeededmaaGreatDoor
open Go.ChangeShapes Go.WideShapes Go.ChangeAt Go.RowKit

theorem td_k0 : (Rows.tidiesRow.wf (OpenSpec.ofChange Rows.tidiesSpec)) = true := by kernel_rfl
theorem td_k1 : (laidOutB Tryz.pinned.checked.prog) = true := by kernel_rfl
theorem td_k2 : (mapsRowed Tryz.pinned.checked.prog) = true := by kernel_rfl
theorem td_k3 : (Tryz.f3.params.all (Tryz.pinned.checked.prog.readableRec ·)) = true := by kernel_rfl
theorem td_k4 : (namedTie Tryz.pinned.checked.prog Rows.tidiesRow.named Rows.tidiesSpec.vars) = true := by kernel_rfl
theorem td_k5 : ((Rows.tidiesRow.stops == [])) = true := by kernel_rfl
theorem td_k6 : ((Tryz.pinned.checked.prog.stops == [])) = true := by kernel_rfl
theorem td_k7 : ((Rows.tidiesRow.knobs == [])) = true := by kernel_rfl
theorem td_k8 : ((Tryz.pinned.checked.prog.stopKnobs == [])) = true := by kernel_rfl
theorem td_k9 : ((Rows.tidiesRow.inPlace == Tryz.pinned.checked.prog.inPlace 3)) = true := by kernel_rfl
theorem td_k10 : ((Rows.tidiesRow.unfollowed == Tryz.pinned.checked.prog.unfollowed 3)) = true := by kernel_rfl
theorem td_k11 : ((Rows.tidiesRow.recurses == Tryz.pinned.checked.prog.recurses 3)) = true := by kernel_rfl
theorem td_k12 : ((Rows.tidiesRow.named == Tryz.pinned.checked.prog.varsNamed 3)) = true := by kernel_rfl
theorem td_k13 : ((Rows.tidiesRow.maps == (Tryz.f3.params.toList ++ Rows.tidiesSpec.plain.varTypes Tryz.pinned.checked.prog).any (Tryz.pinned.checked.prog.mapsRec ·))) = true := by kernel_rfl
theorem td_k14 : ((Rows.tidiesRow.ifaces == (Tryz.f3.params.toList ++ Rows.tidiesSpec.plain.varTypes Tryz.pinned.checked.prog).any (Tryz.pinned.checked.prog.ifacesRec ·))) = true := by kernel_rfl
theorem td_k15 : ((Rows.tidiesRow.mapsOut == Tryz.pinned.checked.prog.mapsAmong Tryz.f3.resultTypes.toList)) = true := by kernel_rfl
theorem td_k16 : ((Rows.tidiesRow.loops == (Tryz.f3.params.toList ++ Rows.tidiesSpec.plain.varTypes Tryz.pinned.checked.prog).any (Tryz.pinned.checked.prog.loopsFrom ·))) = true := by kernel_rfl
theorem td_k17 : ((Rows.tidiesRow.wideKeys == (Tryz.f3.params.toList ++ Rows.tidiesSpec.plain.varTypes Tryz.pinned.checked.prog ++ Tryz.f3.resultTypes.toList).any (Tryz.pinned.checked.prog.wideKeysFrom ·))) = true := by kernel_rfl
theorem td_k18 : (Rows.tidiesSpec.vars.all (Tryz.pinned.checked.prog.varReadable ·)) = true := by kernel_rfl
theorem td_k19 : (Tryz.f3.resultTypes.all (fun t => Tryz.pinned.checked.prog.readableRec t && decide (t < Tryz.pinned.checked.prog.types.size))) = true := by kernel_rfl
theorem td_k20 : ((Rows.tidiesRow.ifacesOut == Tryz.f3.resultTypes.toList.any (Tryz.pinned.checked.prog.ifacesRec ·))) = true := by kernel_rfl
theorem td_k21 : ((Rows.tidiesRow.loopsOut == Tryz.f3.resultTypes.toList.any (Tryz.pinned.checked.prog.loopsFrom ·))) = true := by kernel_rfl
theorem td_k22 : ((Rows.tidiesRow.plainKeys == Tryz.pinned.checked.prog.plainKeys)) = true := by kernel_rfl
theorem td_k23 : (Rows.tidiesRow.shortTexts.isNone) = true := by kernel_rfl
theorem td_k24 : (Tryz.pinned.checked.prog.stopsHeard) = true := by kernel_rfl
theorem td_k25 : (Tryz.pinned.checked.prog.mayEnter) = true := by kernel_rfl
theorem td_k26 : ((Rows.tidiesRow.lifted == Tryz.pinned.checked.prog.liftsFinal)) = true := by kernel_rfl
theorem td_k27 : ((Tryz.pinned.checked.prog.make == some Rows.tidiesRow.make)) = true := by kernel_rfl
theorem td_dom : Rows.tidiesRow.domain.isEmpty = true := by kernel_rfl
theorem td_k28 : (Rows.tidiesRow.kinds == []) = true := by kernel_rfl
theorem td_k29 : ((Rows.tidiesRow.pinned == Rows.tidiesRow.pinnedBy)) = true := by kernel_rfl
theorem td_k30 : ((Rows.tidiesRow.veiled == (Tryz.f3.params.toList ++ Rows.tidiesSpec.plain.varTypes Tryz.pinned.checked.prog ++ Tryz.f3.resultTypes.toList).any (Tryz.pinned.checked.prog.veiledRec ·))) = true := by kernel_rfl
theorem td_k31 : (Rows.tidiesRow.veiledFits Tryz.pinned.checked.prog Tryz.f3.params.toList (Tryz.f3.params.toList ++ Rows.tidiesSpec.plain.varTypes Tryz.pinned.checked.prog ++ Tryz.f3.resultTypes.toList)) = true := by kernel_rfl
theorem td_closed : joinedFacts Tryz.pinned.checked.prog 3 Tryz.f3 Rows.tidiesSpec Rows.tidiesRow = true := by
  unfold joinedFacts
  rw [td_k0, td_k1, td_k2, td_k3, td_k4, td_k5, td_k6, td_k7, td_k8, td_k9, td_k10, td_k11, td_k12, td_k13, td_k14, td_k15, td_k16, td_k17, td_k18, td_k19, td_k20, td_k21, td_k22, td_k23, td_k24, td_k25, td_k26, td_k27, if_pos td_dom, td_k28, td_k29, td_k30, td_k31]
  rfl
end Go.Proofs.YtilfjpmeededmaaGreatDoor

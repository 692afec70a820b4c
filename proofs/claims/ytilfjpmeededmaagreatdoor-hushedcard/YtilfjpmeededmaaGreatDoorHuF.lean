/- The closed facts of the row of Hushed, one by one. -/
import Derived.Test.YtilfjpmeededmaaGreatDoorRows
import Derived.ProofKit
import Derived.OpenShut
import Derived.KernelRfl
namespace Go.Proofs.YtilfjpmeededmaaGreatDoor
open Go.ChangeShapes Go.WideShapes Go.ChangeAt Go.RowKit

theorem hu_k0 : (Rows.hushedRow.wf (OpenSpec.ofChange Rows.hushedSpec)) = true := by kernel_rfl
theorem hu_k1 : (laidOutB Tryz.pinned.checked.prog) = true := by kernel_rfl
theorem hu_k2 : (mapsRowed Tryz.pinned.checked.prog) = true := by kernel_rfl
theorem hu_k3 : (Tryz.f6.params.all (Tryz.pinned.checked.prog.readableRec ·)) = true := by kernel_rfl
theorem hu_k4 : (namedTie Tryz.pinned.checked.prog Rows.hushedRow.named Rows.hushedSpec.vars) = true := by kernel_rfl
theorem hu_k5 : ((Rows.hushedRow.stops == [])) = true := by kernel_rfl
theorem hu_k6 : ((Tryz.pinned.checked.prog.stops == [])) = true := by kernel_rfl
theorem hu_k7 : ((Rows.hushedRow.knobs == [])) = true := by kernel_rfl
theorem hu_k8 : ((Tryz.pinned.checked.prog.stopKnobs == [])) = true := by kernel_rfl
theorem hu_k9 : ((Rows.hushedRow.inPlace == Tryz.pinned.checked.prog.inPlace 6)) = true := by kernel_rfl
theorem hu_k10 : ((Rows.hushedRow.unfollowed == Tryz.pinned.checked.prog.unfollowed 6)) = true := by kernel_rfl
theorem hu_k11 : ((Rows.hushedRow.recurses == Tryz.pinned.checked.prog.recurses 6)) = true := by kernel_rfl
theorem hu_k12 : ((Rows.hushedRow.named == Tryz.pinned.checked.prog.varsNamed 6)) = true := by kernel_rfl
theorem hu_k13 : ((Rows.hushedRow.maps == (Tryz.f6.params.toList ++ Rows.hushedSpec.plain.varTypes Tryz.pinned.checked.prog).any (Tryz.pinned.checked.prog.mapsRec ·))) = true := by kernel_rfl
theorem hu_k14 : ((Rows.hushedRow.ifaces == (Tryz.f6.params.toList ++ Rows.hushedSpec.plain.varTypes Tryz.pinned.checked.prog).any (Tryz.pinned.checked.prog.ifacesRec ·))) = true := by kernel_rfl
theorem hu_k15 : ((Rows.hushedRow.mapsOut == Tryz.pinned.checked.prog.mapsAmong Tryz.f6.resultTypes.toList)) = true := by kernel_rfl
theorem hu_k16 : ((Rows.hushedRow.loops == (Tryz.f6.params.toList ++ Rows.hushedSpec.plain.varTypes Tryz.pinned.checked.prog).any (Tryz.pinned.checked.prog.loopsFrom ·))) = true := by kernel_rfl
theorem hu_k17 : ((Rows.hushedRow.wideKeys == (Tryz.f6.params.toList ++ Rows.hushedSpec.plain.varTypes Tryz.pinned.checked.prog ++ Tryz.f6.resultTypes.toList).any (Tryz.pinned.checked.prog.wideKeysFrom ·))) = true := by kernel_rfl
theorem hu_k18 : (Rows.hushedSpec.vars.all (Tryz.pinned.checked.prog.varReadable ·)) = true := by kernel_rfl
theorem hu_k19 : (Tryz.f6.resultTypes.all (fun t => Tryz.pinned.checked.prog.readableRec t && decide (t < Tryz.pinned.checked.prog.types.size))) = true := by kernel_rfl
theorem hu_k20 : ((Rows.hushedRow.ifacesOut == Tryz.f6.resultTypes.toList.any (Tryz.pinned.checked.prog.ifacesRec ·))) = true := by kernel_rfl
theorem hu_k21 : ((Rows.hushedRow.loopsOut == Tryz.f6.resultTypes.toList.any (Tryz.pinned.checked.prog.loopsFrom ·))) = true := by kernel_rfl
theorem hu_k22 : ((Rows.hushedRow.plainKeys == Tryz.pinned.checked.prog.plainKeys)) = true := by kernel_rfl
theorem hu_k23 : (Rows.hushedRow.shortTexts.isNone) = true := by kernel_rfl
theorem hu_k24 : (Tryz.pinned.checked.prog.stopsHeard) = true := by kernel_rfl
theorem hu_k25 : (Tryz.pinned.checked.prog.mayEnter) = true := by kernel_rfl
theorem hu_k26 : ((Rows.hushedRow.lifted == Tryz.pinned.checked.prog.liftsFinal)) = true := by kernel_rfl
theorem hu_k27 : ((Tryz.pinned.checked.prog.make == some Rows.hushedRow.make)) = true := by kernel_rfl
theorem hu_dom : Rows.hushedRow.domain.isEmpty = true := by kernel_rfl
theorem hu_k28 : (Rows.hushedRow.kinds == []) = true := by kernel_rfl
theorem hu_k29 : ((Rows.hushedRow.pinned == Rows.hushedRow.pinnedBy)) = true := by kernel_rfl
theorem hu_k30 : ((Rows.hushedRow.veiled == (Tryz.f6.params.toList ++ Rows.hushedSpec.plain.varTypes Tryz.pinned.checked.prog ++ Tryz.f6.resultTypes.toList).any (Tryz.pinned.checked.prog.veiledRec ·))) = true := by kernel_rfl
theorem hu_k31 : (Rows.hushedRow.veiledFits Tryz.pinned.checked.prog Tryz.f6.params.toList (Tryz.f6.params.toList ++ Rows.hushedSpec.plain.varTypes Tryz.pinned.checked.prog ++ Tryz.f6.resultTypes.toList)) = true := by kernel_rfl
theorem hu_closed : joinedFacts Tryz.pinned.checked.prog 6 Tryz.f6 Rows.hushedSpec Rows.hushedRow = true := by
  unfold joinedFacts
  rw [hu_k0, hu_k1, hu_k2, hu_k3, hu_k4, hu_k5, hu_k6, hu_k7, hu_k8, hu_k9, hu_k10, hu_k11, hu_k12, hu_k13, hu_k14, hu_k15, hu_k16, hu_k17, hu_k18, hu_k19, hu_k20, hu_k21, hu_k22, hu_k23, hu_k24, hu_k25, hu_k26, hu_k27, if_pos hu_dom, hu_k28, hu_k29, hu_k30, hu_k31]
  rfl
end Go.Proofs.YtilfjpmeededmaaGreatDoor

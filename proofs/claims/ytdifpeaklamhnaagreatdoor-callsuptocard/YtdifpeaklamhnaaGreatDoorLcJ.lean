import Derived.Test.YtdifpeaklamhnaaGreatDoorRows
import Derived.ProofKit
import Derived.OpenShut
set_option linter.unusedVariables false
set_option linter.unusedSimpArgs false
set_option maxRecDepth 100000
set_option maxHeartbeats 0
namespace Go.Proofs.YtdifpeaklamhnaaGreatDoor
open Go.ChangeShapes Go.WideShapes Go.ChangeAt Go.RowKit
def sN:OpenSpec:=Rows.OpenSpec.upto Rows.callsSpec
def dR:OpenClaim:={Rows.callsUptoRow with leaving:=false}
theorem UX:(dR.wf (OpenSpec.ofChange sN.bare))=true:=by kernel_rfl
theorem UY:(laidOutB Tryz.pinned.checked.prog)=true:=by kernel_rfl
theorem UZ:(mapsRowed Tryz.pinned.checked.prog)=true:=by kernel_rfl
theorem Va:(Tryz.f3.params.all (Tryz.pinned.checked.prog.readableRec ·))=true:=by kernel_rfl
theorem Vb:(namedTie Tryz.pinned.checked.prog dR.named sN.bare.vars)=true:=by kernel_rfl
theorem Vd:((dR.stops== []))=true:=by kernel_rfl
theorem Ve:((Tryz.pinned.checked.prog.stops== []))=true:=by kernel_rfl
theorem Vf:((dR.knobs== []))=true:=by kernel_rfl
theorem Vg:((Tryz.pinned.checked.prog.stopKnobs== []))=true:=by kernel_rfl
theorem Vh:((dR.inPlace==Tryz.pinned.checked.prog.inPlace 3))=true:=by kernel_rfl
theorem NP:((dR.unfollowed==Tryz.pinned.checked.prog.unfollowed 3))=true:=by kernel_rfl
theorem Ta:((dR.recurses==Tryz.pinned.checked.prog.recurses 3))=true:=by kernel_rfl
theorem Tc:((dR.named==Tryz.pinned.checked.prog.varsNamed 3))=true:=by kernel_rfl
theorem Td:((dR.maps==(Tryz.f3.params.toList++sN.bare.plain.varTypes Tryz.pinned.checked.prog).any (Tryz.pinned.checked.prog.mapsRec ·)))=true:=by kernel_rfl
theorem Te:((dR.ifaces==(Tryz.f3.params.toList++sN.bare.plain.varTypes Tryz.pinned.checked.prog).any (Tryz.pinned.checked.prog.ifacesRec ·)))=true:=by kernel_rfl
theorem Tf:((dR.mapsOut==Tryz.pinned.checked.prog.mapsAmong Tryz.f3.resultTypes.toList))=true:=by kernel_rfl
theorem Tg:((dR.loops==(Tryz.f3.params.toList++sN.bare.plain.varTypes Tryz.pinned.checked.prog).any (Tryz.pinned.checked.prog.loopsFrom ·)))=true:=by kernel_rfl
theorem Ti:((dR.wideKeys==(Tryz.f3.params.toList++sN.bare.plain.varTypes Tryz.pinned.checked.prog++Tryz.f3.resultTypes.toList).any (Tryz.pinned.checked.prog.wideKeysFrom ·)))=true:=by kernel_rfl
theorem Tj:(sN.bare.vars.all (Tryz.pinned.checked.prog.varReadable ·))=true:=by kernel_rfl
theorem Tm:(Tryz.f3.resultTypes.all (λt=>Tryz.pinned.checked.prog.readableRec t&&decide (t<Tryz.pinned.checked.prog.types.size)))=true:=by kernel_rfl
theorem Tn:((dR.ifacesOut==Tryz.f3.resultTypes.toList.any (Tryz.pinned.checked.prog.ifacesRec ·)))=true:=by kernel_rfl
theorem Tp:((dR.loopsOut==Tryz.f3.resultTypes.toList.any (Tryz.pinned.checked.prog.loopsFrom ·)))=true:=by kernel_rfl
theorem Tq:((dR.plainKeys==Tryz.pinned.checked.prog.plainKeys))=true:=by kernel_rfl
theorem Tt:(dR.shortTexts.isNone)=true:=by kernel_rfl
theorem Tu:(Tryz.pinned.checked.prog.stopsHeard)=true:=by kernel_rfl
theorem Tv:(Tryz.pinned.checked.prog.mayEnter)=true:=by kernel_rfl
theorem Tw:((dR.lifted==Tryz.pinned.checked.prog.liftsFinal))=true:=by kernel_rfl
theorem Tx:((Tryz.pinned.checked.prog.make==some dR.make))=true:=by kernel_rfl
theorem SY:dR.domain.isEmpty=true:=by kernel_rfl
theorem Tz:(dR.kinds== [])=true:=by kernel_rfl
theorem TA:((dR.pinned==dR.pinnedBy))=true:=by kernel_rfl
theorem TC:((dR.veiled==(Tryz.f3.params.toList++sN.bare.plain.varTypes Tryz.pinned.checked.prog++Tryz.f3.resultTypes.toList).any (Tryz.pinned.checked.prog.veiledRec ·)))=true:=by kernel_rfl
theorem TD:(dR.veiledFits Tryz.pinned.checked.prog Tryz.f3.params.toList (Tryz.f3.params.toList++sN.bare.plain.varTypes Tryz.pinned.checked.prog++Tryz.f3.resultTypes.toList))=true:=by kernel_rfl
theorem Lc:joinedFacts Tryz.pinned.checked.prog 3 Tryz.f3 sN.bare dR=true:=by
 unfold joinedFacts;rw[UX,UY,UZ,Va,Vb,Vd,Ve,Vf,Vg,Vh,NP,Ta,Tc,Td,Te,Tf,Tg,Ti,Tj,Tm,Tn,Tp,Tq,Tt,Tu,Tv,Tw,Tx,if_pos SY,Tz,TA,TC,TD];rfl
end Go.Proofs.YtdifpeaklamhnaaGreatDoor

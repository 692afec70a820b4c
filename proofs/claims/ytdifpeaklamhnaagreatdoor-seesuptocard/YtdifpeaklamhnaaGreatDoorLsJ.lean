import Derived.Test.YtdifpeaklamhnaaGreatDoorRows
import Derived.ProofKit
import Derived.OpenShut
set_option linter.unusedVariables false
set_option linter.unusedSimpArgs false
set_option maxRecDepth 100000
set_option maxHeartbeats 0
namespace Go.Proofs.YtdifpeaklamhnaaGreatDoor
open Go.ChangeShapes Go.WideShapes Go.ChangeAt Go.RowKit
def tO:OpenSpec:=Rows.OpenSpec.upto Rows.seesSpec
def ek:OpenClaim:={Rows.seesUptoRow with leaving:=false}
theorem Vp:(ek.wf (OpenSpec.ofChange tO.bare))=true:=by kernel_rfl
theorem Vq:(laidOutB Tryz.pinned.checked.prog)=true:=by kernel_rfl
theorem Vr:(mapsRowed Tryz.pinned.checked.prog)=true:=by kernel_rfl
theorem Vs:(Tryz.f4.params.all (Tryz.pinned.checked.prog.readableRec ·))=true:=by kernel_rfl
theorem Vt:(namedTie Tryz.pinned.checked.prog ek.named tO.bare.vars)=true:=by kernel_rfl
theorem Vu:((ek.stops== []))=true:=by kernel_rfl
theorem Vv:((Tryz.pinned.checked.prog.stops== []))=true:=by kernel_rfl
theorem Vw:((ek.knobs== []))=true:=by kernel_rfl
theorem Vx:((Tryz.pinned.checked.prog.stopKnobs== []))=true:=by kernel_rfl
theorem Vy:((ek.inPlace==Tryz.pinned.checked.prog.inPlace 4))=true:=by kernel_rfl
theorem PY:((ek.unfollowed==Tryz.pinned.checked.prog.unfollowed 4))=true:=by kernel_rfl
theorem TU:((ek.recurses==Tryz.pinned.checked.prog.recurses 4))=true:=by kernel_rfl
theorem TV:((ek.named==Tryz.pinned.checked.prog.varsNamed 4))=true:=by kernel_rfl
theorem TY:((ek.maps==(Tryz.f4.params.toList++tO.bare.plain.varTypes Tryz.pinned.checked.prog).any (Tryz.pinned.checked.prog.mapsRec ·)))=true:=by kernel_rfl
theorem TZ:((ek.ifaces==(Tryz.f4.params.toList++tO.bare.plain.varTypes Tryz.pinned.checked.prog).any (Tryz.pinned.checked.prog.ifacesRec ·)))=true:=by kernel_rfl
theorem Ua:((ek.mapsOut==Tryz.pinned.checked.prog.mapsAmong Tryz.f4.resultTypes.toList))=true:=by kernel_rfl
theorem Ub:((ek.loops==(Tryz.f4.params.toList++tO.bare.plain.varTypes Tryz.pinned.checked.prog).any (Tryz.pinned.checked.prog.loopsFrom ·)))=true:=by kernel_rfl
theorem Uc:((ek.wideKeys==(Tryz.f4.params.toList++tO.bare.plain.varTypes Tryz.pinned.checked.prog++Tryz.f4.resultTypes.toList).any (Tryz.pinned.checked.prog.wideKeysFrom ·)))=true:=by kernel_rfl
theorem Ud:(tO.bare.vars.all (Tryz.pinned.checked.prog.varReadable ·))=true:=by kernel_rfl
theorem Ue:(Tryz.f4.resultTypes.all (λt=>Tryz.pinned.checked.prog.readableRec t&&decide (t<Tryz.pinned.checked.prog.types.size)))=true:=by kernel_rfl
theorem Uf:((ek.ifacesOut==Tryz.f4.resultTypes.toList.any (Tryz.pinned.checked.prog.ifacesRec ·)))=true:=by kernel_rfl
theorem Ug:((ek.loopsOut==Tryz.f4.resultTypes.toList.any (Tryz.pinned.checked.prog.loopsFrom ·)))=true:=by kernel_rfl
theorem Uh:((ek.plainKeys==Tryz.pinned.checked.prog.plainKeys))=true:=by kernel_rfl
theorem Ui:(ek.shortTexts.isNone)=true:=by kernel_rfl
theorem Uj:(Tryz.pinned.checked.prog.stopsHeard)=true:=by kernel_rfl
theorem Uk:(Tryz.pinned.checked.prog.mayEnter)=true:=by kernel_rfl
theorem Ul:((ek.lifted==Tryz.pinned.checked.prog.liftsFinal))=true:=by kernel_rfl
theorem Um:((Tryz.pinned.checked.prog.make==some ek.make))=true:=by kernel_rfl
theorem TT:ek.domain.isEmpty=true:=by kernel_rfl
theorem Un:(ek.kinds== [])=true:=by kernel_rfl
theorem Uo:((ek.pinned==ek.pinnedBy))=true:=by kernel_rfl
theorem Uq:((ek.veiled==(Tryz.f4.params.toList++tO.bare.plain.varTypes Tryz.pinned.checked.prog++Tryz.f4.resultTypes.toList).any (Tryz.pinned.checked.prog.veiledRec ·)))=true:=by kernel_rfl
theorem Ur:(ek.veiledFits Tryz.pinned.checked.prog Tryz.f4.params.toList (Tryz.f4.params.toList++tO.bare.plain.varTypes Tryz.pinned.checked.prog++Tryz.f4.resultTypes.toList))=true:=by kernel_rfl
theorem MU:joinedFacts Tryz.pinned.checked.prog 4 Tryz.f4 tO.bare ek=true:=by
 unfold joinedFacts;rw[Vp,Vq,Vr,Vs,Vt,Vu,Vv,Vw,Vx,Vy,PY,TU,TV,TY,TZ,Ua,Ub,Uc,Ud,Ue,Uf,Ug,Uh,Ui,Uj,Uk,Ul,Um,if_pos TT,Un,Uo,Uq,Ur];rfl
end Go.Proofs.YtdifpeaklamhnaaGreatDoor

/-
  PROVED: for all goods and every script that are together of bulk at most 1048576 the statement Sees (P7: every See of the script, of whatever base, user and table, answers as the document does: the rows seen, the fault; and does so twice; what was lent is the caller's still, and what was answered is the caller's to write into) answers true, and what came in reads behind the call as it read before it. The conditions: the bound; five variables of Go's library (strconv's two errors, three tables) stand as the program's text lays them, tied to that text by the given tie; the tie speaks of the pruned copy of the project, without its tests.
-/
import Derived.Test.YtdifpeaklamhnaaGreatDoorLsHZ
import Derived.Test.YtdifpeaklamhnaaGreatDoorLsJ
import Derived.Test.YtdifpeaklamhnaaGreatDoorCardXZ
import Derived.LaidMore
import Derived.Deep.DeepWitnessRowRef
set_option linter.unusedVariables false
set_option linter.unusedSimpArgs false
set_option maxRecDepth 100000
set_option maxHeartbeats 0
namespace Go.Proofs.YtdifpeaklamhnaaGreatDoor
open Go.Proofs.Tryz
open Go.ChangeShapes Go.WideShapes Go.ChangeAt Go.RowKit
open Go
theorem Ut:ownKnob Tryz.prog.godebug=none:=by kernel_rfl
theorem KO:laidOutB prog=true:=by kernel_rfl
theorem Us(os:Os)(args:Array Value):laidMetH prog ek.laid ((World.doorLaid prog 62 os).forCall (λ_ _=>0) ⟨#[],args,[]⟩).memory:=
 laidMetH_of_parts3 (fuel:=8) (laidMet_of_run' 8 (by kernel_rfl) (by kernel_rfl)) (by kernel_rfl) (by kernel_rfl)
theorem PZ(os:Os){H:Type}(b:TypeId × Value->H):∃a,DataW.whole b prog ((World.doorLaid prog 62 os).forCall (λ_ _=>0) ⟨#[], #[.agg #[.slice none 0 0,.slice none 0 0,.slice none 0 0],.slice none 0 0],[]⟩).memory Tryz.f4.params.toList tO.vars false #[Value.agg #[.slice none 0 0,.slice none 0 0,.slice none 0 0],.slice none 0 0].toList 8=some ([.agg [.nil,.nil,.nil],.nil],[],a):=
 ⟨[],by kernel_rfl⟩
theorem MV(os:Os)(i:os.Started)(H:Type)(a:TypeId × Value->H)(F:Stop.Interp):
  ReturnsInHanded {} Tryz.checked os 4 .any (tO.preRow a prog Tryz.f4 ek.domain false ek.laid) ((tO.at F).post a prog Tryz.f4 false true false false):=by
 obtain⟨J,hx⟩:=PZ os a;refine returnsInHanded_of_row (C:=Tryz.checked) (s:=tO) Ut i (by kernel_rfl) Tryz.func4
  (witness_row_atRef (enc:=a) (C:=Tryz.checked) false (World.doorLaid prog 62 os) #[.agg #[.slice none 0 0,.slice none 0 0,.slice none 0 0],.slice none 0 0] rfl (by kernel_rfl) (by kernel_rfl) (by kernel_rfl)
   (OpenSpec.preRow_of_cond 8 hx (by kernel_rfl) (λk R=>by cases R;kernel_rfl) (by kernel_rfl) (Us os _))) ?_
 intro W base args Y gs I f hW _ r _ hL _ _;have d:∀(j:Nat) t v,Tryz.f4.params[j]? =some t->args[j]? =some v->Value.okWide prog W .any base t v:=f;have M:=hW;have R:Rows.uptoSmall H (Y++gs)=true:=r _ rfl;obtain⟨p,q,A,hV,rfl,a6,a7⟩:=hW;have hA:DataW.TrodAll a prog W 0 (λ_=>true) true Tryz.f4.params.toList args.toList Y p:=A;rw[Tryz.params4]at hA d;obtain⟨v0,a8,d0,a4,p0,q0,N,rfl,rfl,Z,r0⟩:=trodAll_cons hA;obtain⟨v1,a9,d1,a5,p1,q1,rfl,rfl,rfl,h1,r1⟩:=trodAll_cons r0;obtain⟨rfl,rfl,rfl⟩:=trodAll_nil r1;obtain rfl:args= #[v0,v1]:=by cases args;simp_all
 obtain⟨rfl,rfl⟩:=trodVars_none hV;have O:=of_decide_eq_true R;simp only[List.append_nil,Rows.uptoBulkAll]at O;obtain⟨o,rfl,B⟩:=okWide_struct Tryz.underlying26 (d 0 26 v0 rfl rfl);have k0:=Z;have U:∀x∈p0,x.block<W.heap.size:=by obtain⟨m,T⟩:=k0;exact DataW.trod_lt m _ _ _ T
 obtain⟨a0,l,w,a1,E,y,a2,G,z,e0,S,P⟩:∃a0 l w a1 E y a2 G z,o= #[.slice a0 l w,.slice a1 E y,.slice a2 G z]/\l<=1048576/\(l=0\/∃b g,a0=some ⟨b,g,Option.none⟩/\b<W.heap.size/\jg W b g l):=by
  obtain⟨c,Q⟩:=Z;have h3:o.toList.length=3:=by rw[Array.length_toList,B];kernel_rfl
  have u:DataW.trod a prog W 0 (λ_=>true) true c 26 o.toList=some (d0,p0):=by simpa[Value.cells]using Q
  obtain⟨a0,l,w,a1,E,y,a2,G,z,e,g1,L⟩:=Jh h3 u (show Rows.uptoBulk d0<=1048576 by omega);exact⟨a0,l,w,a1,E,y,a2,G,z,by rw[<-Array.toList_inj];exact e,g1,L⟩
 subst e0;obtain⟨K,n,cap,rfl⟩:=okWide_slice Tryz.underlying27 (d 1 27 v1 rfl rfl);have k1:=h1;have V:∀x∈p1,x.block<W.heap.size:=by obtain⟨m,T⟩:=k1;exact DataW.trod_lt m _ _ _ T
 obtain⟨hn,D⟩:n<=1048576/\(n=0\/∃b g,K=some ⟨b,g,Option.none⟩/\b<W.heap.size/\zM W b g n):=by
  obtain⟨c,Q⟩:=h1;have u:DataW.trod a prog W 0 (λ_=>true) true c 27 [.slice K n cap]=some (d1,p1):=by simpa[Value.cells]using Q
  obtain⟨a3,n',X,e,g1,L⟩:=Pz u (show Rows.uptoBulk d1<=1048576 by omega)
  cases e;exact⟨g1,L⟩
 clear A f;refine(MQ W a0 a1 a2 K l w E y G z n cap hn S P D).mono λe W' ⟨he,lU⟩=> ?_;subst he;exact⟨_,rfl,_,_,_,[],_,[],M,trodAll_mk1 (shut_bool Tryz.underlying4 _),(trodAll_cons_mk (Below.trod KO (by kernel_rfl) (of_decide_eq_true (by kernel_rfl)) k0 lU U) (trodAll_cons_mk (Below.trod KO (by kernel_rfl) (of_decide_eq_true (by kernel_rfl)) k1 lU V) trodAll_mk0)),rfl,lU.frame _,λh=>by cases h⟩
theorem RY:Tryz.pinned.checked.prog.funcNamed ek.func=some 4:=by kernel_rfl
theorem RX:Tryz.f4.isInstance Tryz.pinned.checked.prog ek.origin ek.targs:=of_decide_eq_true (by kernel_rfl)
theorem Sa:Tryz.f4.isWrapper Tryz.pinned.checked.prog ek.wrapper ek.mainSum:=by
 unfold Func.isWrapper;first|(rw[if_pos (by decide+kernel)];kernel_rfl)|(rw[if_neg (by decide+kernel)];exact⟨rfl,rfl⟩)
theorem PX:ek.holds Tryz.pinned tO:=
 OpenClaim.holds_of_cond 4 Tryz.f4 rfl rfl rfl rfl rfl rfl rfl ⟨rfl,rfl,rfl,rfl,rfl⟩ rfl rfl rfl rfl rfl RY Tryz.func4 MU RX Sa
  (λos a H b _ F=>by rw[OpenClaim.pre_eq_preRow];exact MV os a H b F)
theorem RZ:Rows.seesUptoRow.holds Tryz.pinned (Rows.OpenSpec.upto Rows.seesSpec):=zW (c:=ek) rfl rfl rfl (by kernel_rfl) PX
theorem Vo:true=Rows.seesUptoRow.goesBy Tryz.pinned.checked.prog:=by
 have b:Tryz.prog.unfollowed 4=true:=by
  have:=PY;rw[beq_iff_eq]at this;exact this.symm
 have:Tryz.prog.goesFrom "curtain/curtainlaw.Sees" =true:=by
  unfold Program.goesFrom;rw[SH,Option.any_some,OB b]
 have e:Rows.seesUptoRow.func= "curtain/curtainlaw.Sees" :=rfl;have a:Tryz.pinned.checked.prog.goesFrom "curtain/curtainlaw.Sees" =true:=this;unfold OpenClaim.goesBy Program.goesAt;rw[e,a,Bool.true_or]
theorem sees_upto_card_holds:Rows.SeesUptoCardSaid:=
 xI .later [.data,.data,.data,.sentinel,.sentinel] true (true,"453de24607fd81f70f28704f7d13f11900e58ee688ee4dfc319e3c4a57320ff4") true true
  RZ VB seesUpto_row_tie rfl ⟨rfl,rfl⟩ VT rfl
  (λf fn c a=>by
   obtain rfl:f=4:=Option.some.inj (SH.symm.trans c) |>.symm;obtain rfl:fn=Tryz.f4:=(Option.some.inj (Tryz.func4.symm.trans a)).symm;exact⟨Vz,λj t b=>by
    rw[Tryz.params4]at b;have d:t∈ [26,27]:=by simpa using Array.mem_of_getElem? b
    exact(show Tryz.prog.wantsStandIn t=false by simpa using List.all_eq_true.1 VA t d)⟩)
  Vo
#print axioms sees_upto_card_holds
end Go.Proofs.YtdifpeaklamhnaaGreatDoor

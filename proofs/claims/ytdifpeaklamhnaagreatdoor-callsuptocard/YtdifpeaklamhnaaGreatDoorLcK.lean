/-
  PROVED: for all goods and every script that are together of bulk at most 1048576 the statement Calls (P6: every Call of the script, of whatever base, function and arguments, answers as the document does: the value, the notes, the fault; so do those that stand ahead of it; what was lent is the caller's still) answers true, and what came in reads behind the call as it read before it. The conditions: the bound; five variables of Go's library (strconv's two errors, three tables) stand as the program's text lays them, tied to that text by the given tie; the tie speaks of the pruned copy of the project, without its tests.
-/
import Derived.Test.YtdifpeaklamhnaaGreatDoorCardWZ
import Derived.Test.YtdifpeaklamhnaaGreatDoorLcJ
import Derived.LaidMore
import Derived.Deep.DeepWitnessRowRef
set_option linter.unusedVariables false
set_option linter.unusedSimpArgs false
set_option maxRecDepth 100000
set_option maxHeartbeats 0
namespace Go.Proofs.YtdifpeaklamhnaaGreatDoor
open Go.Proofs.Tryz
open Go.ChangeShapes Go.WideShapes Go.ChangeAt Go.RowKit
open Go
theorem TG:ownKnob Tryz.prog.godebug=none:=by kernel_rfl
theorem JL:laidOutB prog=true:=by kernel_rfl
theorem TF(os:Os)(args:Array Value):laidMetH prog dR.laid ((World.doorLaid prog 62 os).forCall (λ_ _=>0) ⟨#[],args,[]⟩).memory:=
 laidMetH_of_parts3 (fuel:=8) (laidMet_of_run' 8 (by kernel_rfl) (by kernel_rfl)) (by kernel_rfl) (by kernel_rfl)
theorem NQ(os:Os){H:Type}(b:TypeId × Value->H):∃a,DataW.whole b prog ((World.doorLaid prog 62 os).forCall (λ_ _=>0) ⟨#[], #[.agg #[.slice none 0 0,.slice none 0 0,.slice none 0 0],.slice none 0 0],[]⟩).memory Tryz.f3.params.toList sN.vars false #[Value.agg #[.slice none 0 0,.slice none 0 0,.slice none 0 0],.slice none 0 0].toList 8=some ([.agg [.nil,.nil,.nil],.nil],[],a):=
 ⟨[],by kernel_rfl⟩
theorem TH{W:World}(c:laidMetH prog dR.laid W):sJ W:=by
 have a:=laidMetH.filter (fun x=>x.1== "internal/strconv.uint64pow10") c;have b:(dR.laid.filter fun x=>x.1== "internal/strconv.uint64pow10")= [("internal/strconv.uint64pow10",Lib.tabData .u64 Lib.pow10Tab)]:=by rfl
 rw[b,Go.MakeChecks.laidMetH_plain _ _ _ (by rfl)]at a;exact Lib.tabIs_of_head (g:=3) (t:=554) (e:=407) (n:=20) (by kernel_rfl) (by kernel_rfl) (by kernel_rfl) (by kernel_rfl) (by kernel_rfl) (by kernel_rfl) a
theorem Ld(os:Os)(i:os.Started)(H:Type)(a:TypeId × Value->H)(F:Stop.Interp):
  ReturnsInHanded {} Tryz.checked os 3 .any (sN.preRow a prog Tryz.f3 dR.domain false dR.laid) ((sN.at F).post a prog Tryz.f3 false true false false):=by
 obtain⟨K,hx⟩:=NQ os a;refine returnsInHanded_of_row (C:=Tryz.checked) (s:=sN) TG i (by kernel_rfl) Tryz.func3
  (witness_row_atRef (enc:=a) (C:=Tryz.checked) false (World.doorLaid prog 62 os) #[.agg #[.slice none 0 0,.slice none 0 0,.slice none 0 0],.slice none 0 0] rfl (by kernel_rfl) (by kernel_rfl) (by kernel_rfl)
   (OpenSpec.preRow_of_cond 8 hx (by kernel_rfl) (λk T=>by cases T;kernel_rfl) (by kernel_rfl) (TF os _))) ?_
 intro W y args ds gs J g hW _ u _ hL _ _;have f:∀(j:Nat) t v,Tryz.f3.params[j]? =some t->args[j]? =some v->Value.okWide prog W .any y t v:=g;have N:=hW;have T:Rows.uptoSmall H (ds++gs)=true:=u _ rfl;obtain⟨p,q,D,hV,rfl,a7,a8⟩:=hW;have hA:DataW.TrodAll a prog W 0 (λ_=>true) true Tryz.f3.params.toList args.toList ds p:=D;rw[Tryz.params3]at hA f;obtain⟨v0,a9,d0,a5,p0,q0,O,rfl,rfl,h0,r0⟩:=trodAll_cons hA;obtain⟨v1,b0,d1,a6,p1,q1,rfl,rfl,rfl,h1,r1⟩:=trodAll_cons r0;obtain⟨rfl,rfl,rfl⟩:=trodAll_nil r1;obtain rfl:args= #[v0,v1]:=by cases args;simp_all
 obtain⟨rfl,rfl⟩:=trodVars_none hV;have Q:=of_decide_eq_true T;simp only[List.append_nil,Rows.uptoBulkAll]at Q;obtain⟨r,rfl,E⟩:=okWide_struct Tryz.underlying26 (f 0 26 v0 rfl rfl);have k0:=h0;have Y:∀x∈p0,x.block<W.heap.size:=by obtain⟨m,X⟩:=k0;exact DataW.trod_lt m _ _ _ X
 obtain⟨a0,l,z,a1,I,A,a2,o,B,e0,U,V,R,P⟩:∃a0 l z a1 I A a2 o B,r= #[.slice a0 l z,.slice a1 I A,.slice a2 o B]/\l<=1048576/\o<=1048576/\(l=0\/∃b c,a0=some ⟨b,c,Option.none⟩/\b<W.heap.size/\iJ W b c l)/\(o=0\/∃b c,a2=some ⟨b,c,Option.none⟩/\b<W.heap.size/\lM W b c o):=by
  obtain⟨d,S⟩:=h0;have h3:r.toList.length=3:=by rw[Array.length_toList,E];kernel_rfl
  have w:DataW.trod a prog W 0 (λ_=>true) true d 26 r.toList=some (d0,p0):=by simpa[Value.cells]using S
  obtain⟨a0,l,z,a1,I,A,a2,o,B,e,g1,M,g3,g4⟩:=Ga h3 w (show Rows.uptoBulk d0<=1048576 by omega);exact⟨a0,l,z,a1,I,A,a2,o,B,by rw[<-Array.toList_inj];exact e,g1,M,g3,g4⟩
 subst e0;obtain⟨L,n,cap,rfl⟩:=okWide_slice Tryz.underlying27 (f 1 27 v1 rfl rfl);have k1:=h1;have Z:∀x∈p1,x.block<W.heap.size:=by obtain⟨m,X⟩:=k1;exact DataW.trod_lt m _ _ _ X
 obtain⟨hn,G⟩:n<=1048576/\(n=0\/∃b c,L=some ⟨b,c,Option.none⟩/\b<W.heap.size/\Ac W b c n):=by
  obtain⟨d,S⟩:=h1;have w:DataW.trod a prog W 0 (λ_=>true) true d 27 [.slice L n cap]=some (d1,p1):=by simpa[Value.cells]using S
  obtain⟨a4,n',a3,e,g1,M⟩:=Mx w (show Rows.uptoBulk d1<=1048576 by omega)
  cases e;exact⟨g1,M⟩
 clear D g;refine(Ii W a0 a1 a2 L l z I A o B n cap hn U V (TH hL) R P G).mono λe W' ⟨he,mD⟩=> ?_;subst he;exact⟨_,rfl,_,_,_,[],_,[],N,trodAll_mk1 (shut_bool Tryz.underlying4 _),(trodAll_cons_mk (Below.trod JL (by kernel_rfl) (of_decide_eq_true (by kernel_rfl)) k0 mD Y) (trodAll_cons_mk (Below.trod JL (by kernel_rfl) (of_decide_eq_true (by kernel_rfl)) k1 mD Z) trodAll_mk0)),rfl,mD.frame _,λh=>by cases h⟩
theorem QH:Tryz.pinned.checked.prog.funcNamed dR.func=some 3:=by kernel_rfl
theorem QG:Tryz.f3.isInstance Tryz.pinned.checked.prog dR.origin dR.targs:=of_decide_eq_true (by kernel_rfl)
theorem QJ:Tryz.f3.isWrapper Tryz.pinned.checked.prog dR.wrapper dR.mainSum:=by
 unfold Func.isWrapper;first|(rw[if_pos (by decide+kernel)];kernel_rfl)|(rw[if_neg (by decide+kernel)];exact⟨rfl,rfl⟩)
theorem NN:dR.holds Tryz.pinned sN:=
 OpenClaim.holds_of_cond 3 Tryz.f3 rfl rfl rfl rfl rfl rfl rfl ⟨rfl,rfl,rfl,rfl,rfl⟩ rfl rfl rfl rfl rfl QH Tryz.func3 Lc QG QJ
  (λos a H b _ F=>by rw[OpenClaim.pre_eq_preRow];exact Ld os a H b F)
theorem QI:Rows.callsUptoRow.holds Tryz.pinned (Rows.OpenSpec.upto Rows.callsSpec):=Al (c:=dR) rfl rfl rfl (by kernel_rfl) NN
theorem UW:true=Rows.callsUptoRow.goesBy Tryz.pinned.checked.prog:=by
 have b:Tryz.prog.unfollowed 3=true:=by
  have:=NP;rw[beq_iff_eq]at this;exact this.symm
 have:Tryz.prog.goesFrom "curtain/curtainlaw.Calls" =true:=by
  unfold Program.goesFrom;rw[Su,Option.any_some,Ox b]
 have e:Rows.callsUptoRow.func= "curtain/curtainlaw.Calls" :=rfl;have a:Tryz.pinned.checked.prog.goesFrom "curtain/curtainlaw.Calls" =true:=this;unfold OpenClaim.goesBy Program.goesAt;rw[e,a,Bool.true_or]
theorem calls_upto_card_holds:Rows.CallsUptoCardSaid:=
 xK .later [.data,.data,.data,.sentinel,.sentinel] true (true,"453de24607fd81f70f28704f7d13f11900e58ee688ee4dfc319e3c4a57320ff4") true true
  QI Vm callsUpto_row_tie rfl ⟨rfl,rfl⟩ VG rfl
  (λf fn c a=>by
   obtain rfl:f=3:=Option.some.inj (Su.symm.trans c) |>.symm;obtain rfl:fn=Tryz.f3:=(Option.some.inj (Tryz.func3.symm.trans a)).symm;exact⟨Vk,λj t b=>by
    rw[Tryz.params3]at b;have d:t∈ [26,27]:=by simpa using Array.mem_of_getElem? b
    exact(show Tryz.prog.wantsStandIn t=false by simpa using List.all_eq_true.1 Vl t d)⟩)
  UW
#print axioms calls_upto_card_holds
end Go.Proofs.YtdifpeaklamhnaaGreatDoor

import Derived.Test.YthkeffolmbnkaaaGreatDoorWkFZ
import Derived.ProofKit
import Derived.OpenShut
import Derived.Conc.Holds
import Derived.Test.YthkeffolmbnkaaaGreatDoorCards
import Derived.Test.YthkeffolmbnkaaaGreatDoorTie
set_option linter.unusedVariables false
set_option linter.unusedSimpArgs false
set_option maxRecDepth 100000
set_option maxHeartbeats 0
open Bool renaming true->J,false->α
open Go renaming OpenClaim->E,aloneAtReturn->β,ReturnsInOpen->γ,joinedFacts->δ,World->ε
open Go.Proofs.Tryz renaming f3->M,prog->D
open Go.Proofs.YthkeffolmbnkaaaGreatDoor renaming aF->U
open Go.Proofs.YthkeffolmbnkaaaGreatDoor.Tryz renaming pinned->V
namespace Go.Proofs.YthkeffolmbnkaaaGreatDoor
open Go.ChangeShapes Go.WideShapes Go.ChangeAt Go.RowKit
open Go
variable{d e:Bool}{c:FuncId}{b:OpenSpec}{a:Pinned}
def yC:OpenSpec:=Rows.OpenSpec.upto Rows.plansSpec
def gu:E:={Rows.plansUptoRow with leaving:=α}
theorem afc:(gu.wf (OpenSpec.ofChange yC.bare))=J:=U
theorem afd:(laidOutB V.checked.prog)=J:=U
theorem afe:(mapsRowed V.checked.prog)=J:=U
theorem aff:(M.params.all (V.checked.prog.readableRec ·))=J:=U
theorem afg:(namedTie V.checked.prog gu.named yC.bare.vars)=J:=U
theorem afh:((gu.stops== []))=J:=U
theorem afi:((V.checked.prog.stops== []))=J:=U
theorem afj:((gu.knobs== []))=J:=U
theorem afk:((V.checked.prog.stopKnobs== []))=J:=U
theorem afl:((gu.inPlace==V.checked.prog.inPlace 3))=J:=U
theorem Zb:((gu.unfollowed==V.checked.prog.unfollowed 3))=J:=U
theorem adv:((gu.recurses==V.checked.prog.recurses 3))=J:=U
theorem adw:((gu.named==V.checked.prog.varsNamed 3))=J:=U
theorem adx:((gu.maps==(M.params.toList++yC.bare.plain.varTypes V.checked.prog).any (V.checked.prog.mapsRec ·)))=J:=U
theorem ady:((gu.ifaces==(M.params.toList++yC.bare.plain.varTypes V.checked.prog).any (V.checked.prog.ifacesRec ·)))=J:=U
theorem adz:((gu.mapsOut==V.checked.prog.mapsAmong M.resultTypes.toList))=J:=U
theorem adA:((gu.loops==(M.params.toList++yC.bare.plain.varTypes V.checked.prog).any (V.checked.prog.loopsFrom ·)))=J:=U
theorem adB:((gu.wideKeys==(M.params.toList++yC.bare.plain.varTypes V.checked.prog++M.resultTypes.toList).any (V.checked.prog.wideKeysFrom ·)))=J:=U
theorem adC:(yC.bare.vars.all (V.checked.prog.varReadable ·))=J:=U
theorem adD:(M.resultTypes.all (λa=>V.checked.prog.readableRec a&&decide (a<V.checked.prog.types.size)))=J:=U
theorem adE:((gu.ifacesOut==M.resultTypes.toList.any (V.checked.prog.ifacesRec ·)))=J:=U
theorem adF:((gu.loopsOut==M.resultTypes.toList.any (V.checked.prog.loopsFrom ·)))=J:=U
theorem adG:((gu.plainKeys==V.checked.prog.plainKeys))=J:=U
theorem adH:(gu.shortTexts.isNone)=J:=U
theorem adI:(V.checked.prog.stopsHeard)=J:=U
theorem adJ:(V.checked.prog.mayEnter)=J:=U
theorem adK:((gu.lifted==V.checked.prog.liftsFinal))=J:=U
theorem adL:((V.checked.prog.make==some gu.make))=J:=U
theorem adu:gu.domain.isEmpty=J:=U
theorem adM:(gu.kinds== [])=J:=U
theorem adN:((gu.pinned==gu.pinnedBy))=J:=U
theorem adO:((gu.veiled==(M.params.toList++yC.bare.plain.varTypes V.checked.prog++M.resultTypes.toList).any (V.checked.prog.veiledRec ·)))=J:=U
theorem adP:(gu.veiledFits V.checked.prog M.params.toList (M.params.toList++yC.bare.plain.varTypes V.checked.prog++M.resultTypes.toList))=J:=U
theorem Vu:δ V.checked.prog 3 M yC.bare gu=J:=by
 unfold δ;rw[afc,afd,afe,aff,afg,afh,afi,afj,afk,afl,Zb,adv,adw,adx,ady,adz,adA,adB,adC,adD,adE,adF,adG,adH,adI,adJ,adK,adL,if_pos adu,adM,adN,adO,adP];rfl
theorem Kc{f:Assume}{a:Checked}{j}{k:Reach}{i:Program->ε->Reach->Nat->FuncId->Input->Prop}{e:ε->Array Value->Prop}{d:ε->Array Value->Value->ε->Prop}{g:Machine->Prop}(l:γ f Option.none a j c k i e d (β a.prog) g):γ f Option.none a j c k i e d (leavingAtReturn a.prog) g:=by
 obtain⟨m,own,n,o,p⟩:=l;refine⟨m,own,n,o,λs tape r q=>?_⟩;obtain⟨t,u,v,w,x,y,z,⟨B,C,F,K,b⟩,L⟩:=p s tape r q;exact⟨t,u,v,w,x,y,z,⟨B,C,F,K,b.2.1,Go.onlyLeaving_of_quiet b.1,b.2.2⟩,L⟩
theorem FP{c:E}(f:c.start=.entering)(e:c.stops= [])(g:c.leaving=α)(i:OpenClaim.wf b ({c with leaving:=true} :E)=J)(j:c.holds a b):({c with leaving:=J} :E).holds a b:=by
 obtain⟨_,k,l,m,n,o,p,q,r,s,t,u,v,w,x,y,z,B,C,F,K,L,N,O,P,R,S,T,W,X,a0,a1,a2,a3⟩:=j;refine⟨i,k,l,m,n,o,p,q,r,s,t,u,v,w,x,y,z,B,C,F,K,L,N,O,P,R,S,T,W,X,a0,a1,a2,λa9 a7 a6 a4 a5 a8=>?_⟩;have d:=a3 a9 a7 a6 a4 a5 a8;unfold OpenClaim.form at d ⊢;rw[f,e]at d;show match c.start,c.stops with
  | .entering,[]=>_
  | .entering,_::_=>_
  | .atMain,[]=>_
  | .atMain,_::_=>_
  | .atBar,[]=>_
  | .atBar,_::_=>_
 rw[f,e];intro b0;have hF:=d b0;have b1:c.atReturn a.checked.prog=β a.checked.prog:=by unfold OpenClaim.atReturn;rw[g]
 rw[b1]at hF;exact Kc hF
theorem afN:V.checked.prog.mainIs=some (J,"2b934f9f2242e9f9404610301c94434e66a0b5a85bab6a9a8145a115730def29".toList):=U
theorem afr:J=V.checked.prog.looks []:=U
theorem afs:([26,27].all λa=> !D.wantsStandIn a)=J:=U
theorem acy:D.funcNamed "curtain/curtainlaw.Plans" =some 3:=U
theorem aft:Rows.plansUptoRow.wfByText (Rows.OpenSpec.upto Rows.plansSpec)=J:=U
theorem Uv:D.funcs.any Func.goes=J:=by
 rw[Array.any_eq_true];obtain⟨a,b⟩:=Array.getElem?_eq_some_iff.mp Tryz.func158;exact⟨_,a,by rw[b];kernel_rfl⟩
theorem XJ(a:D.unfollowed c=J):D.goes c=J:=by
 unfold Program.goes;rw[a,Uv,Bool.and_true,Bool.or_true]
theorem CF{i:Looks}{c:E}{kinds f}(g)(m:c.holds a b)(v:c.wfByText b=J)(u:c.laidByTextAt i a kinds d)(s:c.start=.entering)(r:c.noBlocks=α/\c.again=α)(p:a.checked.prog.mainIs=some (f.1,f.2.toList))(q:(!f.1&&f.2.isEmpty&& !g)=α)(o:∀j k,a.checked.prog.funcNamed c.func=some j->a.checked.prog.funcs[j]? =some k->g=a.checked.prog.looks []/\∀(w:Nat) t,k.params[w]? =some t->a.checked.prog.wantsStandIn t=α)(n:e=c.goesBy a.checked.prog):
  Claim7.holds a (.plain b) {stood:={row:=c,standIns:=[],harness:=f,looks:=g},kinds:=[],alts:=[],goes:=e,laidByText:=J,laidKinds:=kinds,laidTests:=d,laidLooks:=i}:=by
 have x:∀l:E,Claim7.isSixth {stood:={row:=l,standIns:=[],harness:=f,looks:=g},kinds:=[]} =α:=λl=>by simpa[Claim7.isSixth]using q
 exact⟨Claim7.tied_new_at i kinds d (Claim7.new_of_sixth m f g s r p (x c) o) v,(λ_ y=>by cases y),u,(λy=>by cases y),n⟩
end Go.Proofs.YthkeffolmbnkaaaGreatDoor

import Derived.Conc.Holds
import Derived.Test.YtdifpeaklamhnaaGreatDoorCards
import Derived.Test.YtdifpeaklamhnaaGreatDoorTie
import Derived.ProofKit
set_option linter.unusedVariables false
set_option linter.unusedSimpArgs false
set_option maxRecDepth 100000
set_option maxHeartbeats 0
namespace Go.Proofs.YtdifpeaklamhnaaGreatDoor
open Go
theorem xI(i:Looks){p:Pinned}{s:OpenSpec}{c:OpenClaim}(kinds:List LaidKind)(b:Bool)(a:Bool × String)(e g:Bool)
  (o:c.holds p s) (x:c.wfByText s=true) (d:c.laidByTextAt i p kinds b)
  (l:c.start=.entering) (k:c.noBlocks=false/\c.again=false) (v:p.checked.prog.mainIs=some (a.1,a.2.toList)) (w:(!a.1&&a.2.isEmpty&& !e)=false)
  (u:∀f fn,p.checked.prog.funcNamed c.func=some f->p.checked.prog.funcs[f]? =some fn->e=p.checked.prog.looks []/\∀(j:Nat) t,fn.params[j]? =some t->p.checked.prog.wantsStandIn t=false)
  (q:g=c.goesBy p.checked.prog):
  Claim7.holds p (.plain s) {stood:={row:=c,standIns:=[],harness:=a,looks:=e},kinds:=[],alts:=[],goes:=g,laidByText:=true,laidKinds:=kinds,laidTests:=b,laidLooks:=i}:=by
 have m:∀r:OpenClaim,Claim7.isSixth {stood:={row:=r,standIns:=[],harness:=a,looks:=e},kinds:=[]} =false:=λr=>by simpa[Claim7.isSixth]using w
 exact⟨Claim7.tied_new_at i kinds b (Claim7.new_of_sixth o a e l k v (m c) u) x,(λD n=>by cases n),d,(λh=>by cases h),q⟩
theorem CF{a:Assume}{C:Checked}{os:Os}{f:FuncId}{r:Reach}{ok:Program->World->Reach->Nat->FuncId->Input->Prop}{c:World->Array Value->Prop}{b:World->Array Value->Value->World->Prop}{d:Machine->Prop}(h:ReturnsInOpen a Option.none C os f r ok c b (aloneAtReturn C.prog) d):ReturnsInOpen a Option.none C os f r ok c b (leavingAtReturn C.prog) d:=by
 obtain⟨e,own,z,m,l⟩:=h;refine⟨e,own,z,m,λw tape i y=> ?_⟩;obtain⟨n,v,w',o,p,q,s,⟨j,g,t,u,k⟩,x⟩:=l w tape i y;exact⟨n,v,w',o,p,q,s,⟨j,g,t,u,k.2.1,Go.onlyLeaving_of_quiet k.1,k.2.2⟩,x⟩
theorem zW{p:Pinned}{s:OpenSpec}{c:OpenClaim}(b:c.start=.entering)(a:c.stops= [])(g:c.leaving=false)(i:OpenClaim.wf s ({c with leaving:=true} :OpenClaim)=true)(h:c.holds p s):({c with leaving:=true} :OpenClaim).holds p s:=by
 obtain⟨_,B,C,D,E,G,I,J,f,fn,N,O,P,k4,Q,R,S,T,U,k,l,m,n,o,q,r,t,u,v,w,x,L,y,z⟩:=h;refine⟨i,B,C,D,E,G,I,J,f,fn,N,O,P,k4,Q,R,S,T,U,k,l,m,n,o,q,r,t,u,v,w,x,L,y,λos M K H d j=> ?_⟩;have e:=z os M K H d j;unfold OpenClaim.form at e ⊢;rw[b,a]at e;show match c.start,c.stops with
  | .entering,[]=>_
  | .entering,_::_=>_
  | .atMain,[]=>_
  | .atMain,_::_=>_
  | .atBar,[]=>_
  | .atBar,_::_=>_
 rw[b,a];intro F;have hF:=e F;have A:c.atReturn p.checked.prog=aloneAtReturn p.checked.prog:=by unfold OpenClaim.atReturn;rw[g]
 rw[A]at hF;exact CF hF
theorem VT:Tryz.pinned.checked.prog.mainIs=some (true,"453de24607fd81f70f28704f7d13f11900e58ee688ee4dfc319e3c4a57320ff4".toList):=by kernel_rfl
theorem Vz:true=Tryz.pinned.checked.prog.looks []:=by kernel_rfl
theorem VA:([26,27].all λu=> !Tryz.prog.wantsStandIn u)=true:=by kernel_rfl
theorem SH:Tryz.prog.funcNamed "curtain/curtainlaw.Sees" =some 4:=by kernel_rfl
theorem VB:Rows.seesUptoRow.wfByText (Rows.OpenSpec.upto Rows.seesSpec)=true:=by kernel_rfl
theorem LK:Tryz.prog.funcs.any Func.goes=true:=by
 rw[Array.any_eq_true];obtain⟨h,e⟩:=Array.getElem?_eq_some_iff.mp Tryz.func159;exact⟨_,h,by rw[e];kernel_rfl⟩
theorem OB{f:FuncId}(a:Tryz.prog.unfollowed f=true):Tryz.prog.goes f=true:=by
 unfold Program.goes;rw[a,LK,Bool.and_true,Bool.or_true]
end Go.Proofs.YtdifpeaklamhnaaGreatDoor

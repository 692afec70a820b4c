import Derived.Test.YtdifpeaklamhnaaGreatDoorLcHZ
import Derived.Conc.Holds
import Derived.Test.YtdifpeaklamhnaaGreatDoorCards
import Derived.Test.YtdifpeaklamhnaaGreatDoorTie
set_option linter.unusedVariables false
set_option linter.unusedSimpArgs false
set_option maxRecDepth 100000
set_option maxHeartbeats 0
namespace Go.Proofs.YtdifpeaklamhnaaGreatDoor
open Go.Proofs.Tryz
open Go.ChangeShapes Go.WideShapes Go.ChangeAt Go.RowKit
open Go
section
variable {H : Type} {enc : TypeId × Value -> H} {w : World} {base : Nat} {sp : Nat -> Bool} {hd : Bool}
theorem Ms{k:Nat}{cs:List Value}{y:DataW H × List MemPlace}(h:DataW.trod enc prog w base sp hd k 24 cs=some y)(hb:Rows.uptoBulk y.1<=1048576):
  ∃(a2:Option Addr) (l2 d:Nat),cs= [.slice a2 l2 d]/\l2<=1048576/\(l2=0\/∃b a,a2=some ⟨b,a,none⟩/\b<w.heap.size/\lM w b a l2):=by
 obtain⟨u,n,c,rfl,o,_,_,p⟩:=rG Tryz.underlying24 Sq (by omega) h hb;refine⟨u,n,c,rfl,o, ?_⟩;rcases p with h|⟨b,a,e,hl,hel⟩
 ·exact .inl h
 ·refine .inr ⟨b,a,e,hl,λi q=> ?_⟩;obtain⟨f,y,k,g1,g,j,m⟩:=hel i q;obtain⟨r,l,rfl,r1,r2,s,t⟩:=zA j m;exact⟨r,l,by have:=g 0 _ rfl;simpa using this,r1,r2,s,t⟩
theorem Ga{k:Nat}{cs:List Value}{y:DataW H × List MemPlace}(q:cs.length=3)(h:DataW.trod enc prog w base sp hd k 26 cs=some y)(hb:Rows.uptoBulk y.1<=1048576):
  ∃a0 c f a1 s g a2 l2 i,cs= [.slice a0 c f,.slice a1 s g,.slice a2 l2 i]/\c<=1048576/\l2<=1048576/\(c=0\/∃b a,a0=some ⟨b,a,none⟩/\b<w.heap.size/\iJ w b a c)/\(l2=0\/∃b a,a2=some ⟨b,a,none⟩/\b<w.heap.size/\lM w b a l2):=by
 obtain⟨z,n,_,r,_,e,d⟩:=DataW.trod_struct Tryz.underlying26 h;subst r;obtain⟨B,C,D,rfl⟩:=l3 (show z.length=3 from e);obtain⟨v0,A,v2,rfl⟩:=l3 q;have o:=d 0 _ rfl;have g1:=d 1 _ rfl;have p:=d 2 _ rfl;simp[UQ,UT,Sr]at o g1 p;obtain⟨a0,m0,f,j,t,u⟩:=IW o (mJ hb (by simp));obtain⟨a1,m1,g,l⟩:=zB Tryz.underlying23 g1;obtain⟨a2,m2,i,m,v,x⟩:=Ms p (mJ hb (by simp));simp only[List.cons.injEq,and_true]at j l m;subst j l m;exact⟨_,_,_,_,_,_,_,_,_,rfl,t,v,u,x⟩
theorem Mx{k:Nat}{cs:List Value}{y:DataW H × List MemPlace}(h:DataW.trod enc prog w base sp hd k 27 cs=some y)(hb:Rows.uptoBulk y.1<=1048576):
  ∃r n cap,cs= [.slice r n cap]/\n<=1048576/\(n=0\/∃b a,r=some ⟨b,a,none⟩/\b<w.heap.size/\Ac w b a n):=by
 obtain⟨R,n,c,rfl,J,_,_,K⟩:=rG Tryz.underlying27 VE (by omega) h hb;refine⟨R,n,c,rfl,J, ?_⟩;rcases K with h|⟨b,a,e,hl,hel⟩
 ·exact .inl h
 ·refine .inr ⟨b,a,e,hl,λi L=> ?_⟩;obtain⟨G,y,k,g1,f,I,_⟩:=hel i L;obtain⟨S,m,_,_,_,o,g⟩:=DataW.trod_struct Tryz.underlying44 I;obtain⟨U,V,W,X,Y,Z,rfl⟩:=l6 (show S.length=6 from o);obtain⟨v0,T,v2,v3,v4,v5,rfl⟩:=l6 g1;have s:=g 0 _ rfl;have t:=g 1 _ rfl;have u:=g 2 _ rfl;have v:=g 3 _ rfl;have x:=g 4 _ rfl;have z:=g 5 _ rfl;simp[JK,AZ,UR]at s t u v x z;obtain⟨N,A,_⟩:=DataW.trod_int Tryz.underlying3 s;obtain⟨p,B,_,j⟩:=DataW.trod_int Tryz.underlying3 t;obtain⟨q,C,_,d⟩:=DataW.trod_int Tryz.underlying3 u;obtain⟨s3,D,_⟩:=DataW.trod_string Tryz.underlying9 v;obtain⟨Q,E,_⟩:=DataW.trod_string Tryz.underlying9 x;obtain⟨lo,P,O,F⟩:=zB Tryz.underlying42 z;simp only[List.cons.injEq,and_true]at A B C D E F;subst A B C D E F;have M: -9223372036854775808<=p/\p<=9223372036854775807:=by
   simp only[Lit.wf,Bool.and_eq_true,decide_eq_true_eq]at j;exact j
  have l: -9223372036854775808<=q/\q<=9223372036854775807:=by
   simp only[Lit.wf,Bool.and_eq_true,decide_eq_true_eq]at d;exact d
  exact⟨N,p,q,s3,Q,lo,P,O,f 0 _ rfl,f 1 _ rfl,f 2 _ rfl,f 3 _ rfl,f 4 _ rfl,f 5 _ rfl,M,l⟩
end
theorem xK(i:Looks){p:Pinned}{s:OpenSpec}{c:OpenClaim}(kinds:List LaidKind)(b:Bool)(a:Bool × String)(e g:Bool)
  (o:c.holds p s) (x:c.wfByText s=true) (d:c.laidByTextAt i p kinds b)
  (l:c.start=.entering) (k:c.noBlocks=false/\c.again=false) (v:p.checked.prog.mainIs=some (a.1,a.2.toList)) (w:(!a.1&&a.2.isEmpty&& !e)=false)
  (u:∀f fn,p.checked.prog.funcNamed c.func=some f->p.checked.prog.funcs[f]? =some fn->e=p.checked.prog.looks []/\∀(j:Nat) t,fn.params[j]? =some t->p.checked.prog.wantsStandIn t=false)
  (q:g=c.goesBy p.checked.prog):
  Claim7.holds p (.plain s) {stood:={row:=c,standIns:=[],harness:=a,looks:=e},kinds:=[],alts:=[],goes:=g,laidByText:=true,laidKinds:=kinds,laidTests:=b,laidLooks:=i}:=by
 have m:∀r:OpenClaim,Claim7.isSixth {stood:={row:=r,standIns:=[],harness:=a,looks:=e},kinds:=[]} =false:=λr=>by simpa[Claim7.isSixth]using w
 exact⟨Claim7.tied_new_at i kinds b (Claim7.new_of_sixth o a e l k v (m c) u) x,(λD n=>by cases n),d,(λh=>by cases h),q⟩
theorem CY{a:Assume}{C:Checked}{os:Os}{f:FuncId}{r:Reach}{ok:Program->World->Reach->Nat->FuncId->Input->Prop}{c:World->Array Value->Prop}{b:World->Array Value->Value->World->Prop}{d:Machine->Prop}(h:ReturnsInOpen a Option.none C os f r ok c b (aloneAtReturn C.prog) d):ReturnsInOpen a Option.none C os f r ok c b (leavingAtReturn C.prog) d:=by
 obtain⟨e,own,z,m,l⟩:=h;refine⟨e,own,z,m,λw tape i y=> ?_⟩;obtain⟨n,v,w',o,p,q,s,⟨j,g,t,u,k⟩,x⟩:=l w tape i y;exact⟨n,v,w',o,p,q,s,⟨j,g,t,u,k.2.1,Go.onlyLeaving_of_quiet k.1,k.2.2⟩,x⟩
theorem Al{p:Pinned}{s:OpenSpec}{c:OpenClaim}(b:c.start=.entering)(a:c.stops= [])(e:c.leaving=false)(g:OpenClaim.wf s ({c with leaving:=true} :OpenClaim)=true)(h:c.holds p s):({c with leaving:=true} :OpenClaim).holds p s:=by
 obtain⟨_,A,B,C,D,E,G,I,f,fn,M,N,O,P,Q,R,S,T,U,j,k,l,m,n,o,q,r,t,u,v,w,L,x,y⟩:=h;refine⟨g,A,B,C,D,E,G,I,f,fn,M,N,O,P,Q,R,S,T,U,j,k,l,m,n,o,q,r,t,u,v,w,L,x,λos K J H enc i=> ?_⟩;have d:=y os K J H enc i;unfold OpenClaim.form at d ⊢;rw[b,a]at d;show match c.start,c.stops with
  | .entering,[]=>_
  | .entering,_::_=>_
  | .atMain,[]=>_
  | .atMain,_::_=>_
  | .atBar,[]=>_
  | .atBar,_::_=>_
 rw[b,a];intro F;have hF:=d F;have z:c.atReturn p.checked.prog=aloneAtReturn p.checked.prog:=by unfold OpenClaim.atReturn;rw[e]
 rw[z]at hF;exact CY hF
theorem VG:Tryz.pinned.checked.prog.mainIs=some (true,"453de24607fd81f70f28704f7d13f11900e58ee688ee4dfc319e3c4a57320ff4".toList):=by kernel_rfl
theorem Vk:true=Tryz.pinned.checked.prog.looks []:=by kernel_rfl
theorem Vl:([26,27].all λu=> !Tryz.prog.wantsStandIn u)=true:=by kernel_rfl
theorem Su:Tryz.prog.funcNamed "curtain/curtainlaw.Calls" =some 3:=by kernel_rfl
theorem Vm:Rows.callsUptoRow.wfByText (Rows.OpenSpec.upto Rows.callsSpec)=true:=by kernel_rfl
theorem Lx:Tryz.prog.funcs.any Func.goes=true:=by
 rw[Array.any_eq_true];obtain⟨h,e⟩:=Array.getElem?_eq_some_iff.mp Tryz.func159;exact⟨_,h,by rw[e];kernel_rfl⟩
theorem Ox{f:FuncId}(a:Tryz.prog.unfollowed f=true):Tryz.prog.goes f=true:=by
 unfold Program.goes;rw[a,Lx,Bool.and_true,Bool.or_true]
end Go.Proofs.YtdifpeaklamhnaaGreatDoor

import Derived.Test.YthkeffolmbnkaaaGreatDoorRtJZ
import Derived.Test.YthkeffolmbnkaaaGreatDoorAtCZ
set_option linter.unusedVariables false
set_option linter.unusedSimpArgs false
set_option maxRecDepth 100000
set_option maxHeartbeats 0
open Array renaming size->D
open Bool renaming false->Q,or_eq_false_iff->Ξ,true->A7
open Go renaming World->ο,Calls->A2,bodyPost_ret->A5,Value->A6,heap_alloc_new->B3,results->C2,TypeId->C6,Ending->C9
open Go.Addr renaming mk->G
open Go.Ending renaming returned->Δ
open Go.IntKind renaming i64->ζ,u8->C4
open Go.Obj renaming cells->δ
open Go.Proofs.Tryz renaming ntmps73->β,func73->γ,ntmps119->φ,func119->ψ,results116->Γ,prog->A3,f62->C7
open Go.Proofs.YthkeffolmbnkaaaGreatDoor renaming aa->Z
open Go.RowKit renaming Hid->V,Below->C3
open Go.RowKit.Below renaming refl->ν,heap_setCell->A0,heap_alloc->A4
open Go.Value renaming slice->J,int->H,string->Y,bool->ξ,agg->Φ,pointer->A1,tuple->B6
open Go.World renaming heap->I,cell?->α,size_alloc->μ,frozen?->A9
open Int.ofNat renaming inj->κ
open List renaming length->E,getElem?_eq_some_iff->σ,drop_eq_getElem_cons->τ,getElem?_eq_getElem->υ,length_map->ω,mem_of_getElem?->Θ,all_cons->B0,drop_of_length_le->B2,findIdx?_cons->B5,getElem?_map->B9,flatMap_cons->C0,any_cons->C1
open Nat renaming zero_le->B4,zero_add->C5
open Option renaming none->U,some->M
open SizeOf renaming sizeOf->ε
open UInt8 renaming toNat_inj->θ
open _root_ renaming Nat->A,if_neg->η,decide_eq_false->ι,beq_eq_false_iff_ne->ρ,decide_eq_true->χ,rfl->Ψ,List->Ω,if_pos->A8,Int->B1,ByteArray->B7,Option->B8,Array->C8
namespace Go.Proofs.YthkeffolmbnkaaaGreatDoor
open Go.Proofs.Tryz
open Go.RowKit
variable{q:Bs}{x B:ByteArray}{l:List Bs}{g:List RF}{m:List Tr}{n:List Value}{b d e j k s C:Nat}{o:Nat->Int}{f z:Option Addr}{p v w F K L N O P R S T W X a0 a1 a2 a3 a4 a5 a6 a7 a8 a9 b0 b1 b2 b3 b4 b5 b6 b7 b8 b9 c0 c1 c2 c3 c4 c5 c6 c7 c8 c9 e0 e1 e2 e3 e4 e5 e6 e7 e8 e9 g0 g1 g2 g3 g4 g5 g6 g7 g8 g9 h0 h1 h2 h3 h4 h5 h6 h7 h8 h9 i0 i1 i2 i3 i4 i5 i7 i8 i9 j0 j1 j2 j3 j4 j5 j6 j7 j8 j9 k0 k1 k2 k3:Value}{a u i6:World}{c:aJ}
def vZ:Ω Bs:=[[43],[45],[42],[47],[99,97,116],[110,111,116,101]]
theorem AV{cap}(e:iN a b cap m o n){c:Tr}(f:m[d]? =M c):E c.ops<=1000:=e.zq c (Θ f)
theorem QG(a):bC vZ a=mO a:=by
 unfold bC vZ mO;simp only[List.contains_cons,List.contains_nil,Bool.or_false,C1,List.any_nil]
def WK(N:A):Prop:=∀(t:Tr) (w:ο) (co:B8 Addr) (cn cc:A) (aS:B8 Addr) (tn tc:A) (args:Bs) (fo:B8 Addr) (fnn fc:A) (ps:Sc) (rfs:Ω RF) (g cap:A) (l:Ω Tr) (ty:A->B1) (cs:Ω A6) (i:A),ε t<=N->
 qP w co cn cc aS tn tc (J fo fnn fc) ps.1 rfs->tN ps args rfs->iN w g cap l ty cs->l[i]? =M t->
 A2 A3 118 #[Φ #[J co cn cc,J aS tn tc,Y (ae args),J fo fnn fc],Φ #[J (M ⟨g,0,U⟩) (E l) cap],H ζ i] w λe w'=>e=Δ (ξ (yD rfs t))/\C3 (D (I w)) w w'
theorem adT(b0:A)(j4:WK b0)(a:Tr)(b o)(n m:A)(aS)(t s:A)(args k)(q p:A)(e3 c)(x cap:A)(j)(O:A->B1)(g8)(r:A)(j5:∀j6∈a.ops,ε j6<=b0)(b1:qP b o n m aS t s (J k q p) e3.1 c)(j3:tN e3 args c)(z:iN b x cap j O g8)(b2:j[r]? =M a):
  A2 A3 118 #[Φ #[J o n m,J aS t s,Y (ae args),J k q p],Φ #[J (M (G x 0 U)) (E j) cap],H ζ r] b (RB (ξ (yD c a)) b):=by
 obtain⟨b3,b4,P,g9,e4,h0,h1,L,h2,h3⟩:=z.at b2;have l4:=(σ.mp b2).1;have l7:=z.lt;have l8:=z.cap;have l9:=z.small;have B:V (yD c a=((!a.br||(!mO a.tx&&wW c (dG (RF.list c) a.tx)))&&Be c a.ops)):=by
  obtain⟨m0,m1,e5,m2⟩:=a
  cases e5<;>(rw[V,yD];rfl)
 have n8:E a.ops<=1000:=by
  have n0:=AV z b2;omega
 change V _ at h3;change V _ at L;change V _ at h2;change V _ at b1;change V _ at z;obtain⟨l,a0⟩:=au (((b.alloc (δ #[J o n m,J aS t s,Y (ae args),J k q p] 214)).alloc (δ #[J (M (G x 0 U)) (E j) cap] 102)).alloc (δ #[Y (ae a.tx),ξ a.br,J b3 (E a.ops) b4,H C4 (O r)] 183));have R:V (((b.alloc (δ #[J o n m,J aS t s,Y (ae args),J k q p] 214)).alloc (δ #[J (M (G x 0 U)) (E j) cap] 102)).alloc (δ #[Y (ae a.tx),ξ a.br,J b3 (E a.ops) b4,H C4 (O r)] 183)=l):=a0.symm;have i:Bl b l:=by rw[a0];exact qE b _ _ _
 have X:=jF (w:=b) (o:=(δ #[J o n m,J aS t s,Y (ae args),J k q p] 214)) (o':=(δ #[J (M (G x 0 U)) (E j) cap] 102)) (o2:=(δ #[Y (ae a.tx),ξ a.br,J b3 (E a.ops) b4,H C4 (O r)] 183)) (ν _ _);rw[<-a0]at X;have n9:D (I l)=D (I b)+3:=by rw[a0];simp[μ]
 have N:∀d:ο,Bl l d->(α d ⟨D (I b)+2,0,U⟩=M (Y (ae a.tx))/\α d ⟨D (I b)+2,2,U⟩=M (J b3 (E a.ops) b4))/\(α d (G (D (I b)) 0 U)=M (J o n m)/\α d (G (D (I b)) 1 U)=M (J aS t s)/\α d (G (D (I b)) 2 U)=M (Y (ae args))/\α d (G (D (I b)) 3 U)=M (J k q p))/\α d ⟨D (I b)+1,0,U⟩=M (J (M (G x 0 U)) (E j) cap):=by
  intro d u;have b6:=(u.block (D (I b)) Z).trans X.1;have k0:=(u.block (D (I b)+1) Z).trans X.2.1;have h4:=(u.block (D (I b)+2) Z).trans X.2.2.1;exact⟨⟨aC h4,aC h4⟩,⟨aC b6,aC b6,aC b6,aC b6⟩,aC k0⟩
 clear a0 X;clear b2;obtain⟨h5,c2⟩:=au (dG (RF.list c) a.tx);have T:A2 A3 66 #[Φ #[J o n m,J aS t s,Y (ae args),J k q p],Y (ae a.tx)] l (RB (H ζ (Hw h5)) l):=by
  rw[c2];exact mi (b1.ah i).fns a.tx
 obtain⟨i9,g5⟩:=au (mO a.tx);have S:∀d:ο,A2 A3 113 #[J (M (G (D (I d)) 0 U)) 6 6,Y (ae a.tx)] (d.alloc (δ (vZ.map λw=>Y (ae w)).toArray 9)) λb7 g6=>b7=Δ (ξ i9)/\g6=d.alloc (δ (vZ.map λw=>Y (ae w)).toArray 9):=by
  intro d;rw[g5,<-QG];exact CY (L:=vZ) 6 Ψ Z (B3 d _) a.tx
 rw[<-c2,<-g5]at B;change V _ at c2;obtain⟨⟨c6,c7⟩,⟨c8,c9,e0,e1⟩,e2⟩:=N l (ν _ _);clear g5;have j8:V (∀(w:Tr) (c4:A) (d:ο),Bl b d->ε w<=b0->j[c4]? =M w->A2 A3 118 #[Φ #[J o n m,J aS t s,Y (ae args),J k q p],Φ #[J (M (G x 0 U)) (E j) cap],H ζ (c4:B1)] d (RB (ξ (yD c w)) d)):=λw c4 d u k8 F=>j4 w d o n m aS t s args k q p e3 c x cap j O g8 c4 k8 (b1.ah u) j3 (z.ah u) F;obtain⟨e5,h9⟩:=au a.br;rw[<-h9]at R e4 B;clear h9;go_enter func118,ntmps118
 cases e5
 case' false=>
  have b5:V (yD c a=Be c a.ops):=by rw[V,B.out];rfl
  obtain⟨f,g,k1⟩:∃d,Bl l d/\Bl d l:=⟨_,ν _ _,ν _ _⟩;go_wp2_with fail;rw[R.out];clear R g9 e4 h0 h1 c6 c7 c8 c9 e0 e1 e2
 case' true=>
  go_upto_region 3 with fail
  rw[R.out];clear R g9 e4 h0 h1
  cases i9
  case' true=>
   have e9:V (yD c a=Q):=by rw[V,B.out];rfl
   go_wp2_with(first
   |(go_at_call 66;refine cB T ?_;rintro f g;obtain⟨⟨a3,a4⟩,⟨a5,a6,a7,a8⟩,a9⟩:=N f g;have g4:D (I b)+2<D (I f):=(by have:=g.size;omega);have g3:D (I b)<D (I f):=Z)
   |(go_at_call 113;refine bP (S _) ?_))
   go_ret;exact⟨aG e9.symm,i.trans ((g.alloc g.size _).mono i.size)⟩
  case' false=>
   cases h5
   case' none=>
    have k6:Hw U= -1:=Ψ;have b5:V (yD c a=Be c a.ops):=by rw[V,B.out];rfl
    go_wp2_with(first
   |(go_at_call 66;refine cB T ?_;rintro f g;obtain⟨⟨a3,a4⟩,⟨a5,a6,a7,a8⟩,a9⟩:=N f g;have g4:D (I b)+2<D (I f):=(by have:=g.size;omega);have g3:D (I b)<D (I f):=Z)
   |(go_at_call 113;refine bP (S _) ?_))
    clear a3 a4 a5 a6 a7 a8 a9 c6 c7 c8 c9 e0 e1 e2
   case' some v=>
    have k6:Hw (M v)=(v:B1):=Ψ;obtain⟨m6,c1,_⟩:=nS c2.symm;rw[RF.list,B9]at c1;obtain⟨K,c3⟩:∃K,c[v]? =M K:=by
     cases F:c[v]? with
     |none=>rw[F]at c1;cases c1
     |some K=>exact⟨K,Ψ⟩
    have i5:v<E c:=(σ.mp c3).1;have g0:V (wW c (M v)=K.fn.body.quiet):=by rw[V,wW,c3]
    obtain⟨m7,m8,k4,n6,i3⟩:=b1.out.fns
    cases k4;obtain⟨b9,rfl,i1,i2⟩:∃C,k=M (G C 0 U)/\C<D (I b)/\∀(r:A) (j1:RF),c[r]? =M j1->Dr b C r j1:=by
     rcases i3 with g2|g2
     ·rw[g2]at i5;simp at i5
     exact g2
    obtain⟨m9,m4,m5,o5,_,_,_,_,b8,_⟩:=i2 v K c3;obtain⟨c5,a2⟩:=au K.fn.body.quiet;rw[<-a2]at b8 g0;clear a2 i2 i3 c1 c3
    cases c5
    case' false=>
     have e9:V (yD c a=Q):=by rw[V,B.out,g0.out];rfl
     go_wp2_with(first
   |(go_at_call 66;refine cB T ?_;rintro f g;obtain⟨⟨a3,a4⟩,⟨a5,a6,a7,a8⟩,a9⟩:=N f g;have g4:D (I b)+2<D (I f):=(by have:=g.size;omega);have g3:D (I b)<D (I f):=Z;have j2:=((bT i g).cell (p:=⟨b9,v*5+4,U⟩) i1).trans b8;have k3:b9<D (I f):=Z)
   |(go_at_call 113;refine bP (S _) ?_))
     go_ret;exact⟨aG e9.symm,i.trans ((g.alloc g.size _).mono i.size)⟩
    case' true=>
     have b5:V (yD c a=Be c a.ops):=by rw[V,B.out,g0.out];rfl
     go_wp2_with(first
   |(go_at_call 66;refine cB T ?_;rintro f g;obtain⟨⟨a3,a4⟩,⟨a5,a6,a7,a8⟩,a9⟩:=N f g;have g4:D (I b)+2<D (I f):=(by have:=g.size;omega);have g3:D (I b)<D (I f):=Z;have j2:=((bT i g).cell (p:=⟨b9,v*5+4,U⟩) i1).trans b8;have k3:b9<D (I f):=Z)
   |(go_at_call 113;refine bP (S _) ?_))
     clear a3 a4 a5 a6 a7 a8 a9 c6 c7 c8 c9 e0 e1 e2 j2 b8
 all_goals
  clear T S;go_loopg [10] (E a.ops) (λgk l0 g7=>∃e:A,gk=E a.ops-e/\e<=E a.ops/\l0=H ζ e/\Bl f g7/\V (Be c a.ops=(a.ops.drop e).all (yD c)))
  ·exact⟨0,Ψ,B4 _,Ψ,by first|exact k1|exact ai f _,by rw[V,Ze];rfl⟩
  obtain⟨e,k5,n7,rfl,h7,g1⟩:=hrel;subst k5;generalize k9:wr=wj at*;clear k9;have y:Bl l wj:=bT g h7;obtain⟨⟨c6,c7⟩,⟨c8,c9,e0,e1⟩,e2⟩:=N wj y;have o0:=y.size;have n2:D (I b)<D (I wj):=Z;have n1:D (I b)+1<D (I wj):=Z;have n3:D (I b)+2<D (I wj):=Z;by_cases a1:e<E a.ops
  ·rcases h3.out with c0|⟨C,rfl,k2,n5,i0⟩
   ·rw[c0]at a1;simp at a1
   have F:=υ (l:=P) (i:=e) (by have:=L.out;omega);obtain⟨k7,i6⟩:=h2.out e _ F;have j9:α wj (G C e U)=M (H ζ ((P[e]'(by have:=L.out;omega):A):B1)):=((bT i y).cell (p:=(G C e U)) k2).trans (i0 e _ F);have n4:C<D (I wj):=cz i.size;have i7:j[P[e]'(by have:=L.out;omega)]? =M a.ops[e]:=by rw[i6];exact υ a1
   have i8:ε a.ops[e]<=b0:=j5 _ (List.getElem_mem a1);have e7:=λ(d:World) (u:Bl wj d)=>(j8 a.ops[e] (P[e]'(by have:=L.out;omega)) d ((bT i y).trans (u.mono (bT i y).size)) i8 i7).mono (λb7 g6 c0=>(⟨c0.1,bT u c0.2⟩:b7=Δ (ξ (yD c a.ops[e]))/\Bl wj g6));have e8:V ((a.ops.drop e).all (yD c)=(yD c a.ops[e]&&(a.ops.drop (e+1)).all (yD c))):=by rw[V,τ a1,B0]
   obtain⟨c5,a2⟩:=au (yD c a.ops[e]);rw[<-a2]at e7 e8;obtain⟨o1,i4⟩:=au (P[e]'(by have:=L.out;omega));rw[<-i4]at e7 j9;clear a2 i4 i0 F k7 i6 i7 i8;go_upto_region 10 with fail
   go_cut [11] (λl1 g7=>l1=ξ c5/\Bl wj g7)
   ·go_region_with(go_at_call 118;refine(e7 _ ?_).mono ?_;(first|exact ν _ wj|exact(ν _ wj).drew);rintro b7 o6 ⟨rfl,h8⟩);all_goals(go_wp2;go_meet)
    all_goals exact⟨Ψ,by first|exact h8|exact h8.drew⟩
   obtain⟨rfl,h6⟩:=hcut;have e6:Bl b wc:=(bT i y).trans (h6.mono (bT i y).size);have j7:Bl f wc:=bT h7 h6
   cases c5 with
   |true=>
    have W:V (Be c a.ops=(a.ops.drop (e+1)).all (yD c)):=by rw[V,g1.out,e8.out];rfl
    go_wp2
    go_roundg (E a.ops-(e+1))
    case measure=>omega
    exact⟨e+1,Ψ,Z,aP,j7,W⟩
   |false=>
    have W:V (yD c a=Q):=by rw[V,b5.out,g1.out,e8.out];rfl
    go_wp2
    go_ret;exact⟨aG W.symm,e6⟩
  have W:V (yD c a=A7):=by rw[V,b5.out,g1.out,B2 Z];rfl
  have e6:Bl b wj:=bT i y
  go_wp2
  go_ret;exact⟨aG W.symm,e6⟩
theorem uA(b):WK b:=by
 induction b using Nat.strongRecOn with
 |ind b ih=>
  intro a e f g i aS j k args l m n o p q cap r s t u _ v w x y;have z:∀c∈a.ops,ε c<=ε a-1:=by
   intro c B;obtain⟨C,F,K,d⟩:=a;have:=List.sizeOf_lt_of_mem (show c∈d from B);simp only[Tr.mk.sizeOf_spec];omega
  have:0<ε a:=by obtain⟨C,F,K,d⟩:=a;simp only[Tr.mk.sizeOf_spec];omega
  exact adT (ε a-1) (ih _ Z) a e f g i aS j k args l m n o p q cap r s t u z v w x y
theorem Ol(b a)(c:B7)(f):A2 A3 73 #[Φ #[H ζ b,H ζ a,Y c],H C4 110] f (RB (ξ (dZ (b,a,c.toList) 1)) f):=by
 have e:=ai f (δ #[H ζ b,H ζ a,Y c] 56);by_cases g:b=0
 ·subst g;have d:V (dZ (0,a,c.toList) 1=((a==0)&&c.toList.isEmpty)):=by
   rw[V,dZ,eZ,A8 Ψ];simp
  cases i:(a==0)<;>rw[i]at d<;>
  ·go_enter γ,β
   go_wp2
   go_ret;exact⟨by rw[d.out];rfl,e⟩
 by_cases i:b=1
 ·subst i;have d:V (dZ (1,a,c.toList) 1=(c.toList.isEmpty&&(decide (-1000000000<=a)&&decide (a<=1000000000)))):=by
   rw[V,dZ,eZ,η Z,A8 Ψ,lW]
   cases c.toList.isEmpty<;>simp
  cases l:c.toList.isEmpty<;>cases j:decide (-1000000000<=a)<;>cases k:decide (a<=1000000000)<;>rw[l,j,k]at d<;>
  ·go_enter γ,β
   go_wp2
   go_ret;exact⟨by rw[d.out];rfl,e⟩
 by_cases j:b=2
 ·subst j;have d:V (dZ (2,a,c.toList) 1=Q):=by rw[V,dZ];simp
  go_enter γ,β
  go_wp2
  go_ret;exact⟨by rw[d.out];rfl,e⟩
 by_cases k:b=3
 ·subst k;have d:V (dZ (3,a,c.toList) 1=Q):=by rw[V,dZ];simp
  go_enter γ,β
  go_wp2
  go_ret;exact⟨by rw[d.out];rfl,e⟩
 have d:V (dZ (b,a,c.toList) 1=Q):=by rw[V,dZ,eZ,η g,η i,η j,η k];rfl
 have:(b==0)=Q:=by simpa using g
 have:(b==1)=Q:=by simpa using i
 have:(b==2)=Q:=by simpa using j
 have:(b==3)=Q:=by simpa using k
 go_enter γ,β
 go_wp2
 go_ret;exact⟨by rw[d.out];rfl,e⟩
theorem Om(b c)(a:B7)(f):A2 A3 73 #[Φ #[H ζ b,H ζ c,Y a],H C4 116] f (RB (ξ (dZ (b,c,a.toList) 2)) f):=by
 have e:=ai f (δ #[H ζ b,H ζ c,Y a] 56);by_cases g:b=0
 ·subst g;have d:V (dZ (0,c,a.toList) 2=((c==0)&&a.toList.isEmpty)):=by
   rw[V,dZ,eZ,A8 Ψ];simp
  cases i:(c==0)<;>rw[i]at d<;>
  ·go_enter γ,β
   go_wp2
   go_ret;exact⟨by rw[d.out];rfl,e⟩
 by_cases j:b=1
 ·subst j;have d:V (dZ (1,c,a.toList) 2=Q):=by rw[V,dZ];simp
  go_enter γ,β
  go_wp2
  go_ret;exact⟨by rw[d.out];rfl,e⟩
 by_cases k:b=2
 ·subst k;have d:V (dZ (2,c,a.toList) 2=((c==0)&&decide ((a.size:B1)<=30))):=by
   have l:decide (E a.toList<=30)=decide ((a.size:B1)<=30):=by rw[aj];simp;omega
   rw[V,dZ,eZ,η Z,η Z,A8 Ψ,l];simp
  cases i:(c==0)<;>cases l:decide ((a.size:B1)<=30)<;>rw[i,l]at d<;>
  ·go_enter γ,β
   go_wp2
   go_ret;exact⟨by rw[d.out];rfl,e⟩
 by_cases i:b=3
 ·subst i;have d:V (dZ (3,c,a.toList) 2=Q):=by rw[V,dZ];simp
  go_enter γ,β
  go_wp2
  go_ret;exact⟨by rw[d.out];rfl,e⟩
 have d:V (dZ (b,c,a.toList) 2=Q):=by rw[V,dZ,eZ,η g,η j,η k,η i];rfl
 have:(b==0)=Q:=by simpa using g
 have:(b==1)=Q:=by simpa using j
 have:(b==2)=Q:=by simpa using k
 have:(b==3)=Q:=by simpa using i
 go_enter γ,β
 go_wp2
 go_ret;exact⟨by rw[d.out];rfl,e⟩
theorem Oj(b a)(c:B7)(f):A2 A3 73 #[Φ #[H ζ b,H ζ a,Y c],H C4 98] f (RB (ξ (dZ (b,a,c.toList) 3)) f):=by
 have e:=ai f (δ #[H ζ b,H ζ a,Y c] 56);by_cases g:b=0
 ·subst g;have d:V (dZ (0,a,c.toList) 3=((a==0)&&c.toList.isEmpty)):=by
   rw[V,dZ,eZ,A8 Ψ];simp
  cases i:(a==0)<;>rw[i]at d<;>
  ·go_enter γ,β
   go_wp2
   go_ret;exact⟨by rw[d.out];rfl,e⟩
 by_cases j:b=1
 ·subst j;have d:V (dZ (1,a,c.toList) 3=Q):=by rw[V,dZ];simp
  go_enter γ,β
  go_wp2
  go_ret;exact⟨by rw[d.out];rfl,e⟩
 by_cases k:b=2
 ·subst k;have d:V (dZ (2,a,c.toList) 3=Q):=by rw[V,dZ];simp
  go_enter γ,β
  go_wp2
  go_ret;exact⟨by rw[d.out];rfl,e⟩
 by_cases l:b=3
 ·subst l;have d:V (dZ (3,a,c.toList) 3=(c.toList.isEmpty&&((a==0)||(a==1)))):=by
   rw[V,dZ,eZ,η Z,η Z,η Z,A8 Ψ]
   cases c.toList.isEmpty<;>simp
  cases m:c.toList.isEmpty<;>cases i:(a==0)<;>cases n:(a==1)<;>rw[m,i,n]at d<;>
  ·go_enter γ,β
   go_wp2
   go_ret;exact⟨by rw[d.out];rfl,e⟩
 have d:V (dZ (b,a,c.toList) 3=Q):=by rw[V,dZ,eZ,η g,η j,η k,η l];rfl
 have:(b==0)=Q:=by simpa using g
 have:(b==1)=Q:=by simpa using j
 have:(b==2)=Q:=by simpa using k
 have:(b==3)=Q:=by simpa using l
 go_enter γ,β
 go_wp2
 go_ret;exact⟨by rw[d.out];rfl,e⟩
theorem Gh(a b)(c:B7){e:UInt8}(f:fM e=A7)(d):A2 A3 73 #[Φ #[H ζ a,H ζ b,Y c],H C4 (e.toNat:B1)] d (RB (ξ (dZ (a,b,c.toList) (lK e.toNat))) d):=by
 unfold fM at f;simp only[Bool.or_eq_true,beq_iff_eq]at f;rcases f with(rfl|rfl)|rfl
 ·exact Ol a b c d
 ·exact Om a b c d
 exact Oj a b c d
def WA(w:ο)(ps:Sc)(fns:Ω Fn)(s:Bs)(e:C9)(w':ο):Prop:=C3 (D (I w)) w w'/\
 ((∃n:B1,dH bL ps fns s=.error n/\n≠0/\e=Δ (B6 #[Φ #[J U 0 0],H C4 0,H ζ n]))\/
  (∃(x:Ex) (t:Tr) (g cap:A) (cs:Ω A6),dH bL ps fns s=.ok x/\lQ s=M t/\bO bL ps fns t=.ok x/\(∀y∈post t,kg y)/\e=Δ (B6 #[Φ #[J (M ⟨g,0,U⟩) (E (post t)) cap],H C4 (pQ x.ty),H ζ 0])/\D (I w)<=g/\iN w' g cap (post t) (nM bL ps fns (post t) (E (post t))) cs))
theorem iN.other{x:ο}{g cap}(e:iN a g cap m o n){s}(t:a.heap[b]? =M (δ #[p] 102 s))(k:∀c,c≠b->x.heap[c]? =a.heap[c]?):iN x g cap m o n:=by
 have l:∀(f:C6) (q:C8 A6) (r:A×A) (c:A),a.heap[c]? =M (δ q f r)->f≠102->c≠b:=by
  intro f q r c d i j;subst j;rw[t]at d;cases d;exact i Ψ
 refine⟨aD e.own λc d=>?_,λv w u=>?_,e.small,e.zq⟩
 ·rcases e.own.2 with⟨i,_⟩|⟨_,_,_,i,_,j,_⟩
  ·cases i
  cases i;cases d;exact k _ (l _ _ _ _ j ag)
 obtain⟨y,z,B,C,F,K,i,L⟩:=e.nodes v w u;refine⟨y,z,B,C,F,K,aD i λc d=>?_,L⟩;rcases i.2 with⟨rfl,_⟩|⟨_,_,_,rfl,_,j,_⟩
 ·cases d
 cases d;exact k _ (l _ _ _ _ j ag)
theorem iN.drew{cap}(c:iN a b cap m o n):iN a.drew b cap m o n:=⟨c.own,c.nodes,c.small,c.zq⟩
theorem Jj(c:Bl a u)(g:D (I a)<=b)(d:u.grownBy i6 (M b)):Bl a i6:=
 ⟨d.os.trans c.os,d.tape.trans c.tape,d.output.trans c.output,Nat.le_trans c.size d.size,λe f=>(d.block e (by have:=c.size;omega) aN).trans (c.block e f)⟩
theorem ry{aS:B8 Addr}{args:Bs}{l:Sc}(R:qP a f d b aS s k (J z j e) l.1 g)(c8:E args<=maxLen)(S:tN l args g)(n:Bs):
  A2 A3 116 #[Φ #[J f d b,J aS s k,Y (ae args),J z j e],Y (ae n)] a λu T=>WA a l (RF.list g) n u T:=by
 have c:∀x:ο,A2 A3 21 #[Y (ae n)] x λu T=>TP x (lQ n) u T:=by
  intro x;have:=Kt (ae n) x;rw[ay]at this;exact this
 go_enter func116,ntmps116;go_wp2_with(go_at_call 21;refine(c _).mono ?_);clear c;rintro u m ⟨t,W⟩;obtain⟨p,X,_⟩:=qN t;have w:m.heap[D (I a)]? =M (δ #[J f d b,J aS s k,Y (ae args),J z j e] 214 (0,0)):=by
  rw[t.block _ gL,A4 _ _ _ gL];exact B3 a _
 obtain⟨⟨b4,b5,b6,b7⟩,_⟩:=bM w;obtain⟨_,_⟩:=rM p;have c9:D (I a)<D (I m):=Z;have e0:D (I a)+1<D (I m):=Z;rcases W with⟨v,e1,e2,cap,rfl⟩|⟨i,cap,_,e3,c,v,_,rfl,y,B⟩
 ·have r:V (dH bL l (RF.list g) n=.error 1):=by rw[V,dH,v]
  have o:=((ai (m.setCell ⟨D (I a)+1,0,U⟩ (J U 0 0)) (δ #[J e1 e2 cap] 102)).cell (p:=⟨D (I a)+1,0,U⟩) Jq).trans (xg p);clear v t p w;go_wp2_with fail;exact A5 (v:=B6 #[Φ #[J U 0 0],H C4 0,H ζ 1]) (by simp[C2,Γ,go_sem,o]) Ψ ⟨(X.setCell (p:=⟨D (I a)+1,0,U⟩) ak _).alloc Jq _,.inl ⟨1,r,ag,Ψ⟩⟩
 obtain⟨N,a0⟩:=B.nodes;have P:=B.texts;rw[C5]at a0;rw[<-a0]at y ⊢;have a1:E (post c)<=1000:=Z;have K:=y.lt i Ψ;have a2:D (I a)<=i:=by have:=K.1;simp only[μ]at this;omega
 have g2:D (I a)+1<i:=by have:=K.1;simp only[μ]at this;omega
 have O:m.ownsRow 0 183 4 (J (M (G i 0 U)) (E (post c)) cap) (E (post c)) e3:=bY y λ_ _=>B4 _;have o:=ai m (δ #[J (M (G i 0 U)) (E (post c)) cap] 102);have a7:=Kw bL R c8 S (bT X o) a2 (aD O λa4 a3=>o.block a4 (O.lt a4 a3).2) (N.ah o) P a1;have a5:∀q∈post c,kg q:=by
  intro q a6;obtain⟨L,a8⟩:=List.getElem?_of_mem a6;obtain⟨_,_,_,_,_,_,_,_,_,a9,_⟩:=N L q a8;exact a9
 have b8:=(o.block _ c9).trans w;have b9:=(o.block _ e0).trans p;have c0:=B3 m (δ #[J (M (G i 0 U)) (E (post c)) cap] 102);have c1:Bl a (m.alloc (δ #[J (M (G i 0 U)) (E (post c)) cap] 102)):=bT X o;change V _ at a0;change V _ at R;change V _ at a5;change V _ at b8;change V _ at b9;change V _ at c0;change V _ at c1;have e4:0<E (post c):=List.length_pos_of_mem (Θ (fQ c));have L:dH bL l (RF.list g) n=uF (bO bL l (RF.list g) c):=by rw[dH,v]
 change V _ at L;change V _ at v;have e5:V (∀q∈post c,E q.ops<=1000):=λq a6=>cz (wm a6);clear t p w y B N P O o;go_wp2_with(go_at_call 191;refine a7.mono ?_);clear a7;rintro u t ⟨o,W⟩;have a7:Bl a t:=Jj c1 a2 o;have e6:=o.size;rw[μ]at e6;have P:=(o.block (D (I a)) vK aN).trans b8;have w:=(o.block (D (I a)+1) vK aN).trans b9;have a8:=(o.block (D (I m)) ek aN).trans c0;obtain⟨⟨b4,b5,b6,b7⟩,_⟩:=bM P;obtain⟨a9,e7⟩:=rM w;obtain⟨c2,_⟩:=rM a8;have g3:D (I a)<D (I t):=Z;have b0:D (I a)+1<D (I t):=Z;have c3:D (I m)<D (I t):=Z;rcases W with⟨N,p,c4,rfl⟩|⟨x,e8,p,rfl,c5,c6⟩
 ·have r:V (dH bL l (RF.list g) n=.error N):=by rw[V,L.out,p];rfl
  have y:(N==0)=Q:=by simpa using c4
  clear P w a8 p o;go_wp2_with fail;exact A5 (v:=B6 #[Φ #[J U 0 0],H C4 0,H ζ N]) (by simp[C2,Γ,go_sem,a9]) Ψ ⟨a7.setCell (p:=⟨D (I a)+1,0,U⟩) ak _,.inl ⟨N,r,c4,Ψ⟩⟩
 have B:iN t i cap (post c) (nM bL l (RF.list g) (post c) (E (post c))) e8:=⟨c5,c6,a1,e5⟩;have y:=Ch f d b aS s k z j e (R.ah a7) S B;have c7:(E (post c):B1)+pU ((post c).map (KO g))=x.size:=by
  rw[Bc c x a5.out p];congr 2;exact List.map_congr_left λq _=>OV S q
 rw[c7]at y;have b1:α t ⟨i,(E (post c)-1)*4+3,U⟩=M (H C4 (pQ x.ty)):=by
  obtain⟨_,_,_,_,_,_,O,_⟩:=B.at (fQ c);rw[O,nM,A8 Z,fQ c];show M (H C4 (tyR (bO bL l (RF.list g) c)))=_;rw[p];rfl
 obtain⟨b2,O⟩:=au x.size;rw[<-O]at y;change V _ at O;change V _ at p;change V _ at B;have e9:=B.cap;obtain⟨g0,b3⟩:=au (pQ x.ty);rw[<-b3]at b1;change V _ at b3;have g1:V (t.heap[D (I a)+1]? =M (δ #[J U 0 0] 102 (0,0))):=w;clear c7 P w a8 o c5 c6;go_wp2_with(go_at_call 117;refine y.mono ?_);rintro u w ⟨rfl,o⟩;have a8:Bl a w:=bT a7 o;have c6:=cK o c3 c2;have P:=(o.block (D (I m)) c3);have c7:=cK o b0 a9;have g4:A9 w ⟨D (I a)+1,0,U⟩=Q:=(World.frozen?_of_block (o.block (D (I a)+1) b0)).trans e7;have l5:=cK o (by show i<_;have:=K.2;omega) b1;have g5:D (I a)+1<D (I w):=cz o.size;have g6:i<D (I w):=by have:=o.size;have:=K.2;omega
 have c5:V (w.heap[D (I a)+1]? =M (δ #[J U 0 0] 102 (0,0))):=(o.block (D (I a)+1) b0).trans g1;clear y b4 b5 b6 b7 a9 c2 b1 P;by_cases y:300<b2
 ·have r:V (dH bL l (RF.list g) n=.error 4):=by rw[V,L.out,p.out,uF,A8 (by rw[<-O.out];exact y)]
  have b4:decide (300<b2)=A7:=χ y;clear y;go_wp2_with fail;exact A5 (v:=B6 #[Φ #[J U 0 0],H C4 0,H ζ 4]) (by simp[C2,Γ,go_sem,c7]) Ψ ⟨a8.setCell (p:=⟨D (I a)+1,0,U⟩) ak _,.inl ⟨4,r,ag,Ψ⟩⟩
 have r:V (dH bL l (RF.list g) n=.ok x):=by rw[V,L.out,p.out,uF,η (by rw[<-O.out];exact y)]
 have b4:decide (300<b2)=Q:=ι y;clear y;obtain⟨pm,P⟩:∃pm,E (post c)=pm+1:=⟨E (post c)-1,Z⟩;rw[P,Nat.add_sub_cancel]at l5;rw[P]at c6 e9 a1 ⊢;change V _ at P;clear e4;have b5:=xg (v:=J (M (G i 0 U)) (pm+1) cap) c5;go_wp2_with fail;go_region;all_goals(try go_wp2_with fail)
 all_goals refine A5 (v:=B6 #[Φ #[J (M (G i 0 U)) (pm+1) cap],H C4 g0,H ζ 0]) (by simp[C2,Γ,go_sem,b5]) Ψ ?_
 all_goals
  have a9:=a8.setCell (p:=⟨D (I a)+1,0,U⟩) ak (J (M (G i 0 U)) (pm+1) cap);have b1:=(B.out.ah o).other c5 (x:=w.setCell ⟨D (I a)+1,0,U⟩ (J (M (G i 0 U)) (pm+1) cap)) λa4 a3=>A0 _ _ _ _ a3;exact⟨by first|exact a9|exact a9.drew,.inr ⟨x,c,i,cap,_,r,v,p,a5,by rw[P.out,<-b3.out],a2,by first|exact b1|exact b1.drew⟩⟩
abbrev Aj:=RF×A×A
def rT(e:Aj):Ω A6:=[Y (ae e.1.fn.name),Y (ae e.1.args),J (M ⟨e.2.1,0,U⟩) (E (post e.1.t)) e.2.2,H ζ e.1.fn.body.size,ξ e.1.fn.body.quiet]
def gW(l:Ω Aj):Ω A6:=l.flatMap rT
theorem Ow(a b):gW (a++b)=gW a++gW b:=by simp[gW]
theorem Cj:∀(e:Ω Aj) (c:A) (d:Aj) (b:A),e[c]? =M d->b<5->(gW e)[c*5+b]? =(rT d)[b]?
 | [],c,r,b,h,_=>by simp at h
 |a::rs,0,r,b,h,hj=>by
  simp at h;subst h;rw[Nat.zero_mul,C5,gW,C0,List.getElem?_append_left (by simp[rT];omega)]
 |a::rs,c+1,r,b,h,hj=>by
  have:=Cj rs c r b (by simpa using h) hj;have f:E (rT a)=5:=by simp[rT]
  rw[gW,C0,List.getElem?_append_right (by rw[f];omega),f,show(c+1)*5+b-5=c*5+b by omega];exact this
def pI(w:ο)(e:Aj):Prop:=∃(cs:Ω A6) (Bo:A->B1),iN w e.2.1 e.2.2 (post e.1.t) Bo cs/\Bo (E (post e.1.t)-1)=pQ e.1.fn.body.ty
theorem pI.ah{w x a}(b:pI w a)(c:Bl w x):pI x a:=by
 obtain⟨d,Bo,e,f⟩:=b;exact⟨d,Bo,e.ah c,f⟩
theorem uB{g:Ω Aj}(m:a.ownsRow e 217 5 (J f d b) (E g) (gW g))(q:E g<=8)(s:∀c∈g,pI a c):pJ a (J f d b) (g.map (·.1)):=by
 rcases m.2 with⟨c,r⟩|⟨n,cap,_,c,_,_,_⟩
 ·cases c;exact⟨U,0,by rw[ω,r],by rw[ω];exact q,.inl (by rw[List.length_eq_zero_iff.mp r];rfl)⟩
 cases c;refine⟨_,_,by rw[ω],by rw[ω];exact q,.inr ⟨n,Ψ,(m.lt n Ψ).2,λo t i=>?_⟩⟩;rw[B9]at i
 cases j:g[o]? with
 |none=>rw[j]at i;cases i
 |some c=>
  rw[j]at i;have u:c.1=t:=Option.some.inj i;subst u;have:=(σ.mp j).1;obtain⟨v,Bo,p,w⟩:=s c (Θ j);have k:∀l,l<5->α a ⟨n,o*5+l,U⟩=(rT c)[l]? :=λl x=>(m.cellAt _ Z).trans (Cj g o c l j x);exact⟨c.2.1,c.2.2,v,Bo,k 0 Z,k 1 Z,k 2 Z,k 3 Z,k 4 Z,p.small,p.own,p.nodes,w⟩
structure Fx(rfs:List RF):Prop where
 fty:∀r∈rfs,fA r.fn.body.ty
 SG:∀r∈rfs,r.fn.args=bB r.args/\r.args.all fM=true
 free:∀r∈rfs,dU r.fn.name=false
 OJ:∀r∈rfs,0<=r.fn.body.size/\r.fn.body.size<=300
 typ:∀(i:Nat) (r:RF),rfs[i]? =some r->bO bL ([],r.fn.args) (RF.list (rfs.take i)) r.t=.ok r.fn.body/\∀y∈post r.t,kg y
theorem Fx.known(a:Fx g){args:Bs}(c:args.all fM=A7){aB}(d:∀b∈aB,fA b.2)(e:∀b∈aB,jq b.1=A7):tN (aB,bB args) args g:=
 ⟨Ψ,c,d,e,a.fty,a.SG,a.free,a.OJ⟩
def Ao(w:ο)(xb:A)(l:Ω Aj):Prop:=∃fo fnn fc,w.heap[xb]? =M (δ #[J fo fnn fc,J U 0 0,J U 0 0] 200 (0,0))/\w.ownsRow (xb+1) 217 5 (J fo fnn fc) (E l) (gW l)/\E l<=8/\∀e∈l,pI w e
theorem PX(b:UInt8):(!(lK b.toNat==0))=fM b:=by
 cases c:fM b with
 |true=>
  have:=(oq c).1;have a:(lK b.toNat==0)=Q:=by
   rw[ρ];rcases this with a|a|a<;>rw[a]<;>decide
  rw[a];rfl
 |false=>
  unfold fM at c;simp only[Ξ,ρ]at c;have d:¬((b.toNat:B1)=110):=λa=>c.1.1 (θ.mp (by simpa using κ a));have e:¬((b.toNat:B1)=116):=λa=>c.1.2 (θ.mp (by simpa using κ a));have f:¬((b.toNat:B1)=98):=λa=>c.2 (θ.mp (by simpa using κ a));simp[lK,d,e,f]
theorem yK(a:Bs):fO a=(decide (E a<=4)&&a.all fM):=by
 unfold fO bB;congr 1
 induction a with
 |nil=>rfl
 |cons b c ih=>
  simp only[List.map_cons,C1,B0,Bool.not_or];rw[ih];congr 1;have:=PX b;exact this
theorem Uu{fns}(a):sJ fns a=(aW a&& !nG a&& !bC lu a&&(dG fns a).isNone):=by
 unfold sJ
 cases b:aW a with
 |false=>rfl
 |true=>rw[BA,(oC b).1];rfl
theorem adg:(A3.info? 217).map (λa=>(a.zero,a.size,a.bytes))=M (M (Φ #[Y ⟨#[]⟩,Y ⟨#[]⟩,J U 0 0,H ζ 0,ξ Q]),5,72):=aF
def bJ(l:Ω Aj):Ω Fn:=RF.list (l.map (·.1))
def aas(w:ο)(xb:A)(l:Ω Aj)(args:Bs)(o:Except B1 Fn)(e:C9)(w':ο):Prop:=
 (∃n:B1,o=.error n/\n≠0/\e=Δ (H ζ n)/\C3 (D (I w)) w w')\/
 (∃(fn:Fn) (t:Tr) (g cap:A),o=.ok fn/\e=Δ (H ζ 0)/\Ao w' xb (l++ [(⟨fn,args,t⟩,g,cap)])/\Fx ((l++ [((⟨fn,args,t⟩:RF),g,cap)]).map (·.1))/\C3 xb w w')
theorem El(b:pJ a p g):qP a U 0 0 U 0 0 p [] g:=⟨Ψ,Ψ,ak,.inl Ψ,.inl Ψ,ak,ak,b⟩
theorem yR{fns name args body}(a:sJ fns name=Q):nI fns name args body=.error 2:=by
 rw[nI,a];rfl
theorem Gw{fns name args body}(a:sJ fns name=A7)(b:fO args=Q):nI fns name args body=.error 9:=by
 rw[nI,a,b];rfl
theorem aaB{fns name args body}(a:sJ fns name=A7)(b:fO args=A7):nI fns name args body=match dH bL ([],bB args) fns body with| .error c=>.error c| .ok d=>.ok ⟨name,bB args,d⟩:=by
 rw[nI,a,b];rfl
theorem aaL{c}(d:a.heap[b]? =M (δ #[p,v,w] c (0,0))):α a (G b 0 U)=M p/\A9 a (G b 0 U)=Q/\α a (G b 1 U)=M v/\α a (G b 2 U)=M w:=by
 simp[α,A9,d]
theorem iN.move{x:ο}{cap}(c:iN a b cap m o n)(j:∀(d:A) (k:C8 A6) (f:C6) (l:A×A),a.heap[d]? =M (δ k f l)->f=183\/f=3->x.heap[d]? =a.heap[d]?):iN x b cap m o n:=by
 refine⟨aD c.own λd e=>?_,λq r p=>?_,c.small,c.zq⟩
 ·rcases c.own.2 with⟨g,_⟩|⟨_,_,_,g,_,i,_⟩
  ·cases g
  cases g;cases e;exact j _ _ _ _ i (.inl Ψ)
 obtain⟨s,t,u,v,w,y,g,z⟩:=c.nodes q r p;refine⟨s,t,u,v,w,y,aD g λd e=>?_,z⟩;rcases g.2 with⟨rfl,_⟩|⟨_,_,_,rfl,_,i,_⟩
 ·cases e
 cases e;exact j _ _ _ _ i (.inr Ψ)
theorem pI.move{x:ο}{d}(g:pI a d)(i:∀(c:A) (e:C8 A6) (b:C6) (f:A×A),a.heap[c]? =M (δ e b f)->b=183\/b=3->x.heap[c]? =a.heap[c]?):pI x d:=by
 obtain⟨j,Bo,k,l⟩:=g;exact⟨j,Bo,k.move i,l⟩
theorem adU{wc:ο}{y i p}(P:b<D (I u))(n:Bl u wc)(z:wc.heap[b]? =M (δ #[J f k j,J U 0 0,J U 0 0] 200 (0,0)))(r:wc.ownsRow (b+1) 217 5 (J f k j) (E i) (gW i))(O:E i<=7)(B:∀g∈i,pI u g)(C:pI wc p)(F:a.ownsRow (b+1) 217 5 (J (M (G e 0 U)) (E i+1) d) (E i+1) (gW i++rT p))(o:(wc.alloc y).drew.grownBy a (J f k j).ownBlock)(K:a.heap[b]? =M (δ #[J f k j,J U 0 0,J U 0 0] 200 (0,0))):
  Ao (a.setCell (G b 0 U) (J (M (G e 0 U)) (E i+1) d)) b (i++ [p])/\C3 b u (a.setCell (G b 0 U) (J (M (G e 0 U)) (E i+1) d)):=by
 have R:=n.size;have L:=o.size;simp only[World.size_drew,μ]at L;have s:∀c,c<D (I wc)->c≠b->(J f k j).ownBlock≠M c->(a.setCell (G b 0 U) (J (M (G e 0 U)) (E i+1) d)).heap[c]? =wc.heap[c]? :=by
  intro c l m q;rw[A0 _ _ _ _ m,o.block c LZ (λg=>q g.symm)];exact A4 _ _ _ l
 have t:∀(c:A) (v:C8 A6) (q:C6) (w:A×A),wc.heap[c]? =M (δ v q w)->q=183\/q=3->(a.setCell (G b 0 U) (J (M (G e 0 U)) (E i+1) d)).heap[c]? =wc.heap[c]? :=by
  intro c v q w l x;refine s c (af l) (λg=>?_) (λg=>?_)
  ·subst g;rw[z]at l;cases l;revert x;decide
  rcases r.2 with⟨m,_⟩|⟨_,_,_,m,_,N,_⟩
  ·rw[m]at g;cases g
  rw[m]at g;cases g;rw[N]at l;cases l;revert x;decide
 refine⟨⟨M (G e 0 U),E i+1,d,by simp[World.setCell,Array.getElem?_modify,K], ?_,aN,λg l=>?_⟩, ?_⟩
 ·rw[Ow,List.length_append];have:gW [p]=rT p:=by simp[gW]
  rw[this];exact ownsRow_setCell_below F (by show b<b+1;omega) _
 ·rcases List.mem_append.mp l with m|m
  ·exact((B g m).ah n).move t
  rw[List.mem_singleton.mp m];exact C.move t
 suffices hB:C3 b u a from hB.setCell (p:=(G b 0 U)) (Nat.le_refl _) _
 refine⟨o.os.trans n.os,o.tape.trans n.tape,o.output.trans n.output,Z,λc _=>?_⟩;have:=s c Z Z (λg=>cz ((r.lt _ g).1));rw[A0 _ _ _ _ (by show c≠b;omega)]at this;exact this.trans (n.block c Z)
def lU(n:A):Code->B8 Code
 | .region id ops b=>if id=n then M (.region id ops b)else U
 | .seq a b=>match lU n a with
  |some c=>M c
  |none=>lU n b
 | .block _ c=>lU n c
 | .scope c=>lU n c
 | .loop c=>lU n c
 | .cond _ a b=>match lU n a with
  |some c=>M c
  |none=>lU n b
 |_=>U
def abN(f:Func):Code:=((f.body.bind (lU 16)).getD .skip)
theorem EF{c cap}(l i)(n7:E c<=7)(n6:j<D (I a))(k5:b<D (I a))(n5:k<D (I a))(n9:α a (G j 0 U)=M (Y x))(o0:α a (G j 1 U)=M (Y B))(n8:α a (G k 0 U)=M (J (M (G s 0 U)) C cap))(o1:α a (G b 0 U)=M (J f e d))(o:a.ownsRow (b+1) 217 5 (J f e d) (E c) (gW c))(u:a.heap[b]? =M (δ #[J f e d,J U 0 0,J U 0 0] 200 (0,0))){r:Act->ο->Prop}{k4:C9->ο->Prop}(t:∀(v85 k8 k9 l0 l1 l4 l7 l8 l9 m0 m1 m2 m3 m4 m5 k6 k7:A6) (n m:A) (g:ο) (i6:Obj),g.ownsRow (b+1) 217 5 (J (M (G n 0 U)) (E c+1) m) (E c+1) (gW c++ [Y x,Y B,J (M (G s 0 U)) C cap,H ζ l,ξ i])->(a.alloc i6).drew.grownBy g (J f e d).ownBlock->g.heap[b]? =M (δ #[J f e d,J U 0 0,J U 0 0] 200 (0,0))->r ⟨#[A1 (M (G b 0 U)),p,v,A1 (M (G j 0 U)),w,F,K,L,N,O,P,A1 (M (G k 0 U)),R,S,H ζ l,ξ i,T,W,X,a0,a1,a2,a3,a4,a5,a6,a7,a8,a9,b0,b1,b2,b3,b4,b5,b6,b7,b8,b9,c0,c1,c2,c3,c4,c5,c6,c7,c8,c9,e0,e1,e2,e3,e4,e5,e6,e7,e8,e9,g0,g1,g2,g3,g4,g5,g6,g7,g8,g9,h0,h1,h2,h3,h4,h5,h6,h7,h8,h9,i0,i1,i2,i3,i4,i5,v85,k8,k9,l0,l1,l4,l7,l8,l9,m0,m1,m2,m3,m4,m5,k6,k7],[]⟩ (g.setCell (G b 0 U) (J (M (G n 0 U)) (E c+1) m))):
  Code.wp A3 (abN C7) (Exit.then r (bodyPost A3 C7 k4)) ⟨#[A1 (M (G b 0 U)),p,v,A1 (M (G j 0 U)),w,F,K,L,N,O,P,A1 (M (G k 0 U)),R,S,H ζ l,ξ i,T,W,X,a0,a1,a2,a3,a4,a5,a6,a7,a8,a9,b0,b1,b2,b3,b4,b5,b6,b7,b8,b9,c0,c1,c2,c3,c4,c5,c6,c7,c8,c9,e0,e1,e2,e3,e4,e5,e6,e7,e8,e9,g0,g1,g2,g3,g4,g5,g6,g7,g8,g9,h0,h1,h2,h3,h4,h5,h6,h7,h8,h9,i0,i1,i2,i3,i4,i5,i7,i8,i9,j0,j1,j2,j3,j4,j5,j6,j7,j8,j9,k0,k1,k2,k3],[]⟩ a:=by
 conv=>arg 2;whnf
 change V _ at t;have m6:∀q:Obj,(a.alloc q).drew.ownsRow (b+1) 217 5 (J f e d) (E c) (gW c):=λq=>World.ownsRow.drew (World.ownsRow.alloc o q);have m7:(J f e d).ownBlock≠M b:=λm8=>cz ((o.lt _ m8).1);change V _ at u;clear o;obtain⟨m9,n0,n1,n2,n3⟩:=info_parts adg
 go_region_law (refine step_append_lies _ Ψ (.tmp 89) (.tmp 98) 197 Ψ (b+1) 217 m9 _ 5 72 underlying197 n0 n1 n2 n3 Ψ ag (J f e d) (E c) (gW c) jl (m6 _) (G (D (I a)) 0 U) 1 1 [Y x,Y B,J (M (G s 0 U)) C cap,H ζ l,ξ i] jl Ψ (World.news_of_block (bS a)) (by intro _ z;simp only[List.mem_cons,List.not_mem_nil,or_false]at z;rcases z with rfl|rfl|rfl|rfl|rfl<;>rfl) ag fD Z aN (D (I a)+1) ak ?_;intro n m g n4 y _ _;have o:g.heap[b]? =_:=(y.block b aN m7.symm).trans ((A4 _ _ _ k5).trans u);have:=af o;obtain⟨_,_,_⟩:=aaL o)
 all_goals exact t _ _ _ _ _ _ _ _ _ _ _ _ _ _ _ _ _ _ _ _ _ n4 y o
theorem Xn(f i:Bs)(g):(iF (i,f,g)==0)= !(f.all fM&&decide (E f=1)):=by
 match f with
 | []=>rfl
 | [c]=>
  show(lK c.toNat==0)= !(([c]:Bs).all fM&&A7);simp only[B0,List.all_nil,Bool.and_true]
  cases e:fM c with
  |true=>
   have:=(oq e).1;rw[show(!A7)=Q from Ψ,ρ];rcases this with d|d|d<;>rw[d]<;>decide
  |false=>
   unfold fM at e;simp only[Ξ,ρ]at e;have j:¬((c.toNat:B1)=110):=λd=>e.1.1 (θ.mp (by simpa using κ d));have k:¬((c.toNat:B1)=116):=λd=>e.1.2 (θ.mp (by simpa using κ d));have l:¬((c.toNat:B1)=98):=λd=>e.2 (θ.mp (by simpa using κ d));simp[lK,j,k,l]
 |a::b::r=>simp[iF]
theorem oV(a):mG a=(aW a.1&&(a.2.1.all fM&&decide (E a.2.1=1))&&decide (1<=a.2.2)&&decide (a.2.2<=1000000)):=by
 obtain⟨_,_,_⟩:=a;rw[mG,Xn];simp
theorem MZ(b:¬(1<=E c.aB/\E c.aB<=4/\0<=c.count/\c.count<=1000000/\E c.rows<=10)):bG c=Q:=by
 cases a:bG c with
 |false=>rfl
 |true=>
  exfalso;apply b;unfold bG bZ iE at a;simp only[Bool.and_eq_true,Bool.not_eq_true',Ξ,decide_eq_false_iff_not,decide_eq_true_eq]at a;omega
theorem Na(a:1<=E c.aB/\E c.aB<=4/\0<=c.count/\c.count<=1000000/\E c.rows<=10):bG c=(dL [] c.aB&&c.rows.all λb=>jI b c.aB):=by
 obtain⟨_,_,d,e,_⟩:=a;unfold bG bZ iE;rw[ι Z,ι Z,χ d,χ e,ι Z];simp
theorem EJ(f l k o n r q p)(m:¬(1<=E c.aB/\E c.aB<=4/\0<=c.count/\c.count<=1000000/\E c.rows<=10)):
  A2 A3 119 #[Φ #[Y (ae c.name),J l (E c.aB) k,J o (E c.rows) n,H ζ c.count,Y (ae c.aR),J r q p]] f (RB (ξ (bG c)) f):=by
 have e:V (bG c=Q):=MZ m;have a:=ai f (δ #[Y (ae c.name),J l (E c.aB) k,J o (E c.rows) n,H ζ c.count,Y (ae c.aR),J r q p] 54);obtain⟨b,g⟩:=au (E c.aB);obtain⟨s,i⟩:=au (E c.rows);obtain⟨d,j⟩:=au c.count;rw[<-g,<-i,<-j]at m ⊢;rw[<-g,<-i,<-j]at a;clear g i j;by_cases w:b<1
 ·have j:decide ((b:B1)<1)=A7:=by simp;omega
  go_enter ψ,φ
  go_wp2
  go_ret;exact⟨aG e.symm,a⟩
 have j:decide ((b:B1)<1)=Q:=aN;by_cases x:4<b
 ·have t:decide ((4:B1)<(b:B1))=A7:=by simp;omega
  go_enter ψ,φ
  go_wp2
  go_ret;exact⟨aG e.symm,a⟩
 have t:decide ((4:B1)<(b:B1))=Q:=aN;by_cases g:d<0
 ·have u:decide (d<0)=A7:=χ g;go_enter ψ,φ
  go_wp2
  go_ret;exact⟨aG e.symm,a⟩
 have u:decide (d<0)=Q:=ι g;by_cases i:1000000<d
 ·have v:decide (1000000<d)=A7:=χ i;go_enter ψ,φ
  go_wp2
  go_ret;exact⟨aG e.symm,a⟩
 have v:decide (1000000<d)=Q:=ι i;have:decide ((10:B1)<(s:B1))=A7:=aN;go_enter ψ,φ
 go_wp2
 go_ret;exact⟨aG e.symm,a⟩
def oK(w:ο)(v:A6)(ns:Ω Bs):Prop:=∃ao cap,v=J ao (E ns) cap/\E ns<=1000/\(ns= []\/∃b,ao=M ⟨b,0,U⟩/\b<D (I w)/\∀(i:A) (n:Bs),ns[i]? =M n->α w ⟨b,i*6,U⟩=M (Y (ae n)))
def lH(ns:Ω Bs)(l:Bs)(i:A):B8 A:=((ns.drop i).findIdx? (λn=>n==l)).map (· +i)
theorem KS(b:Ω Bs)(a):lH b a 0=b.findIdx? (λc=>c==a):=by
 unfold lH;simp
theorem Pb(c:b<E l)(a:(l[b]==q)=A7):lH l q b=M b:=by
 unfold lH;rw[τ c,B5,a];simp
theorem KQ(c:b<E l)(a:(l[b]==q)=Q):lH l q b=lH l q (b+1):=by
 unfold lH;rw[τ c,B5,a];simp only[Bool.false_eq_true,if_false,Option.map_map];congr 1;funext x;simp;omega
theorem OZ(a:E l<=b):lH l q b=U:=by
 unfold lH;rw[B2 a];rfl
theorem zR{f s aS r q}{b:Ω Bs}(B:α f (G s 1 U)=M (J aS r q))(j:oK f (J aS r q) b)(c):
  A2 A3 78 #[A1 (M (G s 0 U)),Y (ae c)] f (RB (H ζ (Hw (b.findIdx? (λd=>d==c)))) f):=by
 obtain⟨u,cap,l,v,p⟩:=j
 cases l;have g:V _:=KS b c;have n:V _:=p;clear p;go_enter func78,ntmps78;go_wp2_with fail;go_loop [5] (λt=>∃a:A,a<=E b/\t=H ζ a/\V (lH b c 0=lH b c a)) (λa=>E b-(intOf a).toNat)
 ·exact⟨0,B4 _,Ψ,Ψ⟩
 obtain⟨a,x,rfl,e⟩:=hrel;by_cases m:a<E b
 ·obtain⟨k,rfl,w,o⟩:∃k,aS=M (G k 0 U)/\k<D (I f)/\∀(a:A) (d:Bs),b[a]? =M d->α f ⟨k,a*6,U⟩=M (Y (ae d)):=by
   rcases n.out with j|j
   ·subst j;simp at m
   exact j
  have C:=o a b[a] (υ m);have y:(ae b[a]).toList=b[a]:=ay;have z:(ae c).toList=c:=ay;clear o n
  cases l:(b[a]==c)with
  |true=>
   have i:V (b.findIdx? (λd=>d==c)=M a):=by rw[V,<-g.out,e.out,Pb m l]
   clear g e
   go_wp2
   go_ret;exact⟨by rw[i.out];rfl,ν _ _⟩
  |false=>
   have i:V (lH b c 0=lH b c (a+1)):=by rw[V,e.out,KQ m l]
   clear g e
   go_wp2
   go_round
   ·exact⟨a+1,Z,aP,i⟩
   simp[intOf];omega
 have i:V (b.findIdx? (λd=>d==c)=U):=by rw[V,<-g.out,e.out,OZ Z]
 clear g e n
 go_wp2
 go_ret;exact⟨by rw[i.out];rfl,ν _ _⟩
end Go.Proofs.YthkeffolmbnkaaaGreatDoor

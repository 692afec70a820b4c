import Derived.Test.YthkeffolmbnkaaaGreatDoorQrLZ
import Derived.Test.YthkeffolmbnkaaaGreatDoorQbBZ
set_option linter.unusedVariables false
set_option linter.unusedSimpArgs false
set_option maxRecDepth 100000
set_option maxHeartbeats 0
open Array renaming size->G
open Bool renaming true->μ,false->χ,eq_iff_iff->B1,false_eq_true->B3,or_false->C6,not_eq_true'->C9,and_eq_true->D4,false_and->E2,or_eq_true->F5
open Go renaming heap_alloc_new->υ,World->Δ,Value->A4,Calls->A7,info_parts->C3,wpAnyH_ready->D9,bodyPost_ret->E0,wp_region_held_drew->F8,wpList_append_lies->G0,store->G5,results->G6,wpAnyH_done->H7,TypeId->H9
open Go.Addr renaming mk->E
open Go.AllReadyH renaming cons->B9,nil->C1
open Go.Ending renaming returned->B7
open Go.IntKind renaming i64->Z,u8->H2
open Go.Obj renaming cells->ζ
open Go.Proofs.Tryz renaming prog->A3,underlying263->B2,results258->D8,ntmps258->G1,ntmps151->G2,func258->G7,func151->G8
open Go.Proofs.YthkeffolmbnkaaaGreatDoor renaming setOf->B0,within->E8
open Go.RowKit renaming Hid->M,Below->A5
open Go.RowKit.Below renaming heap_setCell->β,refl->ξ,heap_alloc->φ
open Go.Value renaming slice->I,int->A,pointer->γ,bool->η,string->ι,agg->C2,tuple->D2,cells->D3
open Go.World renaming heap->H,cell?->Q,frozen?->ψ,size_alloc->Ψ,rowIs->B4,setCell->B6,news_of_block->C4,ownsRow_nil->C8,cell?_of_block->E6
open Go.World.ownsRow renaming alloc->B8,lt->G9,drew->H0,cellAt->H1
open Go.World.rowIs renaming lt->ε,cell->Γ,frozen->Ξ,set->H4,of_block->H5
open Int renaming min_eq_right->F4,min_eq_left->F7
open List renaming length->U,getElem?_eq_getElem->α,getElem?_eq_some_iff->δ,getElem_mem->θ,length_append->κ,drop_eq_getElem_cons->ν,take_succ_eq_append_getElem->ρ,setIfInBounds_toArray->σ,drop_of_length_le->τ,set_cons_zero->A0,set_cons_succ->A1,append_assoc->B5,take_of_length_le->C0,cons_append->D1,length_nil->D7,getElem?_append_right->E1,getElem?_append_left->E3,length_take->F0,length_cons->F1,mem_append->F3,mem_cons->F9
open Nat renaming le_refl->ο,zero_le->ω,lt_of_lt_of_le->C7,mul_one->D5,mod_one->D6,le_trans->E5,testBit->E7,or_lt_two_pow->E9,two_pow_pos->F6,lt_irrefl->G4
open Option renaming none->J,some->V
open SizeOf renaming sizeOf->A6
open _root_ renaming rfl->D,Int->Y,List->Θ,decide_eq_true_eq->Φ,Nat->Ω,decide_eq_false_iff_not->A2,if_neg->A8,if_pos->A9,Bool->C5,beq_eq_false_iff_ne->D0,beq_iff_eq->E4,if_false->F2,of_decide_eq_true->G3,congrArg->H3,Array->H6,Option->H8
namespace Go.Proofs.YthkeffolmbnkaaaGreatDoor
open Go.Proofs.Tryz
open Go.RowKit
variable{c1:Act->World->Prop}{k4:Array Value}{b7:Exit->Act->World->Prop}{b9:Int}{m:List (Bs×Bs)}{f:List (Nat×Int×Bool)}{b:List (aJ×Ex)}{a2:List Nat}{z:List RF}{o a1:List Tr}{R:List Value}{a3:List dB}{a7:List iP}{a6:List ig}{d g l q y F W X a4 a5 k5:Nat}{S:Nat×Int×Bool}{a9 h5:Nat->Bool}{P:Nat->Int}{c0:Obj}{N:Option Addr}{j T c2:Tr}{u C K L O a0 b0 b1 b2 b3 b4 b8 b5 b6 c3 c4 c5 c6 c7 c8 c9 e0 e1 e2 h6 h7 h8 h9 i0 i1 i2 i3 i4 i5 i6 i7 i8 i9 j0 j1 e3 e4 e5 e6 e7 e8 e9 g0 g1 g2 g3 g4 g5 g6 g7 g8 g9 h0 j2 j3 j4 j5 j6 j7 j8 j9 k0 k1 k2 k3 h1 h2 h3 h4 k6 k7 k8 k9 l0 l1:Value}{e s a8 l4:World}
def Six(w:Δ)(b o:Ω)(a0 a1 a2 a3 a4 a5:A4):Prop:=Q w ⟨b,o,J⟩=V a0/\Q w ⟨b,o+1,J⟩=V a1/\Q w ⟨b,o+2,J⟩=V a2/\Q w ⟨b,o+3,J⟩=V a3/\Q w ⟨b,o+4,J⟩=V a4/\Q w ⟨b,o+5,J⟩=V a5
def aaq(a0 a1 a2 a3 a4 a5:A4):Prop:=a0.oneCell'=μ/\a1.oneCell'=μ/\a2.oneCell'=μ/\a3.oneCell'=μ/\a4.oneCell'=μ/\a5.oneCell'=μ
def aan(w:Δ)(io aS:H8 Addr)(tn i:Ω)(te:aJ×Ex):Prop:=∃(ib tb k:Ω) (a0:A4) (co:H8 Addr) (cn cc:Ω) (a2 a4 a5:A4),io=V ⟨ib,0,J⟩/\aS=V ⟨tb,0,J⟩/\Q w ⟨ib,i,J⟩=V (A Z (k:Y))/\k<tn/\Six w tb (k*6) a0 (I co cn cc) a2 (A Z te.1.count) a4 a5/\aaq a0 (I co cn cc) a2 (A Z te.1.count) a4 a5/\dC w (I co cn cc) te.1.aB
structure Al(w:World)(yb:Nat)(tes:List (aJ×Ex))(its:List (Bs×Bs)):Prop where
 ex:∃(xb:Nat) (fo:Option Addr) (fc:Nat) (io:Option Addr) (ic:Nat) (aS:Option Addr) (tn tc:Nat),(World.cell? w ⟨yb,0,none⟩=some (.pointer (some ⟨xb,0,none⟩))/\World.cell? w ⟨yb,2,none⟩=some (.slice fo (List.length its) fc)/\World.cell? w ⟨yb,7,none⟩=some (.slice io (List.length tes) ic)/\World.cell? w ⟨xb,1,none⟩=some (.slice aS tn tc))/\iM w (.slice fo (List.length its) fc) its/\∀(i:Nat) (te:aJ×Ex),tes[i]? =some te->aan w io aS tn i te
 len:List.length tes=List.length its
 four:List.length tes<=4
 aB:∀te∈tes,List.length te.1.aB<=4/\∀c∈te.1.aB,List.length c.1<=1000
 LA:∀it∈its,List.length it.2<=1000
theorem Six.ah{w x}(a:Six w d g u C K L O a0)(b:Bl w x):Six x d g u C K L O a0:=
 ⟨ax a.1 b,ax a.2.1 b,ax a.2.2.1 b,ax a.2.2.2.1 b,ax a.2.2.2.2.1 b,ax a.2.2.2.2.2 b⟩
theorem aan.ah{w x aS i b}(c:aan w N aS d i b)(a:Bl w x):aan x N aS d i b:=by
 obtain⟨e,f,k,g,j,l,m,n,o,p,q,r,s,t,u,v,y⟩:=c;exact⟨e,f,k,g,j,l,m,n,o,p,q,r,ax s a,t,u.ah a,v,y.ah a⟩
theorem Al.ah{w x}(c:Al w d b m)(a:Bl w x):Al x d b m:=by
 obtain⟨⟨e,f,g,j,k,aS,l,n,⟨o,p,q,r⟩,s,t⟩,u,v,y,z⟩:=c;exact⟨⟨e,f,g,j,k,aS,l,n,⟨ax o a,ax p a,ax q a,ax r a⟩,s.ah a,λi C B=>(t i C B).ah a⟩,u,v,y,z⟩
def adp(f:Func):Code:=((f.body.bind (fV 6)).getD .skip)
theorem RL{P:Program}{x:Δ}(l:x.heap[d]? =V (ζ #[ι ⟨#[]⟩,I J 0 0,I J 0 0,A Z 0,ι ⟨#[]⟩,I J 0 0] 54))(m:u.oneCell'=μ)(n:C.oneCell'=μ)(o:K.oneCell'=μ)(p:L.oneCell'=μ)(q:O.oneCell'=μ)(r:a0.oneCell'=μ):
  ∃f g i j k e:Δ,(G5 (E d 0 J) u).run P x=.ok () f/\(G5 (E d 1 J) C).run P f=.ok () g/\(G5 (E d 2 J) K).run P g=.ok () i/\(G5 (E d 3 J) L).run P i=.ok () j/\(G5 (E d 4 J) O).run P j=.ok () k/\(G5 (E d 5 J) a0).run P k=.ok () e/\e.heap[d]? =V (ζ #[u,C,K,L,O,a0] 54 (0,0))/\∀(a:Ω) (b:Δ),a<=d->A5 a b x->A5 a b e:=by
 obtain⟨f,s,t, -,v⟩:=aM (P:=P) 0 #[u,I J 0 0,I J 0 0,A Z 0,ι ⟨#[]⟩,I J 0 0] l ak m D;obtain⟨g,w,y, -,z⟩:=aM (P:=P) 1 #[u,C,I J 0 0,A Z 0,ι ⟨#[]⟩,I J 0 0] t ak n D;obtain⟨i,B,F, -,N⟩:=aM (P:=P) 2 #[u,C,K,A Z 0,ι ⟨#[]⟩,I J 0 0] y ak o D;obtain⟨j,R,S, -,T⟩:=aM (P:=P) 3 #[u,C,K,L,ι ⟨#[]⟩,I J 0 0] F ak p D;obtain⟨k,W,X, -,a1⟩:=aM (P:=P) 4 #[u,C,K,L,O,I J 0 0] S ak q D;obtain⟨e,a2,a3, -,a4⟩:=aM (P:=P) 5 #[u,C,K,L,O,a0] X ak r D;exact⟨_,_,_,_,_,_,s,w,B,R,W,a2,a3,λa b c a5=>(a4 a b c (a1 a b c (T a b c (N a b c (z a b c (v a b c a5))))))⟩
theorem aeW(v:aaq u C K L O a0)(j:Six e F (y*6) u C K L O a0)(n:Q e (E d 0 J)=V (γ (V (E g 0 J))))(w:Q e (E d 7 J)=V (I (V (E q 0 J)) W a4))(m:Q e (E g 1 J)=V (I (V (E F 0 J)) X a5))(k:Q e (E q l J)=V (A Z (y:Y)))(m6:y<X)(m5:l<W)(b:∀s (r:Act) (a6:Ω) (a7:A4) (x:Δ),b7 (.panic s) (r.put (V a6) a7) x->b7 (.panic s) r x)(t:∀(v20 v21 a8 a9 b9 c0 c2 h5 k4 k5 k6 k7 k8 k9 l0 l1:A4) (o:Δ),o.heap[G (H e)]? =V (ζ #[u,C,K,L,O,a0] 54 (0,0))->Bl e o->c1 ⟨#[γ (V (E d 0 J)),b0,b1,b2,b3,b4,A Z (l:Y),γ (V (E (G (H e)) 0 J)),b5,b6,c3,c4,c5,c6,c7,c8,c9,e0,e1,e2,v20,v21,a8,a9,b9,c0,c2,h5,k4,k5,k6,k7,k8,k9,l0,l1,e3,e4,e5,e6,e7,e8,e9,g0,g1,g2,g3,g4,g5,g6,g7,g8,g9,h0,j2,j3,j4,j5,j6,j7,j8,j9,k0,k1,k2,k3,h1,h2,h3,h4],[]⟩ o):
  Code.wp A3 (adp f258) (Exit.then c1 b7) ⟨#[γ (V (E d 0 J)),b0,b1,b2,b3,b4,A Z (l:Y),b8,b5,b6,c3,c4,c5,c6,c7,c8,c9,e0,e1,e2,h6,h7,h8,h9,i0,i1,i2,i3,i4,i5,i6,i7,i8,i9,j0,j1,e3,e4,e5,e6,e7,e8,e9,g0,g1,g2,g3,g4,g5,g6,g7,g8,g9,h0,j2,j3,j4,j5,j6,j7,j8,j9,k0,k1,k2,k3,h1,h2,h3,h4],[]⟩ e:=by
 conv=>arg 2;whnf
 change M _ at t;change M _ at b;have z:∀c:Δ,Bl e c->(Q c (E d 0 J)=V (γ (V (E g 0 J)))/\Q c (E d 7 J)=V (I (V (E q 0 J)) W a4)/\Q c (E g 1 J)=V (I (V (E F 0 J)) X a5)/\Q c (E q l J)=V (A Z (y:Y)))/\Six c F (y*6) u C K L O a0/\(d<G (H c)/\g<G (H c)/\q<G (H c)/\F<G (H c)):=λc f=>⟨⟨ax n f,ax w f,ax m f,ax k f⟩,j.ah f,aU (ax n f),aU (ax m f),aU (ax k f),aU (j.ah f).1⟩;have:M (aaq u C K L O a0):=v;obtain⟨l7,l8,l9,m0,m1,m2⟩:=v;clear j n w m k;refine F8 (S:=λc=>Bl e c) aF (ξ _ _).drew (λa=>?_);refine tH 0 20 (γ (V (E d 0 J))) D D aF b a ?_ ?_;refine tH 1 21 (γ (V (E d 0 J))) D D aF b a ?_ ?_;refine tH 2 22 (γ (V (E d 0 J))) D D aF b a ?_ ?_;refine tH 3 23 (γ (V (E g 0 J))) D D aF b a ?_ ?_;refine tH 4 24 (γ (V (E g 0 J))) D D aF b a ?_ ?_;refine tH 5 25 (γ (V (E g 1 J))) D D aF b a ?_ ?_;refine tH 6 26 (I (V (E F 0 J)) X a5) D D aF b a ?_ ?_;refine tH 7 27 (γ (V (E d 0 J))) D D aF b a ?_ ?_;refine tH 8 28 (γ (V (E d 0 J))) D D aF b a ?_ ?_;refine tH 9 29 (γ (V (E d 7 J))) D D aF b a ?_ ?_;refine tH 10 30 (I (V (E q 0 J)) W a4) D D aF b a ?_ ?_;refine tH 11 31 (A Z (l:Y)) D D aF b a ?_ ?_;refine tH 12 32 (γ (V (E q l J))) D D aF b a ?_ ?_;refine tH 13 33 (A Z (y:Y)) D D aF b a ?_ ?_;refine tH 14 34 (γ (V ⟨F,y*6,J⟩)) D D aF b a ?_ ?_;refine tH 15 35 (C2 #[u,C,K,L,O,a0]) D D aF b a ?_ ?_;all_goals try(simp only[Act.put,σ,A0,A1];first|exact .inr ⟨by rfl,D⟩|exact .inl ⟨by rfl,λc B=>by obtain⟨⟨_,_,_,_⟩,⟨_,_,_,_,_,_⟩,_,_,_,_⟩:=z c B;clear B z;go_simp⟩)
 simp only[Act.put,σ,A0,A1];refine D9 (rs:=[16]) aF ak ?_;refine B9 D (λp i=>?_) C1
 go_simp
 go_wp2_with fail;refine i _ _ (a.trans ((ai _ _).mono a.size)) (λa=>?_);clear i p;refine D9 (rs:=[17]) aF ak ?_;refine B9 D (λp i=>?_) C1
 go_simp
 obtain⟨_,_,_,_,_,m4,R,S,T,a1,a2,a3,l4,P⟩:=RL (P:=A3) (x:=(e.alloc (ζ #[ι ⟨#[]⟩,I J 0 0,I J 0 0,A Z 0,ι ⟨#[]⟩,I J 0 0] 54)).drew) (υ e _) l7 l8 l9 m0 m1 m2;have N:Bl e m4:=P _ _ (ο _) a;clear P;go_wp2_with fail;simp only[R,S,T,a1,a2,a3,Result.andThen];clear R S T a1 a2 a3;go_wp2_with fail;refine i _ _ N (λa=>?_);clear i p;refine H7 aF ?_ _;exact t _ _ _ _ _ _ _ _ _ _ _ _ _ _ _ _ _ l4 N
theorem Iy(r:Al e d b m)(g u w S):
  A7 A3 258 #[γ (V (E d 0 J)),C2 #[ι (ae g),η u,w,A H2 S]] e (RB (D2 #[A Z (zG (aK 0 b m) u g).1,A Z (zG (aK 0 b m) u g).2]) e):=by
 have k:=ai e (ζ #[ι (ae g),η u,w,A H2 S] 183);have F:=υ e (ζ #[ι (ae g),η u,w,A H2 S] 183);obtain⟨x,O⟩:=au (e.alloc (ζ #[ι (ae g),η u,w,A H2 S] 183));rw[<-O]at k F;have:=af F;have b7:Q x (E (G (H e)) 0 J)=V (ι (ae g)):=aC F;have:Q x (E (G (H e)) 1 J)=V (η u):=aC F;have T:M (Bl e x):=k
 cases u with
 |true=>
  clear r;go_enter G7,G1;go_upto_region 1 with fail
  rw[<-O];clear O F k b7;go_wp2_with fail;exact E0 (v:=D2 #[A Z (-1),A Z 0]) (by simp[G6,D8,go_sem]) D ⟨D,T⟩
 |false=>
  have e4:=r.ah k;obtain⟨⟨_,e5,_,_,_,aS,_,_,⟨e6,e7,e8,e9⟩,b8,b9⟩,c,_,zu,c0⟩:=e4;change M _ at b8;change M _ at b9;change M _ at zu;change M _ at c0;have g0:M (U b=U m):=c;obtain⟨s,a⟩:=au (zG (aK 0 b m) χ g);have y:M (s=Db g (aK 0 (b.drop 0) (m.drop 0))):=a;rw[<-a];have:(ae g).toList=g:=ay;clear a r F k c;go_enter G7,G1;go_upto_region 1 with fail
  rw[<-O];clear O;go_wp2_with fail;go_loopg [6] (U b) (λgk c wr=>∃a:Ω,gk=U b-a/\a<=U b/\c=A Z a/\Bl x wr/\M (s=Db g (aK a (b.drop a) (m.drop a))))
  ·exact⟨0,D,ω _,D,ξ _ _,y⟩
  clear y;obtain⟨a,a5,_,rfl,l,y⟩:=hrel;subst a5;generalize c:wr=wo at*;clear c;have c1:=ax b7 l;have W:=ax e6 l;have c2:=ax e7 l;have c3:=ax e8 l;have a6:=ax e9 l;have:=aU W;have:=aU a6;by_cases X:a<U b
  ·have P:a<U m:=by have:=g0.out;omega
   obtain⟨_,_,_,_,a0,c4,a7,_,_,_,rfl,rfl,K,a3,q,a8,f⟩:=b9.out a b[a] (α X);obtain⟨c5,z⟩:=zu.out b[a] (θ X);have B:=c0.out m[a] (θ P);obtain⟨_,_,rfl,b3,C⟩:∃n o,e5=V (E n o J)/\n<G (H wo)/\Q wo ⟨n,o+a*2+1,J⟩=V (ι (ae m[a].2)):=by
    obtain⟨b4,cap,t,_,N⟩:=iM.ah b8 l
    cases t;rcases N with r|⟨n,o,t,a1,v⟩
    ·rw[r]at P;simp at P
    exact⟨n,o,t,a1,(v a _ (α P)).2⟩
   have p:M (s=Db g ((b[a].1.aB.map λc=>(bD m[a].2 c,a,c.2.2))++aK (a+1) (b.drop (a+1)) (m.drop (a+1)))):=by
    rw[M,y.out,ν X,ν P];rfl
   obtain⟨a2,a4⟩:=au (b[a]);obtain⟨j,a9⟩:=au (m[a].2);rw[<-a4]at q a8 f c5 z p;rw[<-a9]at B C p;have L:M (dC wo (I a0 c4 a7) a2.1.aB):=f.ah l;have g1:c4=U a2.1.aB:=by obtain⟨_,_,t,_⟩:=f;cases t;rfl
   subst g1;have b0:=ax K l;have R:=q.ah l;have c6:M (∀c∈a2.1.aB,U c.1<=1000):=z;have g2:(ae j).size<=1000:=by rw[aX];exact B
   obtain⟨i,b1⟩:=au a2.1.aB;rw[<-b1]at c5 p L R a8 c6;have b2:M (Bl x wo):=l;clear y K q f a4 a9 z B b1 l;go_upto_region 6 with fail
   refine aeW a8 R W c3 a6 b0 a3 X (λ_ _ _ _ _ r=>r) ?_;intro v20 v21 _ _ _ _ _ _ _ _ _ _ _ _ _ _ K f k
   try dsimp only
   clear b0 R a3 c3 a6;have a9:M (Bl x K):=bT b2 k;have g3:Q K (E (G (H wo)) 1 J)=V (I a0 (U i) a7):=aC f;have g4:M (dC K (I a0 (U i) a7) i):=dC.ah L k;have g5:=ax c1 k;have g6:=ax W k;have g7:=ax c2 k;have g8:=ax C k;clear L b2 f c1 W c2 C b3 k;go_wp2_with fail;go_loopg [8] (U i) (λgk q B=>∃f:Ω,gk=U i-f/\f<=U i/\q=A Z f/\Bl K B/\M (s=Db g (((i.drop f).map λc=>(bD j c,a,c.2.2))++aK (a+1) (b.drop (a+1)) (m.drop (a+1)))))
   ·exact⟨0,D,ω _,D,ξ _ _,p⟩
   clear p;obtain⟨f,a5,_,rfl,q,p⟩:=hrel;subst a5;generalize B:wr=wj at*;clear B;have a3:=ax g3 q;have:=aU a3;have b0:=ax g5 q;have b1:=ax g6 q;have c7:=ax g7 q;have b2:=ax g8 q;have:=aU b0;have:=aU b1;have:=aU b2;by_cases L:f<U i
   ·obtain⟨n,o,rfl,a1,b3,a4⟩:∃n o,a0=V (E n o J)/\n<G (H wj)/\Q wj ⟨n,o+f*3,J⟩=V (ι (ae i[f].1))/\Q wj ⟨n,o+f*3+2,J⟩=V (A Z i[f].2.2):=by
     obtain⟨b4,cap,t,_,_,N⟩:=dC.ah g4 q
     cases t;rcases N with r|⟨n,o,t,a1,v⟩
     ·rw[r]at L;simp at L
     exact⟨n,o,t,a1,(v f _ (α L)).1.1,(v f _ (α L)).1.2.2⟩
    have z:=c6.out i[f] (θ L);have N:M (s=if g=j++ [46]++i[f].1 then((a:Y),i[f].2.2)else Db g (((i.drop (f+1)).map λc=>(bD j c,a,c.2.2))++aK (a+1) (b.drop (a+1)) (m.drop (a+1)))):=by
     rw[M,p.out,ν L];rfl
    obtain⟨c,v⟩:=au (i[f]);rw[<-v]at b3 a4 z N;have:(ae c.1).size<=1000:=by rw[aX];exact z
    have b4:=Qf j c.1;have c8:ae j++ByteArray.mk #[46]=ae (j++ [46]):=rX j [46];have g9:(ae (j++ [46])).size<=1001:=by rw[aX];simp;rw[aX]at g2;omega
    rw[c8]at b4;have:¬9223372036854775807<(ae j).size+1:=aa;have h0:¬9223372036854775807<(ae (j++ [46])).size+(ae c.1).size:=aa;obtain⟨b5,B⟩:=au (j++ [46]++c.1);obtain⟨_,C⟩:=au (j++ [46]);rw[<-B]at b4 N;rw[<-C]at b4 c8 g9 h0;have:(ae b5).toList=b5:=ay;have c9:M (Bl K wj):=q;clear v B C z q p
    cases e0:(g==b5)with
    |true=>
     have B:M (s=((a:Y),c.2.2)):=by rw[M,N.out,A9 (by simpa using e0)]
     clear N;go_upto_region 10 with fail
     go_cut [62] (λb6 R=>b6=η μ/\Bl wj R)
     ·go_region;all_goals(go_wp2;go_meet)
      all_goals exact⟨D,uU⟩
     obtain⟨rfl,C⟩:=hcut;have e1:=ax a3 C;have e2:=ax a4 C;have:=aU e2;have:=aU e1;have v:M (Bl e wc):=T.out.trans ((a9.trans ((bT c9 C).mono a9.size)).mono T.size);clear a3 b3 a4 b0 b1 c7 b2 C;go_upto_region 11 with fail
     go_cut [4,5] (λe3 h1 R=>e3=A Z (a:Y)/\h1=A Z c.2.2/\Bl e R)
     ·go_region;all_goals(go_wp2;go_meet)
      all_goals exact⟨D,D,by first|exact v|exact v.drew⟩
     obtain⟨rfl,rfl,e3⟩:=hcut;change M _ at e3;clear e1 e2;go_wp2_with fail;exact E0 (v:=D2 #[A Z (a:Y),A Z c.2.2]) (by simp[G6,D8,go_sem]) D ⟨by rw[B.out],e3⟩
    |false=>
     have B:M (s=Db g (((i.drop (f+1)).map λc=>(bD j c,a,c.2.2))++aK (a+1) (b.drop (a+1)) (m.drop (a+1)))):=by rw[M,N.out,A8 (by simpa using e0)]
     clear N;go_upto_region 10 with fail
     go_cut [62] (λb6 R=>b6=η χ/\Bl wj R)
     ·go_region;all_goals(go_wp2;go_meet)
      all_goals exact⟨D,uU⟩
     obtain⟨rfl,C⟩:=hcut;have v:M (Bl K wc):=bT c9 C;clear a3 b3 a4 b0 b1 c7 b2 C
     go_wp2
     go_roundg (U i-(f+1))
     all_goals first
      |omega
      |exact⟨f+1,D,aa,aP,v,B⟩
   have B:M (s=Db g (aK (a+1) (b.drop (a+1)) (m.drop (a+1)))):=by rw[M,p.out,τ aa];rfl
   have v:M (Bl x wj):=bT a9 q;clear p q
   go_wp2
   go_roundg (U b-(a+1))
   all_goals first
    |omega
    |exact⟨a+1,D,aa,aP,v,B⟩
  have B:M (s=(-1,0)):=by rw[M,y.out,τ aa];rfl
  have v:M (Bl e wo):=bT T l;clear y l;go_wp2_with fail;exact E0 (v:=D2 #[A Z (-1),A Z 0]) (by simp[G6,D8,go_sem]) D ⟨by rw[B.out],v⟩
theorem zw:(A3.info? 4).map (λa=>(a.zero,a.size,a.bytes))=V (V (η χ),1,1):=aF
def ed(w:Δ)(mb n:Ω)(f:Ω->C5):Prop:=w.rowIs mb 4 n (λi=>η (f i))
theorem ed.congr(c:ed e g d a9)(b:∀a,a<d->a9 a=h5 a):ed e g d h5:=B4.congr c λa f=>by rw[b a f]
theorem ed.ah{w x:Δ}(b:ed w d g a9)(a:x.heap[d]? =w.heap[d]?):ed x d g a9:=H5 b a
theorem ed.put(b:ed e d g a9)(i a):ed (e.setCell (E d i J) (η a)) d g (λj=>if j=i then a else a9 j):=
 B4.congr (H4 b i (η a)) λj _=>by dsimp only;split<;>rfl
theorem ed.Sv(c:ed e g d l.testBit)(f:d<=1000):mU e (I (V (E g 0 J)) d d) (bl d l):=by
 refine⟨_,_,by rw[rJ],by rw[rJ];exact f,.inr ⟨g,D,ε c,λ_ _ a=>?_⟩⟩;have b:=(δ.mp a).1;rw[rJ]at b;rw[Xe b]at a;rw[Γ c b,Option.some.inj a]
def Lf(w:Δ)(n m:Ω)(e:Ending)(w':Δ):Prop:=∃mb,e=B7 (I (V ⟨mb,0,J⟩) n n)/\G (H w)<=mb/\ed w' mb n m.testBit/\A5 (G (H w)) w w'
def WG(N:Ω):Prop:=∀(t:Tr) (w:Δ) (yb:Ω) (tes:Θ (aJ×Ex)) (its:Θ (Bs×Bs)) (g cap:Ω) (l:Θ Tr) (ty:Ω->Y) (cs:Θ A4) (j:Ω),A6 t<=N->Al w yb tes its->iN w g cap l ty cs->l[j]? =V t->
 A7 A3 212 #[γ (V ⟨yb,0,J⟩),C2 #[I (V ⟨g,0,J⟩) (U l) cap],A Z (j:Y)] w λe w'=>Lf w (U tes) (vS (aK 0 tes its) t) e w'
theorem Hr(a d):∀(c:Θ Tr) (b:Ω),uk a b (c++ [d])=uk a b c|||vS a d
 | [],b=>rfl
 |_::c,b=>by rw[D1,uk,uk];exact Hr a d c _
theorem Tr.Ba(a:T∈j.ops):A6 T<A6 j:=by
 obtain⟨_,_,_,b⟩:=j;have:=List.sizeOf_lt_of_mem (show T∈b from a);simp only[Tr.mk.sizeOf_spec];omega
theorem YD{i g}(a:0<=(zG (aK 0 b m) i g).1):∃e:Ω,(zG (aK 0 b m) i g).1=(e:Y)/\e<U b:=by
 unfold zG at a ⊢
 cases i with
 |true=>simp at a
 |false=>
  simp only[B3,F2]at a ⊢;have:∀d:Θ dB,(∀c∈d,c.2.1<U b)->0<=(Db g d).1->∃e:Ω,(Db g d).1=(e:Y)/\e<U b:=by
   intro d
   induction d with
   |nil=>intro _ a;simp[Db]at a
   |cons c d ih=>
    intro f a;rw[Db]at a ⊢;split at a
    ·next j=>rw[A9 j];exact⟨c.2.1,D,f c ak⟩
    next j=>rw[A8 j];exact ih (λk l=>f k (by simp[l])) a
  exact this _ (λc f=>cz ((tZ b m 0 c f).2.1)) a
theorem QI(e7:WG q){cap}(c4:∀t∈j.ops,A6 t<=q)(c3:Al e l b m)(a:iN e d cap o P R)(n:o[g]? =V j):
  A7 A3 212 #[γ (V (E l 0 J)),C2 #[I (V (E d 0 J)) (U o) cap],A Z (g:Y)] e λO b1=>Lf e (U b) (vS (aK 0 b m) j) O b1:=by
 obtain⟨e8,e9,g0,g1,g2⟩:=C3 zw;obtain⟨c5,c6,c7,u,v,x,y,b2,c8,c9⟩:=a.at n;have:=(δ.mp n).1;have:=a.cap;have:=a.small;have:=AV a n;have e0:M (Al e l b m):=c3;obtain⟨⟨_,_,_,g3,g4,aS,_,_,⟨B,C,z,F⟩, -, -⟩, -,_, -, -⟩:=c3;have g5:M (iN e d cap o P R):=a;change M _ at c9;change M _ at b2;change M _ at c8;change M _ at c4;have p:=ai e (ζ #[I (V (E d 0 J)) (U o) cap] 102);have r:=υ e (ζ #[I (V (E d 0 J)) (U o) cap] 102);obtain⟨f,s⟩:=au (e.alloc (ζ #[I (V (E d 0 J)) (U o) cap] 102));rw[<-s]at p r;have g6:M (Bl e f):=p;have g7:=af r;have a2:M (∀c:Δ,Bl f c->(Q c (E (G (H e)) 0 J)=V (I (V (E d 0 J)) (U o) cap)/\Q c (E l 7 J)=V (I g3 (U b) g4))/\(Q c ⟨d,g*4,J⟩=V (ι (ae j.tx))/\Q c ⟨d,g*4+1,J⟩=V (η j.br)/\Q c ⟨d,g*4+2,J⟩=V (I c5 (U j.ops) c6)/\Q c ⟨d,g*4+3,J⟩=V (A H2 (P g)))/\Bl e c):=λc k=>by
  have i:Bl e c:=bT p k;exact⟨⟨(aI ((k.block _ g7).trans r)).trans D,ax z i⟩,⟨ax u i,ax v i,ax x i,ax y i⟩,i⟩
 obtain⟨⟨a3,a4⟩,⟨S,b3,b4,b5⟩, -⟩:=a2.out f (ξ _ _);have L:=aU a4;have e1:=aU S;obtain⟨b6,i⟩:=au (vS (aK 0 b m) j);rw[<-i];have w:M (b6=uk (aK 0 b m) (Wu (zG (aK 0 b m) j.br j.tx)) j.ops):=i.trans (XX _);have b7:M (∀(c:Δ) (t:Tr) (K:Ω),t∈j.ops->Bl e c->o[K]? =V t->A7 A3 212 #[γ (V (E l 0 J)),C2 #[I (V (E d 0 J)) (U o) cap],A Z (K:Y)] c λO b1=>Lf c (U b) (vS (aK 0 b m) t) O b1):=λc t K g8 k T=>e7 t c l b m d cap o P R K (c4 t g8) (Al.ah e0 k) (iN.ah g5 k) T;clear i a B C z F u v x y p r n;go_enter func212,ntmps212;go_upto_region 1 with fail
 rw[<-s];clear s;go_upto_region 2 with(at_make;refine dx _ D _ _ 263 D 4 e8 _ B2 e9 g0 Z Z (U b) _ D D aa (by rw[g2];omega) aa 1 g1 ?_;intro W _ _ i s v)
 have u:M (ed W (G (H f)) (U b) (λ_=>χ)):=by
  rw[D5]at s;refine B4.congr s λa _=>?_;rw[v.out a];simp[D3,D6]
 have y:M (Bl f W):=i;have a5:=Iy (Al.ah e0 (a2 W i).2.2) j.tx j.br (I c5 (U j.ops) c6) (P g);have n:M (∀(a6:0<=(zG (aK 0 b m) j.br j.tx).1),∃a:Ω,(zG (aK 0 b m) j.br j.tx).1=(a:Y)/\a<U b):=λa6=>YD a6;obtain⟨⟨z,F⟩,⟨B,N,X,a0⟩, -⟩:=a2.out W i;have g9:G (H f)<=G (H W):=aa;obtain⟨p,C⟩:=au (aK 0 b m);rw[<-C]at a5 w n b7;obtain⟨h0,r⟩:=au (zG p j.br j.tx);rw[<-r]at a5 w n;have a1:=aU B;have a8:=aU z;clear i s v r a3 a4 S b3 b4 b5 L e1;go_upto_region 3 with(go_at_call 258;refine a5.mono ?_;clear a5;rintro O e3 ⟨rfl,e2⟩)
 have s:M (ed e3 (G (H f)) (U b) (λ_=>χ)):=ed.ah u (e2.block _ (ε u));have v:M (Bl f e3):=y.out.trans (e2.mono g9);obtain⟨x,a7⟩:=h0;clear u y z F B N X a0 a1 a8
 go_upto_if 30 with fail
 go_cut [7] (λi u=>i=I (V (E (G (H f)) 0 J)) (U b) (U b)/\M (ed u (G (H f)) (U b) (Wu (x,a7)).testBit)/\Bl f u)
 ·by_cases r:0<=x
  ·obtain⟨a,b8,a8⟩:=n.out r;have y:x=(a:Y):=b8;subst y;have z:decide ((0:Y)<=(a:Y))=μ:=ak;have X:M (Wu ((a:Y),a7)=bu 0 a):=by rw[M,Wu,A9 ak];simp
   have a0:=Γ s a8;have h1:=Ξ s a;have h2:=ε s;dsimp only at a0;clear n w b8 r
   go_wp2
   go_meet;refine⟨D, ?_,v.setCell (p:=(E (G (H f)) _ J)) (ο _) _⟩;rw[X.out];exact(ed.put s a μ).congr λi _=>by rw[qz];by_cases e4:i=a<;>simp[e4];omega
  have z:decide ((0:Y)<=x)=χ:=by simpa using r
  have X:M (Wu (x,a7)=0):=by rw[M,Wu,A8 r]
  have b9:¬(0:Y)<=x:=r;clear n w r
  go_wp2
  go_meet;refine⟨D, ?_,v⟩;rw[X.out];exact s.congr λi _=>ak
 case rest=>
 obtain⟨rfl,y,h3⟩:=hcut;obtain⟨L,z⟩:=au (Wu (x,a7));rw[<-z]at y w;clear n s v z C;go_wp2_with fail;go_loopg [10] (U j.ops) (λgk n wr=>∃i:Ω,gk=U j.ops-i/\i<=U j.ops/\n=A Z (i:Y)/\M (ed wr (G (H f)) (U b) (uk p L (j.ops.take i)).testBit)/\Bl f wr)
 ·exact⟨0,D,ω _,D,y,h3⟩
 clear y;obtain⟨i,c0,e4,rfl,y,a9⟩:=hrel;subst c0;generalize z:wr=wk at*;clear z;obtain⟨⟨a3,a4⟩,⟨S,b3,b4,b5⟩,z⟩:=a2.out wk a9;have:=aU a3;have e1:=aU S;by_cases a1:i<U j.ops
 ·rcases c9.out with a6|⟨B,rfl,_,_,s⟩
  ·rw[a6]at a1;simp at a1
  have T:=α (l:=c7) (i:=i) (by have:=b2.out;omega);obtain⟨h4,n⟩:=c8.out i _ T;have v:=ax (s i _ T) z;obtain⟨K,N⟩:=au (c7[i]'(by have:=b2.out;omega));rw[<-N]at h4 n v;have:=aU v;have c1:M (uk p L (j.ops.take (i+1))=uk p L (j.ops.take i)|||vS p j.ops[i]):=by rw[M,ρ a1,Hr]
  have b0:=λc (k:Bl wk c)=>b7.out c j.ops[i] K (θ a1) (bT z k) (by rw[n];exact α a1);obtain⟨C,c2⟩:=au (uk p L (j.ops.take i));obtain⟨F,e5⟩:=au (vS p j.ops[i]);rw[<-c2]at c1 y;simp only[<-e5]at c1 b0;have h5:M (Bl f wk):=a9;clear s T N n c2 e5 a9 z;go_upto_region 8 with fail
  go_cut [11] (λn u=>∃s,n=I (V (E s 0 J)) (U b) (U b)/\G (H wk)<=s/\M (ed u s (U b) F.testBit)/\Bl wk u)
  ·go_region_with(go_at_call 212;refine(b0 _ ?_).mono ?_;(first|exact ξ _ wk|exact(ξ _ wk).drew);rintro O _ ⟨s,rfl,e5,n,N⟩);all_goals(go_wp2;go_meet)
   all_goals exact⟨s,D,e5,n,by first|exact N|exact jy N⟩
  obtain⟨s,rfl,e5,u,N⟩:=hcut;have n:M (ed wc (G (H f)) (U b) C.testBit):=ed.ah y (N.block _ (ε y));have:=ε y;have h6:s≠G (H f):=aa;have c2:M (Bl f wc):=bT h5 N;clear b0 y N v a3 a4 S b3 b4 b5;go_wp2_with fail;go_loopg [12] (U b) (λgk v wr=>∃a:Ω,gk=U b-a/\a<=U b/\v=A Z (a:Y)/\M (ed wr (G (H f)) (U b) (λc=>if c<a then C.testBit c||F.testBit c else C.testBit c))/\M (ed wr s (U b) F.testBit)/\Bl f wr)
  ·exact⟨0,D,ω _,D,by simpa using n,u,c2⟩
  clear u n c2;obtain⟨a,c0,b8,rfl,n,u,b0⟩:=hrel;subst c0;have h2:=ε n;have:=ε u;by_cases a8:a<U b
  ·have a0:=Γ n a8;have h7:=Γ u a8;have h1:=Ξ n a;dsimp only at a0;rw[A8 (G4 a)]at a0;have v:M (∀(B:C5),B=(C.testBit a||F.testBit a)->ed (wr.setCell (E (G (H f)) a J) (η B)) (G (H f)) (U b) (λc=>if c<a+1 then C.testBit c||F.testBit c else C.testBit c)/\ed (wr.setCell (E (G (H f)) a J) (η B)) s (U b) F.testBit/\Bl f (wr.setCell (E (G (H f)) a J) (η B))):=λB h8=>by
    refine⟨(ed.put n a B).congr λc _=>?_,ed.ah u (β _ _ _ _ h6),b0.setCell (p:=(E (G (H f)) _ J)) (ο _) _⟩;by_cases k:c=a
    ·subst k;rw[A9 D,A9 aa,h8]
    rw[A8 k];by_cases c2:c<a
    ·rw[A9 c2,A9 aa]
    rw[A8 c2,A8 aa]
   obtain⟨h9,e6⟩:=au (C.testBit a);obtain⟨c2,b9⟩:=au (F.testBit a);rw[<-e6]at a0 v;rw[<-b9]at h7 v;clear u n b0 e6 b9
   cases h9 with
   |true=>
    go_wp2
    go_roundg (U b-(a+1))
    all_goals first
     |omega
     |exact⟨a+1,D,aa,aP,(v μ D).1,(v μ D).2.1,(v μ D).2.2⟩
   |false=>
    go_wp2
    go_roundg (U b-(a+1))
    all_goals first
     |omega
     |exact⟨a+1,D,aa,aP,(v c2 ak).1,(v c2 ak).2.1,(v c2 ak).2.2⟩
  have a0:M (ed wr (G (H f)) (U b) (uk p L (j.ops.take (i+1))).testBit):=by
   rw[c1.out];exact n.congr λc k=>by rw[A9 aa,Nat.testBit_or]
  have v:M (Bl f wr):=b0;clear u n b0
  go_wp2
  go_roundg (U j.ops-(i+1))
  all_goals first
   |omega
   |exact⟨i+1,D,aa,aP,a0,v⟩
 have X:M (b6=uk p L (j.ops.take i)):=by rw[M,w.out,C0 aa]
 have v:M (Bl e wk):=z;have n:M (ed wk (G (H f)) (U b) b6.testBit):=by rw[X.out];exact y
 clear a9 z y b7 w
 go_wp2
 go_ret;exact⟨_,D,g6.size,n,v⟩
theorem uz:∀a:Ω,WG a
 |0=>λc l m j f e cap i k d g b=>by obtain⟨s,u,r,t⟩:=c;simp at b
 |a+1=>λc l m j f e cap i k d g b o n p=>QI (uz a) (λ_ q=>cz (Tr.Ba q)) o n p
def TQ(w:Δ)(po:H8 Addr)(i n:Ω)(p:Ω×Y×C5):Prop:=∃(pb:Ω) (a0 a1 iv:A4),po=V ⟨pb,0,J⟩/\(Q w ⟨pb,i*5,J⟩=V a0/\Q w ⟨pb,i*5+1,J⟩=V a1/\Q w ⟨pb,i*5+2,J⟩=V iv/\Q w ⟨pb,i*5+3,J⟩=V (η p.2.2)/\Q w ⟨pb,i*5+4,J⟩=V (A Z p.2.1))/\(a0.oneCell'=μ/\a1.oneCell'=μ)/\mU w iv (bl n p.1)
theorem TQ.ah{w x i p}(b:TQ w N i d p)(a:Bl w x):TQ x N i d p:=by
 obtain⟨c,e,f,g,j,⟨k,l,m,n,o⟩,q,r⟩:=b;exact⟨c,e,f,g,j,⟨ax k a,ax l a,ax m a,ax n a,ax o a⟩,q,r.ah a⟩
structure Li(w:World)(yb:Nat)(tes:List (aJ×Ex))(its:List (Bs×Bs))(ps:List (Nat×Int×Bool)):Prop where
 of:Al w yb tes its
 parts:∃po pc,World.cell? w ⟨yb,12,none⟩=some (.slice po (List.length ps) pc)/\∀(i:Nat) (p:Nat×Int×Bool),ps[i]? =some p->TQ w po i (List.length tes) p
 zq:List.length ps<=1000
theorem Li.ah{w x}(c:Li w d b m f)(a:Bl w x):Li x d b m f:=by
 obtain⟨e,⟨g,j,k,l⟩,n⟩:=c;exact⟨e.ah a,⟨g,j,ax k a,λi p o=>(l i p o).ah a⟩,n⟩
abbrev pg(tes:Θ (aJ×Ex))(ps:Θ (Ω×Y×C5)):PQ:=⟨tes.map (·.1.count),ps⟩
structure Dq(tes:List (aJ×Ex))(ps:List (Nat×Int×Bool)):Prop where
 ok:Am (pg tes ps)
 zq:∀p∈ps,p.1<2^List.length tes/\p.2.1<=9223372036854775807
theorem VH(b)(a:Y)(c:d<U f):Kr (f.drop d) b a=Kr (f.drop (d+1)) b (if(if f[d].1≠0/\f[d].1&&& b=f[d].1 then a.tdiv f[d].2.1 else a)=0 then 1 else(if f[d].1≠0/\f[d].1&&& b=f[d].1 then a.tdiv f[d].2.1 else a)):=by
 rw[ν c];rfl
theorem CP(a3:Li e d b m f)(a:Dq b f)(g)(a4:mU e u (bl (U b) g)):
  A7 A3 152 #[γ (V (E d 0 J)),u] e (RB (A Z (ni (pg b f) g)) e):=by
 have b8:M (mU e u (bl (U b) g)):=a4;obtain⟨a5,b9,rfl, -,a6⟩:=a4;rw[rJ];change M _ at a6;have e1:M (Li e d b m f):=a3;obtain⟨⟨⟨_,_,_,_,_,aS,_,_,⟨c0,_,c1,c2⟩, -,a7⟩, -,_, -, -⟩,⟨_,_,a8,a9⟩,_⟩:=a3;change M _ at a7;change M _ at a9;have S:M (Dq b f):=a;obtain⟨s,c⟩:=au (ni (pg b f) g);rw[<-c];have P:M (s=sH f g (nR (b.map (·.1.count)) 0 g 1)):=c;have z:∀C∈b,0<=C.1.count/\C.1.count<=1000000:=λC F=>a.ok.cnt C.1.count (List.mem_map_of_mem F);change M _ at z;have o:(b.map (·.1.count)).length=U b:=ak;change M _ at o;clear c a;go_enter func152,ntmps152;go_wp2_with fail;go_loopg [5,6] (U b) (λgk L t wr=>∃(c:Ω) (a:Y),gk=U b-c/\c<=U b/\L=A Z a/\t=A Z (c:Y)/\0<=a/\a<=ru/\M (nR (b.map (·.1.count)) 0 g 1=nR ((b.map (·.1.count)).drop c) c g a)/\Bl e wr)
 ·exact⟨0,1,D,ω _,D,D,ag,ag,D,ξ _ _⟩
 obtain⟨c,a,T,b0,rfl,rfl,v,p,r,i⟩:=hrel;subst T;generalize j:wr=wo at*;clear j;by_cases q:c<U b
 ·obtain⟨l,rfl,R,y⟩:∃l,a5=V (E l 0 J)/\l<G (H wo)/\Q wo (E l c J)=V (η (g.testBit c)):=by
   rcases a6.out with w|⟨l,B,R,y⟩
   ·have j:U b=0:=by have:=H3 U w;rw[rJ]at this;exact this
    omega
   exact⟨l,B,C7 R i.size,ax (y c _ (Xe q)) i⟩
  have j:M (nR (b.map (·.1.count)) 0 g 1=nR ((b.map (·.1.count)).drop (c+1)) (c+1) g (if g.testBit c then min (a*b[c].1.count) ru else a)):=by
   have:=GX (b.map (·.1.count)) c g a (by rw[o.out];exact q);rw[List.getElem_map]at this;exact r.trans this
  obtain⟨X,a0⟩:=z.out b[c] (θ q);obtain⟨_,_,_,W,_,_,_,_,_,_,rfl,rfl,N,_,O, -, -⟩:=a7.out c b[c] (α q);have K:=ax O.2.2.2.1 i;have a1:=ax N i;obtain⟨k,a2⟩:=au (b[c].1.count);rw[<-a2]at j X a0 K;obtain⟨x,F⟩:=au (g.testBit c);rw[<-F]at j y;obtain⟨b5,_⟩:=Yo v p X a0;have b7:¬9223372036854775807<a*k:=aa;have c3:¬a*k< -9223372036854775808:=aa;have b1:=ax c0 i;have b6:=ax c1 i;have b2:=ax c2 i;have c4:=aU b1;have b3:=aU b2;have c5:=aU a1;have c6:=aU K;have n:M (Bl e wo):=i;have c7:a<=1000000000000:=p;clear r N O a2 F i
  cases x with
  |true=>
   simp only[if_true]at j;go_upto_region 6 with fail
   go_cut [5] (λN O=>N=A Z (a*k)/\Bl e O)
   ·go_region;all_goals(go_wp2;go_meet)
    all_goals exact⟨by first|rfl|(congr 1;omega),by first|exact n|exact n.drew⟩
   obtain⟨rfl,N⟩:=hcut;change M _ at N;clear b1 b6 b2 K a1 y;by_cases a2:a*k<=1000000000000
   ·have O:M (nR (b.map (·.1.count)) 0 g 1=nR ((b.map (·.1.count)).drop (c+1)) (c+1) g (a*k)):=by rw[M,j.out,F7 a2]
    have b4:decide ((1000000000000:Y)<a*k)=χ:=aN;clear j
    go_wp2
    go_roundg (U b-(c+1))
    all_goals first
     |omega
     |exact⟨c+1,a*k,D,aa,D,aP,b5,a2,O,N⟩
   have O:M (nR (b.map (·.1.count)) 0 g 1=nR ((b.map (·.1.count)).drop (c+1)) (c+1) g 1000000000000):=by rw[M,j.out,F4 (show ru<=a*k by show(1000000000000:Y)<=a*k;omega)]
   have b4:decide ((1000000000000:Y)<a*k)=μ:=aN;clear j
   go_wp2
   go_roundg (U b-(c+1))
   all_goals first
    |omega
    |exact⟨c+1,1000000000000,D,aa,D,aP,ag,ag,O,N⟩
  |false=>
   simp only[B3,F2]at j;have b4:decide ((1000000000000:Y)<a)=χ:=aN
   go_wp2
   go_roundg (U b-(c+1))
   all_goals first
    |omega
    |exact⟨c+1,a,D,aa,D,aP,v,p,j,n⟩
 have j:M (nR (b.map (·.1.count)) 0 g 1=a):=by rw[M,r.out,τ (by rw[o.out];omega)];rfl
 have l:M (s=sH f g a):=by rw[M,P.out,j.out]
 have n:M (Bl e wo):=i;clear r j P z o;by_cases o:a=0
 ·have y:M (s=0):=by rw[M,l.out,o,GY]
  subst o;clear l i
  go_wp2
  go_ret;exact⟨by rw[y.out];rfl,n⟩
 have z:1<=a:=aa;have X:(a==0)=χ:=by simpa using o
 have N:M (s=Kr f g a):=by rw[M,l.out,Tw g f a (λa0 K=>S.out.ok.parts a0 K) z]
 have y:=ax a8 i;have b1:=aU y;clear l i;go_wp2_with fail;go_loopg [5,7] (U f) (λgk L t wr=>∃(c:Ω) (a:Y),gk=U f-c/\c<=U f/\L=A Z a/\t=A Z (c:Y)/\1<=a/\a<=ru/\M (s=Kr (f.drop c) g a)/\Bl e wr)
 ·exact⟨0,a,D,ω _,D,D,z,p,N,n⟩
 clear N y b1 n v p o z X b0 q;obtain⟨c,a,T,b0,rfl,rfl,v,p,r,i⟩:=hrel;subst T;generalize l:wr=wp at*;clear l;have y:=ax a8 i;have b1:=aU y;by_cases q:c<U f
 ·obtain⟨_,W,b2,t,rfl,⟨b4,c3,c4,a1,L⟩,⟨c5,c6⟩,l⟩:=TQ.ah (a9 c f[c] (α q)) i;have e2:=aU b4;obtain⟨N,b5⟩:=S.out.zq f[c] (θ q);have b6:=S.out.ok.parts f[c] (θ q);have j:M (s=Kr (f.drop (c+1)) g _):=r.out.trans (VH g a q);obtain⟨⟨z,o,b7⟩,K⟩:∃a0,a0=f[c]:=⟨_,D⟩;rw[<-K]at a1 L l N b5 b6 j;simp only at a1 L l N b5 b6 j;have O:=Ci wp l;rw[KH _ _ N]at O;have a2:A7 A3 157 #[C2 #[W,b2,t,η b7,A Z o],I a5 (U b) b9] wp (RB (η (E8 z g)) wp):=by
   have:=xP W b2 (η b7) (A Z o) ⟨c5,c6,D,D⟩ l (mU.ah b8 i) (by rw[rJ,rJ]);rw[XV N]at this;rw[rJ]at this;exact this
  have n:M (Bl e wp):=i;obtain⟨_,_,_,c7⟩:∃c8 a k,t=I c8 a k:=by obtain⟨_,_,B,_⟩:=l;exact⟨_,_,_,B⟩
  subst c7;clear r K l i;obtain⟨w,P⟩:=au (decide (z≠0));obtain⟨x,R⟩:=au (E8 z g);rw[<-P]at O;rw[<-R]at a2;have l:M (s=Kr (f.drop (c+1)) g (if(if(w&&x)=μ then a.tdiv o else a)=0 then 1 else(if(w&&x)=μ then a.tdiv o else a))):=by
   have b3:(z≠0/\z&&& g=z)↔(w&&x)=μ:=by rw[P,R,D4,Φ,E8,E4]
   rw[M,j.out];simp only[b3]
  clear j P R;go_upto_region 15 with(go_at_call 214;refine O.mono ?_;clear O;rintro B _ ⟨rfl,rfl⟩)
  go_upto_region 16 with(go_at_call 157;refine a2.mono ?_;clear a2;rintro B b3 ⟨rfl,P⟩)
  have c9:=ax y P;have e0:=ax L P;have e3:=aU c9;have e4:=aU e0;have R:M (Bl e b3):=bT n P;clear y b4 c3 c4 a1 L P
  cases w with
  |false=>
   simp only[E2,B3,F2]at l;rw[A8 aa]at l;have X:(a==0)=χ:=xW
   go_wp2
   go_roundg (U f-(c+1))
   all_goals first
    |omega
    |exact⟨c+1,a,D,aa,D,aP,v,p,l,R⟩
  |true=>
   cases x with
   |false=>
    simp only[Bool.and_false,B3,F2]at l;rw[A8 aa]at l;have X:(a==0)=χ:=xW
    go_wp2
    go_roundg (U f-(c+1))
    all_goals first
     |omega
     |exact⟨c+1,a,D,aa,D,aP,v,p,l,R⟩
   |true=>
    simp only[Bool.and_true,if_true]at l;rw[Int.tdiv_eq_ediv_of_nonneg aa]at l;have b4:a<=1000000000000:=p;have c3:0<=a:=aa;have c4:(o==0)=χ:=xW;have e5:0<=a / o:=Int.ediv_nonneg aa aa;have P:a / o<=a:=Int.ediv_le_self _ aa;by_cases L:a / o=0
    ·rw[A9 L]at l;have a1:(a / o==0)=μ:=by rw[E4];exact L
     go_wp2
     go_roundg (U f-(c+1))
     all_goals first
      |omega
      |exact⟨c+1,1,D,aa,D,aP,ag,ag,l,R⟩
    rw[A8 L]at l;have a1:(a / o==0)=χ:=by rw[D0];exact L
    go_wp2
    go_roundg (U f-(c+1))
    all_goals first
     |omega
     |exact⟨c+1,a / o,D,aa,D,aP,aa,Int.le_trans P p,l,R⟩
 have j:M (s=a):=by rw[M,r.out,τ aa];rfl
 have n:M (Bl e wp):=i;clear r i
 go_wp2
 go_ret;exact⟨by rw[j.out];rfl,n⟩
theorem ER(a:d<U a2):B0 (a2.take (d+1))=bu (B0 (a2.take d)) a2[d]:=by rw[ρ a,setOf_snoc]
theorem VW(a b)(c:d<U a2):Gl a g b (a2.drop d)=Gl a (bu g a2[d]) (b+ni a (bu g a2[d])) (a2.drop (d+1)):=by rw[ν c];rfl
theorem ed.with{w:Δ}(c:ed w d g l.testBit)(a):ed (w.setCell (E d a J) (η μ)) d g (bu l a).testBit:=
 (c.put a μ).congr λk _=>by
  rw[qz];by_cases b:k=a
  ·subst b;simp
  rw[A8 b,decide_eq_false (λe:a=k=>b e.symm),C6]
theorem zQ(L:Li e d b m f)(g:Dq b f)(O a)(a1:aY e O (zs a))(N:∀c∈a,c<U b)(c1:U a<=4):
  A7 A3 88 #[γ (V (E d 0 J)),O] e (RB (A Z (aZ (pg b f) a)) e):=by
 obtain⟨a2,a3,a4,a5,a6⟩:=C3 zw;obtain⟨a7,_,rfl, -,P⟩:=a1;rw[dW];change M _ at P;have a8:M (Li e d b m f):=L;obtain⟨⟨⟨_,_,_,_,_,aS,_,_,⟨n,p,a9,q⟩, -, -⟩, -,_, -, -⟩, -, -⟩:=L;have b0:M (Dq b f):=g;change M _ at N;have c2:=aU a9;obtain⟨v,k⟩:=au (aZ (pg b f) a);rw[<-k];have C:M (v=min (Gl (pg b f) 0 0 a) ru):=k.trans (Ui g.ok a);have R:M (∀i,0<=ni (pg b f) i/\ni (pg b f) i<=ru):=λi=>Da g.ok i;obtain⟨j,l⟩:=au (pg b f);rw[<-l]at C R;have b1:M (∀o F i,Bl e o->ed o F (U b) (E7 i)->A7 A3 152 #[γ (V (E d 0 J)),I (V (E F 0 J)) (U b) (U b)] o (RB (A Z (ni j i)) o)):=λo F i w b2=>by
  rw[l];exact CP (Li.ah a8 w) b0 i (b2.Sv aa)
 clear k l g n p q;go_enter func88,ntmps88;go_upto_region 2 with(at_make;refine dx _ D _ _ 263 D 4 a2 _ B2 a3 a4 Z Z (U b) _ D D aa (by rw[a6];omega) aa 1 a5 ?_;intro S _ q l g k)
 have n:M (ed S (G (H e)) (U b) (B0 (a.take 0)).testBit):=by
  rw[D5]at g;refine B4.congr g λc _=>?_;rw[k.out c];simp[D3,D6,B0]
 have p:M (Bl e S):=l;clear l g k q;go_wp2_with fail;go_loopg [6,7] (U a) (λgk l k wr=>∃(c:Ω) (g:Y),gk=U a-c/\c<=U a/\l=A Z g/\k=A Z (c:Y)/\0<=g/\g<=(c:Y)*1000000000000/\M (Gl j 0 0 a=Gl j (B0 (a.take c)) g (a.drop c))/\M (ed wr (G (H e)) (U b) (B0 (a.take c)).testBit)/\Bl e wr)
 ·exact⟨0,0,D,ω _,D,D,ag,ag,D,n,p⟩
 clear n p;obtain⟨c,g,b3,_,rfl,rfl,_,_,x,l,p⟩:=hrel;subst b3;generalize k:wr=wo at*;clear k;by_cases q:c<U a
 ·have w:=N.out a[c] (θ q);obtain⟨r,s,rfl,t⟩:∃r s,a7=V (E r s J)/\Q wo ⟨r,s+c,J⟩=V (A Z ((a[c]:Ω):Y)):=by
   rcases P.out with k|⟨r,s,T,_,t⟩
   ·have:=H3 U k;rw[dW]at this;simp at this;subst this;simp at q
   exact⟨r,s,T,ax (t c _ (Fs q)) p⟩
  have y:M (B0 (a.take (c+1))=bu (B0 (a.take c)) a[c]):=ER q;have k:M (Gl j 0 0 a=Gl j (bu (B0 (a.take c)) a[c]) (g+ni j (bu (B0 (a.take c)) a[c])) (a.drop (c+1))):=x.out.trans (VW j g q);obtain⟨n,W⟩:=au (a[c]);rw[<-W]at w t y k;have b4:=Γ l w;have b5:=Ξ l n;have b6:=ε l;have b7:=aU t;have u:M (ed (wo.setCell (E (G (H e)) n J) (η μ)) (G (H e)) (U b) (B0 (a.take (c+1))).testBit):=by rw[y.out];exact l.with n
  have z:M (Bl e (wo.setCell (E (G (H e)) n J) (η μ))):=p.setCell (p:=(E (G (H e)) n J)) (ο _) _;rw[<-y.out]at k;obtain⟨b8,X⟩:=R.out (B0 (a.take (c+1)));have b9:ni j (B0 (a.take (c+1)))<=1000000000000:=X;have B:=b1.out _ _ _ z u;obtain⟨c0,a0⟩:=au (ni j (B0 (a.take (c+1))));rw[<-a0]at k b8 b9 B;obtain⟨_,K⟩:=au (wo.setCell (E (G (H e)) n J) (η μ));rw[<-K]at B u z;clear W x l p a0 X y;go_upto_region 7 with fail
  rw[<-K];clear K b4 b5 b6 t b7;go_wp2_with(go_at_call 152;refine B.mono ?_;clear B;rintro T y ⟨rfl,t⟩);have K:M (ed y (G (H e)) (U b) (B0 (a.take (c+1))).testBit):=ed.ah u (t.block _ (ε u));have W:M (Bl e y):=bT z t;clear u z t
  go_roundg (U a-(c+1))
  all_goals first
   |omega
   |exact⟨c+1,g+c0,D,aa,by first|rfl|(congr 1;omega),aP,aa,aa,k,K,W⟩
 have k:M (v=min g ru):=by rw[M,C.out,x.out,τ aa];rfl
 have n:M (Bl e wo):=p;have s:g<=4000000000000:=aa;clear x l p C;by_cases p:g<=1000000000000
 ·have l:M (v=g):=by rw[M,k.out];exact F7 p
  have r:decide ((1000000000000:Y)<g)=χ:=aN;clear k
  go_wp2
  go_ret;exact⟨by rw[l.out];rfl,n⟩
 have l:M (v=1000000000000):=by rw[M,k.out];exact F4 (by show(1000000000000:Y)<=g;omega)
 have r:decide ((1000000000000:Y)<g)=μ:=aN;clear k
 go_wp2
 go_ret;exact⟨by rw[l.out];rfl,n⟩
theorem xy.ints(a:xy e u a2)(b:U a2<=1000):aY e u (zs a2):=by
 obtain⟨_,cap,_,a⟩:=a;exact qJ (by rw[dW];exact a) (by rw[dW];exact b)
theorem jK.row{w base b}(e:jK w base (I N g d) b){i}(f:i<U b):∃c a cap,N=V (E c 0 J)/\Q w (E c i J)=V (I (V (E a 0 J)) b[i].length cap)/\xy w (I (V (E a 0 J)) b[i].length cap) b[i]:=by
 obtain⟨c,a,cap,j,_,k,_,l⟩:=e.at f;exact⟨c,a,cap,j,k,a,cap,D,l⟩
theorem aby(a):lM a a≠ []:=by
 have:List.range a∈lM a a:=(oZ a a _).mpr ⟨⟨List.nodup_range,λ_ b=>List.mem_range.mp b⟩,List.length_range⟩;intro c;rw[c]at this;simp at this
theorem Kq(b1:Li e d b m f)(b0:Dq b f):
  A7 A3 156 #[γ (V (E d 0 J))] e λy b2=>∃p g,y=B7 p/\xy b2 p g/\tL (pg b f) (U b) g/\Bl e b2:=by
 have e9:M (Li e d b m f):=b1;obtain⟨⟨⟨_,_,_,_,_,aS,_,_,⟨g0,g1,P,g2⟩, -, -⟩, -,_, -, -⟩, -, -⟩:=b1;have g3:M (Dq b f):=b0;have i4:=aU P;obtain⟨j,R⟩:=au (U b);obtain⟨n,o,u⟩:∃n o,lM j j=n::o:=by
  cases a:lM j j with
  |nil=>exact absurd a (aby j)
  |cons n o=>exact⟨n,o,D⟩
 have S:M (tL (pg b f) j (jh (pg b f) n o)):=Vl u;have b3:M (∀g∈lM j j,U g<=4/\∀c∈g,c<j):=λg T=>by
  obtain⟨a,i⟩:=(oZ j j g).mp T;exact⟨aa,a.lt⟩
 have g4:=Eu j aa j aa;have W:=Gi e j aa;have v:M (∀l p g,g∈lM j j->Bl e l->xy l p g->A7 A3 88 #[γ (V (E d 0 J)),p] l (RB (A Z (aZ (pg b f) g)) l)):=λl p g T z g5=>by
  obtain⟨a,i⟩:=b3.out g T;exact zQ (Li.ah e9 z) g3 p g (g5.ints aa) (by rw[<-R];exact i) a
 have c3:M (∀(i g:Θ Ω) (a7:Θ (Θ Ω)),jh (pg b f) i (g::a7)=if aZ (pg b f) g<aZ (pg b f) i then jh (pg b f) g a7 else jh (pg b f) i a7):=λ_ _ _=>by rw[jh];split<;>rfl
 have c2:M (∀i,jh (pg b f) i []=i):=λ_=>rfl;rw[<-R]at P ⊢;obtain⟨k,e4⟩:=au (pg b f);rw[<-e4]at S v c3 c2 ⊢;obtain⟨a,c8⟩:=au (lM j j);rw[<-c8]at b3 g4 W v u;obtain⟨s,a4⟩:=au (jh k n o);rw[<-a4]at S;have c4:M (s=jh k n o):=a4;have b8:M (a=n::o):=u;have h2:1<=U a:=by rw[u];simp
 clear a4 u c8 e4 b0 g0 g1 g2 R;go_enter func156,ntmps156;go_upto_region 2 with(go_at_call 219;refine W.mono ?_;clear W;rintro y x ⟨_,rfl,K,c9⟩)
 obtain⟨_,_,rfl⟩:=K.val;have c1:M _:=K;have g6:M (Bl e x):=c9;obtain⟨_,h1,h0,rfl,e1,e5⟩:=K.row (i:=0) aa;have h8:=aU e1;have c5:M (xy x (I (V (E h1 0 J)) a[0].length h0) a[0]):=e5;have r:M (s=jh k a[0] (a.drop 1)):=by
  rw[M,c4.out];have:=b8.out;subst this;rfl
 have c0:M (a[0]∈a):=θ _;clear K c9 e5 c4 b8 P;go_wp2_with fail;go_loopg [4,5] (U a-1) (λgk g9 i1 wr=>∃(c:Ω) (i:Θ Ω),gk=U a-c/\1<=c/\c<=U a/\i1=A Z (c:Y)/\M (i∈a)/\M (s=jh k i (a.drop c))/\M (xy wr g9 i)/\Bl x wr)
 ·exact⟨1,a[0],D,ο _,h2,D,c0,r,c5,ξ _ _⟩
 clear c0 r c5 e1 h8;obtain⟨c,i,h6,_,_,rfl,b9,r,t,w⟩:=hrel;subst h6;generalize i0:wr=wo at*;clear i0;obtain⟨i3,i2,h9, -⟩:=t.out;subst h9;have X:M (Bl e wo):=bT g6 w;by_cases e2:c<U a
 ·obtain⟨_,c7,c6,h5,L,a6⟩:=(jK.ah c1 w).row e2
  cases h5;have h7:=aU L;have F:M (xy wo (I (V (E c7 0 J)) a[c].length c6) a[c]):=a6;have a1:M (a[c]∈a):=θ _;have C:=v.out wo _ a[c] a1 X a6;have a0:M (∀l,Bl wo l->_):=λl z=>v.out l _ i b9 (bT X z) (t.ah (Dm.below z));have q:M (s=if aZ k a[c]<aZ k i then jh k a[c] (a.drop (c+1))else jh k i (a.drop (c+1))):=by rw[M,r.out,ν e2,c3.out]
  have b4:M (Bl x wo):=w;obtain⟨g,e3⟩:=au (a[c]);rw[<-e3]at L F a1 C q;obtain⟨a9,e7⟩:=au (aZ k g);obtain⟨a8,e6⟩:=au (aZ k i);rw[<-e7]at C q;rw[<-e6]at q a0;clear e3 e7 e6 a6 w r;go_upto_region 7 with(go_at_call 88;refine C.mono ?_;clear C;rintro y e8 ⟨rfl,a5⟩)
  have b7:=a0.out e8 a5;have b5:M (Bl wo e8):=a5;clear a5 a0;go_upto_region 8 with(go_at_call 88;refine b7.mono ?_;clear b7;rintro y O ⟨rfl,e0⟩)
  have B:M (Bl wo O):=bT b5 e0;have h3:=ax L B;have i5:=aU h3;have b6:M (Bl x O):=bT b4 B;clear L h7 e0 b5 b4;by_cases N:a9<a8
  ·have a2:M (s=jh k g (a.drop (c+1))):=by rw[M,q.out,A9 N]
   have h4:decide (a9<a8)=μ:=by simpa using N
   have a3:M (xy O (I (V (E c7 0 J)) (U g) c6) g):=F.out.ah (Dm.below B);clear q t F
   go_wp2
   go_roundg (U a-(c+1))
   all_goals first
    |omega
    |exact⟨c+1,g,D,aa,aa,aP,a1,a2,a3,b6⟩
  have a2:M (s=jh k i (a.drop (c+1))):=by rw[M,q.out,A8 N]
  have h4:decide (a9<a8)=χ:=by simpa using N
  have a3:M (xy O (I (V (E i3 0 J)) (U i) i2) i):=t.out.ah (Dm.below B);clear q t F
  go_wp2
  go_roundg (U a-(c+1))
  all_goals first
   |omega
   |exact⟨c+1,i,D,aa,aa,aP,b9,a2,a3,b6⟩
 have g8:M (s=i):=by rw[M,r.out,τ aa,c2.out]
 have g7:M (tL k j i):=by rw[M,<-g8.out];exact S
 clear r w c1 v
 go_wp2
 go_ret;exact⟨_,i,D,t,g7,X⟩
theorem adk:∀a:Tr,vS (aK 0 b m) a<2^U b:=by
 have o:∀(g:C5) (i:Bs),Wu (zG (aK 0 b m) g i)<2^U b:=λg i=>by
  unfold Wu;split
  ·next c=>
   obtain⟨t,j,k⟩:=YD c;rw[j,Int.toNat_natCast];refine E9 (F6 _) ?_;rw[Nat.one_shiftLeft];exact Nat.pow_lt_pow_right ag k
  exact F6 _
 have l:∀(d:Θ Tr),(∀a∈d,vS (aK 0 b m) a<2^U b)->∀f,f<2^U b->uk (aK 0 b m) f d<2^U b:=λd=>by
  induction d with
  |nil=>intro _ f c;exact c
  |cons a d ih=>intro c f n;rw[uk];exact ih (λr p=>c r (by simp[p])) _ (E9 n (c a ak))
 have:∀e (a:Tr),A6 a<=e->vS (aK 0 b m) a<2^U b:=λe=>by
  induction e with
  |zero=>intro a c;obtain⟨u,i,g,v⟩:=a;simp at c
  |succ e ih=>intro a c;rw[XX];exact l _ (λs q=>ih s (by have:=Tr.Ba q;omega)) _ (o _ _)
 exact λa=>this _ a (ο _)
theorem EG(v:Al e q b m){cap}(u:iN e d cap o P R)(L:o[g]? =V j)(N:o[l]? =V T):
  A7 A3 213 #[γ (V (E q 0 J)),C2 #[I (V (E d 0 J)) (U o) cap],A Z (g:Y),A Z (l:Y)] e (RB (A Z (sG (zG (aK 0 b m) j.br j.tx) (zG (aK 0 b m) T.br T.tx) (decide (vS (aK 0 b m) j≠0)) (decide (vS (aK 0 b m) T≠0)))) e):=by
 obtain⟨b2,b3, -,a1,a9,b0,b1, -, -, -⟩:=u.at L;obtain⟨b4,b5, -,b6,b7,b8,b9, -, -, -⟩:=u.at N;have e3:=(δ.mp L).1;have e4:=(δ.mp N).1;have e5:=u.cap;have e6:=u.small;have e7:=v.four;have f:=ai e (ζ #[I (V (E d 0 J)) (U o) cap] 102);have O:=υ e (ζ #[I (V (E d 0 J)) (U o) cap] 102);obtain⟨r,a2⟩:=au (e.alloc (ζ #[I (V (E d 0 J)) (U o) cap] 102));rw[<-a2]at f O;have c0:M (Bl e r):=f;have c1:=af O;have y:M (∀a:Δ,Bl r a->Q a (E (G (H e)) 0 J)=V (I (V (E d 0 J)) (U o) cap)/\(Q a ⟨d,g*4,J⟩=V (ι (ae j.tx))/\Q a ⟨d,g*4+1,J⟩=V (η j.br)/\Q a ⟨d,g*4+2,J⟩=V (I b2 (U j.ops) b3)/\Q a ⟨d,g*4+3,J⟩=V (A H2 (P g)))/\(Q a ⟨d,l*4,J⟩=V (ι (ae T.tx))/\Q a ⟨d,l*4+1,J⟩=V (η T.br)/\Q a ⟨d,l*4+2,J⟩=V (I b4 (U T.ops) b5)/\Q a ⟨d,l*4+3,J⟩=V (A H2 (P l)))/\G (H e)<G (H a)/\d<G (H a)):=λa k=>by
  have c:Bl e a:=bT f k;exact⟨(aI ((k.block _ c1).trans O)).trans D,⟨ax a1 c,ax a9 c,ax b0 c,ax b1 c⟩,⟨ax b6 c,ax b7 c,ax b8 c,ax b9 c⟩,C7 c1 k.size,aU (ax a1 c)⟩
 have c:M (∀a (F:Bs) (K:C5) (z:A4) (n:Y),Bl r a->A7 A3 258 #[γ (V (E q 0 J)),C2 #[ι (ae F),η K,z,A H2 n]] a (RB (D2 #[A Z (zG (aK 0 b m) K F).1,A Z (zG (aK 0 b m) K F).2]) a)):=λa F K z n k=>Iy (v.ah (bT f k)) F K z n;have a3:M (∀a (n:Tr) (i:Ω),Bl r a->o[i]? =V n->A7 A3 212 #[γ (V (E q 0 J)),C2 #[I (V (E d 0 J)) (U o) cap],A Z (i:Y)] a λw c8=>Lf a (U b) (vS (aK 0 b m) n) w c8):=λa n i k p=>uz _ n a q b m d cap o P R i (ο _) (v.ah (bT f k)) (u.ah (bT f k)) p;have a4:M (∀a s (n:Tr),ed a s (U b) (vS (aK 0 b m) n).testBit->A7 A3 214 #[I (V (E s 0 J)) (U b) (U b)] a (RE (η (decide (vS (aK 0 b m) n≠0))) a)):=λa s n x=>by
  have:=Ci a (x.Sv aa);rw[KH _ _ (adk n)]at this;exact this
 have a5:=c.out r j.tx j.br (I b2 (U j.ops) b3) (P g) (ξ _ _);have a6:M (∀a,Bl r a->_):=λa k=>c.out a T.tx T.br (I b4 (U T.ops) b5) (P l) k;have a7:M (∀a,Bl r a->_):=λa k=>a3.out a j g k L;have a8:M (∀a,Bl r a->_):=λa k=>a3.out a T l k N;have S:M (∀a s,_->_):=λa s x=>a4.out a s j x;have W:M (∀a s,_->_):=λa s x=>a4.out a s T x;obtain⟨c9,c2⟩:=au (zG (aK 0 b m) j.br j.tx);obtain⟨e0,c3⟩:=au (zG (aK 0 b m) T.br T.tx);obtain⟨X,c4⟩:=au (decide (vS (aK 0 b m) j≠0));obtain⟨a0,c5⟩:=au (decide (vS (aK 0 b m) T≠0));rw[<-c2]at a5 ⊢;rw[<-c3]at a6 ⊢;rw[<-c4]at S ⊢;rw[<-c5]at W ⊢;obtain⟨_,c6⟩:=au (vS (aK 0 b m) j);obtain⟨_,c7⟩:=au (vS (aK 0 b m) T);rw[<-c6]at a7 S;rw[<-c7]at a8 W;obtain⟨t,B⟩:=c9;obtain⟨i,C⟩:=e0;clear c2 c3 c4 c5 c6 c7 c a3 a4 v u a1 a9 b0 b1 b6 b7 b8 b9 f O L N;obtain⟨c,⟨a1,a3,a4,a9⟩, -,f,b0⟩:=y.out r (ξ _ _);go_enter func213,ntmps213;go_upto_region 1 with fail
 rw[<-a2];clear a2;go_upto_region 2 with(go_at_call 258;refine a5.mono ?_;clear a5;rintro w b6 ⟨rfl,N⟩)
 clear c a1 a3 a4 a9 f b0;obtain⟨c, -,⟨a1,a3,a4,a9⟩,f,b0⟩:=y.out b6 N;have v:=a6.out b6 N;go_upto_region 3 with(go_at_call 258;refine v.mono ?_;clear v;rintro w a2 ⟨rfl,b7⟩)
 clear c a1 a3 a4 a9 f b0 a6;have O:Bl r a2:=bT N b7;obtain⟨c, -, -,f, -⟩:=y.out a2 O;have v:=a7.out a2 O;clear N b7;go_upto_region 4 with(first
  |(go_at_call 212;refine v.mono ?_;clear v;rintro w _ ⟨s,rfl,c6,b8,c2⟩)
  |(go_at_call 214;refine(S _ _ b8).mono ?_;rintro w b1 ⟨rfl,rfl⟩))
 clear c f a7;have L:Bl r b1:=bT O c2;obtain⟨c, -, -,f, -⟩:=y.out b1 L;have v:=a8.out b1 L;clear c2 O b8 c6 S;go_upto_region 5 with(first
  |(go_at_call 212;refine v.mono ?_;clear v;rintro w _ ⟨_,rfl,c7,b9,c3⟩)
  |(go_at_call 214;refine(W _ _ b9).mono ?_;rintro w e1 ⟨rfl,rfl⟩))
 have u:M (Bl e e1):=c0.out.trans ((bT L c3).mono c0.size);clear c f a8 c3 L b9 c7 W y;have c:∀(z:Y),z=sG (t,B) (i,C) X a0->M (z=sG (t,B) (i,C) X a0):=λ_ x=>x
 cases c4:decide ((0:Y)<=t)with
 |true=>
  have y:0<=t:=by simpa using c4
  cases L:decide ((0:Y)<=i)with
  |true=>
   have p:0<=i:=by simpa using L
   cases c5:(t==i)with
   |false=>
    have W:t≠i:=by simpa using c5
    have e2:(t != i)=μ:=by simpa using W
    cases a8:decide (C<B)with
    |true=>
     have f:=c B (by simp only[Φ]at a8;rw[sG,A9 ⟨y,p,W,a8⟩]);clear c
     go_wp2
     go_ret;exact⟨by rw[<-f.out];rfl,u⟩
    |false=>
     have f:=c C (by simp only[A2]at a8;rw[sG,A8 (by simp only[not_and];intros;omega),A9 ⟨y,p,W⟩]);clear c
     go_wp2
     go_ret;exact⟨by rw[<-f.out];rfl,u⟩
   |true=>
    have W:t=i:=by simpa using c5
    have e2:(t != i)=χ:=by simpa using W
    cases a0 with
    |false=>
     have f:=c B (by simp[sG,W,p]);clear c
     go_wp2
     go_ret;exact⟨by rw[<-f.out];rfl,u⟩
    |true=>
     cases X with
     |false=>
      have f:=c C (by simp[sG,W,p]);clear c
      go_wp2
      go_ret;exact⟨by rw[<-f.out];rfl,u⟩
     |true=>
      have f:=c 3 (by simp[sG,W]);clear c
      go_wp2
      go_ret;exact⟨by rw[<-f.out];rfl,u⟩
  |false=>
   have p:¬0<=i:=by simpa using L
   cases a0 with
   |false=>
    have f:=c B (by simp[sG,y,p]);clear c
    go_wp2
    go_ret;exact⟨by rw[<-f.out];rfl,u⟩
   |true=>
    have f:=c 3 (by simp[sG,p]);clear c
    go_wp2
    go_ret;exact⟨by rw[<-f.out];rfl,u⟩
 |false=>
  have y:¬0<=t:=by simpa using c4
  cases L:decide ((0:Y)<=i)with
  |true=>
   have p:0<=i:=by simpa using L
   cases X with
   |false=>
    have f:=c C (by simp[sG,y,p]);clear c
    go_wp2
    go_ret;exact⟨by rw[<-f.out];rfl,u⟩
   |true=>
    have f:=c 3 (by simp[sG,y]);clear c
    go_wp2
    go_ret;exact⟨by rw[<-f.out];rfl,u⟩
  |false=>
   have p:¬0<=i:=by simpa using L
   have f:=c 3 (by simp[sG,y,p]);clear c
   go_wp2
   go_ret;exact⟨by rw[<-f.out];rfl,u⟩
def pT(B item t:Ω)(p:Ω×Y×C5):C5:=jW B item p&&(p.2.2==decide (t=0))
def Im(B item t:Ω)(p:Ω×Y×C5):C5:= !decide (t=0)&&pT B item 0 p
def vI(ps:Θ (Ω×Y×C5))(B item t k n:Ω):C5:=match ps[n]? with
 |none=>χ
 |some p=>tV B p||Im B item t p||(decide (n<k)&&pT B item t p)
def FD(ps:Θ (Ω×Y×C5))(B n:Ω):C5:=match ps[n]? with
 |none=>χ
 |some p=>tV B p
def fG(ps:Θ (Ω×Y×C5))(B item t k:Ω):Θ Ω:=(if t=0 then []else jC (pT B item 0) 0 ps)++jC (pT B item t) 0 (ps.take k)
theorem De(b c a):pT b c 0 a=(jW b c a&&a.2.2):=by simp[pT]
theorem QM(b c a):pT b c 1 a=(jW b c a&& !a.2.2):=by simp[pT]
theorem PN(b c d a):vI b c d 0 0 a=FD b c a:=by
 unfold vI FD
 cases b[a]? with
 |none=>rfl
 |some e=>simp[Im]
theorem TU(a c d b):vI a c d 0 (U a) b=vI a c d 1 0 b:=by
 unfold vI
 cases e:a[b]? with
 |none=>rfl
 |some g=>
  have f:=(δ.mp e).1;simp[Im,f]
theorem WX(b a c d):vI b a c 1 (U b) d=FD b (bu a c) d:=by
 unfold vI FD
 cases f:b[d]? with
 |none=>rfl
 |some e=>
  have g:=(δ.mp f).1;have i:decide (d<U b)=μ:=by simpa using g
  simp only[Im,i,Bool.true_and];rw[<-PO a c e,De,QM]
  cases tV a e<;>cases jW a c e<;>cases e.2.2<;>rfl
theorem GA(b c e a)(i:f[d]? =V S):vI f b c e (d+1) a=if a=d then(vI f b c e d d||pT b c e S)else vI f b c e d a:=by
 by_cases g:a=d
 ·subst g;rw[A9 D];unfold vI;rw[i];simp
 rw[A8 g];unfold vI
 cases f[a]? with
 |none=>rfl
 |some j=>
  have:decide (a<d+1)=decide (a<d):=by rw[B1];simp;omega
  simp only[this]
theorem Gv(a b c)(e:d<U f):fG f a b c (d+1)=fG f a b c d++(if pT a b c f[d]then [d]else []):=by
 unfold fG;rw[ρ e,Ar,B5,F0,Nat.min_eq_left aa,Nat.zero_add]
theorem PK(c a b):fG c a b 0 0= []:=by simp[fG,jC]
theorem TS(a b c):fG a b c 0 (U a)=fG a b c 1 0:=by simp[fG,jC]
theorem WT(d b c):fG d b c 1 (U d)=uT d c b:=by
 unfold fG uT;rw[A8 ag,List.take_length];have e:pT b c 0=λa=>jW b c a&&a.2.2:=funext λa=>De b c a;have f:pT b c 1=λa=>jW b c a&& !a.2.2:=funext λa=>QM b c a;rw[e,f]
theorem aaG(a b)(i:d<2)(e:f[g]? =V S):(within S.1 (bu a b)&& !vI f a b d g g&&(S.2.2==decide (d=0)))=pT a b d S:=by
 unfold vI;rw[e];simp only[G4,decide_false,E2,C6];have c:jW a b S=(!tV a S&&within S.1 (bu a b)):=D;rcases(aa:d=0\/d=1)with rfl|rfl
 ·rw[De,c];simp only[Im,decide_true,Bool.not_true,E2,C6]
  cases within S.1 (bu a b)<;>cases tV a S<;>cases S.2.2<;>rfl
 rw[QM,c];simp only[Im,De,c]
 cases within S.1 (bu a b)<;>cases tV a S<;>cases S.2.2<;>rfl
theorem DI(c:Ω×Y×C5->C5):∀(a:Θ (Ω×Y×C5)) (b:Ω),U (jC c b a)<=U a
 | [],_=>by simp[jC]
 |p::a,b=>by
  have:=DI c a (b+1);rw[jC];split<;>simp<;>omega
theorem WU(a b c e d):U (fG a b c e d)<=2*U a:=by
 unfold fG;rw[κ];have f:=DI (pT b c e) (a.take d) 0;have:=DI (pT b c 0) a 0;rw[F0]at f;split
 ·simp only[D7];omega
 omega
def KeS(w x:Δ)(m1 m2:Ω):Prop:=G (H w)<=G (H x)/\∀g,g<G (H w)->g≠m1->g≠m2->x.heap[g]? =w.heap[g]?
structure Bt(w0 w x:World)(m1 m2 sb:Nat)(n:Nat)(ps:List (Nat×Int×Bool))(B item t k:Nat):Prop where
 set:ed x m1 n (bu B item).testBit
 asked:ed x m2 (List.length ps) (vI ps B item t k)
 box:∃po pc,x.heap[sb]? =some (.cells #[.int .i64 (item:Int),.slice po (List.length (fG ps B item t k)) pc] 165 (0,0))/\x.ownsRow (sb+1) 3 1 (.slice po (List.length (fG ps B item t k)) pc) (List.length (fG ps B item t k)) (aA (zs (fG ps B item t k)))
 ah:KeS w x m1 m2
 jH:Below m1 w0 x
 lt:m1<m2/\m2<sb/\sb=Array.size (World.heap w)
theorem Bt.more{x}(n:Bt s e x q y W F f d g X l)(a:Bl x a8):Bt s e a8 q y W F f d g X l:=by
 obtain⟨c,i,⟨o,p,j,k⟩,m,r,t⟩:=n;have u:=ε c;have l3:=af j;exact⟨c.ah (a.block _ u),i.ah (a.block _ (ε i)),⟨o,p,(a.block _ l3).trans j,aD k λb v=>a.block b (k.lt b v).2⟩,⟨E5 m.1 a.size,λb w z B=>(a.block b aa).trans (m.2 b w z B)⟩,r.trans (a.mono aa),t⟩
theorem Bt.ask(B:Bt a8 l4 e W F y k5 f l g q d)(k:f[d]? =V S)(r:pT l g q S=μ)(o:e.heap[y]? =V (ζ #[A Z (g:Y),I N (U (fG f l g q d)) X] 165 (0,0)))(t:e.ownsRow (y+1) 3 1 (I N (U (fG f l g q d)) X) (U (fG f l g q d)) (aA (zs (fG f l g q d))))(p:s.ownsRow (y+1) 3 1 (I (V (E a5 0 J)) (U (fG f l g q d)+1) a4) (U (fG f l g q d)+1) (aA (zs (fG f l g q d))++ [A Z (d:Y)]))(j:((e.setCell (E F d J) (η μ)).alloc c0).grownBy s (I N (U (fG f l g q d)) X).ownBlock):
  Bt a8 l4 (s.setCell (E y 1 J) (I (V (E a5 0 J)) (U (fG f l g q d)+1) a4)) W F y k5 f l g q (d+1)/\s.heap[y]? =V (ζ #[A Z (g:Y),I N (U (fG f l g q d)) X] 165 (0,0)):=by
 obtain⟨u,v, -,m,C,K,L,O⟩:=B;have P:=(δ.mp k).1;have R:f[d]=S:=(δ.mp k).2;have T:=af o;have a0:=ε u;have l2:=ε v;have a1:∀a,a<=y->(I N (U (fG f l g q d)) X).ownBlock≠V a:=λa c n=>cz ((t.lt a n).1);have b:G (H (e.setCell (E F d J) (η μ)))=G (H e):=by simp[B6]
 have i:∀a,a<G (H e)->a<=y->s.heap[a]? =(e.setCell (E F d J) (η μ)).heap[a]? :=λa c a2=>(j.block a (by simp only[Ψ,b];omega) λn=>a1 a a2 n.symm).trans (φ _ _ _ (by rw[b];exact c));have w:s.heap[y]? =V (ζ #[A Z (g:Y),I N (U (fG f l g q d)) X] 165 (0,0)):=(i y T (ο _)).trans ((β _ _ _ _ (by show y≠F;omega)).trans o);have x:(fG f l g q (d+1))=fG f l g q d++ [d]:=by rw[Gv l g q P,R,r];rfl
 refine⟨⟨?_, ?_, ?_, ?_, ?_,K,L,O⟩,w⟩
 ·exact u.ah ((β _ _ _ _ (by show W≠y;omega)).trans ((i W a0 aa).trans (β _ _ _ _ (by show W≠F;omega))))
 ·refine((v.put d μ).ah (x:=s.setCell (E y 1 J) _) ((β _ _ _ _ (by show F≠y;omega)).trans (i F l2 aa))).congr λz _=>?_;rw[GA l g q z k,r,Bool.or_true]
 ·refine⟨V (E a5 0 J),a4, ?_, ?_⟩
  ·rw[x,κ];exact(aQ (P:=A3) (j:=1) w ak (v:=I (V (E a5 0 J)) (U (fG f l g q d)+1) a4) D).2
  rw[x,κ,show aA (zs (fG f l g q d++ [d]))=aA (zs (fG f l g q d))++ [A Z (d:Y)]by simp[aA,zs]];exact aD p λa c=>β _ _ _ _ (by show a≠y;have:=(p.lt a c).1;omega)
 ·refine⟨?_,λa z a3 a6=>?_⟩
  ·have:G (H s)<=G (H (s.setCell (E y 1 J) (I (V (E a5 0 J)) (U (fG f l g q d)+1) a4))):=by simp[B6]
   have a7:=j.size;simp only[Ψ,b]at a7;have:=m.1;simp[B6];omega
  refine(β _ _ _ _ (by show a≠y;omega)).trans ((i a (by have:=m.1;omega) aa).trans ((β _ _ _ _ (by show a≠F;omega)).trans (m.2 a z a3 a6)))
 have z:A5 W a8 (e.setCell (E F d J) (η μ)):=C.setCell (p:=(E F _ J)) (by show W<=F;omega) _;have a3:=(z.alloc (by rw[b];omega) c0).grown j (by simp only[Ψ,b];omega) (λa7 a6=>cz ((t.lt a7 a6).1));exact a3.setCell (p:=(E y _ J)) (by show W<=y;omega) _
theorem Bt.skip(j:Bt s e a8 y F X W f d g q l)(a:f[l]? =V S)(b:pT d g q S=χ):Bt s e a8 y F X W f d g q (l+1):=by
 obtain⟨k,m,n,o,p,r⟩:=j;have t:=(δ.mp a).1;have u:f[l]=S:=(δ.mp a).2;have v:fG f d g q (l+1)=fG f d g q l:=by rw[Gv d g q t,u,b];simp
 refine⟨k,m.congr λc _=>?_,by rw[v];exact n,o,p,r⟩;rw[GA d g q c a,b,C6];by_cases i:c=l
 ·subst i;rw[A9 D]
 rw[A8 i]
theorem Bt.afO(a:Bt s e a8 l q F y f d g 0 (U f)):Bt s e a8 l q F y f d g 1 0:=by
 obtain⟨b,c,i,j,k,m⟩:=a;refine⟨b,c.congr λn _=>TU f d g n, ?_,j,k,m⟩;rw[<-TS];exact i
theorem VS(c:ed e d y l.testBit)(b:ed e q (U f) (FD f l))(j:A5 d s e)(i:d<q):Bt s e ((e.setCell (E d g J) (η μ)).alloc (ζ #[A Z (g:Y),I J 0 0] 165)) d q (G (H e)) y f l g 0 0:=by
 have k:=ε c;have l2:=ε b;have a:G (H (e.setCell (E d g J) (η μ)))=G (H e):=by simp[B6]
 refine⟨(c.with g).ah (φ _ _ _ (by rw[a];exact k)),(b.ah ((φ _ _ _ (by rw[a];exact l2)).trans (β _ _ _ _ (by show q≠d;omega)))).congr λm _=>(PN f l g m).symm, ?_, ?_, ?_,i,l2,D⟩
 ·rw[PK];refine⟨J,0, ?_,C8 _ _ _ _⟩;have:=υ (e.setCell (E d g J) (η μ)) (ζ #[A Z (g:Y),I J 0 0] 165);rw[a]at this;exact this
 ·refine⟨by simp only[Ψ,a];omega,λp n o _=>(φ _ _ _ (by rw[a];exact n)).trans (β _ _ _ _ (by show p≠d;exact o))⟩
 exact(j.setCell (p:=(E d g J)) (ο _) _).alloc (by rw[a];omega) _
structure xz(x:World)(base:Nat)(v:Value)(rs:List iP):Prop where
 row:x.ownsRow base 165 2 v (List.length rs) (ji rs)
 parts:∀r∈rs,mV x 0 r.2.1 r.2.2
theorem xz.val{base v}(d:xz e base v a7):∃c b,v=I c (U a7) b:=by
 rcases d.row.2 with⟨a,f⟩|⟨_,cap,_,a,_⟩
 ·exact⟨J,0,by rw[f];exact a⟩
 exact⟨_,_,a⟩
theorem xz.aeR{base}(i:xz e base u a7)(r:KeS e s d g)(o:ed e d l a9)(p:ed e g q h5):xz s base u a7:=by
 have m:∀(b:Ω) (c:H6 A4) (j:H9),e.heap[b]? =V (ζ c j (0,0))->j≠4->s.heap[b]? =e.heap[b]? :=λb c j a n=>by
  refine r.2 b (af a) (λk=>?_) (λk=>?_)
  ·subst k;obtain⟨t,f,_⟩:=o;rw[a]at f;cases f;exact n D
  subst k;obtain⟨t,f,_⟩:=p;rw[a]at f;cases f;exact n D
 refine⟨aD i.row λb f=>?_,λt k=>(i.parts t k).ah λb c a=>(m b c _ a ag).trans a⟩;rcases i.row.2 with⟨a,_⟩|⟨_,cap,c,a,_,v,_⟩
 ·subst a;cases f
 subst a;cases f;exact m _ _ _ v ag
theorem xz.Fv{x:Δ}{base}{v:A4}(i:xz x base v a7)(p:mV x 0 u a2)(o:e.ownsRow base 165 2 (I (V (E g 0 J)) (U a7+1) d) (U a7+1) (ji a7++ [A Z (l:Y),u]))(n:(x.alloc c0).grownBy e v.ownBlock):xz e base (I (V (E g 0 J)) (U a7+1) d) (a7++ [(l,u,a2)]):=by
 have j:∀(b:Ω) (c:H6 A4),x.heap[b]? =V (ζ c 3 (0,0))->e.heap[b]? =V (ζ c 3 (0,0)):=λb c f=>by
  have q:=af f;refine(n.block b aN λk=>?_).trans ((φ _ _ _ q).trans f);rcases i.row.2 with⟨a,_⟩|⟨_,cap,_,a,_,m,_⟩
  ·subst a;cases k
  subst a;cases k;rw[f]at m;cases m
 refine⟨by rw[κ,EZ];exact o,λk a=>?_⟩;rcases F3.mp a with a|a
 ·exact(i.parts k a).ah j
 rw[List.mem_singleton.mp a];exact p.ah j
theorem Kv(h3:Li e d b m f)(c:Dq b f):
  A7 A3 90 #[γ (V (E d 0 J))] e λB c1=>∃v n k,B=B7 v/\xz c1 (G (H e)) v n/\iL n=iA f 0 k/\tL (pg b f) (U b) k/\A5 (G (H e)) e c1:=by
 obtain⟨h4,h5,h6,h7,h8⟩:=C3 zw;obtain⟨j3,j4,j5,j6,j7⟩:=C3 lX;obtain⟨j8,j9,k0,k1,k2⟩:=C3 Ed;have k3:M (Li e d b m f):=h3;obtain⟨⟨⟨_,_,_,_,_,aS,_,_,⟨i,j,g,l⟩, -, -⟩, -,k4, -, -⟩,⟨_,_,h9,g0⟩,_⟩:=h3;have m9:M (Dq b f):=c;change M _ at g0;have g1:=aU g;have g2:=Kq k3 c;obtain⟨o,a⟩:=au (U b);obtain⟨g3,c2⟩:=au (pg b f);rw[<-a,<-c2]at g2 ⊢;rw[<-a]at g g0 k4;have k5:M (∀b2∈f,b2.1<2^o):=λb2 c3=>by rw[a];exact(c.zq b2 c3).1
 have n0:M (o=U b):=a;clear c i j l c2 a;go_enter func90,ntmps90;go_upto_region 3 with(go_at_call 156;refine g2.mono ?_;clear g2;rintro B l ⟨_,k,rfl,k6,a,c⟩)
 obtain⟨a3,k7,rfl,i⟩:=k6;have i0:M (l.ownsRow 0 3 1 (I (V (E a3 0 J)) (U k) k7) (U k) (aA (zs k))):=i;have k8:M (tL g3 o k):=a;have g4:M (A5 (G (H e)) e l):=c;have n1:M (U k=o):=a.1.2;have n2:U k<=4:=cz a.1.2;have k9:M (∀j∈k,j<o):=a.1.1.lt;have p:=ax g c;have a4:=ax h9 c;have q:=aU p;clear i a c g g1;go_upto_region 4 with(at_make;refine dx _ D _ _ 263 D 4 h4 _ B2 h5 h6 Z Z o _ D D aa (by rw[h8];omega) aa 1 h7 ?_;intro O _ i1 a c i;have w:M (G (H O)=G (H l)+1):=i1;clear i1)
 have g:M (ed O (G (H l)) o (E7 0)):=by
  rw[D5]at c;refine B4.congr c λj _=>?_;rw[i.out j];simp[D3,D6]
 have b3:=ax a4 a;have C:=aU b3;have x:M (A5 (G (H l)) l O):=a;clear c i a p a4 q;go_upto_region 5 with(at_make;refine dx _ D _ _ 263 D 4 h4 _ B2 h5 h6 Z Z (U f) _ D D aa (by rw[h8];omega) aa 1 h7 ?_;intro t _ i2 a c y;have c4:M (G (H t)=G (H O)+1):=i2;clear i2)
 have i:M (ed t (G (H O)) (U f) (FD f 0)):=by
  rw[D5]at c;refine B4.congr c λj _=>?_;rw[y.out j];have:FD f 0 j=χ:=by unfold FD;cases f[j]? <;>rfl
  rw[this];simp[D3,D6]
 have q:M (ed t (G (H l)) o (E7 0)):=ed.ah g (a.block _ (ε g));have s:M (A5 (G (H l)) l t):=bT x a;have c5:G (H l)<G (H O):=cz w.out;have i3:G (H O)<G (H t):=cz c4.out;obtain⟨p,u⟩:=au (G (H l));obtain⟨r,z⟩:=au (G (H O));have c6:M (p=G (H l)):=u;rw[<-u]at q s c5 ⊢;rw[<-z]at i c5 i3 ⊢;clear c y a g x w c4 b3 C u z;go_wp2_with fail;go_loopg [3,7] (U k) (λgk a c7 wr=>∃(j:Ω) (n:Θ iP),gk=U k-j/\j<=U k/\c7=A Z (j:Y)/\U n=j/\M (iL n=iA f 0 (k.take j))/\M (xz wr (G (H t)) a n)/\M (ed wr p o (B0 (k.take j)).testBit)/\M (ed wr r (U f) (FD f (B0 (k.take j))))/\A5 p l wr/\G (H t)<=G (H wr))
 ·exact⟨0,[],D,ω _,D,D,D,⟨C8 _ _ _ _,λ_ a=>by simp at a⟩,q,i,s,ο _⟩
 clear q i s;obtain⟨j,n,b4,_,rfl,a,c8,T,P,b5,b6,c4⟩:=hrel;subst b4;generalize c:wr=wi at*;clear c;obtain⟨a5,a6,l0⟩:=T.out.val;subst l0;have l1:M (U n=j):=a;have n3:U n<=4:=aa;clear a;have c9:A5 (G (H l)) l wi:=by rw[<-c6.out];exact b6
 by_cases e0:j<U k
 ·have i4:=k9.out k[j] (θ e0);have c:Q wi (E a3 j J)=V (A Z ((k[j]:Ω):Y)):=ax ((H1 i0 j aa).trans (JI k j e0)) c9;have g5:M (B0 (k.take (j+1))=bu (B0 (k.take j)) k[j]):=ER e0;have e1:M (iA f 0 (k.take (j+1))=iA f 0 (k.take j)++ [(k[j],uT f k[j] (B0 (k.take j)))]):=by rw[M,ρ e0,wF];rfl
  obtain⟨a,q⟩:=au (k[j]);obtain⟨g,u⟩:=au (B0 (k.take j));rw[<-q]at i4 c g5 e1;rw[<-u]at g5 e1 P b5;have e2:=Γ P i4;have w:=Ξ P a;have x:=ε P;have y:=aU c;have s:M (Bt l wi ((wi.setCell (E p a J) (η μ)).alloc (ζ #[A Z (a:Y),I J 0 0] 165)) p r (G (H wi)) o f g a 0 0):=VS P b5 b6 c5;obtain⟨_,i⟩:=au ((wi.setCell (E p a J) (η μ)).alloc (ζ #[A Z (a:Y),I J 0 0] 165));rw[<-i]at s;have a7:Q (wi.setCell (E p a J) (η μ)) (E a3 j J)=V (A Z (a:Y)):=by
   rw[E6 (w:=wi) (a:=(E a3 j J)) (β _ _ _ _ ?_)]
   ·exact c
   show a3≠p;have:=(G9 i0 a3 D).2;rw[c6.out];omega
  have z:G (H (wi.setCell (E p a J) (η μ)))=G (H wi):=by simp[B6]
  have n4:M (A5 p l wi):=b6;clear q u b6 c9;go_upto_region 10 with fail
  rw[<-i];clear i e2 w a7 z c y x;obtain⟨q,c⟩:=au (G (H wi));have n5:M (q=G (H wi)):=c;rw[<-c]at s ⊢;clear c;go_wp2_with fail;go_loopg [9] 2 (λgk c wr=>∃i:Ω,gk=2-i/\i<=2/\c=A Z (i:Y)/\M (i=0/\Bt l wi wr p r q o f g a 0 0\/i=1/\Bt l wi wr p r q o f g a 1 0\/i=2/\Bt l wi wr p r q o f g a 1 (U f)))
  ·exact⟨0,D,aa,D,.inl ⟨D,s⟩⟩
  clear s;obtain⟨i,b4,_,rfl,w⟩:=hrel;subst b4;generalize c:wr=wt at*;clear c;by_cases l4:i<2
  ·have K:M (Bt l wi wt p r q o f g a i 0):=by
    rcases w.out with⟨rfl,R⟩|⟨rfl,R⟩|⟨rfl,R⟩
    ·exact R
    ·exact R
    omega
   have l7:decide ((i:Y)<2)=μ:=aN;clear w;go_wp2_with fail;go_loopg [10] (U f) (λgk s wr=>∃c:Ω,gk=U f-c/\c<=U f/\s=A Z (c:Y)/\M (Bt l wi wr p r q o f g a i c))
   ·exact⟨0,D,ω _,D,K⟩
   clear K;obtain⟨c,b4,_,rfl,w⟩:=hrel;subst b4;generalize s:wr=wj at*;clear s;have g6:A5 (G (H l)) l wj:=by rw[<-c6.out];exact w.jH
   have i5:M (A5 (G (H e)) e wj):=bT g4 g6;have a4:=ax h9 i5;have g1:=aU a4;by_cases e3:c<U f
   ·obtain⟨_,i6,i7,c7,rfl,⟨e2,N,a0,a7,x⟩,⟨l8,l9⟩,s⟩:=TQ.ah (g0 c f[c] (α e3)) i5;have a1:=aU e2;have W:=α e3;have C:=k5.out f[c] (θ e3);have u:M ((E8 f[c].1 (bu g a)&& !vI f g a i c c&&(f[c].2.2==decide (i=0)))=pT g a i f[c]):=aaG g a l4 W;have y:=Γ w.asked e3;have a2:=Ξ w.asked c;have e4:=ε w.asked;have b7:A7 A3 157 #[C2 #[i6,i7,c7,η f[c].2.2,A Z f[c].2.1],I (V (E p 0 J)) o o] wj λB c1=>B=B7 (η (E8 f[c].1 (bu g a)))/\A5 (G (H wj)) wj c1:=by
     have:=xP i6 i7 (η f[c].2.2) (A Z f[c].2.1) ⟨l8,l9,D,D⟩ s (w.set.Sv aa) (by rw[rJ,rJ]);rw[XV C]at this;exact this
    change M _ at W;obtain⟨⟨g7,i8,g8⟩,c3⟩:∃b2,b2=f[c]:=⟨_,D⟩;rw[<-c3]at a7 x u b7 W;simp only at a7 x u b7;obtain⟨m0,F⟩:=au (vI f g a i c c);rw[<-F]at y u;obtain⟨m1,L⟩:=au (E8 g7 (bu g a));rw[<-L]at u b7;obtain⟨a9,z⟩:=au (pT g a i (g7,i8,g8));have e5:M (a9=pT g a i (g7,i8,g8)):=z;rw[<-z]at u;obtain⟨_,_,_,m2⟩:∃a8 o m3,c7=I a8 o m3:=by obtain⟨_,_,B,_⟩:=s;exact⟨_,_,_,B⟩
    subst m2;clear s C c3 F L z g6;go_upto_region 17 with(go_at_call 157;refine b7.mono ?_;clear b7;rintro B s ⟨rfl,S⟩)
    have X:M (Bt l wi s p r q o f g a i c):=w.out.more S;have b3:=ax a4 S;have z:=ax a7 S;have g9:=ax y S;have i9:=Ξ X.asked c;have C:=aU b3;have F:=aU z;have j0:=aU g9;clear a4 e2 N a0 a7 x y a2 S g1 a1 e4 w;obtain⟨j1,x⟩:=au (decide (i=0));have y:((i:Y)==0)=j1:=by rw[x,B1];simp
    rw[<-x]at u;clear x;go_cut [85] (λx L=>x=η a9/\L=s)
    ·cases m1 with
     |false=>
      have x:M (a9=χ):=by rw[M,<-u.out];rfl
      clear u
      go_wp2
      go_meet;exact⟨by rw[x.out],by trivial⟩
     |true=>
      cases m0 with
      |true=>
       have x:M (a9=χ):=by rw[M,<-u.out];rfl
       clear u
       go_wp2
       go_meet;exact⟨by rw[x.out],by trivial⟩
      |false=>
       have x:M (a9=(g8==j1)):=by rw[M,<-u.out];rfl
       clear u
       go_wp2
       go_meet;exact⟨by rw[x.out],by trivial⟩
    case rest=>
    obtain⟨rfl,rfl⟩:=hcut;clear u b3 z C F y
    cases a9 with
    |false=>
     have h0:M (Bt l wi wc p r q o f g a i (c+1)):=X.out.skip W e5.symm;clear X e5 W g9 i9 j0
     go_wp2
     go_roundg (U f-(c+1))
     all_goals first
      |omega
      |exact⟨c+1,D,aa,aP,h0⟩
    |true=>
     obtain⟨y,z,L,a0⟩:=X.out.box;have m4:=WU f g a i c;have N:M (∀(s:Δ) (x:Obj) (C F:Ω),s.ownsRow (q+1) 3 1 (I (V (E C 0 J)) (U (fG f g a i c)+1) F) (U (fG f g a i c)+1) (aA (zs (fG f g a i c))++ [A Z (c:Y)])->((wc.setCell (E r c J) (η μ)).alloc x).grownBy s (I y (U (fG f g a i c)) z).ownBlock->Bt l wi (s.setCell (E q 1 J) (I (V (E C 0 J)) (U (fG f g a i c)+1) F)) p r q o f g a i (c+1)/\s.heap[q]? =V (ζ #[A Z (a:Y),I y (U (fG f g a i c)) z] 165 (0,0))):=λs x C F a8 b0=>X.out.ask W e5.symm L a0 a8 b0;have m5:=af L;have n6:r<q:=X.out.lt.2.1;have m6:q≠r:=aa;have a2:(wc.setCell (E r c J) (η μ)).heap[q]? =V (ζ #[A Z (a:Y),I y (U (fG f g a i c)) z] 165 (0,0)):=(β _ _ _ _ m6).trans L;have a1:∀x:Obj,((wc.setCell (E r c J) (η μ)).alloc x).ownsRow (q+1) 3 1 (I y (U (fG f g a i c)) z) (U (fG f g a i c)) (aA (zs (fG f g a i c))):=λx=>B8 (aD a0 λu b1=>β _ _ _ _ (by show u≠r;have:=(a0.lt u b1).1;omega)) x;obtain⟨e6,b8⟩:=au (wc.setCell (E r c J) (η μ));rw[<-b8]at N a2 a1;obtain⟨e7,b9⟩:=au (fG f g a i c);rw[<-b9]at N a2 a1 m4;clear b9;have h1:Q e6 (E q 1 J)=V (I y (U e7) z):=aC a2;have n7:=af a2;clear X e5 W L a0 a2;go_upto_region 19 with fail
     rw[<-b8];clear b8 g9 i9 j0;go_wp2_with(at_builtin;refine G0 _ D (.tmp 90) (.tmp 92) 42 D (q+1) 3 j3 _ 1 8 underlying42 j4 j5 j6 j7 D ag (I y (U e7) z) (U e7) (aA (zs e7)) D (a1 _) (E (G (H e6)) 0 J) 1 1 [A Z (c:Y)] D D (C4 (υ e6 _)) (by intro m8 c0;simp at c0;subst c0;rfl) ag fD aa aN (G (H e6)+1) ak ?_;intro C F e9 b9 b8 h2 m7;obtain⟨j2,e8⟩:=N.out e9 _ C F b9 b8;have a2:M _:=j2;have n8:=(aI (j:=1) e8).trans D;have n9:=af e8;have o0:ψ e9 (E q 1 J)=χ:=(by simp[ψ,e8]);clear b9 b8 h2 j2 e8 a1 N)
     go_roundg (U f-(c+1))
     all_goals first
      |omega
      |exact⟨c+1,D,aa,aP,a2⟩
   have W:c=U f:=aa;subst W;have h0:M (i+1=0/\Bt l wi wj p r q o f g a 0 0\/i+1=1/\Bt l wi wj p r q o f g a 1 0\/i+1=2/\Bt l wi wj p r q o f g a 1 (U f)):=by
    rcases(aa:i=0\/i=1)with rfl|rfl
    ·exact .inr (.inl ⟨D,w.afO⟩)
    exact .inr (.inr ⟨D,w⟩)
   clear w g6
   go_wp2
   go_roundg (2-(i+1))
   all_goals first
    |omega
    |exact⟨i+1,D,aa,aP,h0⟩
  have K:M (Bt l wi wt p r q o f g a 1 (U f)):=by
   rcases w.out with⟨rfl,R⟩|⟨rfl,R⟩|⟨rfl,R⟩
   ·omega
   ·omega
   exact R
  have l7:decide ((i:Y)<2)=χ:=aN;have X:i=2:=aa;subst X;obtain⟨y,z,L,a0⟩:=K.out.box;have m5:=af L;have b7:Q wt (E q 0 J)=V (A Z (a:Y)):=aC L;have h1:Q wt (E q 1 J)=V (I y (U (fG f g a 1 (U f))) z):=aC L;have R:xz wt (G (H t)) (I a5 (U n) a6) n:=T.out.aeR K.ah P b5;have W:mV wt 0 (I y (U (fG f g a 1 (U f))) z) (fG f g a 1 (U f)):=⟨bY a0 λ_ _=>ω _,_,_,_,D⟩;rw[WT]at h1 W;have c7:G (H t)<=G (H wt):=E5 c4 K.ah.1;have N:M (∀(s:Δ) (x:Obj) (C F:Ω),s.ownsRow (G (H t)) 165 2 (I (V (E C 0 J)) (U n+1) F) (U n+1) (ji n++ [A Z (a:Y),I y (U (uT f a g)) z])->(wt.alloc x).grownBy s (I a5 (U n) a6).ownBlock->xz s (G (H t)) (I (V (E C 0 J)) (U n+1) F) (n++ [(a,I y (U (uT f a g)) z,uT f a g)])/\ed s p o (bu g a).testBit/\ed s r (U f) (FD f (bu g a))/\A5 p l s/\G (H t)<=G (H s)):=λs x C F a8 b0=>by
   have a9:∀u,u<G (H t)->(I a5 (U n) a6).ownBlock≠V u:=λu b1 B=>cz ((R.row.lt u B).1);have S:∀u,u<G (H t)->s.heap[u]? =wt.heap[u]? :=λu b1=>(b0.block u gL λB=>a9 u b1 B.symm).trans (φ _ _ _ aa);refine⟨R.Fv W a8 b0,K.set.ah (S p aa),(K.asked.ah (S r i3)).congr λc _=>WX f g a c, ?_, ?_⟩
   ·exact((K.jH).alloc aa x).grown b0 gL (λg3 c2=>cz ((R.row.lt g3 c2).1))
   have:=b0.size;simp only[Ψ]at this;omega
  have a1:∀x:Obj,(wt.alloc x).ownsRow (G (H t)) 165 2 (I a5 (U n) a6) (U n) (ji n):=λx=>B8 R.row x;have S:M (∀c,iL (n++ [(a,c,uT f a g)])=iA f 0 (k.take (j+1))):=λc=>by
   rw[e1.out,<-c8.out];simp[iL]
  rw[<-g5.out]at N;obtain⟨a9,e4⟩:=au (U (uT f a g));rw[<-e4]at h1 N;clear e4 w L a0 R W K T P b5 c8 e1;go_wp2_with(at_builtin;refine G0 _ D (.tmp 95) (.tmp 97) 87 D (G (H t)) 165 j8 _ 2 32 underlying87 j9 k0 k1 k2 D ag (I a5 (U n) a6) (U n) (ji n) D (a1 _) (E (G (H wt)) 0 J) 1 1 [A Z (a:Y),I y a9 z] D D (C4 (υ wt _)) (by intro m8 c0;simp at c0;rcases c0 with rfl|rfl<;>rfl) ag fD aa aN (G (H wt)+1) ak ?_;intro C F e9 b9 b8 h2 m7;have a2:M _:=N.out e9 _ C F b9 b8;clear b9 b8 h2 a1 N)
  go_roundg (U k-(j+1))
  all_goals first
   |omega
   |exact⟨j+1,_,D,aa,aP,by rw[κ,l1.out];rfl,S _,a2.1,a2.2.1,a2.2.2.1,a2.2.2.2.1,a2.2.2.2.2⟩
 have a:M (iL n=iA f 0 k):=by rw[M,c8.out,C0 aa]
 have c:M (xz wi (G (H e)) (I a5 (U n) a6) n):=⟨bY T.row λu b1=>by have:=(T.row.lt u b1).1;have:=g4.out.size;rw[c6.out]at c5;omega,T.parts⟩;have g:M (A5 (G (H e)) e wi):=bT g4 c9;clear c8 T P b5 b6 c9
 go_wp2
 go_ret;exact⟨_,n,k,D,c,a,k8,g⟩
structure YV where
 xb:Nat
 user:Bs
 fo:Option Addr
 fn:Nat
 fc:Nat
 wh:Bs
 oo:Option Addr
 on:Nat
 oc:Nat
 ro:Option Addr
 rn:Nat
 rc:Nat
 qM:Int
 io:Option Addr
 il:Nat
 ic:Nat
 ko:Option Addr
 kn:Nat
 kc:Nat
 so:Option Addr
 sn:Nat
 sc:Nat
 go:Option Addr
 gn:Nat
 gc:Nat
abbrev qO(a:YV)(pv uv:A4):H6 A4:= #[γ (V ⟨a.xb,0,J⟩),ι (ae a.user),I a.fo a.fn a.fc,ι (ae a.wh),I a.oo a.on a.oc,I a.ro a.rn a.rc,A Z a.qM,I a.io a.il a.ic,I a.ko a.kn a.kc,I a.so a.sn a.sc,ι ⟨#[]⟩,I a.go a.gn a.gc,pv,uv]
structure YS(w1:World)(a:YV)(tl:List ig)(rfs:List RF)(its:List (Bs×Bs)):Prop where
 bI:∃(aS:Option Addr) (tn tc:Nat),World.cell? w1 ⟨a.xb,1,none⟩=some (.slice aS tn tc)/\oK w1 (.slice aS tn tc) (tl.map λr=>r.t.name)/\∀(k:Nat) (r:ig),tl[k]? =some r->∃tb,aS=some ⟨tb,0,none⟩/\k<tn/\Six w1 tb (k*6) (.string (ae r.t.name)) (.slice r.co r.cn r.cc) (.slice r.ro r.rn r.rc) (.int .i64 r.t.count) (.string (ae r.t.aR)) (.slice r.uo r.un r.uc)/\dC w1 (.slice r.co r.cn r.cc) r.t.aB
 fns:pJ w1 (.slice a.go a.gn a.gc) rfs
 BK:iM w1 (.slice a.fo (List.length its) a.fc) its
theorem YS.of{a:YV}{j:Θ Aj}(d:kU s e a.xb j a6)(r:iM e (I a.fo (U m) a.fc) m)(f:Q e (E a.xb 0 J)=V (I a.go a.gn a.gc)):YS e a a6 (j.map (·.1)) m:=by
 have:=d.vis;have t:=d.aed;obtain⟨u,v,w,aS,x,y,_,_,_,⟨_,z⟩,k,⟨B,C,F⟩,l,_,_,K⟩:=d;have L:Q e (E a.xb 0 J)=V (I u v w):=aC k;have n:Q e (E a.xb 1 J)=V (I aS x y):=aC k;rw[L]at f
 cases f;obtain⟨_,_,_,o,N⟩:=t;rw[n]at o
 cases o;refine⟨⟨_,_,_,n,N,λp i g=>?_⟩,uB B C F,r⟩;have O:=(δ.mp g).1;rcases l.2 with⟨_,_⟩|⟨q,cap,_,P,_,f,_⟩
 ·omega
 cases P;have b:∀c,c<6->Q e ⟨q,p*6+c,J⟩=(wE i)[c]? :=λc R=>(l.cellAt _ aa).trans (pz a6 p i c g R);exact⟨q,D,O,⟨b 0 aa,b 1 aa,b 2 aa,b 3 aa,b 4 aa,b 5 aa⟩,((K i (List.mem_of_getElem? g)).1.aB).ah z⟩
structure YI(w1 x:World)(yb:Nat)(a:YV)(ids:List Nat)(aB:List (Bs×Int)):Prop where
 at':yb=Array.size (World.heap w1)
 jH:Below yb w1 x
 LH:∃pv uv,x.heap[yb]? =some (.cells (qO a pv uv) 262 (0,0))
 ids:x.ownsRow (yb+1) 3 1 (.slice a.io a.il a.ic) (List.length ids) (aA (zs ids))
 nms:x.ownsRow (yb+1) 9 1 (.slice a.ko a.kn a.kc) (List.length aB) (Er aB)
 Bo:x.ownsRow (yb+1) 5 1 (.slice a.so a.sn a.sc) (List.length aB) (Ib aB)
def Ai(x x':Δ)(yb:Ω):Prop:=G (H x)<=G (H x')/\∀(g:Ω) (cur:H6 A4) (T:H9) (fz:Ω×Ω),x.heap[g]? =V (ζ cur T fz)->g≠yb->T≠350->x'.heap[g]? =x.heap[g]?
theorem Ai.refl(a b):Ai a a b:=⟨ο _,λ_ _ _ _ _ _ _=>rfl⟩
theorem Ai.trans{x}(c:Ai x e d)(k:Ai e s d):Ai x s d:=⟨E5 c.1 k.1,λg i f l j a b=>by
 have:=c.2 g i f l j a b;exact(k.2 g i f l (this.trans j) a b).trans this⟩
theorem Ai.below(a:Bl e s):Ai e s d:=⟨a.size,λc _ _ _ b _ _=>a.block c (af b)⟩
theorem Ai.own{base n a v}(i:Ai e s d)(m:d<base)(j:a≠350)(c:e.ownsRow base a g v n R):s.ownsRow base a g v n R:=by
 refine aD c λ_ f=>?_;rcases c.2 with⟨b,_⟩|⟨k,cap,_,b,_,l,_⟩
 ·subst b;cases f
 subst b;cases f;exact i.2 _ _ _ _ l (by show k≠d;omega) j
theorem YI.move{x b ids aB}(a:YI s x d b ids aB)(c:Ai x e d)(f:A5 d s e)(g:∃i j,e.heap[d]? =V (ζ (qO b i j) 262 (0,0))):YI s e d b ids aB:=
 ⟨a.at',f,g,c.own aa ag a.ids,c.own aa ag a.nms,c.own aa ag a.Bo⟩
theorem YI.ah{x a ids aB}(b:YI e x d a ids aB)(c:Bl x s):YI e s d a ids aB:=by
 obtain⟨g,i,f⟩:=b.LH;exact b.move (Ai.below c) (b.jH.trans (c.mono (by have:=af f;omega))) ⟨g,i,(c.block _ (af f)).trans f⟩
theorem YI.of{c:YV}{ids aB}(i:YI e s d c ids aB)(l:YS e c a6 z m)(v:c.fn=U m)(x:U b=U m)(w:U ids=U b)(q:U b<=4)(y:∀(a n:Ω) (g:aJ×Ex),ids[a]? =V n->b[a]? =V g->∃f,a6[n]? =V f/\g=(f.t,f.x))(u:∀g∈b,U g.1.aB<=4/\∀p∈g.1.aB,U p.1<=1000)(r:∀B∈m,U B.2<=1000):Al s d b m:=by
 obtain⟨_,_,k⟩:=i.LH;have j:A5 (G (H e)) e s:=by rw[<-i.at'];exact i.jH
 obtain⟨aS,C,F,K, -,L⟩:=l.bI;obtain⟨N,_,O⟩:=nY i.ids;refine⟨⟨c.xb,c.fo,c.fc,c.io,c.ic,aS,C,F,⟨aC k, ?_, ?_,ax K j⟩,l.BK.ah j,λa g o=>?_⟩,x,q,u,r⟩
 ·rw[<-v];exact aC k
 ·rw[<-w,<-N];exact aC k
 have:=(δ.mp o).1;rcases O with _|⟨P,R, -,_,S⟩
 ·omega
 have T:ids[a]? =V ids[a]:=α aa;obtain⟨f,W,rfl⟩:=y a _ g T o;obtain⟨X,a0,a1,a2,a3⟩:=L _ f W;exact⟨P,X,ids[a],_,f.co,f.cn,f.cc,_,_,_,R,a0,S a _ (JI ids a aa),a1,a2.ah j,⟨D,D,D,D,D,D⟩,a3.ah j⟩
theorem YI.kn{a:YV}{ids aB}(b:YI e s d a ids aB)(f:YS e a a6 z m)(c:U aB<=1000):qP s a.ko a.kn a.kc a.so a.sn a.sc (I a.go a.gn a.gc) aB z:=
 Nn b.nms b.Bo c (f.fns.ah (by unfold Bl;rw[<-b.at'];exact b.jH))
def Wq(x:Δ)(n:Ω)(cs:Θ dB)(rfs:Θ RF)(t:Tr)(c:Θ A4):Prop:=∃(g cap:Ω) (l:Θ Tr) (ty:Ω->Y) (ccs:Θ A4) (j mb:Ω),c= [I (V ⟨g,0,J⟩) (U l) cap,A Z (j:Y),I (V ⟨mb,0,J⟩) n n,η (yD rfs t),A Z (FN cs t)]/\l[j]? =V t/\iN x g cap l ty ccs/\ed x mb n (vS cs t).testBit
theorem Wq.move{x:Δ}(p:Wq x d a3 z j R)(q:Ai x e g)(r:x.heap[g]? =V (ζ k4 262 (0,0))):Wq e d a3 z j R:=by
 obtain⟨w,cap,L,N,u,K,l,y,B,C,m⟩:=p;have o:∀(f:Ω) (i:H6 A4) (a:H9) (k:Ω×Ω),x.heap[f]? =V (ζ i a k)->a≠262->a≠350->e.heap[f]? =x.heap[f]? :=λf i a k c s b=>q.2 f i a k c (λv=>by subst v;rw[r]at c;cases c;exact s D) b;refine⟨w,cap,L,N,u,K,l,y,B,C.move λf i a k c n=>o f i a k c (by rcases n with rfl|rfl<;>decide) (by rcases n with rfl|rfl<;>decide), ?_⟩;have F:x.rowIs l 4 d _:=m;obtain⟨t,c, -⟩:=F;exact m.ah (o l t _ _ c ag ag)
theorem Wq.ah{x}(c:Wq x d a3 z j R)(a:Bl x e):Wq e d a3 z j R:=by
 obtain⟨f,cap,l,g,i,k,m,n,o,p,b⟩:=c;exact⟨f,cap,l,g,i,k,m,n,o,p.ah a,b.ah (a.block _ (ε b))⟩
def PD(x:Δ)(base n:Ω)(cs:Θ dB)(rfs:Θ RF)(v:A4)(ts:Θ Tr):Prop:=∃css:Θ (Θ A4),U css=U ts/\x.ownsRow base 350 5 v (U ts) css.flatten/\∀(i:Ω) (c:Θ A4) (t:Tr),css[i]? =V c->ts[i]? =V t->Wq x n cs rfs t c
theorem PD.nil(c base a cs b):PD c base a cs b (I J 0 0) []:=⟨[],D,C8 _ _ _ _,λi _ _ d=>by simp at d⟩
theorem PD.ah{x base v}(g:PD x base d a3 z v o)(b:Bl x e):PD e base d a3 z v o:=by
 obtain⟨j,k,c,l⟩:=g;exact⟨j,k,aD c λf m=>b.block f (c.lt f m).2,λi p q a n=>(l i p q a n).ah b⟩
theorem UE:(A3.info? 350).map (λa=>(a.zero,a.size,a.bytes))=V (V (C2 #[I J 0 0,A Z 0,I J 0 0,η χ,A Z 0]),5,72):=aF
structure YC(w1:World)(a:YV)(ids:List Nat)(tl:List ig)(rfs:List RF)(its:List (Bs×Bs))(tes:List (aJ×Ex)):Prop where
 ys:YS w1 a tl rfs its
 fn:a.fn=List.length its
 len:List.length tes=List.length its
 idl:List.length ids=List.length tes
 four:List.length tes<=4
 bI:∀(i k:Nat) (te:aJ×Ex),ids[i]? =some k->tes[i]? =some te->∃r,tl[k]? =some r/\te=(r.t,r.x)
 aB:∀te∈tes,List.length te.1.aB<=4/\∀c∈te.1.aB,List.length c.1<=1000
 LA:∀it∈its,List.length it.2<=1000
 ok:tN ((aK 0 tes its).map (·.1),[]) [] rfs
theorem YC.zq{c ids}(a:YC e c ids a6 z m b):((aK 0 b m).map (·.1)).length<=1000:=by
 rw[List.length_map];have:=sw b m 0 λf d=>(a.aB f d).1;have:=a.four;omega
structure PW(w1 x:World)(yb:Nat)(a:YV)(uv:Value)(ids:List Nat)(tes:List (aJ×Ex))(its:List (Bs×Bs))(rfs:List RF)(ts:List Tr):Prop where
 yi:YI w1 x yb a ids ((aK 0 tes its).map (·.1))
 LH:∃po pc,x.heap[yb]? =some (.cells (qO a (.slice po (List.length ts) pc) uv) 262 (0,0))/\PD x (yb+1) (List.length tes) (aK 0 tes its) rfs (.slice po (List.length ts) pc) ts
theorem PW.ah{x a ids}(g:PW e x d a u ids b m z o)(c:Bl x s):PW e s d a u ids b m z o:=by
 obtain⟨i,j,k,f,l⟩:=g;exact⟨i.ah c,j,k,(c.block _ (af f)).trans f,l.ah c⟩
theorem aaK{c}(a:e.heap[d]? =V (ζ #[u,C,K,L,O,a0,b0,b1,b2,b3,b4,b8,b5,b6] c (0,0))):
  (Q e (E d 0 J)=V u/\Q e (E d 1 J)=V C/\Q e (E d 2 J)=V K/\Q e (E d 3 J)=V L/\Q e (E d 4 J)=V O/\Q e (E d 5 J)=V a0/\Q e (E d 6 J)=V b0/\Q e (E d 7 J)=V b1/\Q e (E d 8 J)=V b2/\Q e (E d 9 J)=V b3/\Q e (E d 10 J)=V b4/\Q e (E d 11 J)=V b8/\Q e (E d 12 J)=V b5/\Q e (E d 13 J)=V b6)/\(∀b,ψ e (E d b J)=χ)/\d<G (H e):=
 ⟨⟨aC a,aC a,aC a,aC a,aC a,aC a,aC a,aC a,aC a,aC a,aC a,aC a,aC a,aC a⟩,λb=>by simp[ψ,a],af a⟩
theorem PT{c}(a:e.heap[d]? =V (ζ #[u,C,K,L,O] c (0,0))):
  (Q e (E d 0 J)=V u/\Q e (E d 1 J)=V C/\Q e (E d 2 J)=V K/\Q e (E d 3 J)=V L/\Q e (E d 4 J)=V O)/\(∀b,ψ e (E d b J)=χ)/\d<G (H e):=
 ⟨⟨aC a,aC a,aC a,aC a,aC a⟩,λb=>by simp[ψ,a],af a⟩
theorem Aa(b):∀a:Θ Tr,dI (a++ [b])=dI a++iH b
 | []=>by simp[dI]
 |u::a=>by rw[D1,dI,dI,Aa b a,B5]
theorem KJ(a:d<U o):dI (o.take (d+1))=dI (o.take d)++iH o[d]:=by rw[ρ a,Aa]
theorem OP(b:Θ Tr)(c):U (dI (b.take c))<=U (dI b):=by
 have e:∀a d:Θ Tr,dI (a++d)=dI a++dI d:=λa d=>by
  induction a with
  |nil=>rfl
  |cons f a ih=>rw[D1,dI,dI,ih,B5]
 have:=e (b.take c) (b.drop c);rw[List.take_append_drop]at this;rw[this,κ];omega
theorem iN.keP{cap}(a:iN e d cap o P R)(f:Ai e s g)(i:e.heap[g]? =V (ζ k4 262 (0,0))):iN s d cap o P R:=
 a.move λn k j m b c=>f.2 n k j m b (λl=>by subst l;rw[i]at b;cases b;rcases c with a|a<;>exact absurd a ag) (by rcases c with rfl|rfl<;>decide)
theorem PW.Fv{x:Δ}{r ids}{i:Θ (Θ A4)}{c}(y:PW s x d r u ids b m z o)(B:x.heap[d]? =V (ζ (qO r (I N (U o) q) u) 262 (0,0)))(W:U i=U o)(C:x.ownsRow (d+1) 350 5 (I N (U o) q) (U o) i.flatten)(X:∀(k:Ω) (c:Θ A4) (j:Tr),i[k]? =V c->o[k]? =V j->Wq x (U b) (aK 0 b m) z j c)(T:Wq x (U b) (aK 0 b m) z j c)(O:e.ownsRow (d+1) 350 5 (I (V (E l 0 J)) (U o+1) g) (U o+1) (i.flatten++c))(w:(x.alloc c0).drew.grownBy e (I N (U o) q).ownBlock):
  (PW s (e.setCell (E d 12 J) (I (V (E l 0 J)) (U o+1) g)) d r u ids b m z (o++ [j])/\Ai x (e.setCell (E d 12 J) (I (V (E l 0 J)) (U o+1) g)) d)/\e.heap[d]? =V (ζ (qO r (I N (U o) q) u) 262 (0,0)):=by
 have a0:=af B;have a1:(I N (U o) q).ownBlock≠V d:=λf=>cz ((C.lt d f).1);have a2:=w.size;simp only[World.size_drew,Ψ]at a2;have F:∀a,a<G (H x)->(I N (U o) q).ownBlock≠V a->e.heap[a]? =x.heap[a]? :=λa n a3=>(w.block a LZ (λf=>a3 f.symm)).trans (φ _ _ _ n);have P:e.heap[d]? =V (ζ (qO r (I N (U o) q) u) 262 (0,0)):=(F d a0 a1).trans B;have K:Ai x (e.setCell (E d 12 J) (I (V (E l 0 J)) (U o+1) g)) d:=by
  refine⟨Jq,λa _ _ _ f n R=>(β _ _ _ _ n).trans (F a (af f) λp=>?_)⟩;rcases C.2 with⟨L,_⟩|⟨_,cap,_,L,_,t,_⟩
  ·rw[L]at p;cases p
  rw[L]at p;cases p;rw[f]at t;cases t;exact R D
 have R:(e.setCell (E d 12 J) (I (V (E l 0 J)) (U o+1) g)).heap[d]? =V (ζ (qO r (I (V (E l 0 J)) (U o+1) g) u) 262 (0,0)):=(aQ (P:=A3) (j:=12) P (by simp[qO]) (v:=I (V (E l 0 J)) (U o+1) g) D).2;have a4:A5 d s (e.setCell (E d 12 J) (I (V (E l 0 J)) (U o+1) g)):=by
  suffices t:A5 d s e from t.setCell (p:=(E d 12 J)) (ο _) _
  have p:=y.yi.jH;refine⟨w.os.trans p.os,w.tape.trans p.tape,w.output.trans p.output,cz p.size,λa n=>?_⟩;exact(F a aa λf=>cz ((C.lt a f).1)).trans (p.block a n)
 refine⟨⟨⟨y.yi.move K a4 ⟨_,_,R⟩,V (E l 0 J),g,by rw[κ];exact R,i++ [c],by simp[W], ?_,λk a5 a6 p t=>?_⟩,K⟩,P⟩
 ·rw[κ,List.flatten_append];simp only[List.flatten_cons,List.flatten_nil,List.append_nil];exact aD O λa n=>β _ _ _ _ (by show a≠d;have:=(O.lt a n).1;omega)
 have S:∀ {j:Tr} {c:Θ A4},Wq x (U b) (aK 0 b m) z j c->Wq (e.setCell (E d 12 J) (I (V (E l 0 J)) (U o+1) g)) (U b) (aK 0 b m) z j c:=λy=>y.move K B;rcases Nat.lt_or_ge k (U i)with L|L
 ·rw[E3 L]at p;rw[E3 aa]at t;exact S (X k a5 a6 p t)
 rw[E1 L]at p;rw[E1 aa]at t;have a7:=(δ.mp p).1;simp only[F1,D7]at a7;have a8:k-U i=0:=aa;have a9:k-U o=0:=aa;rw[a8]at p;rw[a9]at t;simp at p t;rw[<-p,<-t];exact S T
theorem Zv{c}(f:e.heap[d]? =V (ζ #[a0,b0,b1,b2,b3] c (0,0)))(g:u.oneCell'=μ)(i:C.oneCell'=μ)(j:K.oneCell'=μ)(k:L.oneCell'=μ)(l:O.oneCell'=μ):(((((e.setCell (E d 0 J) u).setCell (E d 1 J) C).setCell (E d 2 J) K).setCell (E d 3 J) L).setCell (E d 4 J) O).heap[d]? =V (ζ #[u,C,K,L,O] c (0,0)):=
 (aQ (P:=A3) (j:=4) (aQ (P:=A3) (j:=3) (aQ (P:=A3) (j:=2) (aQ (P:=A3) (j:=1) (aQ (P:=A3) (j:=0) f ak g).2 ak i).2 ak j).2 ak k).2 ak l).2
theorem Zw(a:g≠d):(((((e.setCell (E d 0 J) u).setCell (E d 1 J) C).setCell (E d 2 J) K).setCell (E d 3 J) L).setCell (E d 4 J) O).heap[g]? =e.heap[g]? :=
 (β _ _ _ _ a).trans ((β _ _ _ _ a).trans ((β _ _ _ _ a).trans ((β _ _ _ _ a).trans (β _ _ _ _ a))))
theorem Zu(c:A5 g s e)(a:g<=d):A5 g s (((((e.setCell (E d 0 J) u).setCell (E d 1 J) C).setCell (E d 2 J) K).setCell (E d 3 J) L).setCell (E d 4 J) O):=
 ((((c.setCell (p:=(E d 0 J)) a _).setCell (p:=(E d 1 J)) a _).setCell (p:=(E d 2 J)) a _).setCell (p:=(E d 3 J)) a _).setCell (p:=(E d 4 J)) a _
theorem aaQ(a:¬(j.br=μ/\j.tx= [61])):FN a3 j=3:=by
 obtain⟨_,b,c,_⟩:=j;have a:¬(c=μ/\b= [61]):=a;unfold FN;dsimp only;rw[A8 a]
theorem aaP(c:j.br=μ)(d:j.tx= [61])(a:j.ops[0]? =V T)(b:j.ops[1]? =V c2):FN a3 j=sG (zG a3 T.br T.tx) (zG a3 c2.br c2.tx) (decide (vS a3 T≠0)) (decide (vS a3 c2≠0)):=by
 obtain⟨_,f,g,e⟩:=j;have c:g=μ:=c;have d:f= [61]:=d;have a:e[0]? =V T:=a;have b:e[1]? =V c2:=b;unfold FN;dsimp only;rw[A9 ⟨c,d⟩]
 match e,a,b with
 |l'::r'::_,a,b=>simp at a b;subst a b;rfl
def ack(w1:Δ)(yb:Ω)(a:YV)(uv:A4)(ids:Θ Ω)(rfs:Θ RF)(its:Θ (Bs×Bs))(tes:Θ (aJ×Ex))(N:Ω):Prop:=∀(t:Tr) (x:Δ) (ts:Θ Tr) (g cap:Ω) (l:Θ Tr) (ty:Ω->Y) (ccs:Θ A4) (j:Ω),A6 t<=N->PW w1 x yb a uv ids tes its rfs ts->iN x g cap l ty ccs->l[j]? =V t->U ts+U (iH t)<=1000->
 (∀t'∈iH t,t'.tx= [61]->t'.br=μ->2<=U t'.ops)->
 A7 A3 151 #[γ (V ⟨yb,0,J⟩),C2 #[I (V ⟨g,0,J⟩) (U l) cap],A Z (j:Y)] x λe x'=>e=B7 (D2 #[])/\PW w1 x' yb a uv ids tes its rfs (ts++iH t)/\Ai x x' yb
def abD(f:Func):Code:=((f.body.bind (fV 10)).getD .skip)
theorem Vr{len cap}(B:Q e (E y 0 J)=V (I (V (E W 0 J)) len cap))(N:Q e (E q 2 J)=V (I (V (E d 0 J)) l F))(v:Q e (E d 0 J)=V (A Z (X:Y)))(w:Q e (E d 1 J)=V (A Z (a4:Y)))(m8:1<l)(f)(j:y<f/\q<f/\d<f/\f<=g/\f<=G (H e))(P:e.heap[g]? =V (ζ #[u,C,K,L,A Z 3] 350 (0,0)))(x:A7 A3 213 #[γ (V (E a5 0 J)),C2 #[I (V (E W 0 J)) len cap],A Z (X:Y),A Z (a4:Y)] e.drew λc0 m5=>c0=B7 (A Z b9)/\A5 (G (H e.drew)) e.drew m5)(c:∀t (s:Act) (a9:Ω) (c2:A4) (R:Δ),b7 (.panic t) (s.put (V a9) c2) R->b7 (.panic t) s R)(z:∀(h5 k4 k5 l4 l7 l8 l9 m0 m1 m2 m3 m4:A4) (i:Δ),Bl e i->i.heap[g]? =V (ζ #[u,C,K,L,A Z 3] 350 (0,0))->c1 ⟨#[γ (V (E a5 0 J)),O,a0,b0,γ (V (E y 0 J)),b1,γ (V (E q 0 J)),b2,γ (V (E g 0 J)),b3,b4,b8,b5,b6,c3,c4,c5,c6,c7,c8,c9,e0,e1,e2,h6,h7,h8,h9,i0,i1,i2,i3,i4,i5,i6,i7,i8,i9,j0,j1,e3,e4,e5,e6,e7,e8,e9,g0,g1,g2,g3,g4,g5,g6,g7,g8,g9,h0,h5,k4,k5,l4,l7,l8,l9,m0,m1,m2,m3,m4,h1,h2,h3,h4,k6,k7,k8,k9,l0,l1],[]⟩ (i.setCell (E g 4 J) (A Z b9))):
  Code.wp A3 (abD f151) (Exit.then c1 b7) ⟨#[γ (V (E a5 0 J)),O,a0,b0,γ (V (E y 0 J)),b1,γ (V (E q 0 J)),b2,γ (V (E g 0 J)),b3,b4,b8,b5,b6,c3,c4,c5,c6,c7,c8,c9,e0,e1,e2,h6,h7,h8,h9,i0,i1,i2,i3,i4,i5,i6,i7,i8,i9,j0,j1,e3,e4,e5,e6,e7,e8,e9,g0,g1,g2,g3,g4,g5,g6,g7,g8,g9,h0,j2,j3,j4,j5,j6,j7,j8,j9,k0,k1,k2,k3,h1,h2,h3,h4,k6,k7,k8,k9,l0,l1],[]⟩ e:=by
 conv=>arg 2;whnf
 change M _ at z;change M _ at c;have S:M (e.heap[g]? =V (ζ #[u,C,K,L,A Z 3] 350 (0,0))):=P;have o:∀a:Δ,A5 f e a->(Q a (E y 0 J)=V (I (V (E W 0 J)) len cap)/\Q a (E q 2 J)=V (I (V (E d 0 J)) l F)/\Q a (E d 0 J)=V (A Z (X:Y))/\Q a (E d 1 J)=V (A Z (a4:Y)))/\(y<G (H a)/\q<G (H a)/\d<G (H a)):=λa m=>by
  have b:=cK m j.1 B;have k:=cK m j.2.1 N;have n:=cK m j.2.2.1 v;have p:=cK m j.2.2.1 w;exact⟨⟨b,k,n,p⟩,aU b,aU k,aU n⟩
 have:0<l:=aa;have:¬((l:Y)<=0):=aa;have:¬((l:Y)<=1):=aa;clear P B N v w;refine F8 (S:=λa=>A5 f e a) aF (ξ _ _).drew (λb=>?_);refine tH 0 58 (γ (V (E a5 0 J))) D D aF c b ?_ ?_;refine tH 1 59 (C2 #[I (V (E W 0 J)) len cap]) D D aF c b ?_ ?_;refine tH 2 60 (γ (V (E q 2 J))) D D aF c b ?_ ?_;refine tH 3 61 (I (V (E d 0 J)) l F) D D aF c b ?_ ?_;refine tH 4 62 (γ (V (E d 0 J))) D D aF c b ?_ ?_;refine tH 5 63 (A Z (X:Y)) D D aF c b ?_ ?_;refine tH 6 64 (γ (V (E q 2 J))) D D aF c b ?_ ?_;refine tH 7 65 (I (V (E d 0 J)) l F) D D aF c b ?_ ?_;refine tH 8 66 (γ (V (E d 1 J))) D D aF c b ?_ ?_;refine tH 9 67 (A Z (a4:Y)) D D aF c b ?_ ?_;all_goals try(simp only[Act.put,σ,A0,A1];first|exact .inr ⟨by rfl,D⟩|exact .inl ⟨by rfl,λa n=>by obtain⟨⟨_,_,_,_⟩,a3,a6,a7⟩:=o a n;clear n o;go_simp⟩)
 simp only[Act.put,σ,A0,A1];refine D9 (rs:=[10]) aF ak ?_;refine B9 D (λp k=>?_) C1
 go_simp
 go_wp2_with(go_at_call 213;refine cB x ?_;rintro i T);have r:Bl e i:=jy T;clear x T;have a1:A5 f e i:=r.mono j.2.2.2.2;refine k _ _ a1 (λb=>?_);clear k p;refine tH 11 69 (γ (V (E g 4 J))) D D aF c b ?_ ?_;all_goals try(simp only[Act.put,σ,A0,A1];first|exact .inr ⟨by rfl,D⟩|exact .inl ⟨by rfl,λa n=>by clear n o;go_simp⟩)
 simp only[Act.put,σ,A0,A1];have a2:=(r.block g (af S)).trans S;obtain⟨⟨a3,a6,a7,m7,_⟩,a8,_⟩:=PT a2;have:=a8 4;clear a8 a3 a6 a7 m7;refine D9 (rs:=[12]) aF ak ?_;refine B9 D (λp k=>?_) C1
 go_simp
 go_wp2_with fail;refine k _ _ (a1.setCell (p:=(E g 4 J)) j.2.2.2.1 _) (λb=>?_);clear k p;refine H7 aF ?_ _;exact z _ _ _ _ _ _ _ _ _ _ _ _ i r a2
theorem QO{f ids}(y:YC s f ids a6 z m b)(e1:ack s d f u ids z m b q){cap}(e2:∀a∈j.ops,A6 a<=q)(p:PW s e d f u ids b m z a1)(w:iN e g cap o P R)(k:o[l]? =V j)(e6:U a1+U (iH j)<=1000)(a8:∀b1∈iH j,b1.tx= [61]->b1.br=μ->2<=U b1.ops):
  A7 A3 151 #[γ (V (E d 0 J)),C2 #[I (V (E g 0 J)) (U o) cap],A Z (l:Y)] e λr c0=>r=B7 (D2 #[])/\PW s c0 d f u ids b m z (a1++iH j)/\Ai e c0 d:=by
 obtain⟨i7,i8,i9,j0,j1⟩:=C3 UE;obtain⟨S,T,W,B,L,v,N,c7,e7,h1⟩:=w.at k;have l9:=(δ.mp k).1;have m0:=w.lt;have m1:=w.cap;have m2:=w.small;have m3:=AV w k;change M _ at e1;have x:M (YC s f ids a6 z m b):=y;have c8:M (o[l]? =V j):=k;change M _ at h1;have j2:M _:=c7;change M _ at e7;change M _ at e2;change M _ at a8;have c9:Q e ⟨g,l*4,J⟩=V (ι (ae j.tx))/\Q e ⟨g,l*4+1,J⟩=V (η j.br)/\Q e ⟨g,l*4+2,J⟩=V (I S (U j.ops) T)/\Q e ⟨g,l*4+3,J⟩=V (A H2 (P l)):=⟨B,L,v,N⟩;clear B L v N;have i:=aV e (ζ #[I (V (E g 0 J)) (U o) cap] 102) (ζ #[ι (ae j.tx),η j.br,I S (U j.ops) T,A H2 (P l)] 183);obtain⟨c,n⟩:=au ((e.alloc (ζ #[I (V (E g 0 J)) (U o) cap] 102)).alloc (ζ #[ι (ae j.tx),η j.br,I S (U j.ops) T,A H2 (P l)] 183));have a2:c.heap[G (H e)]? =V (ζ #[I (V (E g 0 J)) (U o) cap] 102 (0,0)):=by rw[n];exact(φ _ _ _ gL).trans (υ e _)
 have F:c.heap[G (H e)+1]? =V (ζ #[ι (ae j.tx),η j.br,I S (U j.ops) T,A H2 (P l)] 183 (0,0)):=by
  have:=υ (e.alloc (ζ #[I (V (E g 0 J)) (U o) cap] 102)) (ζ #[ι (ae j.tx),η j.br,I S (U j.ops) T,A H2 (P l)] 183);rw[Ψ]at this;rw[n];exact this
 rw[<-n]at i;change M _ at a2;change M _ at F;have b2:M (Bl e c):=i;have a3:M (PW s c d f u ids b m z a1):=p.ah i;have j3:M (PW s c d f u ids b m z a1):=p.ah i;have a4:M (iN c g cap o P R):=w.ah i;have m4:d<G (H e):=by obtain⟨_,_,t,_⟩:=p.LH;exact af t
 have a5:Q c ⟨G (H e)+1,0,J⟩=V (ι (ae j.tx)):=aC F;have b3:Q c ⟨G (H e)+1,1,J⟩=V (η j.br):=aC F;have m5:=af F;have m6:(ae j.tx).toList=j.tx:=ay;clear y k c7 p w i;by_cases c1:j.br=μ/\j.tx= [97,110,100]
 ·obtain⟨X,a9⟩:=c1;have c2:M (iH j=dI j.ops):=by rw[M,II,A9 ⟨X,a9⟩]
  rw[c2.out]at e6 ⊢;rw[a9]at a5;rw[a9,X]at c9;rw[X]at b3;rw[a9,X]at n;obtain⟨B,L,v,N⟩:=c9;go_enter G8,G2;go_upto_region 2 with fail
  rw[<-n];have h3:M (Q c ⟨g,l*4+2,J⟩=V (I S (U j.ops) T)):=ax v b2;clear n B L v N;have i2:Q c ⟨G (H e)+1,0,J⟩=V (ι ⟨#[97,110,100]⟩):=a5;clear a5;go_wp2_with fail;go_loopg [7] (U j.ops) (λgk i wr=>∃k:Ω,gk=U j.ops-k/\k<=U j.ops/\i=A Z (k:Y)/\M (PW s wr d f u ids b m z (a1++dI (j.ops.take k)))/\Ai c wr d)
  ·exact⟨0,D,ω _,D,by simpa[dI]using a3,Ai.refl _ _⟩
  clear a3;obtain⟨k,b0,_,rfl,b7,p⟩:=hrel;subst b0;generalize i:wr=wo at*;clear i;have b8:=(p.2 _ _ _ _ a2 aa ag).trans a2;have b9:=(p.2 _ _ _ _ F aa ag).trans F;obtain⟨_,c6⟩:∃h4,c.heap[d]? =V (ζ h4 262 (0,0)):=by
   obtain⟨_,_,t,_⟩:=j3.out.LH;exact⟨_,t⟩
  have w:=iN.keP a4 p c6;obtain⟨g0,g1,g2,g3,g4,e0,g5,h5,e3,e4⟩:=w.at c8;have b0:wo.heap[g]? =c.heap[g]? :=by
   rcases(a4.out:iN c g cap o P R).own.2 with⟨i,_⟩|⟨_,_,_,i,_,y,_⟩
   ·cases i
   cases i;exact p.2 _ _ _ _ y (λr=>by subst r;rw[c6]at y;cases y) ag
  have g6:(I g0 (U j.ops) g1)=I S (U j.ops) T:=by
   have:=(E6 (w:=c) (a:=⟨g,l*4+2,J⟩) b0).trans h3;rw[e0]at this;exact Option.some.inj this
  simp only[Value.slice.injEq,true_and]at g6;obtain⟨rfl,rfl⟩:=g6;have K:Q wo (E (G (H e)) 0 J)=V (I (V (E g 0 J)) (U o) cap):=aC b8;have i3:Q wo ⟨G (H e)+1,2,J⟩=V (I g0 (U j.ops) g1):=aC b9;have b4:=af b8;have h2:=af b9;by_cases O:k<U j.ops
  ·rcases(id e4)with c3|⟨j4,rfl,j5,j6,b5⟩
   ·rw[c3]at O;simp at O
   have a7:=α (l:=g2) (i:=k) aa;obtain⟨-,e5⟩:=e3 k _ a7;have c4:=b5 k _ a7;obtain⟨y,g7⟩:=au (g2[k]' aa);rw[<-g7]at e5 c4;have g8:j.ops[k]? =V j.ops[k]:=α O;have e8:=KJ O;have g9:=OP j.ops (k+1);have h7:M (∀a,Bl wo a->A7 A3 151 #[γ (V (E d 0 J)),C2 #[I (V (E g 0 J)) (U o) cap],A Z (y:Y)] a λr c0=>r=B7 (D2 #[])/\PW s c0 d f u ids b m z (a1++dI (j.ops.take (k+1)))/\Ai a c0 d):=λa i=>by
    rw[e8,<-B5];refine e1 j.ops[k] a _ g cap o P R y (e2 _ (θ O)) (b7.ah i) (w.ah i) (by rw[e5];exact g8) ?_ λb1 i0 h8 h9=>a8.out b1 ?_ h8 h9
    ·rw[κ];rw[e8,κ]at g9;omega
    rw[c2.out];have i1:∀(C:Θ Tr) (b6:Tr),b6∈C->∀e9∈iH b6,e9∈dI C:=λC=>by
     induction C with
     |nil=>intro b6 a0;cases a0
     |cons c5 C ih=>
      intro b6 a0 e9 h0;rw[dI,F3];rcases F9.mp a0 with rfl|a0
      ·exact .inl h0
      exact .inr (ih b6 a0 e9 h0)
    exact i1 j.ops j.ops[k] (θ O) b1 i0
   have e9:M (Ai c wo d):=p;clear b5 a7 g7 e5 e3 e4 h5 w g3 g4 e0 g5 b0 b8 b9 b7 p g8 e8 g9 c6;go_upto_region 6 with fail
   go_region_with(go_at_call 151;refine(h7 _ ?_).mono ?_;(first|exact ξ _ wo|exact(ξ _ wo).drew);rintro r C ⟨rfl,e8,e5⟩);all_goals
    change M _ at e8;have g7:M (Ai c C d):=e9.out.trans ((Ai.below (by first|exact ξ _ wo|exact(ξ _ wo).drew)).trans e5);clear e5
   all_goals go_wp2_with fail
   all_goals go_roundg (U j.ops-(k+1))
   all_goals first
    |omega
    |exact⟨k+1,D,aa,aP,e8,g7⟩
  have e5:M (PW s wo d f u ids b m z (a1++dI j.ops)):=by
   rw[<-C0 (l:=j.ops) (i:=k) aa];exact b7
  have e8:M (Ai e wo d):=(Ai.below b2).trans p;clear b7 w e3 e4 b8 b9 p g3 g4 e0 g5 c6;go_wp2_with fail;exact E0 (v:=D2 #[]) (by simp[G6,results151,go_sem]) D ⟨D,e5,e8⟩
 have c2:M (iH j= [j]):=by rw[M,II,A8 c1]
 rw[c2.out]at e6 ⊢;simp only[F1,D7]at e6;have j7:M (j.tx= [61]->j.br=μ->2<=U j.ops):=λe8 t=>a8.out j (by rw[c2.out];simp) e8 t;obtain⟨e0,X⟩:=au j.br;have h3:M (e0=j.br):=X;rw[<-X]at c9 b3 c1 n;obtain⟨B,L,v,N⟩:=c9;clear X;go_enter G8,G2;go_upto_region 2 with fail
 rw[<-n];clear n B L v N a8 e1 e2;go_cut [20] (λk p=>k=η χ/\p=c)
 ·cases e0 with
  |false=>
   go_wp2
   go_meet;exact⟨D,by trivial⟩
  |true=>
   have k:(j.tx== [97,110,100])=χ:=by rw[D0];exact λr=>c1 ⟨D,r⟩
   clear c1
   go_wp2
   go_meet;exact⟨D,by trivial⟩
 case rest=>
 obtain⟨rfl,j8⟩:=hcut;subst j8;generalize L:wc=c at*;clear L;have j9:=x.out.zq;have e9:M (∀a,Bl c a->Al a d b m):=λa i=>((a3.yi).ah i).of x.ys x.fn x.len x.idl x.four x.bI x.aB x.LA;have e1:M (∀a,Bl c a->A7 A3 212 #[γ (V (E d 0 J)),C2 #[I (V (E g 0 J)) (U o) cap],A Z (l:Y)] a λr k0=>Lf a (U b) (vS (aK 0 b m) j) r k0):=λa i=>uz _ j a d b m g cap o P R l (ο _) (e9 a i) (iN.ah a4 i) c8;have b9:M (∀a,Bl c a->A7 A3 118 #[C2 #[I f.ko f.kn f.kc,I f.so f.sn f.sc,ι ⟨#[]⟩,I f.go f.gn f.gc],C2 #[I (V (E g 0 J)) (U o) cap],A Z (l:Y)] a (RB (η (yD z j)) a)):=λa i=>uA _ j a f.ko f.kn f.kc f.so f.sn f.sc [] f.go f.gn f.gc _ z g cap o P R l (ο _) (((a3.yi).ah i).kn x.ys j9) x.ok (iN.ah a4 i) c8;have e2:M (∀a,Bl c a->(Q a (E (G (H e)) 0 J)=V (I (V (E g 0 J)) (U o) cap)/\G (H e)<G (H a))):=λa i=>⟨(aI ((i.block _ (af a2)).trans a2)).trans D,C7 (af a2) i.size⟩;obtain⟨K,b4⟩:=e2.out c (ξ _ _);obtain⟨n,k⟩:=au (U b);obtain⟨B,c4⟩:=au (aK 0 b m);have h4:M (n=U b):=k;have g0:M (B=aK 0 b m):=c4;rw[<-k,<-c4]at e1;clear k c4 a5 b3;go_upto_region 7 with fail
 go_cut [8] (λc6 p=>∃v k,c6=γ (V (E v 0 J))/\G (H c)<=v/\G (H c)<=k/\k≠v/\p.heap[v]? =V (ζ #[I (V (E g 0 J)) (U o) cap,A Z (l:Y),I (V (E k 0 J)) n n,η χ,A Z 3] 350 (0,0))/\M (ed p k n (vS B j).testBit)/\Bl c p)
 ·have g2:G (H c)≠G (H e):=aa;go_region_held2 (λc5=>Q c5 (E (G (H e)) 0 J)=V (I (V (E g 0 J)) (U o) cap)) (go_keep) (first
   |(go_at_call 212;refine(e1 c.drew (ξ _ c).drew).mono ?_;rintro r C ⟨k,rfl,e3,O,a8⟩;have N:=jy a8;have a9:M _:=O;have b8:=ε O;have b0:=ax K N;have g1:G (H C)≠G (H e):=Nat.ne_of_gt (aU b0);clear O)
   |(go_at_call 212;refine(e1 (c.alloc (ζ #[I J 0 0,A Z 0,I J 0 0,η χ,A Z 0] 350)).drew (ai c _).drew).mono ?_;rintro r C ⟨k,rfl,e3,O,a8⟩;have b7:=acp a8 D;have N:Bl c C:=(ai c _).trans ((jy a8).mono ak);have a9:M _:=O;have e5:G (H c)+1<=k:=(by simpa using e3);obtain⟨⟨k1,k2,k3,h5,k4⟩,_,e4⟩:=PT b7;have b0:=ax K N;clear O))
  all_goals(go_wp2;go_meet)
  all_goals first
   |exact⟨_,k,D,N.size,e3,aa,υ C _,ed.ah a9 (φ _ _ _ b8),N.trans ((ai C _).mono N.size)⟩
   |exact⟨_,k,D,ο _,aa,aa,Zv b7 D D D D D,ed.ah a9 (Zw aa),Zu N (ο _)⟩
 case rest=>
 obtain⟨v,k,rfl,g1,e3,h6,a8,O,C⟩:=hcut;generalize L:wc=wz at*;clear L K b4;have g4:M (∀a,Bl c a->((Q a (E d 8 J)=V (I f.ko f.kn f.kc)/\Q a (E d 9 J)=V (I f.so f.sn f.sc)/\Q a (E d 10 J)=V (ι ⟨#[]⟩)/\Q a (E d 11 J)=V (I f.go f.gn f.gc))/\d<G (H a))):=λa i=>by
  obtain⟨a9,b0,t, -⟩:=(a3.ah i).LH;have N:=(aaK t);exact⟨⟨N.1.2.2.2.2.2.2.2.2.1,N.1.2.2.2.2.2.2.2.2.2.1,N.1.2.2.2.2.2.2.2.2.2.2.1,N.1.2.2.2.2.2.2.2.2.2.2.2.1⟩,N.2.2⟩
 have h7:M (∀a,Bl c a->((Q a ⟨G (H e)+1,0,J⟩=V (ι (ae j.tx))/\Q a ⟨G (H e)+1,1,J⟩=V (η e0)/\Q a ⟨G (H e)+1,2,J⟩=V (I S (U j.ops) T))/\G (H e)+1<G (H a))):=λa i=>by
  have:=(i.block _ (af F)).trans F;rw[h3.out];exact⟨⟨aC this,aC this,aC this⟩,af this⟩
 obtain⟨K,b4⟩:=e2.out wz C;obtain⟨⟨g5,g6,g7,g8⟩,h8⟩:=g4.out wz C;obtain⟨y,a7⟩:=au (yD z j);have h9:M (y=yD z j):=a7;rw[<-a7]at b9;have e5:M _:=a8;clear a7;go_upto_region 8 with fail
 go_cut [8] (λc6 p=>c6=γ (V (E v 0 J))/\p.heap[v]? =V (ζ #[I (V (E g 0 J)) (U o) cap,A Z (l:Y),I (V (E k 0 J)) n n,η y,A Z 3] 350 (0,0))/\M (ed p k n (vS B j).testBit)/\Bl c p)
 ·go_region_with(go_at_call 118;refine(b9 _ ?_).mono ?_;(first|exact C|exact C.drew);rintro r g2 ⟨rfl,N⟩;have b7:Bl wz g2:=(by first|exact N|exact jy N);have b8:=(b7.block v (af e5)).trans e5;have h5:=(aI (j:=3) b8).trans D;have g3:ψ g2 (E v 3 J)=χ:=(by simp[ψ,b8]);have e4:=af b8);all_goals(go_wp2;go_meet)
  all_goals exact⟨D,(aQ (P:=A3) (j:=3) b8 ak (v:=η y) D).2,ed.ah O ((β _ _ _ _ h6).trans (b7.block _ (ε O))),(bT C b7).setCell (p:=(E v 3 J)) g1 _⟩
 case rest=>
 obtain⟨rfl,a8,e4,N⟩:=hcut;generalize L:wc=wq at*;have g3:M _:=a8;clear L K b4 g5 g6 g7 g8 h8 e5 O C b9 g4 a8;obtain⟨⟨a5,b3,g4⟩,h2⟩:=h7.out wq N;obtain⟨K,b4⟩:=e2.out wq N;obtain⟨O,C⟩:=au (FN B j);have e5:M (O=FN B j):=C;clear C;go_upto_region 9 with fail
 go_cut [57] (λC p=>C=η (decide (j.br=μ/\j.tx= [61]))/\p=wq)
 ·have b9:=h3.out
  cases e0 with
  |false=>
   have C:M (decide (j.br=μ/\j.tx= [61])=χ):=by rw[M,<-b9];simp
   clear b9
   go_wp2
   go_meet;exact⟨by rw[C.out],by trivial⟩
  |true=>
   cases g5:(j.tx== [61])with
   |true=>
    have C:M (decide (j.br=μ/\j.tx= [61])=μ):=by rw[M,<-b9];simpa using g5
    clear b9
    go_wp2
    go_meet;exact⟨by rw[C.out],by trivial⟩
   |false=>
    have C:M (decide (j.br=μ/\j.tx= [61])=χ):=by rw[M,<-b9];simpa using g5
    clear b9
    go_wp2
    go_meet;exact⟨by rw[C.out],by trivial⟩
 case rest=>
 obtain⟨rfl,k7⟩:=hcut;subst k7;generalize L:wc=wq at*;clear L;obtain⟨i0,hF⟩:=au (decide (j.br=μ/\j.tx= [61]));have C:M (i0=decide (j.br=μ/\j.tx= [61])):=hF;rw[<-hF];clear hF
 go_upto_if 57 with fail
 go_cut [8] (λc6 p=>c6=γ (V (E v 0 J))/\p.heap[v]? =V (ζ #[I (V (E g 0 J)) (U o) cap,A Z (l:Y),I (V (E k 0 J)) n n,η y,A Z O] 350 (0,0))/\M (ed p k n (vS B j).testBit)/\Bl c p)
 ·cases i0 with
  |false=>
   have p:M (O=3):=by rw[M,e5.out,aaQ (of_decide_eq_false C.out.symm)]
   clear C
   go_wp2
   go_meet;exact⟨D,by rw[p.out];exact g3,e4,N⟩
  |true=>
   obtain⟨b9,c6⟩:=G3 C.symm;have t:=j7.out c6 b9;have c7:=j2.out;rcases h1.out with c3|⟨j4,i1,j5,j6,b5⟩
   ·rw[c3]at t;simp at t
   have g5:W[0]? =V W[0]:=α aa;have g6:W[1]? =V W[1]:=α aa;have g7:=b5 0 _ g5;have g8:=b5 1 _ g6;have g9:j.ops[0]? =V j.ops[0]:=α aa;have h0:j.ops[1]? =V j.ops[1]:=α aa;have i2:=(e7.out 0 _ g5).2.trans g9;have i3:=(e7.out 1 _ g6).2.trans h0;have i4:M (O=sG (zG B j.ops[0].br j.ops[0].tx) (zG B j.ops[1].br j.ops[1].tx) (decide (vS B j.ops[0]≠0)) (decide (vS B j.ops[1]≠0))):=by rw[M,e5.out];exact aaP b9 c6 g9 h0
   have p:M (∀a,Bl c a->A7 A3 213 #[γ (V (E d 0 J)),C2 #[I (V (E g 0 J)) (U o) cap],A Z ((W[0]:Ω):Y),A Z ((W[1]:Ω):Y)] a (RB (A Z O) a)):=λa i=>by
    have:=EG (e9 a i) (iN.ah a4 i) i2 i3;rw[<-g0.out]at this;rw[<-i4.out]at this;exact this
   rw[i1]at g4;obtain⟨_,i5⟩:=au (W[0]);obtain⟨_,i6⟩:=au (W[1]);rw[<-i5]at g7 p;rw[<-i6]at g8 p;have k8:1<U j.ops:=aa;have m7:=b2.out.size;have k9:=ax (ax g7 b2) N;have l0:=ax (ax g8 b2) N;have l1:=p.out wq.drew N.drew;have l4:=af F;have l7:=af a2;have l8:=N.size;clear b5 g5 g6 g9 h0 i2 i3 i5 i6 i4 c6 b9 i1 a5 b3 c7 t g7 g8 p;go_upto_region 10 with fail
   refine Vr K g4 k9 l0 k8 (G (H c)) ⟨l7,l4,aa,g1,l8⟩ g3 l1 (λ_ _ _ _ _ c3=>c3) ?_;intro _ _ _ _ _ _ _ _ _ _ _ _ g2 b7 b8
   try dsimp only
   go_wp2
   go_meet;exact⟨D,(aQ (P:=A3) (j:=4) b8 ak (v:=A Z O) D).2,ed.ah e4 ((β _ _ _ _ h6).trans (b7.block _ (ε e4))),(bT N b7).setCell (p:=(E v 4 J)) g1 _⟩
 case rest=>
 obtain⟨rfl,a8,c3,b5⟩:=hcut;generalize L:wc=wv at*;clear L a5 b3 g4 h2 K b4 g3 e4 N C h7 e2 e1 e9;have b7:=a3.out.ah b5;obtain⟨a9,b0,b3,b8,c5,b9,c6⟩:=b7.LH;have e1:Wq wv (U b) (aK 0 b m) z j [I (V (E g 0 J)) (U o) cap,A Z (l:Y),I (V (E k 0 J)) n n,η y,A Z O]:=by
  refine⟨g,cap,o,P,R,l,k, ?_,c8,iN.ah a4 b5, ?_⟩
  ·rw[<-h4.out,<-h9.out,<-g0.out,<-e5.out]
  rw[<-h4.out,<-g0.out];exact c3
 have e2:M (∀(p:Δ) (L:Obj) (N a5:Ω),p.ownsRow (d+1) 350 5 (I (V (E N 0 J)) (U a1+1) a5) (U a1+1) (b8.flatten++ [I (V (E g 0 J)) (U o) cap,A Z (l:Y),I (V (E k 0 J)) n n,η y,A Z O])->(wv.alloc L).drew.grownBy p (I a9 (U a1) b0).ownBlock->(PW s (p.setCell (E d 12 J) (I (V (E N 0 J)) (U a1+1) a5)) d f u ids b m z (a1++ [j])/\Ai e (p.setCell (E d 12 J) (I (V (E N 0 J)) (U a1+1) a5)) d)/\p.heap[d]? =V (ζ (qO f (I a9 (U a1) b0) u) 262 (0,0))):=λp L N a5 e8 t=>by
  obtain⟨⟨e4,e9⟩,g2⟩:=b7.Fv b3 c5 b9 c6 e1 e8 t;exact⟨⟨e4,(Ai.below (bT b2 b5)).trans e9⟩,g2⟩
 have h8:=af b3;have e9:Q wv (E d 12 J)=V (I a9 (U a1) b0):=aC b3;have e4:∀L:Obj,(wv.alloc L).drew.ownsRow (d+1) 350 5 (I a9 (U a1) b0) (U a1) b8.flatten:=λL=>H0 (B8 b9 L);obtain⟨⟨k1,k2,k3,h5,k4⟩, -,_⟩:=PT a8;clear b7 b3 c5 b9 c6 e1 a8 c3 a3 a4 e5 h9;go_upto_region 11 with fail
 go_region_law (refine step_append_lies _ D (.tmp 74) (.tmp 76) 260 D (d+1) 350 i7 _ 5 72 underlying260 i8 i9 j0 j1 D ag (I a9 (U a1) b0) (U a1) b8.flatten jl (e4 _) (E (G (H wv)) 0 J) 1 1 [I (V (E g 0 J)) (U o) cap,A Z (l:Y),I (V (E k 0 J)) n n,η y,A Z O] jl D (C4 (nO wv)) (by intro b6 a0;simp only[F9,List.not_mem_nil,or_false]at a0;rcases a0 with rfl|rfl|rfl|rfl|rfl<;>rfl) ag fD aa aN (G (H wv)+1) ak ?_;intro N a5 p b7 b3 b9 _;obtain⟨a8,a3⟩:=e2.out p _ N a5 b7 b3;have a4:M _:=a8;have c3:Q p (E d 12 J)=V (I a9 (U a1) b0):=aC a3;have c5:ψ p (E d 12 J)=χ:=(by simp[ψ,a3]);have c6:=af a3;clear b7 b3 b9 a8 a3)
 all_goals go_wp2_with fail
 all_goals
  go_end0
  exact⟨D,a4.1,a4.2⟩
theorem zP{k}(l){b}(j){ids q f e i}(d:YC k b ids q f e i):∀a,ack k l b j ids f e i a
 |0=>λg t r n cap p s m o c=>by obtain⟨C,K,B,F⟩:=g;simp at c
 |a+1=>λg t r n cap p s m o c v u x y w=>QO d (zP l j d a) (λ_ z=>cz (Tr.Ba z)) v u x y w
def AJ(F T R:Ω)(L:Y):C5:=decide (1<=F/\F<=4/\1<=T/\T<=4/\ -1<=L/\R<=4/\¬(-1<L/\R=0))
theorem LP(a:qD):iQ a=(AJ (U a.from_) (U a.outs) (U a.order) a.bi&& !lS (U a.outs) a.order):=by
 have c:(a.order.all λb=>decide (0<=b.1)&&decide (b.1<U a.outs))= !lS (U a.outs) a.order:=by
  unfold lS
  induction a.order with
  |nil=>rfl
  |cons b d ih=>
   rw[List.all_cons,List.any_cons,ih,Bool.not_or,xD,B1];simp only[D4,C9,Bool.or_eq_false_iff,Φ,A2,Int.not_lt,Int.not_le]
 unfold iQ AJ;rw[c];congr 1;rw[B1];simp only[D4,F5,Φ];omega
theorem Xd{a:Θ (Y×C5)}(b:d<U a):lS b9 (a.drop d)=(xD b9 a[d]||lS b9 (a.drop (d+1))):=by rw[ν b];rfl
theorem MV{c:qD}(q p s r)(j:mr e (I N (U c.order) d) c.order):
  A7 A3 150 #[C2 #[I q (U c.from_) p,ι (ae c.aL),I s (U c.outs) r,I N (U c.order) d,A Z c.bi]] e (RB (η (iQ c)) e):=by
 rw[LP];obtain⟨a,o⟩:∃a:Θ (Y×C5),a=c.order:=⟨_,D⟩;rw[<-o]at j ⊢;obtain⟨m,u⟩:=au (c.bi:Y);rw[<-u];obtain⟨n,hF⟩:=au (U c.from_:Ω);rw[<-hF];obtain⟨b,v⟩:=au (U c.outs:Ω);rw[<-v];have f:=ai e (ζ #[I q n p,ι (ae c.aL),I s b r,I N (U a) d,A Z m] 63);have i:=υ e (ζ #[I q n p,ι (ae c.aL),I s b r,I N (U a) d,A Z m] 63);obtain⟨g,k⟩:=au (e.alloc (ζ #[I q n p,ι (ae c.aL),I s b r,I N (U a) d,A Z m] 63));rw[<-k]at f i;have B:M (mr g (I N (U a) d) a):=j.ah f;have w:M (Bl e g):=f;change M _ at i;have a6:=af i;have C:Q g (E (G (H e)) 0 J)=V (I q n p):=aC i;have F:Q g (E (G (H e)) 2 J)=V (I s b r):=aC i;have K:Q g (E (G (H e)) 3 J)=V (I N (U a) d):=aC i;have L:Q g (E (G (H e)) 4 J)=V (A Z m):=aC i;obtain⟨O,l⟩:=au (AJ n b (U a) m);rw[<-l];have t:M (O=AJ n b (U a) m):=l;clear o u hF v f j l;go_enter func150,ntmps150;go_upto_region 1 with fail
 rw[<-k];clear k;go_cut [47] (λf v=>f=η (!O)/\v=g)
 ·go_wp2_with fail;all_goals go_meet
  all_goals refine⟨H3 η ?_,by trivial⟩
  all_goals(rw[t.out,AJ];clear t i B w C F K L;(try simp only[Φ,A2,E4,D0]at*))
  all_goals first
   |(symm;rw[C9,A2];omega)
   |(symm;rw[Bool.not_eq_false',Φ];omega)
   |(rw[B1];simp only[F5,Φ,C9,A2,E4];omega)
 case rest=>
 obtain⟨rfl,rfl⟩:=hcut
 cases O with
 |false=>
  clear t i B C F K L
  go_wp2
  go_ret;exact⟨D,w⟩
 |true=>
  have a7:U a<=4:=by
   have:=t.out;unfold AJ at this;have:=G3 this.symm;omega
  clear t C L;go_wp2_with fail;generalize f:wc=g at*;clear f;go_loopg [3] (U a) (λgk j wr=>∃f:Ω,gk=U a-f/\f<=U a/\j=A Z (f:Y)/\Bl g wr/\M (lS (b:Y) a=lS (b:Y) (a.drop f)))
  ·exact⟨0,D,ω _,D,ξ _ _,D⟩
  obtain⟨f,X,_,rfl,j,x⟩:=hrel;subst X;generalize k:wr=wo at*;clear k;have S:=ax F j;have a0:=ax K j;have a8:=aU S;by_cases y:f<U a
  ·obtain⟨o,u,rfl,T,P⟩:∃o u,N=V (E o u J)/\o<G (H wo)/\Q wo ⟨o,u+f*2,J⟩=V (A Z a[f].1):=by
    obtain⟨_,cap,k,_,l⟩:=mr.ah B j
    cases k;rcases l with z|⟨o,u,k,T,R⟩
    ·rw[z]at y;simp at y
    exact⟨o,u,k,T,(R f _ (α y)).1⟩
   have k:M (lS (b:Y) a=(xD (b:Y) a[f]||lS (b:Y) (a.drop (f+1)))):=x.out.trans (Xd y);obtain⟨⟨l,z⟩,R⟩:∃a1,a1=a[f]:=⟨_,D⟩;rw[<-R]at P k;simp only at P;have a2:M (Bl e wo):=bT w j;have a3:M (Bl g wo):=j;clear x R j;go_upto_region 6 with fail
   go_cut [73] (λR v=>R=η (xD (b:Y) (l,z))/\Bl wo v)
   ·by_cases W:l<0
    ·have v:decide (l<0)=μ:=by simpa using W
     have R:M (xD (b:Y) (l,z)=μ):=by rw[M,xD,v];rfl
     clear k
     first
      |(go_region;all_goals(go_wp2;go_meet);all_goals exact⟨by rw[R.out],uU⟩)
      |fail
    have v:decide (l<0)=χ:=by simpa using W
    have R:M (xD (b:Y) (l,z)=decide ((b:Y)<=l)):=by rw[M,xD,v];rfl
    clear k;go_region;all_goals(go_wp2;go_meet)
    all_goals exact⟨by rw[R.out],uU⟩
   case rest=>
   obtain⟨rfl,v⟩:=hcut;obtain⟨a4,W⟩:=au (xD (b:Y) (l,z));rw[<-W]at k ⊢;have a5:M (Bl g wc):=bT a3 v;have R:M (Bl e wc):=bT a2 v;clear W v S a0 P
   cases a4 with
   |true=>
    have v:M (lS (b:Y) a=μ):=by rw[M,k.out];rfl
    clear k
    go_wp2
    go_ret;exact⟨by rw[v.out];rfl,R⟩
   |false=>
    have v:M (lS (b:Y) a=lS (b:Y) (a.drop (f+1))):=by rw[M,k.out];rfl
    clear k
    go_wp2
    go_roundg (U a-(f+1))
    all_goals first
     |omega
     |exact⟨f+1,D,aa,aP,a5,v⟩
  have v:M (lS (b:Y) a=χ):=by rw[M,x.out,τ aa];rfl
  have R:M (Bl e wo):=bT w j;clear x j
  go_wp2
  go_ret;exact⟨by rw[v.out];rfl,R⟩
end Go.Proofs.YthkeffolmbnkaaaGreatDoor

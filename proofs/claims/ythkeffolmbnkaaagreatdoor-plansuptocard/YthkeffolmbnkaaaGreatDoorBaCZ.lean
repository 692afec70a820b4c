import Derived.Test.YthkeffolmbnkaaaGreatDoorWkFZ
import Derived.Lib.AtoiErrMem
import Derived.Deep.AppendLies
set_option linter.unusedVariables false
set_option linter.unusedSimpArgs false
set_option maxRecDepth 100000
set_option maxHeartbeats 0
open Array renaming size->H,toList_inj->ψ,getElem?_modify->B4
open Bool renaming false->ν,and_eq_true->ρ,false_ne_true->σ,true->Δ,not_eq_true'->E0
open Go renaming bodyPost_ret->η,heap_alloc_new->κ,Calls->ο,results->τ,World->Γ,maxLen->A7,Value->D6,info_parts->E7
open Go.Addr renaming mk->α,add_lit->F3,add->G0
open Go.Ending renaming returned->A0
open Go.IntKind renaming i64->U
open Go.Lib renaming atoi->D3,digitVal->F6,decFrom->F8,decNat->F9
open Go.Obj renaming cells->ι
open Go.Proofs.Tryz renaming results241->Ξ,prog->Φ,results287->A2,results186->B3,ntmps292->C0,ntmps241->C1,ntmps183->C2,func292->C4,func241->C5,func183->C6,ntmps244->D4,func244->D5,results289->E4,results288->E5,ntmps289->E8,ntmps184->E9,func289->F1,func184->F2
open Go.Proofs.YthkeffolmbnkaaaGreatDoor renaming ae->D,aa->Q,thenS->G1
open Go.RowKit renaming Hid->G,ownsRow_setCell_below->A6,Below->C3,intOf->D9
open Go.RowKit.Below renaming heap_setCell->δ,heap_alloc->θ,refl->A1,alloc->F0
open Go.Value renaming int->J,slice->V,string->M,pointer->β,bool->ζ,agg->φ,tuple->ω
open Go.World renaming heap->A,size_alloc->γ,cell?->ε,size_setCell->μ,size_drew->C7,setCell->D1,frozen?->D2,ownsRow_nil->D8
open List renaming length->Y,mem_cons_of_mem->υ,getElem?_eq_getElem->χ,getElem?_append_left->A8,drop_eq_getElem_cons->A9,drop_of_length_le->B2,getElem?_append_right->C9,getElem?_eq_some_iff->D0,length_append->D7,getElem_mem->E1,map_append->E2,length_map->E3
open Nat renaming le_refl->A4,zero_le->A5,lt_or_ge->F4,le_trans->F5
open Option renaming none->E,some->Z,map_eq_some_iff->B0
open Option.some renaming injEq->Ω
open Or renaming inl->B7,inr->B9
open Prod.mk renaming injEq->B6
open SizeOf renaming sizeOf->B8
open _root_ renaming rfl->I,decide_eq_true_eq->ξ,if_neg->Θ,if_pos->Ψ,List->A3,Int->B1,Nat->B5,Except->C8,beq_eq_false_iff_ne->E6,ByteArray->F7,beq_iff_eq->G2
namespace Go.Proofs.YthkeffolmbnkaaaGreatDoor
open Go.Proofs.Tryz
open Go.RowKit
variable{b0 b1:Bool}{d O P:Bs}{R:Ex}{a1:Except Int Ex}{w:Fn}{o b2 b3:Int}{a2:Int->Bs->Prop}{i:List (Bs×Int)}{r:List Int}{f:List Nat}{a4:List Value}{b c l n p u S T W:Nat}{a5:Nat×Nat}{s x a6:Obj}{e t v z:Option Addr}{a3:Option Nat}{g:Sc}{k:Tr}{j q y X B C F K L N a0 a7 a8 a9 b4 b5 b6 b7 b8 b9 c0 c1:Value}{a m:World}
theorem jO(d:c≠b):(((((((((((a.setCell (α b 0 E) j).setCell (α b 1 E) q).setCell (α b 2 E) X).setCell (α b 3 E) B).setCell (α b 4 E) C).setCell (α b 5 E) F).setCell (α b 6 E) K).setCell (α b 7 E) L).setCell (α b 8 E) N).setCell (α b 9 E) a0).setCell (α b 10 E) y).heap[c]? =a.heap[c]? :=by
 rw[δ _ _ _ _ d,δ _ _ _ _ d,δ _ _ _ _ d,δ _ _ _ _ d,δ _ _ _ _ d,δ _ _ _ _ d,δ _ _ _ _ d,δ _ _ _ _ d,δ _ _ _ _ d,δ _ _ _ _ d,δ _ _ _ _ d]
theorem bV(e:C3 c a m)(d:c<=b):C3 c a (((((((((((m.setCell (α b 0 E) j).setCell (α b 1 E) q).setCell (α b 2 E) X).setCell (α b 3 E) B).setCell (α b 4 E) C).setCell (α b 5 E) F).setCell (α b 6 E) K).setCell (α b 7 E) L).setCell (α b 8 E) N).setCell (α b 9 E) a0).setCell (α b 10 E) y):=
 ((((((((((e.setCell d _).setCell d _).setCell d _).setCell d _).setCell d _).setCell d _).setCell d _).setCell d _).setCell d _).setCell d _).setCell d _
theorem LM{c}(d:a.heap[b]? =Z (ι #[j,q,y,X,B,C,F,K,L,N,a0] c a5)):
  (((a.setCell (α b 10 E) a7).setCell (α b 2 E) a8).setCell (α b 3 E) a9).heap[b]? =Z (ι #[j,q,a8,a9,B,C,F,K,L,N,a7] c a5):=by
 simp[D1,B4,d]
theorem yG(d:c≠b):(((a.setCell (α b 10 E) y).setCell (α b 2 E) q).setCell (α b 3 E) j).heap[c]? =a.heap[c]? :=by
 rw[δ _ _ _ _ d,δ _ _ _ _ d,δ _ _ _ _ d]
theorem Sw{wr:Γ}{i}(r:c<=b)(l:∀d,b<d->d<H (A wr)->a.heap[d]? =wr.heap[d]?)(k:wr.ownsRow (b+1) 210 11 j (Y i) a4)(q:cO wr f (λd=>b<d/\j.ownBlock≠Z d) a4 i)(sort o size n m)(p:IW f a3 e):
  dF a f (λd=>c<=d) [J U sort,J U o,J U size,ζ n,J U 0,J U 0,M ⟨#[]⟩,J U 0,M (D m),β e,j] (.mk sort o size n 0 0 [] 0 m a3 i):=by
 refine .mk (vs:=[]) (q.bounded.move (λd g=>l d g.1.1 g.2) (λd g=>cz g.1.1)) (bY (aD k λd g=>?_) λ_ _=>A5 _) (λd g=>?_) p
 ·have:=k.lt d g;exact l d Q this.2
 have:=k.lt d g;omega
def aeq(atoi:Bs->B1)(ps:Sc)(fns:A3 Fn)(FB:A3 B5)(w:Γ)(Eb:B5)(so:Obj)(tx:Bs)(ops:A3 Tr)(i:B5)(wr:Γ):Prop:=
 ∃(es:A3 Ex) (ao:Option Addr) (n cap:B5) (cs:A3 D6),Y es=i/\0<=bQ es/\bQ es<=301*iY (ops.take i)/\G (dN atoi ps fns ops=G1 es (dN atoi ps fns (ops.drop i)))/\C3 (H (A w)) w wr/\
  wr.heap[H (A w)]? =Z so/\wr.heap[H (A w)+2]? =Z Mw/\wr.heap[Eb]? =Z (ι #[J U 0,J U 0,J U (1+bQ es),ζ (es.all Ex.quiet),J U 0,J U 0,M ⟨#[]⟩,J U 0,M (D tx),β E,V ao n cap] 210 (0,0))/\
  wr.ownsRow (Eb+1) 210 11 (V ao n cap) (Y es) cs/\cO wr FB (λg=>Eb<g/\(V ao n cap).ownBlock≠Z g) cs es
theorem Jo(o:Bs->B1)(e6:Ld o a2 S)(s i){d}(c7:∀b3∈d,B8 b3<=S)(r6:iY d<=1000)(e8:Fits a2 d){fns}(p1:W=Y d)(e7:jJ a (λ_=>True) a4 d)(b2:a.ownsRow 0 96 4 (V z W T) (Y d) a4)(c6:Du a f (V t n l) (V e c b) (V v u p) g fns)(c5:∀N∈fns,0<=N.body.size/\N.body.size<=300):
  ο Φ 287 #[φ #[V t n l,V e c b,V v u p],φ #[J U s,M (D i),ζ Δ,V z W T]] a λk j4=>xB a f (bO o g fns (.mk s i Δ d)) k j4:=by
 subst p1;obtain⟨p2,p3,p4,p5,p6⟩:=E7 ada;have r7:Y d<=1000:=by
  have:∀j:A3 Tr,Y j<=iY j:=by
   intro j
   induction j with
   |nil=>simp
   |cons b3 m ih=>obtain⟨_,_,p7,_⟩:=b3;simp[iY,zF];omega
  have:=this d;omega
 have c8:G (bO o g fns (.mk s i Δ d)=Jd fns i (dN o g fns d)):=by rw[G,bO,Ψ I]
 go_enter func287,ntmps287;go_wp2_with fail;go_loopw [18] (λj wr=>∃m:B5,m<=Y d/\j=J U m/\aeq o g fns f a (H (A a)+3) (ι #[V t n l,V e c b,V v u p] 332 (0,0)) i d m wr) (λj _=>Y d-(D9 j).toNat)
 ·refine⟨0,A5 _,I,[],E,0,0,[],I,by simp[bQ],by simp[bQ,iY], ?_, ?_, ?_, ?_, ?_,D8 _ _ _ _,.nil⟩
  ·rw[G,List.drop_zero];cases dN o g fns d<;>simp[G1]
  ·iterate 4 (refine F0 ?_ (by simp[γ];try omega) _)
   exact A1 _ _
  ·exact(jF (ai _ _)).1
  ·exact(jF (ai _ _)).2.2.1
  have:=κ (((a.alloc (ι #[V t n l,V e c b,V v u p] 332)).alloc (ι #[J U s,M (D i),ζ Δ,V z (Y d) T] 96)).alloc Mw) (ι #[J U 0,J U 0,J U 1,ζ Δ,J U 0,J U 0,M ⟨#[]⟩,J U 0,M (D i),β E,V E 0 0] 210);simp only[γ]at this;exact this
 obtain⟨m,_,rfl,j,R,b4,cap,l4,l7,_,_,b5,b6,F,c9,e0,w,e1⟩:=hrel;have l8:=af e0;by_cases b7:m<Y d
 ·obtain⟨e9,rfl⟩:∃q,z=Z (α q 0 E):=by
   rcases b2.2 with⟨r,y⟩|⟨q,l9,m0,r,_⟩
   ·omega
   cases r;exact⟨q,I⟩
  have p8:e9<H (A a):=(b2.lt e9 I).2;obtain⟨p7,O,P⟩:=e7.get m b7;obtain⟨m1,m2,m3,_,m4,m5,m6,_,X,rfl,a0,_,_,_⟩:=O.inv;have B:∀L e2,L<4-> [J U m1,M (D m2),ζ m3,V m4 m5 m6][L]? =Z e2->ε wr ⟨e9,m*4+L,E⟩=Z e2:=by
   intro L e2 r i5;have:=b2.cells (g:=e9) I (m*4+L) e2 (by rw[P L r];exact i5);rw[F3]at this;exact cK b6 p8 (by simpa using this)
  have j5:=B 0 _ Q I;have m7:=B 1 _ Q I;have m8:=B 2 _ Q I;have m9:=B 3 _ Q I;rw[Nat.add_zero]at j5;have r8:e9<H (A wr):=Q;have g0:ε wr (α (H (A a)) 0 E)=Z (V t n l):=aC F;have g1:ε wr (α (H (A a)) 1 E)=Z (V e c b):=aC F;have g2:ε wr (α (H (A a)) 2 E)=Z (V v u p):=aC F;obtain⟨_,_⟩:=QJ b7;have i6:d.drop m=d[m]::d.drop (m+1):=A9 b7;have K:∀x:Γ,Bl a x->ο Φ 241 #[φ #[V t n l,V e c b,V v u p],φ #[J U m1,M (D m2),ζ m3,V m4 m5 m6]] x λk j4=>xB x f (bO o g fns d[m]) k j4:=by
   intro x e3;refine e6 d[m] x f g fns t n l e c b v u p _ (c7 _ (E1 b7)) ?_ (e8.get m b7) (O.bounded.move (λq C=>e3.block q C.2) (λ_ _=>trivial)) (c6.ah e3) c5;omega
  have p9:H (A a)<H (A wr):=Q;clear B P O X a0;go_wp2_with(go_at_call 241;refine(K _ ?c1).mono ?_)
  case c1=>exact b6.alloc Q _
  rintro k B ⟨i7,g3⟩;have q0:=i7.size;simp only[γ]at q0;have P:Bl wr B:=(ai wr _).trans (i7.mono ek);have q1:H (A a)+2<H (A B):=Q;have r9:H (A a)+3<H (A B):=Q;have j6:=(P.block _ Q).trans c9;have j7:=(P.block _ Q).trans e0;have n0:=(P.block _ Q).trans F;rcases g3 with⟨i8,b9,n1,rfl⟩|⟨x,j8,b9,rfl,e3⟩
  ·have e4:G (bO o g fns (.mk s i Δ d)=.error i8):=by
    rw[G,c8.out,b5.out,i6,Wd j b9];rfl
   have b8:(i8==0)=ν:=by simpa using n1
   have O:Bl a B:=bT b6 P;obtain⟨⟨X,a0,a1,a3,a5,a6,a7,a8,a9,b0,b1⟩,n2,n3,n4,n5,n6,n7,n8,n9,o0,o1,o2⟩:=cZ j6;clear c8 b5 b9 K e6 c7 e8 e7 b2 c6 c5 w e1 F c9 e0 j7 n0 j6 g0 g1 g2 j5 m7 m8 m9 i6 i7;go_wp2_with fail;refine η (v:=ω #[φ #[J U 0,J U 0,J U 0,ζ ν,J U 0,J U 0,M ⟨#[]⟩,J U 0,M ⟨#[]⟩,β E,V E 0 0],J U i8]) (by simp[τ,A2,go_sem,q1,X,a0,a1,a3,a5,a6,a7,a8,a9,b0,b1]) I ?_;refine⟨?_,B7 ⟨i8,e4,n1,I⟩⟩;refine F0 ?_ (by simp only[μ];exact O.size) _
   iterate 11 (refine Below.setCell ?_ CE _)
   exact O
  obtain⟨sort,j9,size,quiet,k0,k1,k2,place,head,o3,_,k3,k4,k5,k6,_,k7,o4, -, -, -, -, -⟩:=e3.inv;have q2:j8= #[J U sort,J U j9,J U size,ζ quiet,J U k0,J U k1,M (D k2),J U place,M (D head),β k3,V k4 k5 k6]:=by
   rw[<-ψ];exact o4
  subst q2;have q3:G (dN o g fns d=G1 (j++ [x]) (dN o g fns (d.drop (m+1)))):=by
   rw[G,b5.out,i6,ZP j b9]
  have q4:=Bn c5 S _ (c7 _ (E1 b7)) x b9;have k8:x.size=size:=by rw[k7];rfl
  have o5:x.quiet=quiet:=by rw[k7];rfl
  rw[k8]at q4;obtain⟨⟨g5,g6,e5,b8,g7,g8,g9,h0,h1,h2,h3⟩,h4,h5,h6,h7,h8,h9,i0,i1,i2,i3,i4⟩:=cZ j7;clear b5 b9 K e6 c7 e8 e7 b2 c6 i6;go_wp2_with(at_builtin;refine wpList_append_own_at _ I (.tmp 33) (.tmp 35) 208 I (H (A a)+3+1) 210 p2 (φ #[J U 0,J U 0,J U 0,ζ ν,J U 0,J U 0,M ⟨#[]⟩,J U 0,M ⟨#[]⟩,β E,V E 0 0]) 11 120 underlying208 p3 p4 p5 p6 I ag _ _ _ I ((aD w (x:=B) ?c0).alloc _ |>.alloc _) ⟨H (A B)+1,0,E⟩ 1 1 [J U sort,J U j9,J U size,ζ quiet,J U k0,J U k1,M (D k2),J U place,M (D head),β k3,V k4 k5 k6] I I ?c1 ?c2 ?c3 ?c4 ?j8 ?_)
  case c0=>intro k9 b9;exact P.block k9 (w.lt k9 b9).2
  case c1=>
   intro L e2 r
   match L,r with
   |0,r|1,r|2,r|3,r|4,r|5,r|6,r|7,r|8,r|9,r|10,r=>simp at r;subst r;simp[G0]
  case c2=>intro e2 i5;simp at i5;rcases i5 with rfl|rfl|rfl|rfl|rfl|rfl|rfl|rfl|rfl|rfl|rfl<;>rfl
  case c3=>unfold A7;omega
  case c4=>omega
  case j8=>simp;omega
  intro r5 j3 l0 j2 _ o7;obtain⟨j1,j0,i9,rfl⟩:∃j1 j0 i9,r5=V j1 j0 i9:=by
   rcases l0.2 with⟨k,_⟩|⟨k9,l9,m0,k,_⟩<;>exact⟨_,_,_,k⟩
  have q9:(V R b4 cap).ownBlock≠Z (H (A a)+3):=λk=>cz ((w.lt _ k).1);have r2:(V R b4 cap).ownBlock≠Z (H (A a)):=λk=>cz ((w.lt _ k).1);have r1:(V R b4 cap).ownBlock≠Z (H (A a)+2):=λk=>cz ((w.lt _ k).1);have r0:(V R b4 cap).ownBlock≠Z (H (A B)):=λk=>cz ((w.lt _ k).2);have o9:=e3.move (x:=B) (S':=λq=>H (A wr)<=q) (λ_ _=>rfl) (λq C=>by simp only[γ]at C;omega);obtain⟨q7,i6⟩:=Xz l8 w e1 P o9 ⟨gL,λq C=>by rw[θ _ _ _ gL,θ _ _ _ C]⟩ j2 (by simpa using o7);have l1:=(i6 _ l8 q9).trans e0;have r3:=(i6 _ Q r1).trans c9;have r4:=(i6 _ p9 r2).trans F;have p0:=(j2.block (H (A B)) gL (λk=>r0 k.symm)).trans ((θ _ _ _ ek).trans (κ B _));have RB:Bl a j3:=(((bT b6 P).alloc Q _).alloc aN _).grown j2 aN (λs q8=>cz ((w.lt s q8).1));have s3:=af p0;have s2:H (A B)≠H (A a)+3:=Q;clear g5 g6 e5 b8 g7 g8 g9 h0 h1 h2 h3 h4 h5 h6 h7 h8 h9 i0 i1 i2 i3 i4;obtain⟨⟨g5,g6,e5,b8,g7,g8,g9,h0,h1,h2,h3⟩,h4,h5,h6,h7,h8,h9,i0,i1,i2,i3,i4⟩:=cZ l1;obtain⟨⟨_,_,_,_,_,_,_,_,_,_,_⟩,_,_,_,_,_,_,_,_,_,_,_⟩:=cZ p0;have q6:j3.ownsRow (H (A a)+3+1) 210 11 (V j1 j0 i9) (Y (j++ [x])) (l4++ [J U sort,J U j9,J U size,ζ quiet,J U k0,J U k1,M (D k2),J U place,M (D head),β k3,V k4 k5 k6]):=by rw[D7,l7];exact l0
  obtain⟨r,b9⟩:=au (j.all Ex.quiet);have q5:G ((j++ [x]).all Ex.quiet=(r&&quiet)):=by rw[G,List.all_append,b9,<-o5];simp
  have o6:G (1+bQ (j++ [x])=1+bQ j+size):=by rw[G,Fe,<-k8];simp[bQ];omega
  have o8:0<=bQ (j++ [x])/\bQ (j++ [x])<=301*iY (d.take (m+1)):=cz o6.out;have s1:bQ j<=301000:=Q;rw[<-b9]at b8 l1;clear l0 j2 o7 w e1 e3 o9 i6 e0 c9 F j7 j6 n0 P i7 b9 k7 o4 g0 g1 g2 j5 m7 m8 m9 o5 k8 c8
  cases r<;>
  ·go_wp2
   go_roundw
   ·refine⟨m+1,Q,aP,j++ [x],j1,j0,i9,_,by simp[l7],o8.1,o8.2,q3, ?_, ?_, ?_, ?_,A6 (A6 (A6 q6 ak _) ak _) ak _,q7.move (λq C=>yG (by have:=C.1;omega)) (λq C=>C)⟩
    ·exact((RB.setCell CE _).setCell CE _).setCell CE _
    ·exact(yG Q).trans r4
    ·exact(yG Q).trans r3
    rw[q5.out,o6.out];exact LM l1
   simp[D9];omega
 have k1:d.drop m= []:=B2 Q;have e4:G (bO o g fns (.mk s i Δ d)=uh fns i j):=by
  rw[G,c8.out,b5.out,k1,dN,G1,List.append_nil];rfl
 have k7:¬m<Y d:=b7;have j0:Y j<=1000:=Q;have i5:Dk wr f (V R b4 cap) j:=by
  refine⟨l4,R,cap, ?_,bY w λ_ _=>A5 _,e1.move (λ_ _=>rfl) (λ_ _=>trivial)⟩;rcases w.2 with⟨k,y⟩|⟨q,l9,m0,k,_⟩
  ·cases k;rw[y]
  cases k;rfl
 have i7:Du wr f (V t n l) (V e c b) (V v u p) g fns:=c6.ah b6;have k8:bQ j<=301000:=by
  have:iY (d.take m)<=iY d:=by
   have B:=congrArg iY (List.take_append_drop m d);rw[uq]at B;omega
  omega
 have e2:∀x:Γ,ο Φ 239 #[M (D i)] x (RE (ζ (dU i)) x):=by
  intro x;have:=xL (D i) x;rw[ay]at this;exact this
 have g0:ε wr (α (H (A a)) 0 E)=Z (V t n l):=aC F;have g1:ε wr (α (H (A a)) 1 E)=Z (V e c b):=aC F;have g2:ε wr (α (H (A a)) 2 E)=Z (V v u p):=aC F;obtain⟨⟨g5,g6,e5,b8,g7,g8,g9,h0,h1,h2,h3⟩,h4,h5,h6,h7,h8,h9,i0,i1,i2,i3,i4⟩:=cZ e0;obtain⟨r,b9⟩:=au (j.all Ex.quiet);obtain⟨B,C⟩:=au (1+bQ j);rw[<-b9]at b8;rw[<-C]at e5;have k2:0<=B:=Q;have k3:B<=1000000:=Q;have j1:G (j.all Ex.quiet=r):=b9.symm;have j2:G (1+bQ j=B):=C.symm;clear b9 C
 cases e3:dU i with
 |true=>
  rw[e3]at e2;have K:=LX e3 B r i5 j0;have C:G (bO o g fns (.mk s i Δ d)=if iB i (j.map Ex.ty)=0 then .error 3 else .ok (.mk 4 (iB i (j.map Ex.ty)) B (r&& !mO i) 0 0 [] 0 i E j)):=by
   rw[G,e4.out,uh,Ψ e3,j1.out,j2.out]
  obtain⟨b3,e9⟩:=au (iB i (j.map Ex.ty));rw[<-e9]at K C;clear e6 c7 e8 e7 b2 c6 c5 c8 b5 e4 i5 i7 e9;go_wp2_with(first
   |(go_at_call 239;refine(e2 _).mono ?_;rintro k j3 ⟨rfl,rfl⟩)
   |(go_at_call 326;refine K.mono ?_))
  rintro k i8 ⟨P,g3⟩;have k4:=P.size;have O:Bl a i8:=bT b6 P;obtain⟨⟨X,a0,a1,a3,a5,a6,a7,a8,a9,b0,b1⟩,n2,n3,n4,n5,n6,n7,n8,n9,o0,o1,o2⟩:=cZ ((P.block _ Q).trans c9);clear K e2 g5 g6 e5 b8 g7 g8 g9 h0 h1 h2 h3 h4 h5 h6 h7 h8 h9 i0 i1 i2 i3 i4 g0 g1 g2;rcases g3 with⟨y,rfl⟩|⟨y,rfl⟩
  ·have L:G (bO o g fns (.mk s i Δ d)=.error 3):=by rw[G,C.out,Ψ y]
   clear C;go_wp2_with fail;refine η (v:=ω #[φ #[J U 0,J U 0,J U 0,ζ ν,J U 0,J U 0,M ⟨#[]⟩,J U 0,M ⟨#[]⟩,β E,V E 0 0],J U 3]) (by simp[τ,A2,go_sem,X,a0,a1,a3,a5,a6,a7,a8,a9,b0,b1]) I ⟨?_,B7 ⟨3,L,ag,I⟩⟩;exact bV O Q
  have L:G (bO o g fns (.mk s i Δ d)=.ok (.mk 4 b3 B (r&& !mO i) 0 0 [] 0 i E j)):=by rw[G,C.out,Θ y]
  clear C;go_wp2_with fail;refine η (v:=ω #[φ #[J U 4,J U b3,J U B,ζ (r&& !mO i),J U 0,J U 0,M ⟨#[]⟩,J U 0,M (D i),β E,V R b4 cap],J U 0]) (by simp[τ,A2,go_sem,X,a0,a1,a3,a5,a6,a7,a8,a9,b0,b1]) I ⟨?_,B9 ⟨_,_,L,I, ?_⟩⟩
  ·exact bV O Q
  exact Sw Q (λq k5 i9=>(jO Q).trans (P.block q i9)) w e1 4 b3 B (r&& !mO i) i I
 |false=>
  rw[e3]at e2;have K:=Xh t n l (V e c b) e c b I i7.fns c5 i k2 k3 r i5 j0;have C:G (bO o g fns (.mk s i Δ d)=uI fns i B r j):=by
   rw[G,e4.out,uh,Θ (by rw[e3];exact σ),j1.out,j2.out]
  clear e6 c7 e8 e7 b2 c6 c5 c8 b5 e4 i5 i7;go_wp2_with(first
   |(go_at_call 239;refine(e2 _).mono ?_;rintro k j3 ⟨rfl,rfl⟩)
   |(go_at_call 327;refine K.mono ?_))
  rintro k i8 ⟨P,g3⟩;have k4:=P.size;have O:Bl a i8:=bT b6 P;obtain⟨⟨X,a0,a1,a3,a5,a6,a7,a8,a9,b0,b1⟩,n2,n3,n4,n5,n6,n7,n8,n9,o0,o1,o2⟩:=cZ ((P.block _ Q).trans c9);clear K e2 g5 g6 e5 b8 g7 g8 g9 h0 h1 h2 h3 h4 h5 h6 h7 h8 h9 i0 i1 i2 i3 i4 g0 g1 g2;rcases g3 with⟨y,rfl⟩|⟨o3,j3,N,y,i6,k6,⟨e9,rfl⟩|⟨e9,rfl⟩⟩
  ·have L:G (bO o g fns (.mk s i Δ d)=.error 2):=by rw[G,C.out,uI,y]
   clear C y;go_wp2_with fail;refine η (v:=ω #[φ #[J U 0,J U 0,J U 0,ζ ν,J U 0,J U 0,M ⟨#[]⟩,J U 0,M ⟨#[]⟩,β E,V E 0 0],J U 2]) (by simp[τ,A2,go_sem,X,a0,a1,a3,a5,a6,a7,a8,a9,b0,b1]) I ⟨?_,B7 ⟨2,L,ag,I⟩⟩;exact bV O Q
  ·have L:G (bO o g fns (.mk s i Δ d)=.error 3):=by rw[G,C.out,uI,y];simp only[i6,Θ e9]
   clear C y i6 e9;go_wp2_with fail;refine η (v:=ω #[φ #[J U 0,J U 0,J U 0,ζ ν,J U 0,J U 0,M ⟨#[]⟩,J U 0,M ⟨#[]⟩,β E,V E 0 0],J U 3]) (by simp[τ,A2,go_sem,X,a0,a1,a3,a5,a6,a7,a8,a9,b0,b1]) I ⟨?_,B7 ⟨3,L,ag,I⟩⟩;exact bV O Q
  have L:G (bO o g fns (.mk s i Δ d)=.ok (.mk 5 N.body.ty (B+N.body.size) (r&&N.body.quiet) 0 0 [] 0 i (Z o3) j)):=by rw[G,C.out,uI,y];simp only[i6,Ψ e9]
  obtain⟨j5,j6⟩:=au N.body.ty;obtain⟨j7,j8⟩:=au N.body.size;obtain⟨j9,k0⟩:=au N.body.quiet;rw[<-j6,<-j8,<-k0]at L ⊢;clear C y i6 e9 j6 j8 k0;go_wp2_with fail;refine η (v:=ω #[φ #[J U 5,J U j5,J U (B+j7),ζ (r&&j9),J U 0,J U 0,M ⟨#[]⟩,J U 0,M (D i),β (Z (α j3 0 E)),V R b4 cap],J U 0]) (by simp[τ,A2,go_sem,X,a0,a1,a3,a5,a6,a7,a8,a9,b0,b1]) I ⟨?_,B9 ⟨_,_,L,I, ?_⟩⟩
  ·exact bV O Q
  exact Sw Q (λq k5 i9=>(jO Q).trans (P.block q i9)) w e1 5 j5 (B+j7) (r&&j9) i ⟨j3,k6,I⟩
theorem Ml(c f)(j:b<H (A a))(i:ε a (α b 0 E)=Z (M (D d))):
  ο Φ 329 #[φ #[M (D c),J U f],β (Z (α b 0 E))] a (RB (ζ (c==d)) a):=by
 have g:G ((c==d)=((D c).toList==(D d).toList)):=by rw[G,ay,ay]
 have e:=ai a (ι #[M (D c),J U f] 380);have:=cK e j i;go_enter func329,ntmps329;go_upto_region 1 with fail
 first
  |(go_region;go_wp2;go_ret;exact⟨by rw[g.out];rfl,e.drew⟩)
  |(go_wp2;go_ret;exact⟨by rw[g.out];rfl,e⟩)
theorem yx(p:gN a j i)(z:b<H (A a))(y:ε a (α b 0 E)=Z (M (D d))):
  ο Φ 328 #[j,.func (Fn.func 329) #[] #[β (Z (α b 0 E))]] a λx B=>(∃q:B1,x=A0 (J U q)/\((nK i d=E/\q= -1)\/∃c:B5,nK i d=Z c/\q=c/\c<Y i))/\Bl a B:=by
 obtain⟨_,cap,rfl,_,r⟩:=p;go_enter func328,ntmps328;go_wp2_with fail;go_loopw [8] (λe f=>∃c:B5,c<=Y i/\e=J U c/\Bl a f/\G (nK i d=((i.drop c).findIdx? (λg=>g.1==d)).map (· +c))) (λe _=>Y i-(D9 e).toNat)
 ·exact⟨0,A5 _,I,A1 _ _,by rw[G];simp[nK]⟩
 obtain⟨c,_,rfl,e,l⟩:=hrel;by_cases m:c<Y i
 ·rcases(id r)with p|⟨_,rfl,v,k⟩
  ·subst p;simp at m
  obtain⟨n,o⟩:=k c i[c] (χ m);replace n:=cK e v n;replace o:=cK e v o;have C:=cK e z y;have u:i.drop c=i[c]::i.drop (c+1):=A9 m;have f:G (nK i d=if(i[c].1==d)then Z c else((i.drop (c+1)).findIdx? (λg=>g.1==d)).map (· +(c+1))):=by
   rw[G,l.out,u,List.findIdx?_cons]
   cases(i[c].1==d)
   ·simp only[Bool.false_eq_true,if_false,Option.map_map];congr 1;funext s;simp;omega
   simp
  obtain⟨F,w⟩:=au (i[c]);rw[<-w]at n o f;obtain⟨s,K⟩:=F;simp only at n o f;have L:b<H (A wr):=cz e.size;have t:=Ml s K L C;clear k u r l w;obtain⟨w,k⟩:=au (s==d);rw[<-k]at t f;clear k
  cases w with
  |true=>
   have k:G (nK i d=Z c):=by rw[G,f.out,Ψ I]
   clear f;go_wp2_with(go_at_call 329;refine cB t ?_;rintro N u);go_ret;exact⟨⟨_,I,B9 ⟨c,k,I,m⟩⟩,bT e u⟩
  |false=>
   have k:G (nK i d=((i.drop (c+1)).findIdx? (λg=>g.1==d)).map (· +(c+1))):=by rw[G,f.out,Θ σ]
   clear f;go_wp2_with(go_at_call 329;refine cB t ?_;rintro N u);go_roundw
   ·exact⟨c+1,Q,aP,bT e u,k⟩
   simp[D9];omega
 have k:G (nK i d=E):=by rw[G,l.out,B2 Q];rfl
 clear l r
 go_wp2
 go_ret;exact⟨⟨_,I,B7 ⟨k,I⟩⟩,e⟩
theorem tY(b:C3 (H (A (((a.alloc s).alloc a6).alloc x))) (((a.alloc s).alloc a6).alloc x) m):Bl a m/\(m.heap[H (A a)]? =Z s/\m.heap[H (A a)+2]? =Z x)/\H (A a)<H (A m)/\H (A a)+2<H (A m):=by
 have c:=b.size;simp only[γ]at c;have d:(((a.alloc s).alloc a6).alloc x).heap[H (A a)]? =Z s:=(θ _ _ _ gL).trans ((θ _ _ _ gL).trans (κ a s));have e:(((a.alloc s).alloc a6).alloc x).heap[H (A a)+2]? =Z x:=by
  have:=κ ((a.alloc s).alloc a6) x;simp only[γ]at this;exact this
 exact⟨(((A1 _ a).alloc (A4 _) _).alloc ek _ |>.alloc gL _).trans (b.mono gL),⟨(b.block _ gL).trans d,(b.block _ gL).trans e⟩,Q,Q⟩
theorem Qc(a0)(P:gN a (V e c b) i)(p o n m l k d):
  ο Φ 288 #[φ #[V e c b,V p o n,V m l k],M (D d)] a λO a1=>xB a a0 (zb i d) O a1:=by
 have a2:Bl a (((a.alloc (ι #[V e c b,V p o n,V m l k] 332)).alloc (ι #[M (D d)] 9)).alloc Mw):=(tY (A1 _ _)).1;have f:ε (((a.alloc (ι #[V e c b,V p o n,V m l k] 332)).alloc (ι #[M (D d)] 9)).alloc Mw) ⟨H (A a)+1,0,E⟩=Z (M (D d)):=by
  have:=κ (a.alloc (ι #[V e c b,V p o n,V m l k] 332)) (ι #[M (D d)] 9);rw[γ]at this;exact(aI ((θ _ _ _ gL).trans this)).trans I
 have g:=yx (P.ah a2) gL f;obtain⟨_,cap,a3,_,t⟩:=P
 cases a3;go_enter func288,ntmps288;go_wp2_with(go_at_call 328;refine g.mono ?_);clear g f;rintro O a4 ⟨⟨_,rfl,⟨g,rfl⟩|⟨f,g,rfl,R⟩⟩,q⟩
 ·have r:G (zb i d=.error 2):=by rw[G,zb,g]
  obtain⟨s,⟨_,j⟩,a5,l2⟩:=tY q;obtain⟨⟨u,v,w,x,y,z,B,C,F,K,L⟩,a6,a7,a8,a9,b0,b1,b2,b3,b4,b5,b6⟩:=cZ j;clear g q t j;go_wp2_with fail;exact η (v:=ω #[φ #[J U 0,J U 0,J U 0,ζ ν,J U 0,J U 0,M ⟨#[]⟩,J U 0,M ⟨#[]⟩,β E,V E 0 0],J U 2]) (by simp[τ,E5,go_sem,u,v,w,x,y,z,B,C,F,K,L]) I ⟨bV s Q,B7 ⟨2,r,ag,I⟩⟩
 rcases(id t)with b8|⟨b9,rfl,c0,S⟩
 ·subst b8;simp at R
 have N:=χ R;have r:G (zb i d=.ok (Mg i[f].2 f)):=by rw[G,zb,g];simp only[N]
 obtain⟨s,⟨T,j⟩,a5,l2⟩:=tY q;have c1:=cK s c0 (S f _ N).2;have c2:ε a4 (α (H (A a)) 0 E)=Z (V (Z (α b9 0 E)) (Y i) b):=aC T;obtain⟨⟨u,v,w,x,y,z,B,C,F,K,L⟩,a6,a7,a8,a9,b0,b1,b2,b3,b4,b5,b6⟩:=cZ j;obtain⟨W,X⟩:=au (i[f].2);rw[<-X]at c1 r;clear g q t j T S X N;go_wp2_with fail;refine η (v:=ω #[φ #[J U 2,J U W,J U 1,ζ Δ,J U 0,J U 0,M ⟨#[]⟩,J U f,M ⟨#[]⟩,β E,V E 0 0],J U 0]) (by simp[τ,E5,go_sem,u,v,w,x,y,z,B,C,F,K,L]) I ⟨bV s Q,B9 ⟨_,_,r,I, ?_⟩⟩;exact qw 2 W 1 Δ 0 0 [] f []
theorem Ez(c:lN d=Δ):∃b:UInt8,d= [36,b]/\49<=b.toNat/\b.toNat<=57:=by
 simp only[lN,ρ,ξ,G2,E0,dD]at c;obtain⟨⟨⟨g,e⟩,i,j⟩,f⟩:=c
 match d,g with
 | [a,b],_=>
  simp at e i j f;refine⟨b,by rw[e], ?_,Q⟩;have:b.toNat≠48:=λk=>f (UInt8.toNat.inj (by rw[k];rfl));omega
theorem Gb(o x w v)(u:aY a (V e c b) r)(t s q)(l:lN d=Δ):
  ο Φ 289 #[φ #[V x w v,V e c b,V t s q],M (D d)] a λp y=>xB a o (EA r d) p y:=by
 obtain⟨g,rfl,_,_⟩:=Ez l;obtain⟨_,cap,z,_,k⟩:=u
 cases z;have i:G (EA r [36,g]=match r[g.toNat-49]? with|none=>.error 2|some j=>.ok (YQ j (g.toNat-49:B5))):=I;have m:D [36,g]=⟨#[36,g]⟩:=I;rw[m];obtain⟨f,B⟩:∃f:B5,g.toNat=49+f:=⟨g.toNat-49,Q⟩;have:f<=8:=Q;have:((((ByteArray.mk #[36,g])[1]'(by show 1<2;omega)).toNat:B1)-49) % 256=(f:B1):=by show((g.toNat:B1)-49) % 256=(f:B1);omega
 rw[B,Nat.add_sub_cancel_left]at i;clear l m;by_cases l:f<Y r
 ·rcases(id k)with C|⟨_,_,rfl,_,m⟩
  ·subst C;simp at l
  have F:=m f r[f] (χ l);rw[χ l]at i;obtain⟨j,n⟩:=au (r[f]);rw[<-n]at F i;clear n m k;go_enter F1,E8;go_wp2_with fail;refine η (v:=ω #[φ #[J U 3,J U j,J U 1,ζ Δ,J U 0,J U 0,M ⟨#[]⟩,J U f,M ⟨#[]⟩,β E,V E 0 0],J U 0]) (by simp[τ,E4,go_sem]) I ⟨aV _ _ _,B9 ⟨_,_,i,I, ?_⟩⟩;exact qw 3 j 1 Δ 0 0 [] f []
 have m:r[f]? =E:=List.getElem?_eq_none Q;rw[m]at i;have:Y r<=f:=Q;clear k m;go_enter F1,E8;go_wp2_with fail;exact η (v:=ω #[φ #[J U 0,J U 0,J U 0,ζ ν,J U 0,J U 0,M ⟨#[]⟩,J U 0,M ⟨#[]⟩,β E,V E 0 0],J U 2]) (by simp[τ,E4,go_sem]) I ⟨aV _ _ _,B7 ⟨2,i,ag,I⟩⟩
def Lp(atoi:Bs->B1)(k:B1)(l:Bs):Prop:=(k=3->∀x:Γ,ο Φ 330 #[M (D l)] x λe w'=>e=A0 (ω #[J U (atoi l),.nilIface])/\C3 (H (A x)) x w')/\(k=4->2<=Y l/\Y l<=32)/\(k=7->lN l=Δ)
theorem qE(a:Γ)(b c d):Bl a (((a.alloc b).alloc c).alloc d):=(aV a b c).alloc gL _
theorem Ul(d:Bs->B1)(f fns F g s r q p o n l j i m w v u t)(c:G (bO d f fns k=a1))(b:∀a:Γ,Bl g a->ο Φ 287 #[φ #[V s r q,V p o n,V l j i],φ #[J U m,M (D w),ζ Δ,V v u t]] a λe x=>xB a F a1 e x):
  ο Φ 241 #[φ #[V s r q,V p o n,V l j i],φ #[J U m,M (D w),ζ Δ,V v u t]] g λe x=>xB g F (bO d f fns k) e x:=by
 have b5:=b _ (qE g (ι #[V s r q,V p o n,V l j i] 332) (ι #[J U m,M (D w),ζ Δ,V v u t] 96) Mw);clear b;go_enter C5,C1;go_wp2_with(go_at_call 287;refine b5.mono ?_);rintro e _ ⟨K,b6⟩;obtain⟨L,N,y,O,_⟩:=jF K;obtain⟨⟨P,R,S,T,W,X,a0,a2,a3,a4,a5⟩,_,_,_,_,_,_,_,_,_,_,_⟩:=cZ y;rcases b6 with⟨z,b,b7,rfl⟩|⟨a,b8,b,rfl,B⟩
 ·have C:G (bO d f fns k=.error z):=by rw[G,c.out];exact b
  clear c b L N y K;go_wp2_with fail;exact η (v:=ω #[φ #[J U 0,J U 0,J U 0,ζ ν,J U 0,J U 0,M ⟨#[]⟩,J U 0,M ⟨#[]⟩,β E,V E 0 0],J U z]) (by simp[τ,Ξ,go_sem,P,R,S,T,W,X,a0,a2,a3,a4,a5]) I ⟨bV O Q,B7 ⟨z,C,b7,I⟩⟩
 have C:G (bO d f fns k=.ok a):=by rw[G,c.out];exact b
 obtain⟨sort,a6,size,quiet,a7,a8,a9,place,head,_,_,b0,b1,b2,b3,_,c0,b4, -, -, -, -, -⟩:=B.inv;have c1:b8= #[J U sort,J U a6,J U size,ζ quiet,J U a7,J U a8,M (D a9),J U place,M (D head),β b0,V b1 b2 b3]:=by rw[<-ψ];exact b4
 subst c1;change G _ at B;clear c b L N y c0 b4;go_wp2_with fail;refine η (v:=ω #[φ #[J U sort,J U a6,J U size,ζ quiet,J U a7,J U a8,M (D a9),J U place,M (D head),β b0,V b1 b2 b3],J U 0]) (by simp[τ,Ξ,go_sem,P,R,S,T,W,X,a0,a2,a3,a4,a5]) I ⟨bV O Q,B9 ⟨a,_,C,I, ?_⟩⟩;exact B.bounded.move (λc b=>jO (by have:=b.1;simp only[γ]at this;omega)) (λc b=>by have:=b.1;simp only[γ]at this;omega)
theorem Xx(j:Bs->B1)(fns v)(i:gN a (V e c b) g.1)(q p o n m l f z y x)(d:G (bO j g fns k=zb g.1 f)):
  ο Φ 241 #[φ #[V e c b,V q p o,V n m l],φ #[J U 6,M (D f),ζ ν,V z y x]] a λw b3=>xB a v (bO j g fns k) w b3:=by
 have B:=Qc v (i.ah (qE a (ι #[V e c b,V q p o,V n m l] 332) (ι #[J U 6,M (D f),ζ ν,V z y x] 96) Mw)) q p o n m l f;obtain⟨_,r⟩:=au (zb g.1 f);rw[<-r]at B d;clear r i;go_enter C5,C1;go_wp2_with(go_at_call 288;refine B.mono ?_);rintro w _ ⟨C,b4⟩;obtain⟨F,K,r,L,_⟩:=jF C;obtain⟨⟨N,O,P,R,S,T,W,X,a0,a1,a2⟩,_,_,_,_,_,_,_,_,_,_,_⟩:=cZ r;rcases b4 with⟨s,i,b5,rfl⟩|⟨a3,b6,i,rfl,t⟩
 ·have u:G (bO j g fns k=.error s):=by rw[G,d.out];exact i
  clear d i F K r C;go_wp2_with fail;exact η (v:=ω #[φ #[J U 0,J U 0,J U 0,ζ ν,J U 0,J U 0,M ⟨#[]⟩,J U 0,M ⟨#[]⟩,β E,V E 0 0],J U s]) (by simp[τ,Ξ,go_sem,N,O,P,R,S,T,W,X,a0,a1,a2]) I ⟨bV L Q,B7 ⟨s,u,b5,I⟩⟩
 have u:G (bO j g fns k=.ok a3):=by rw[G,d.out];exact i
 obtain⟨sort,a4,size,quiet,a5,a6,a7,place,head,_,_,a8,a9,b0,b1,_,b8,b2, -, -, -, -, -⟩:=t.inv;have b9:b6= #[J U sort,J U a4,J U size,ζ quiet,J U a5,J U a6,M (D a7),J U place,M (D head),β a8,V a9 b0 b1]:=by rw[<-ψ];exact b2
 subst b9;change G _ at t;clear d i F K r b8 b2;go_wp2_with fail;refine η (v:=ω #[φ #[J U sort,J U a4,J U size,ζ quiet,J U a5,J U a6,M (D a7),J U place,M (D head),β a8,V a9 b0 b1],J U 0]) (by simp[τ,Ξ,go_sem,N,O,P,R,S,T,W,X,a0,a1,a2]) I ⟨bV L Q,B9 ⟨a3,_,u,I, ?_⟩⟩;exact t.bounded.move (λi d=>jO (by have:=d.1;simp only[γ]at this;omega)) (λi d=>by have:=d.1;simp only[γ]at this;omega)
theorem Xy(j:Bs->B1)(fns v q p o)(i:aY a (V e c b) g.2)(n m l)(b3:lN d=Δ)(z y x)(f:G (bO j g fns k=EA g.2 d)):
  ο Φ 241 #[φ #[V q p o,V e c b,V n m l],φ #[J U 7,M (D d),ζ ν,V z y x]] a λw b4=>xB a v (bO j g fns k) w b4:=by
 have B:=Gb v q p o (i.ah (qE a (ι #[V q p o,V e c b,V n m l] 332) (ι #[J U 7,M (D d),ζ ν,V z y x] 96) Mw)) n m l b3;obtain⟨_,r⟩:=au (EA g.2 d);rw[<-r]at B f;clear r i;go_enter C5,C1;go_wp2_with(go_at_call 289;refine B.mono ?_);rintro w _ ⟨C,b5⟩;obtain⟨F,K,r,L,_⟩:=jF C;obtain⟨⟨N,O,P,R,S,T,W,X,a0,a1,a2⟩,_,_,_,_,_,_,_,_,_,_,_⟩:=cZ r;rcases b5 with⟨s,i,b6,rfl⟩|⟨a3,b7,i,rfl,t⟩
 ·have u:G (bO j g fns k=.error s):=by rw[G,f.out];exact i
  clear f i F K r C;go_wp2_with fail;exact η (v:=ω #[φ #[J U 0,J U 0,J U 0,ζ ν,J U 0,J U 0,M ⟨#[]⟩,J U 0,M ⟨#[]⟩,β E,V E 0 0],J U s]) (by simp[τ,Ξ,go_sem,N,O,P,R,S,T,W,X,a0,a1,a2]) I ⟨bV L Q,B7 ⟨s,u,b6,I⟩⟩
 have u:G (bO j g fns k=.ok a3):=by rw[G,f.out];exact i
 obtain⟨sort,a4,size,quiet,a5,a6,a7,place,head,_,_,a8,a9,b0,b1,_,b9,b2, -, -, -, -, -⟩:=t.inv;have c0:b7= #[J U sort,J U a4,J U size,ζ quiet,J U a5,J U a6,M (D a7),J U place,M (D head),β a8,V a9 b0 b1]:=by rw[<-ψ];exact b2
 subst c0;change G _ at t;clear f i F K r b9 b2;go_wp2_with fail;refine η (v:=ω #[φ #[J U sort,J U a4,J U size,ζ quiet,J U a5,J U a6,M (D a7),J U place,M (D head),β a8,V a9 b0 b1],J U 0]) (by simp[τ,Ξ,go_sem,N,O,P,R,S,T,W,X,a0,a1,a2]) I ⟨bV L Q,B9 ⟨a3,_,u,I, ?_⟩⟩;exact t.bounded.move (λi f=>jO (by have:=f.1;simp only[γ]at this;omega)) (λi f=>by have:=f.1;simp only[γ]at this;omega)
theorem Mx{a:Bs->B1}(s fns f c v u t r q p m l j)(e:o≠6)(n:o≠7)(b:Lp a o d)(y x w)(g:G (bO a s fns k=.ok (fe a o d))):
  ο Φ 241 #[φ #[V v u t,V r q p,V m l j],φ #[J U o,M (D d),ζ ν,V y x w]] c λi R=>xB c f (bO a s fns k) i R:=by
 have z:=Ru (((c.alloc (ι #[V v u t,V r q p,V m l j] 332)).alloc (ι #[J U o,M (D d),ζ ν,V y x w] 96)).alloc Mw) f b.1 b.2.1;have b5:(o==6)=ν:=by simpa using e
 have b6:(o==7)=ν:=by simpa using n
 obtain⟨S,B⟩:=au (fe a o d);rw[<-B]at z g;clear B b e n;go_enter C5,C1;go_wp2_with(go_at_call 290;refine z.mono ?_);rintro i _ ⟨T,W,rfl,b⟩;obtain⟨X,a0,e,a1,_⟩:=jF T;obtain⟨⟨a2,a3,a4,a5,a6,a7,a8,a9,b0,b1,b2⟩,_,_,_,_,_,_,_,_,_,_,_⟩:=cZ e;obtain⟨sort,n,size,quiet,B,C,F,place,head,_,_,K,L,N,O,_,b3,P, -, -, -, -, -⟩:=b.inv;have b4:W= #[J U sort,J U n,J U size,ζ quiet,J U B,J U C,M (D F),J U place,M (D head),β K,V L N O]:=by rw[<-ψ];exact P
 subst b4;change G _ at b;clear X a0 e b3 P;go_wp2_with fail;refine η (v:=ω #[φ #[J U sort,J U n,J U size,ζ quiet,J U B,J U C,M (D F),J U place,M (D head),β K,V L N O],J U 0]) (by simp[τ,Ξ,go_sem,a2,a3,a4,a5,a6,a7,a8,a9,b0,b1,b2]) I ⟨bV a1 Q,B9 ⟨S,_,g,I, ?_⟩⟩;exact b.bounded.move (λP e=>jO (by have:=e.1;simp only[γ]at this;omega)) (λP e=>by have:=e.1;simp only[γ]at this;omega)
theorem Xw(a:Bs->B1):Ld a (Lp a) b:=by
 induction b using Nat.strongRecOn with
 |ind b ih=>
  intro n y e z fns o p q r s t f g i F _ K L N u O;obtain⟨c,d,P,v,j,k,cap,_,rfl,B,R,S,C,_⟩:=N.inv;obtain⟨_⟩:=F;simp only at B;subst B
  cases L with
  |mk l T=>
   cases P with
   |true=>
    have:0<B8 (Tr.mk c d Δ v):=by simp only[Tr.mk.sizeOf_spec];omega
    have W:∀n∈v,B8 n<=B8 (Tr.mk c d Δ v)-1:=by
     intro n m;have:=List.sizeOf_lt_of_mem m;simp only[Tr.mk.sizeOf_spec];omega
    simp only[zF]at K;refine Ul a z fns e y o p q r s t f g i c d j k cap I λ_ w=>?_;exact Jo a (ih _ Q) c d W Q T R (S.bounded.move (λm x=>w.block m x.2) (λ_ _=>trivial)) (aD C λm x=>w.block m (C.lt m x).2) (u.ah w) O
   |false=>
    have l:=l I;by_cases m:c=6
    ·subst m;exact Xx a fns e u.ns r s t f g i d j k cap (by rw[G,bO,Θ σ,Ψ I])
    by_cases w:c=7
    ·subst w;exact Xy a fns e o p q u.ps f g i (l.2.2 I) j k cap (by rw[G,bO,Θ σ,Θ Q,Ψ I])
    exact Mx z fns e y o p q r s t f g i m w l j k cap (by rw[G,bO,Θ σ,Θ m,Θ w])
def uF(o:C8 B1 Ex):C8 B1 Ex:=match o with
 | .error n=>.error n
 | .ok x=>if 300<x.size then .error 4 else .ok x
def dH(atoi:Bs->B1)(ps:Sc)(fns:A3 Fn)(l:Bs):C8 B1 Ex:=match lQ l with
 |none=>.error 1
 |some t=>uF (bO atoi ps fns t)
theorem nT(d:Γ)(e b c):ο Φ 65 #[V (Z ⟨H (A d)+1,0,E⟩) 2 2] ((d.alloc e).alloc (ι #[J U b,J U c] 68)) λg i=>g=A0 (J U (aT [b,c]))/\i=(d.alloc e).alloc (ι #[J U b,J U c] 68):=by
 have f:=κ (d.alloc e) (ι #[J U b,J U c] 68);rw[γ]at f;refine sI (H (A d)+1) 2 [b,c] ak λj _ a=>?_;rw[aI f]
 match j,a with
 |0,a=>simp at a;subst a;rfl
 |1,a=>simp at a;subst a;rfl
theorem oH(b:Bs->B1){ps fns}(m:∀c3∈fns,0<=c3.body.size/\c3.body.size<=300)(f:F7)(c5:f.size<=A7)(y:∀d,lQ f.toList=Z d->Fit (Lp b) d/\zF d<=1000)(c z w v u t s r q p o)(a2:Du c z (V w v u) (V t s r) (V q p o) ps fns):
  ο Φ 186 #[φ #[V w v u,V t s r,V q p o],M f] c λB b3=>xB c z (dH b ps fns f.toList) B b3:=by
 have a4:=aV c (ι #[V w v u,V t s r,V q p o] 332) Mw;go_enter func186,ntmps186;go_wp2_with(go_at_call 19;refine(Vo c5).mono ?_);rintro B e ⟨n,b4⟩;have l:=Iz n;obtain⟨a1,b0,_⟩:=qN n;rcases b4 with⟨k,rfl⟩|⟨c6,c7,c8,c9,e0,cap,d,k,rfl,a5⟩
 ·have g:G (dH b ps fns f.toList=.error 1):=by rw[G,dH,k]
  obtain⟨⟨C,F,K,L,N,O,P,R,S,T,W⟩,e1,e2,e3,e4,e5,e6,e7,e8,e9,g0,g1⟩:=cZ a1;have X:H (A c)+1<H (A e):=Q;clear k y m a2 l a1 n a4;go_wp2_with fail;refine η (v:=ω #[φ #[J U 0,J U 0,J U 0,ζ ν,J U 0,J U 0,M ⟨#[]⟩,J U 0,M ⟨#[]⟩,β E,V E 0 0],J U 1]) (by simp[τ,B3,go_sem,X,C,F,K,L,N,O,P,R,S,T,W]) I ⟨?_,B7 ⟨1,g,ag,I⟩⟩;exact(bV b0 Q).alloc (by simp only[μ];exact b0.size) _
 obtain⟨hF,g2⟩:=y d k;have a3:∀a:Γ,Bl e a->ο Φ 241 #[φ #[V w v u,V t s r,V q p o],φ #[J U c6,M (D c7),ζ c8,V c9 e0 cap]] a λB b3=>xB a z (bO b ps fns d) B b3:=
  λa i=>Xw b d a z ps fns w v u t s r q p o _ (A4 _) g2 hF (a5.bounded.move (λx j=>i.block x j.2) (λ_ _=>trivial)) ((a2.ah b0).ah i) m
 have g:G (dH b ps fns f.toList=uF (bO b ps fns d)):=by rw[G,dH,k]
 have a7:H (A c)<H (A e):=Q;have a8:ε e (α (H (A c)) 0 E)=Z (V w v u):=aC l;have a9:ε e (α (H (A c)) 1 E)=Z (V t s r):=aC l;have b8:ε e (α (H (A c)) 2 E)=Z (V q p o):=aC l;have a0:=λa (i:bO b ps fns d=.ok a)=>Bn m _ d (A4 _) a i;obtain⟨_,a6⟩:=au (bO b ps fns d);rw[<-a6]at g a3 a0;clear k y m a2 a6 hF a5 n a4;go_wp2_with(go_at_call 241;refine(a3 _ ?c1).mono ?_)
 case c1=>exact ai e _
 rintro B k ⟨b1,b4⟩;have b6:Bl e k:=(ai e _).trans (b1.mono ek);have:=b6.size;have b2:=(b6.block _ Q).trans a1;have X:H (A c)+1<H (A k):=Q;have b7:H (A c)<H (A k):=Q;have y:Bl c k:=bT b0 b6;obtain⟨⟨C,F,K,L,N,O,P,R,S,T,W⟩,e1,e2,e3,e4,e5,e6,e7,e8,e9,g0,g1⟩:=cZ b2;clear a3 a8 a9 b8 l a1 a7;rcases b4 with⟨n,rfl,b8,rfl⟩|⟨a,g3,rfl,rfl,i⟩
 ·have a1:G (dH b ps fns f.toList=.error n):=g.out;have l:G (aT [n,fT ν 4]=n):=by rw[G,aT,Θ b8]
  have:(n==0)=ν:=by simpa using b8
  have m:=nT k (ι #[J U 0,J U 0,J U 0,ζ ν,J U 0,J U 0,M ⟨#[]⟩,J U 0,M ⟨#[]⟩,β E,V E 0 0] 210) n (fT ν 4);rw[l.out]at m;clear g a0 b1 b2 l;go_wp2_with(first
   |(go_at_call 122;refine bP eX ?_)
   |(go_at_call 65;refine bP m ?_))
  refine η (v:=ω #[φ #[J U 0,J U 0,J U 0,ζ ν,J U 0,J U 0,M ⟨#[]⟩,J U 0,M ⟨#[]⟩,β E,V E 0 0],J U n]) (by simp[τ,B3,go_sem,X,b7,C,F,K,L,N,O,P,R,S,T,W]) I ⟨?_,B7 ⟨n,a1,b8,I⟩⟩;exact((bV y Q).alloc (by simp only[μ];exact y.size) _).alloc (by simp only[γ,μ];omega) _
 obtain⟨sort,a2,size,quiet,a3,a4,a5,place,head,_,_,a6,a7,a8,a9,_,b9,c0, -, -, -, -, -⟩:=i.inv;have g4:g3= #[J U sort,J U a2,J U size,ζ quiet,J U a3,J U a4,M (D a5),J U place,M (D head),β a6,V a7 a8 a9]:=by rw[<-ψ];exact c0
 subst g4;have c2:a.size=size:=by rw[b9];rfl
 have g5:=a0 a I;rw[c2]at g5;by_cases c4:300<size
 ·have a1:G (dH b ps fns f.toList=.error 4):=by rw[G,g.out,uF,Ψ Q]
  have l:G (aT [0,fT Δ 4]=4):=I;have m:=nT k (ι #[J U sort,J U a2,J U size,ζ quiet,J U a3,J U a4,M (D a5),J U place,M (D head),β a6,V a7 a8 a9] 210) 0 (fT Δ 4);rw[l.out]at m;have g6:decide ((300:B1)<size)=Δ:=by simpa using c4
  clear g a0 b1 b2 l i b9 c0 c2;go_wp2_with(first
   |(go_at_call 122;refine bP eX ?_)
   |(go_at_call 65;refine bP m ?_))
  refine η (v:=ω #[φ #[J U 0,J U 0,J U 0,ζ ν,J U 0,J U 0,M ⟨#[]⟩,J U 0,M ⟨#[]⟩,β E,V E 0 0],J U 4]) (by simp[τ,B3,go_sem,X,b7,C,F,K,L,N,O,P,R,S,T,W]) I ⟨?_,B7 ⟨4,a1,ag,I⟩⟩;exact((bV y Q).alloc (by simp only[μ];exact y.size) _).alloc (by simp only[γ,μ];omega) _
 have a1:G (dH b ps fns f.toList=.ok a):=by rw[G,g.out,uF,Θ Q]
 have l:G (aT [0,fT ν 4]=0):=I;have m:=nT k (ι #[J U sort,J U a2,J U size,ζ quiet,J U a3,J U a4,M (D a5),J U place,M (D head),β a6,V a7 a8 a9] 210) 0 (fT ν 4);rw[l.out]at m;have g6:decide ((300:B1)<size)=ν:=by simpa using c4
 have g7:G (dF k z (λx=>H (A e)+1<=x) [J U sort,J U a2,J U size,ζ quiet,J U a3,J U a4,M (D a5),J U place,M (D head),β a6,V a7 a8 a9] a):=i.move (λ_ _=>rfl) (λx j=>by simpa only[γ]using j);clear g a0 b1 b2 l i b9 c0 c2;go_wp2_with(first
  |(go_at_call 122;refine bP eX ?_)
  |(go_at_call 65;refine bP m ?_))
 refine η (v:=ω #[φ #[J U sort,J U a2,J U size,ζ quiet,J U a3,J U a4,M (D a5),J U place,M (D head),β a6,V a7 a8 a9],J U 0]) (by simp[τ,B3,go_sem,X,b7,C,F,K,L,N,O,P,R,S,T,W]) I ⟨?_,B9 ⟨a,_,a1,I, ?_⟩⟩
 ·exact((bV y Q).alloc (by simp only[μ];exact y.size) _).alloc (by simp only[γ,μ];omega) _
 refine g7.bounded.move (λx j=>?_) (λx j=>cz j.1);rw[θ _ _ _ (by simp only[γ,μ];have:=j.2;omega),θ _ _ _ (by simp only[μ];exact j.2)];exact jO (by have:=j.1;omega)
def bB(l:Bs):A3 B1:=l.map λc=>lK c.toNat
theorem Cw(a:F7)(c)(a3:a.size<=1000):
  ο Φ 185 #[M a] c λe r=>∃j,e=A0 j/\(aY r j (bB a.toList)/\r.ownsRow (H (A c)) 3 1 j (Y (bB a.toList)) (aA (bB a.toList)))/\C3 (H (A c)) c r:=by
 obtain⟨P,C,L,N,O⟩:=E7 lX;go_enter func185,ntmps185;go_wp2_with fail;go_loopw [3,7] (λT p wr=>∃(b g f:B5) (i:Option Addr),b<=a.size/\T=V i g f/\p=J U b/\wr.ownsRow (H (A c)) 3 1 (V i g f) b (aA (bB (a.toList.take b)))/\C3 (H (A c)) c wr) (λ_ p _=>a.size-(D9 p).toNat)
 case atStart=>exact⟨0,0,0,E,A5 _,I,I,D8 _ _ _ _,A1 _ _⟩
 obtain⟨b,g,f,i,a2,rfl,rfl,d,o⟩:=hrel;have K:=o.size;by_cases w:b<a.size
 ·have s:G (bB (a.toList.take (b+1))=bB (a.toList.take b)++ [lK a[b].toNat]):=by
   have e:a.toList.take (b+1)=a.toList.take b++ [a[b]]:=by
    rw[List.take_succ_eq_append_getElem (by rw[aj];exact w),gp a b w]
   rw[G,bB,e,E2];rfl
  go_wp2_with(first
   |(go_at_call 240;refine(Cv _ _).mono ?_;rintro e X ⟨rfl,rfl⟩)
   |(at_builtin;refine wpList_append_own _ I (.tmp 10) (.tmp 15) 42 I (H (A c)) 3 P (J U 0) 1 8 underlying42 C L N O I ag _ _ _ I (d.alloc _) ⟨H (A X),0,E⟩ 1 1 [J U (lK a[b].toNat)] I I ?c1 ?c2 ?c3 ?c4 ?c5 ?_))
  case c1=>
   intro R W l
   match R,l with
   |0,l=>simp at l;subst l;simp[G0]
  case c2=>intro W x;simp at x;subst x;rfl
  case c3=>unfold A7;omega
  case c4=>omega
  case c5=>simp;omega
  intro j y m t _;obtain⟨n,q,k,rfl⟩:∃n q k,j=V n q k:=by
   rcases m.2 with⟨e,_⟩|⟨a4,k,a1,e,_⟩<;>exact⟨_,_,_,e⟩
  have B:y.ownsRow (H (A c)) 3 1 (V n q k) (b+1) (aA (bB (a.toList.take (b+1)))):=by
   rw[s.out];simp only[aA,E2,List.map_cons,List.map_nil]at m ⊢;exact m
  have RB:C3 (H (A c)) c y:=(o.alloc K _).grown t aN (λS F=>(d.lt S F).1);clear m t d s
  go_wp2
  go_roundw
  case rel=>exact⟨b+1,_,_,_,Q,I,aP,B,RB⟩
  simp[D9];omega
 have u:a.toList.take b=a.toList:=List.take_of_length_le (by rw[aj];omega);have z:G (aY wr (V i g f) (bB a.toList)/\wr.ownsRow (H (A c)) 3 1 (V i g f) (Y (bB a.toList)) (aA (bB a.toList))):=by
  rw[u]at d;have v:Y (bB a.toList)=b:=by rw[bB,E3,aj];omega
  rw[<-v]at d;exact⟨qJ (b:=H (A c)) d (by rw[v];omega),d⟩
 clear d u;go_wp2_with fail;go_ret;exact⟨_,I,z.out,o⟩
def fO(l:Bs):Bool:=decide (Y l<=4)&& !(bB l).any (· ==0)
theorem Jg(a:F7)(c):ο Φ 184 #[M a] c (RB (ζ (fO a.toList)) c):=by
 by_cases d:a.size<=4
 ·have j:=Cw a c Q;have e:∀(b:Γ) (f:D6),aY b f (bB a.toList)->ο Φ 148 #[f,J U 0] b (RE (ζ ((bB a.toList).any (· ==0))) b):=λb f l=>uN 0 l;obtain⟨m,g⟩:=au ((bB a.toList).any (· ==0));have i:G (fO a.toList= !m):=by rw[G,fO,aj,decide_eq_true d,<-g,Bool.true_and]
  rw[<-g]at e;obtain⟨zs,k⟩:=au (bB a.toList);rw[<-k]at j e;have o:decide ((a.size:B1)<=4)=Δ:=aN;clear g k d;go_enter F2,E9;go_wp2_with(first
   |(go_at_call 185;refine j.mono ?_;rintro _ _ ⟨_,rfl,⟨p,_⟩,n⟩)
   |(go_at_call 148;refine bP (e _ _ p) ?_))
  go_ret;exact⟨by rw[i.out];rfl,n⟩
 have i:G (fO a.toList=ν):=by rw[G,fO,aj,decide_eq_false d];rfl
 have o:decide ((a.size:B1)<=4)=ν:=aN;go_enter F2,E9
 go_wp2
 go_ret;exact⟨aG i.symm,A1 _ _⟩
def sJ(fns:A3 Fn)(l:Bs):Bool:=aW l&& !nG l&& !dU l&&(dG fns l).isNone
theorem Qu{fns}(v:b<H (A a))(w:ε a (α b 0 E)=Z (V e l c))(hF:kF a f (V e l c) fns)(x:Y d<=A7):
  ο Φ 183 #[β (Z (α b 0 E)),M (D d)] a (RB (ζ (sJ fns d)) a):=by
 have k:∀g:Γ,ο Φ 170 #[M (D d)] g (RE (ζ (aW d)) g):=by
  intro g;have:=mH (D d) g (by rw[aX];exact x);rw[ay]at this;exact this
 have n:∀g:Γ,ο Φ 174 #[M (D d)] g (RB (ζ (nG d)) g):=by
  intro g;have:=jU (s:=(D d)) (w:=g);rw[ay]at this;exact this
 have o:∀g:Γ,ο Φ 239 #[M (D d)] g (RE (ζ (dU d)) g):=by
  intro g;have:=xL (D d) g;rw[ay]at this;exact this
 have p:∀g:Γ,Bl a g->ο Φ 121 #[V e l c,M (D d)] g λq y=>(∃m,q=A0 (β m)/\IW f (dG fns d) m)/\Bl g y:=λg z=>MC d (hF.ah z);have i:G (sJ fns d=(aW d&& !nG d&& !dU d&&(dG fns d).isNone)):=I;obtain⟨B,j⟩:=au (aW d);obtain⟨C,r⟩:=au (nG d);obtain⟨F,s⟩:=au (dU d);obtain⟨t,u⟩:=au (dG fns d);rw[<-j]at k i;rw[<-r]at n i;rw[<-s]at o i;rw[<-u]at p i;clear j r s u hF
 cases B
 ·go_enter C6,C2;go_wp2_with(go_at_call 170;refine bP (k _) ?_);go_ret;exact⟨by rw[i.out];rfl,A1 _ _⟩
 cases C
 ·cases F
  ·go_enter C6,C2;go_wp2_with(first
    |(go_at_call 170;refine bP (k _) ?_)
    |(go_at_call 174;refine cB (n _) ?_;rintro s j)
    |(go_at_call 239;refine bP (o _) ?_;have L:=cK j v w)
    |(go_at_call 121;refine(p _ j).mono ?_;rintro q _ ⟨⟨m,rfl,r⟩,u⟩))
   have K:m.isNone=t.isNone:=by
    cases t with
    |none=>have:m=E:=r;rw[this];rfl
    |some N=>obtain⟨_,_,rfl⟩:=r;rfl
   go_ret;exact⟨by rw[i.out,<-K];rfl,bT j u⟩
  go_enter C6,C2;go_wp2_with(first
   |(go_at_call 170;refine bP (k _) ?_)
   |(go_at_call 174;refine cB (n _) ?_;rintro s j)
   |(go_at_call 239;refine bP (o _) ?_))
  go_ret;exact⟨by rw[i.out];rfl,j⟩
 go_enter C6,C2;go_wp2_with(first
  |(go_at_call 170;refine bP (k _) ?_)
  |(go_at_call 174;refine cB (n _) ?_;rintro s j))
 go_ret;exact⟨by rw[i.out];rfl,j⟩
theorem ZW(l:B1->Bs->Prop):∀j:B5,(∀g c i f,jY j g c=Z (i,f)->(∀b∈c,l b.1 b.2)->Fit l i/\(∀b∈f,b∈c)/\zF i+Y f<=Y c)/\
  (∀g c i f,KY j g c=Z (i,f)->(∀b∈c,l b.1 b.2)->Fit l i/\(∀b∈f,b∈c)/\zF i+Y f<=Y c)/\
  (∀g c m f,oW j g c=Z (m,f)->(∀b∈c,l b.1 b.2)->Fits l m/\(∀b∈f,b∈c)/\iY m+Y f<=Y c):=by
 intro j
 induction j with
 |zero=>exact⟨λ_ _ _ _ a=>by simp[jY]at a,λ_ _ _ _ a=>by simp[KY]at a,λ_ _ _ _ a=>by simp[oW]at a⟩
 |succ j ih=>
  obtain⟨v,w,t⟩:=ih;refine⟨λg c i f a k=>?_,λg c i f a k=>?_,λg c m f a k=>?_⟩
  ·cases c with
   |nil=>simp[jY]at a
   |cons b c=>
    rw[jY]at a;by_cases n:b.1=1
    ·rw[Ψ n]at a;obtain⟨q,r,x⟩:=w _ _ _ _ a λd e=>k d (υ _ e);exact⟨q,λd e=>υ _ (r d e),aN⟩
    rw[Θ n]at a
    cases o:jB b.1 b.2 with
    |false=>rw[o]at a;simp at a
    |true=>
     rw[o,Ψ I]at a;simp only[Ω,B6]at a;obtain⟨rfl,rfl⟩:=a;exact⟨.mk (λ_=>k b ak) .nil,λd e=>υ _ e,by simp[zF,iY];omega⟩
  ·cases c with
   |nil=>simp[KY]at a
   |cons b c=>
    rw[KY]at a;by_cases u:20<g
    ·rw[Ψ u]at a;simp at a
    rw[Θ u]at a
    cases o:nL b.1 b.2 with
    |false=>rw[o]at a;simp at a
    |true=>
     rw[o,Ψ I]at a;obtain⟨⟨m,y⟩,s,p⟩:=B0.mp a;simp only[B6]at p;obtain⟨rfl,rfl⟩:=p;obtain⟨q,r,x⟩:=t _ _ _ _ s λd e=>k d (υ _ e);exact⟨.mk (λz=>by cases z) q,λd e=>υ _ (r d e),by simp[zF];omega⟩
  cases c with
  |nil=>simp[oW]at a
  |cons b c=>
   rw[oW]at a;by_cases n:b.1=2
   ·rw[Ψ n]at a;simp only[Ω,B6]at a;obtain⟨rfl,rfl⟩:=a;exact⟨.nil,λd e=>υ _ e,by simp[iY]⟩
   rw[Θ n]at a
   cases o:jY j g (b::c)with
   |none=>rw[o]at a;simp at a
   |some r=>
    obtain⟨_,y⟩:=r;rw[o]at a;obtain⟨⟨_,_⟩,s,p⟩:=B0.mp a;simp only[B6]at p;obtain⟨rfl,rfl⟩:=p;obtain⟨u,q,x⟩:=v _ _ _ _ o k;obtain⟨z,B,_⟩:=t _ _ _ _ s λd e=>k d (q d e);exact⟨.cons u z,λd e=>q d (B d e),by simp[iY];simp at x;omega⟩
theorem Rp:∀(e:B5) (b:Bs) (c:A3 Tk),Y b<=e->dw b=Z c->(∀d∈c,d.1=bF d.2)/\Y c<=Y b:=by
 intro e
 induction e with
 |zero=>intro b c l a;rw[nZ b Q]at a;simp only[Ω]at a;subst a;simp
 |succ e ih=>
  intro b c l a;by_cases m:Y b=0
  ·rw[nZ b m]at a;simp only[Ω]at a;subst a;simp
  rw[sZ b Q]at a
  cases f:gF (b.headD 0).toNat with
  |true=>
   rw[f,Ψ I]at a;obtain⟨g,i⟩:=ih _ _ aN a;exact⟨g,by simp at i;omega⟩
  |false=>
   have:=sS Q f;have:=Kj b Q;rw[f,Θ σ]at a;by_cases k:bF (b.take (gM b))=0
   ·rw[Ψ k]at a;simp at a
   rw[Θ k]at a;obtain⟨_,n,rfl⟩:=B0.mp a;obtain⟨g,i⟩:=ih _ _ aN n;refine⟨λd j=>?_,by simp at i ⊢;omega⟩;rcases List.mem_cons.mp j with rfl|j
   ·rfl
   exact g d j
theorem Vp(g:∀d,a2 (bF d) d)(b:lQ d=Z k):Fit a2 k/\zF k<=1000:=by
 unfold lQ at b;by_cases f:400<Y d
 ·rw[Ψ f]at b;simp at b
 rw[Θ f]at b;obtain⟨c,i,a⟩:=Option.bind_eq_some_iff.mp b;obtain⟨j,_⟩:=Rp _ d c (A4 _) i;unfold ky at a
 cases e:jY (2*Y c) 0 c with
 |none=>rw[e]at a;simp at a
 |some l=>
  obtain⟨_,m⟩:=l;rw[e]at a
  cases m with
  |cons _ _=>simp at a
  |nil=>
   simp only[Ω]at a;subst a;obtain⟨n,_,o⟩:=(ZW a2 _).1 _ _ _ _ e λp q=>by rw[j p q];exact g _
   exact⟨n,by simp at o;omega⟩
theorem Yc(a:bF d=3):gH d=Δ:=by
 unfold bF at a
 repeat' (split at a)
 all_goals first|omega|assumption
theorem QA(a:bF d=4):fJ d=Δ:=by
 unfold bF at a
 repeat' (split at a)
 all_goals first|omega|assumption
theorem Yd(a:bF d=7):lN d=Δ:=by
 unfold bF at a
 repeat' (split at a)
 all_goals first|omega|assumption
abbrev gB:=Bs×Bs×B1
def iF(c:gB):B1:=match c.2.1 with
 | [x]=>lK x.toNat
 |_=>0
theorem qG(e g):ο Φ 244 #[φ #[M (D e.1),M (D e.2.1),J U e.2.2]] g (RB (J U (iF e)) g):=by
 obtain⟨i,c,j⟩:=e;have d:=ai g (ι #[M (D i),M (D c),J U j] 50);have b:(D c).size=Y c:=aX c
 match c,b with
 | [],b=>
  have k:D ([]:Bs)=⟨#[]⟩:=I;simp only[k]at d ⊢;go_enter D5,D4
  go_wp2
  go_ret;exact⟨I,d⟩
 | [a],b=>
  have k:D [a]=⟨#[a]⟩:=I;have m:=λf:World=>Cv (a.toNat:B1) f;have l:G (iF (i,[a],j)=lK a.toNat):=I;simp only[k]at d b ⊢;go_enter D5,D4;go_wp2_with(go_at_call 240;refine bP (m _) ?_);go_ret;exact⟨by rw[l.out];rfl,d⟩
 |a::f::r,b=>
  have l:G (iF (i,a::f::r,j)=0):=I;have m:((((D (a::f::r)).size:B5):B1)==1)=ν:=by
   rw[b];simp;omega
  obtain⟨c,k⟩:=au (D (a::f::r));simp only[<-k]at d m ⊢;clear b k;go_enter D5,D4
  go_wp2
  go_ret;exact⟨by rw[l.out];rfl,d⟩
def mG(c:gB):Bool:=aW c.1&& !(iF c==0)&&decide (1<=c.2.2)&&decide (c.2.2<=1000000)
theorem Gm{a}(k)(p:Y a.1<=A7):ο Φ 292 #[φ #[M (D a.1),M (D a.2.1),J U a.2.2]] k (RB (ζ (mG a)) k):=by
 have g:=λe:World=>qG a e;have b:G (mG a=(aW a.1&& !(iF a==0)&&decide (1<=a.2.2)&&decide (a.2.2<=1000000))):=I;obtain⟨m,c⟩:=au (iF a);rw[<-c]at b;simp only[<-c]at g;clear c;obtain⟨d,q,i⟩:=a;simp only at g b p ⊢;have w:(D d).size<=A7:=by rw[aX];exact p
 have l:=ai k (ι #[M (D d),M (D q),J U i] 50);have n:=κ k (ι #[M (D d),M (D q),J U i] 50);have j:∀e:Γ,ο Φ 170 #[M (D d)] e (RE (ζ (aW d)) e):=by
  intro e;have:=mH (D d) e w;rw[ay]at this;exact this
 obtain⟨x,c⟩:=au (aW d);rw[<-c]at b;simp only[<-c]at j;clear c
 cases x
 ·go_enter C4,C0;go_wp2_with(go_at_call 170;refine bP (j _) ?_);go_ret;exact⟨by rw[b.out];rfl,l⟩
 cases f:(m==0)
 ·rw[f]at b;have y:(m != 0)=Δ:=by rw[bne,f];rfl
  clear f;by_cases r:1<=i
  ·have o:decide (1<=i)=Δ:=by simpa using r
   rw[o]at b;go_enter C4,C0;go_wp2_with(first
    |(go_at_call 170;refine bP (j _) ?_)
    |(go_at_call 244;refine cB (g _) ?_;rintro v c;obtain⟨⟨s,t,u⟩,_⟩:=tX ((c.block _ ek).trans n)))
   go_ret;exact⟨by rw[b.out];simp,bT l c⟩
  have o:decide (1<=i)=ν:=by simpa using r
  rw[o]at b;go_enter C4,C0;go_wp2_with(first
   |(go_at_call 170;refine bP (j _) ?_)
   |(go_at_call 244;refine cB (g _) ?_;rintro v c;obtain⟨⟨s,t,u⟩,_⟩:=tX ((c.block _ ek).trans n)))
  go_ret;exact⟨by rw[b.out];rfl,bT l c⟩
 rw[f]at b;have y:(m != 0)=ν:=by rw[bne,f];rfl
 clear f;go_enter C4,C0;go_wp2_with(first
  |(go_at_call 170;refine bP (j _) ?_)
  |(go_at_call 244;refine cB (g _) ?_;rintro v c;obtain⟨⟨s,t,u⟩,_⟩:=tX ((c.block _ ek).trans n)))
 go_ret;exact⟨by rw[b.out];rfl,bT l c⟩
def dC(w:Γ)(v:D6)(cs:A3 gB):Prop:=∃ao cap,v=V ao (Y cs) cap/\Y cs<=cap/\Y cs<=A7/\(cs= []\/∃b off,ao=Z ⟨b,off,E⟩/\b<H (A w)/\∀(i:B5) (c:gB),cs[i]? =Z c->
 (ε w ⟨b,off+i*3,E⟩=Z (M (D c.1))/\ε w ⟨b,off+i*3+1,E⟩=Z (M (D c.2.1))/\ε w ⟨b,off+i*3+2,E⟩=Z (J U c.2.2))/\Y c.1<=A7/\Y c.2.1<=A7)
theorem dC.ah{w x v e}(c:dC w v e)(b:Bl w x):dC x v e:=by
 obtain⟨f,cap,g,j,k,l⟩:=c;refine⟨f,cap,g,j,k, ?_⟩;rcases l with c|⟨m,n,o,d,p⟩
 ·exact B7 c
 refine B9 ⟨m,n,o,cz b.size,λi q r=>?_⟩;obtain⟨⟨a,s,t⟩,u⟩:=p i q r;exact⟨⟨cK b d a,cK b d s,cK b d t⟩,u⟩
def kL(l:Bs)(cs:A3 gB):Bool:=cs.any λc=>c.1==l
theorem Va(c:gB)(i:b<H (A a))(g:ε a (α b 0 E)=Z (M (D d))):
  ο Φ 291 #[φ #[M (D c.1),M (D c.2.1),J U c.2.2],β (Z (α b 0 E))] a (RB (ζ (c.1==d)) a):=by
 have f:G ((c.1==d)=((D c.1).toList==(D d).toList)):=by rw[G,ay,ay]
 have e:=ai a (ι #[M (D c.1),M (D c.2.1),J U c.2.2] 50);have:=cK e i g;go_enter func291,ntmps291;go_upto_region 1 with fail
 first
  |(go_region;go_wp2;go_ret;exact⟨by rw[f.out];rfl,e.drew⟩)
  |(go_wp2;go_ret;exact⟨by rw[f.out];rfl,e⟩)
theorem ze{c}(l:dC a j c)(z:b<H (A a))(y:ε a (α b 0 E)=Z (M (D d))):
  ο Φ 332 #[j,.func (Fn.func 291) #[] #[β (Z (α b 0 E))]] a λx B=>(∃r:B1,x=A0 (J U r)/\decide (0<=r)=kL d c)/\Bl a B:=by
 obtain⟨_,cap,rfl,_,C,m⟩:=l;unfold A7 at C;go_enter func332,ntmps332;go_wp2_with fail;go_loopw [8] (λf g=>∃e:B5,e<=Y c/\f=J U e/\Bl a g/\G (kL d c=kL d (c.drop e))) (λf _=>Y c-(D9 f).toNat)
 ·exact⟨0,A5 _,I,A1 _ _,I⟩
 obtain⟨e,_,rfl,f,k⟩:=hrel;have s:=f.size;by_cases n:e<Y c
 ·rcases(id m)with l|⟨F,_,rfl,o,i⟩
  ·subst l;simp at n
  obtain⟨⟨q,t,u⟩,_⟩:=i e c[e] (χ n);have K:=cK f o q;have L:=cK f o t;have N:=cK f o u;have g:G (kL d c=((c[e].1==d)||kL d (c.drop (e+1)))):=by rw[G,k.out,A9 n];rfl
  have O:=cK f z y;obtain⟨v,w⟩:=au (c[e]);rw[<-w]at K L N g;have P:b<H (A wr):=Q;have:F<H (A wr):=Q;have p:=Va v P O;clear i m w k q t u;obtain⟨t,i⟩:=au (v.1==d);rw[<-i]at p g;clear i
  cases t with
  |false=>
   have i:G (kL d c=kL d (c.drop (e+1))):=by rw[G,g.out];rfl
   clear g;go_wp2_with(go_at_call 291;refine cB p ?_;rintro u q);go_roundw
   ·exact⟨e+1,Q,aP,f.trans (q.mono s),i⟩
   simp[D9];omega
  |true=>
   have i:G (kL d c=Δ):=by rw[G,g.out];rfl
   clear g;go_wp2_with(go_at_call 291;refine cB p ?_;rintro u q);go_ret;exact⟨⟨_,I,by rw[i.out];simp⟩,f.trans (q.mono s)⟩
 have i:G (kL d c=ν):=by rw[G,k.out,B2 Q];rfl
 clear k m
 go_wp2
 go_ret;exact⟨⟨_,I,by rw[i.out];rfl⟩,f⟩
theorem vM{c}(b d)(e:dC a j c)(g:b<H (A a))(f:ε a (α b 0 E)=Z (M (D d))):
  ο Φ 293 #[j,.func (Fn.func 291) #[] #[β (Z (α b 0 E))]] a (RB (ζ (kL d c)) a):=by
 have i:=ze e g f;go_enter func293,ntmps293;go_wp2_with(go_at_call 332;refine i.mono ?_;rintro _ _ ⟨⟨_,rfl,_⟩,k⟩);go_ret;exact⟨I,k⟩
def bL(l:Bs):B1:=(D3 l).getD 0
theorem BS:∀(e:Bs) (a:B5),dR e a=Δ->∃b,F8 a e=Z b
 | [],a,_=>⟨a,I⟩
 |c::r,a,h=>by
  rw[dR]at h;simp only[ρ,ξ,dD]at h;obtain⟨⟨⟨j,k⟩,l⟩,d⟩:=h;have f:F6 c=Z (c.toNat-48):=by unfold F6;rw[Ψ Q]
  have g:((a:B1)*10+((c.toNat:B1)-48))=((a*10+(c.toNat-48):B5):B1):=Q;rw[g]at d;obtain⟨b,i⟩:=BS r _ d;exact⟨b,by rw[F8,f];exact i⟩
theorem BU:∀(b:Bs) (a:B5),dR b a=Δ->1<=a->a*10^Y b<=1000000000\/b= []
 | [],_,_,_=>B9 I
 |c::r,a,h,hn=>by
  rw[dR]at h;simp only[ρ,ξ,dD]at h;obtain⟨⟨⟨g,i⟩,j⟩,e⟩:=h;have f:((a:B1)*10+((c.toNat:B1)-48))=((a*10+(c.toNat-48):B5):B1):=Q;rw[f]at e;left;rcases BU r _ e Q with d|d
  ·rw[List.length_cons,Nat.pow_succ];have:a*(10^Y r*10)=(a*10)*10^Y r:=by rw[Nat.mul_comm (10^Y r) 10,Nat.mul_assoc]
   rw[this];refine F5 (Nat.mul_le_mul_right _ Q) d
  subst d;simp;omega
theorem Vi(f: !(d.headD 0==48))(i:0<Y d)(a:dR d 0=Δ):Y d<=11:=by
 match d,i with
 |c::r,_=>
  rw[dR]at a;simp only[ρ,ξ,dD]at a;obtain⟨⟨⟨_,_⟩,_⟩,g⟩:=a;simp only[List.headD_cons,E0,E6,ne_eq]at f;have:c.toNat≠48:=λb=>f (UInt8.toNat.inj (by rw[b];rfl));have b:((0:B1)*10+((c.toNat:B1)-48))=((c.toNat-48:B5):B1):=Q;rw[b]at g;rcases BU r _ g Q with e|e
  ·have:10^Y r<=1000000000:=F5 (Nat.le_mul_of_pos_left _ Q) e;have:Y r<=10:=by
    rcases F4 10 (Y r)with j|k
    ·have:10^11<=10^Y r:=Nat.pow_le_pow_right Q j;omega
    exact k
   simp;omega
  subst e;simp
theorem YA(i:gH d=Δ):Y d<=18/\D3 d=Z (bL d):=by
 suffices hs:Y d<=18/\∃j,D3 d=Z j by
  obtain⟨c,j,a⟩:=hs;exact⟨c,by rw[bL,a];rfl⟩
 simp only[gH,Bool.or_eq_true,G2,ρ,ξ]at i;rcases i with rfl|⟨⟨c,l⟩,b⟩
 ·exact⟨ak,⟨0,ag⟩⟩
 have k:=Vi l c b;obtain⟨m,n⟩:=BS (bN d) 0 b;have e:F9 (bN d)=Z m:=by
  unfold F9;rw[Θ (by intro a;rw[List.isEmpty_iff_length_eq_zero]at a;omega)];exact n
 match d with
 | []=>simp[bN]at c
 |f::r=>
  by_cases g:f=45
  ·subst g;have a:bN (45::r)=r:=by simp[bN]
   rw[a]at e k;exact⟨aN,_,by rw[D3,Ψ ag,e];rfl⟩
  have a:bN (f::r)=f::r:=by simp[bN,g]
  rw[a]at e k b;have o:(f==43)=ν:=by
   rw[dR]at b;simp only[ρ,ξ,dD]at b;have:=b.1.1.1;rw[E6];intro a;subst a;simp at this
  exact⟨Q,_,by rw[D3,Θ (by simpa using g),Θ (by rw[o];exact σ),e];rfl⟩
theorem aee(b):Lp bL (bF b) b:=by
 refine⟨λa c=>?_,λa=>?_,λa=>Yd a⟩
 ·obtain⟨d,e⟩:=YA (Yc a);refine(Tryz.strconv_Atoi (D b) (bL b) (by rw[aX];exact d) (by simpa[D]using e) c).mono λg i ⟨f,t,hw⟩=>?_;subst hw;exact⟨f,Lib.bytesWorld_below _ _ _⟩
 have:=QA a;simp only[fJ,ρ,ξ]at this;exact⟨this.1.1.1.1,this.1.1.1.2⟩
theorem Dh(a:lQ d=Z k):Fit (Lp bL) k/\zF k<=1000:=Vp aee a
def ED(FB:A3 B5):A3 D6:=FB.map λq=>β (Z ⟨q,0,E⟩)
def vE(w:Γ)(bb:B5)(FB:A3 B5)(fns:A3 Fn):Prop:=∃fo fnn fc,w.heap[bb]? =Z (ι #[V fo fnn fc,V E 0 0] 194 (0,0))/\w.ownsRow (bb+1) 203 1 (V fo fnn fc) (Y fns) (ED FB)/\Y FB=Y fns/\Y fns<=8/\
 ∀(i q:B5) (fn:Fn),FB[i]? =Z q->fns[i]? =Z fn->uP w FB q fn
theorem Hf{fns}(j:a.ownsRow l 203 1 (V e c b) (Y fns) (ED f))(o:Y f=Y fns)(r:Y fns<=8)(n:∀(d g:B5) (m:Fn),f[d]? =Z g->fns[d]? =Z m->uP a f g m):kF a f (V e c b) fns:=by
 rcases j.2 with⟨k,p⟩|⟨i,cap,_,k,_⟩
 ·cases k;have:fns= []:=List.length_eq_zero_iff.mp p;subst this;exact⟨_,_,I,o,ak,B7 I,n⟩
 cases k;refine⟨_,_,I,o,Q,B9 ⟨i,I,(j.lt i I).2,λd g q=>?_⟩,n⟩;have:=j.cells (g:=i) I d (β (Z (α g 0 E))) (by simp[ED,q]);rw[F3]at this;simpa using this
theorem IW.more(a:IW f a3 e)(c):IW (f++c) a3 e:=by
 cases a3 with
 |none=>exact a
 |some i=>obtain⟨d,b,g⟩:=a;exact⟨d,by rw[A8 (D0.mp b).1];exact b,g⟩
mutual
theorem dF.more{k:Γ}{e:A3 B5}{g:B5->Prop}(c:A3 B5):∀ {i:A3 D6} {j:Ex},dF k e g i j->dF k (e++c) g i j
 |_,_,.mk a b d f=>.mk (cO.more c a) b d (f.more c)
theorem cO.more{i:Γ}{d:A3 B5}{e:B5->Prop}(c:A3 B5):∀ {f:A3 D6} {g:A3 Ex},cO i d e f g->cO i (d++c) e f g
 |_,_,.nil=>.nil
 |_,_,.cons a b=>.cons (dF.more c a) (cO.more c b)
end
theorem uP.more(d:uP a f b w)(c):uP a (f++c) b w:=by
 obtain⟨e,g,i,j,k,l⟩:=d;exact⟨e,g,i,j,k,l.more c⟩
def nI(fns:A3 Fn)(name args body:Bs):C8 B1 Fn:=
 if aT [fT (!sJ fns name) 2,fT (!fO args) 9]≠0 then .error (aT [fT (!sJ fns name) 2,fT (!fO args) 9])else
 match dH bL ([],bB args) fns body with
 | .error n=>.error n
 | .ok x=>.ok ⟨name,bB args,x⟩
def acC(w:Γ)(bb:B5)(FB:A3 B5)(fns:A3 Fn)(o:C8 B1 Fn)(e:Ending)(w':Γ):Prop:=
 (∃n:B1,o=.error n/\n≠0/\e=A0 (J U n)/\C3 (H (A w)) w w')\/
 (∃(fn:Fn) (q:B5),o=.ok fn/\e=A0 (J U 0)/\vE w' bb (FB++ [q]) (fns++ [fn])/\C3 bb w w')
theorem iU(b:Γ)(c d):ο Φ 65 #[V (Z (α (H (A b)) 0 E)) 2 2] (b.alloc (ι #[J U c,J U d] 68)) λe f=>e=A0 (J U (aT [c,d]))/\f=b.alloc (ι #[J U c,J U d] 68):=by
 refine sI (H (A b)) 2 [c,d] ak λg _ a=>?_;rw[aI (κ b _)]
 match g,a with
 |0,a=>simp at a;subst a;rfl
 |1,a=>simp at a;subst a;rfl
theorem xB.form{p}(t:xB a f a1 p m):Bl a m/\∃sort d size quiet e g i place head c l k j b,
  p=A0 (ω #[φ #[J U sort,J U d,J U size,ζ quiet,J U e,J U g,M (D i),J U place,M (D head),β c,V l k j],J U b])/\G ((a1=.error b/\b≠0)\/(∃n,a1=.ok n/\b=0/\dF m f (λs=>H (A a)<=s) [J U sort,J U d,J U size,ζ quiet,J U e,J U g,M (D i),J U place,M (D head),β c,V l k j] n)):=by
 obtain⟨q,⟨b,o,u,rfl⟩|⟨n,v,o,rfl,r⟩⟩:=t
 ·exact⟨q,0,0,0,ν,0,0,[],0,[],E,E,0,0,b,I,B7 ⟨o,u⟩⟩
 obtain⟨sort,d,size,quiet,e,g,i,place,head,_,_,c,l,k,j,_,_,w, -, -, -, -, -⟩:=r.inv;have x:v= #[J U sort,J U d,J U size,ζ quiet,J U e,J U g,M (D i),J U place,M (D head),β c,V l k j]:=by rw[<-ψ];exact w
 subst x;exact⟨q,sort,d,size,quiet,e,g,i,place,head,c,l,k,j,0,I,B9 ⟨n,o,I,r⟩⟩
theorem OC{c}(d:a.heap[b]? =Z (ι #[j,q,y,X,B,C,F,K,L,N,a0] c a5)):(((((((((((a.setCell (α b 0 E) a7).setCell (α b 1 E) a8).setCell (α b 2 E) a9).setCell (α b 3 E) b4).setCell (α b 4 E) b5).setCell (α b 5 E) b6).setCell (α b 6 E) b7).setCell (α b 7 E) b8).setCell (α b 8 E) b9).setCell (α b 9 E) c0).setCell (α b 10 E) c1).heap[b]? =Z (ι #[a7,a8,a9,b4,b5,b6,b7,b8,b9,c0,c1] c a5):=by
 simp[D1,B4,d]
theorem yF{fns}(c:∀b∈fns,0<=b.body.size/\b.body.size<=300)(a:dH bL g fns d=.ok R):0<=R.size/\R.size<=300:=by
 unfold dH at a;split at a
 ·cases a
 next f j=>
 unfold uF at a;split at a
 ·cases a
 next k e=>
 split at a
 ·cases a
 next i=>
 cases a;have:=Bn c _ f (A4 _) R e;omega
theorem nP{c}(d:a.heap[b]? =Z (ι #[j,q] c (0,0))):ε a (α b 0 E)=Z j/\D2 a (α b 0 E)=ν/\ε a (α b 1 E)=Z q/\D2 a (α b 1 E)=ν:=by
 simp[ε,D2,d]
theorem yT(a:Γ):((a.alloc x).alloc s).drew.heap[H (A a)+1]? =Z s:=by
 have:=κ (a.alloc x) s;rw[γ]at this;exact this
theorem DF{args}(a:fO args=Δ):Y args<=4:=by
 simp only[fO,ρ,ξ]at a;exact a.1
theorem XE(a:aT [fT (!b0) 2,fT (!b1) 9]=0):b0=Δ/\b1=Δ:=by
 cases b0<;>cases b1<;>simp[aT,fT]at a ⊢
theorem ade:(Φ.info? 203).map (λa=>(a.zero,a.size,a.bytes))=Z (Z (β E),1,8):=aF
theorem aaC{wc:Γ}{fns}(c2:b<H (A m))(a6:Y f=Y fns)(c1:Y fns<=7)(a5:∀(j L:B5) (K:Fn),f[j]? =Z L->fns[j]? =Z K->uP m f L K)(y:Bl m wc)(P:wc.ownsRow (b+1) 203 1 (V e n l) (Y fns) (ED f))(a4:wc.heap[b]? =Z (ι #[V e n l,V E 0 0] 194 (0,0))){a3:B5->Prop}{name}(a8:Y r<=1000){sort size quiet place head}(a1:wc.ownsRow 0 3 1 (V v S u) (Y r) (aA r))(a9:dF wc f a3 [J U sort,J U o,J U size,ζ quiet,J U b2,J U b3,M (D d),J U place,M (D head),β t,V z W T] R)(a7:a.ownsRow (b+1) 203 1 (V (Z (α p 0 E)) (Y fns+1) c) (Y fns+1) (ED f++ [β (Z (α (H (A wc)) 0 E))]))(B:((wc.alloc (ι #[M (D name),V v S u,J U sort,J U o,J U size,ζ quiet,J U b2,J U b3,M (D d),J U place,M (D head),β t,V z W T] 212)).alloc s).drew.grownBy a (V e n l).ownBlock)(b0:a.heap[b]? =Z (ι #[V e n l,V E 0 0] 194 (0,0))):
  vE (a.setCell (α b 0 E) (V (Z (α p 0 E)) (Y fns+1) c)) b (f++ [H (A wc)]) (fns++ [⟨name,r,R⟩])/\C3 b m (a.setCell (α b 0 E) (V (Z (α p 0 E)) (Y fns+1) c)):=by
 have c3:=y.size;have b1:=B.size;simp only[C7,γ]at b1;have a2:∀g,g<H (A wc)->g≠b->(V e n l).ownBlock≠Z g->(a.setCell (α b 0 E) (V (Z (α p 0 E)) (Y fns+1) c)).heap[g]? =wc.heap[g]? :=by
  intro g k q w;rw[δ _ _ _ _ q,B.block g LZ (λi=>w i.symm)];exact(θ _ _ _ gL).trans (θ _ _ _ k)
 have X:∀(g:B5) (N:Array D6) (F:TypeId) (O:B5×B5),wc.heap[g]? =Z (ι N F O)->F=212\/F=3\/F=210->(a.setCell (α b 0 E) (V (Z (α p 0 E)) (Y fns+1) c)).heap[g]? =wc.heap[g]? :=by
  intro g N F O k w;refine a2 g (af k) (λi=>?_) (λi=>?_)
  ·subst i;rw[a4]at k;cases k;revert w;decide
  rcases P.2 with⟨q,_⟩|⟨b4,b5,b6,q,_,a0,_⟩
  ·rw[q]at i;cases i
  rw[q]at i;cases i;rw[a0]at k;cases k;revert w;decide
 have b7:(V e n l).ownBlock≠Z (H (A wc)):=λi=>cz ((P.lt _ i).2);refine⟨⟨Z (α p 0 E),Y fns+1,c,by simp[D1,B4,b0], ?_,by simp[a6],aN,λj L K w C=>?_⟩, ?_⟩
 ·have i:ED (f++ [H (A wc)])=ED f++ [β (Z (α (H (A wc)) 0 E))]:=by simp[ED]
  rw[i,D7];exact A6 a7 ak _
 ·rcases F4 j (Y f)with b8|b9
  ·rw[A8 b8]at w;rw[A8 Q]at C;exact(((a5 j L K w C).ah y).grow X).more _
  rw[C9 b9]at w;rw[C9 Q]at C;have c0:j-Y f=0:=by
   have:=(D0.mp w).1;simp at this;omega
  rw[c0]at w;rw[show j-Y fns=0 by omega]at C;simp at w C;subst w C;refine(show uP _ f _ _ from⟨V v S u,[J U sort,J U o,J U size,ζ quiet,J U b2,J U b3,M (D d),J U place,M (D head),β t,V z W T], ?_,aD a1 λg x=>?_,a8,a9.typed.move (λg x=>?_) (λ_ _=>trivial)⟩).more _
  ·rw[δ _ _ _ _ (by show H (A wc)≠b;omega),B.block _ LZ (λi=>b7 i.symm)];exact(θ _ _ _ gL).trans (κ wc _)
  ·rcases a1.2 with⟨q,_⟩|⟨b4,b5,b6,q,_,a0,_⟩
   ·rw[q]at x;cases x
   rw[q]at x;cases x;exact X _ _ _ _ a0 (B9 (B7 I))
  obtain⟨_,N,O,k⟩:=x;exact X g N _ O k (B9 (B9 I))
 suffices hB:C3 b m a from hB.setCell (p:=(α b 0 E)) (A4 _) _
 refine⟨B.os.trans y.os,B.tape.trans y.tape,B.output.trans y.output,Q,λg x=>?_⟩;have:=a2 g Q Q (λi=>cz ((P.lt _ i).1));rw[δ _ _ _ _ (by show g≠b;omega)]at this;exact this.trans (y.block g Q)
theorem Ls{b:Γ}{e:B5}{n:A3 B5}{fns:A3 Fn}(h7:vE b e n fns)(h5:Y fns<=7)(e7:∀e5∈fns,0<=e5.body.size/\e5.body.size<=300){name:Bs}(args:Bs){body:Bs}(i1:Y name<=A7)(h8:Y body<=A7):
  ο Φ 109 #[β (Z (α e 0 E)),φ #[M (D name),M (D args),M (D body)]] b λg v=>acC b e n fns (nI fns name args body) g v:=by
 obtain⟨j2,i0,i9,j0,j1⟩:=E7 ade;obtain⟨t,s,r,S,y,g2,h6,W⟩:=h7;have T:=af S;have R:=Hf y g2 h6 W;have O:∀a:Γ,Bl b a->ο Φ 183 #[β (Z (α e 0 E)),M (D name)] a (RB (ζ (sJ fns name)) a):=
  λa k=>Qu (by have:=k.size;omega) ((aI ((k.block e T).trans S)).trans I) (R.ah k) i1
 have N:∀a:Γ,ο Φ 184 #[M (D args)] a (RB (ζ (fO args)) a):=by
  intro a;have:=Jg (D args) a;rw[ay]at this;exact this
 obtain⟨e6,x⟩:=au (sJ fns name);obtain⟨e3,u⟩:=au (fO args);rw[<-x]at O;rw[<-u]at N;go_enter func109,ntmps109;go_upto_region 1 with fail
 go_cut [5] (λc8 K=>c8=J U (aT [fT (!e6) 2,fT (!e3) 9])/\C3 (H (A (b.alloc (ι #[M (D name),M (D args),M (D body)] 48)))) (b.alloc (ι #[M (D name),M (D args),M (D body)] 48)) K)
 ·clear x u R W y;go_region_with(first
   |(go_at_call 183;refine(O _ ?_).mono ?_;exact(ai b _).drew;rintro g d ⟨rfl,l⟩;replace l:=jy l;have q:=(l.block (H (A b)) ek).trans (κ b _);have j6:=(aI (j:=0) q).trans I;have j7:=(aI (j:=1) q).trans I)
   |(go_at_call 184;refine cB (N _) ?_;rintro e0 c)
   |(go_at_call 122;refine bP eX ?_)
   |(go_at_call 65;refine bP (iU _ _ _) ?_))
  all_goals(go_wp2;go_meet)
  all_goals exact⟨I,(bT l c).alloc (by have:=l.size;have:=c.size;omega) _⟩
 obtain⟨rfl,B⟩:=hcut;obtain⟨a1,m⟩:=au (aT [fT (!e6) 2,fT (!e3) 9]);rw[<-m];have g3:=B.size;simp only[γ]at g3;have e1:Bl b wc:=(ai b _).trans (B.mono ek);have b2:=(B.block (H (A b)) ek).trans (κ b _);by_cases w:a1=0
 ·have e8:=XE (m.symm.trans w);have m4:Y args<=4:=DF (by rw[<-u];exact e8.2);have o:G (nI fns name args body=match dH bL ([],bB args) fns body with| .error f=>.error f| .ok a=>.ok ⟨name,bB args,a⟩):=by
   rw[G,nI,<-x,<-u,<-m,Θ (by simpa using w)]
  subst w;have e2:ο Φ 185 #[M (D args)] wc λg v=>∃c9,g=A0 c9/\(aY v c9 (bB args)/\v.ownsRow (H (A wc)) 3 1 c9 (Y (bB args)) (aA (bB args)))/\Bl wc v:=by
   have:=Cw (D args) wc (by rw[aX];omega);rw[ay]at this;exact this
  have g9:ε wc (α (H (A b)) 1 E)=Z (M (D args)):=aC b2;clear m x u O N B e8;go_wp2_with(go_at_call 185;refine e2.mono ?_);rintro g d ⟨o1,rfl,⟨b8,b9⟩,l⟩;obtain⟨c6,c5,rfl⟩:=b8.form;have n2:=l.size;have a9:Bl b d:=bT e1 l;have q:=(l.block (H (A b)) Q).trans b2;have h0:ε d (α (H (A b)) 0 E)=Z (M (D name)):=aC q;have h1:ε d (α (H (A b)) 2 E)=Z (M (D body)):=aC q;have h2:ε d (α e 0 E)=Z (V t s r):=(aI ((a9.block e T).trans S)).trans I;have z:∀a:Γ,Bl d a->ο Φ 186 #[φ #[V E 0 0,V c6 (Y (bB args)) c5,V t s r],M (D body)] a λg v=>xB a n (dH bL ([],bB args) fns body) g v:=by
   intro a k;have:=oH bL (ps:=([],bB args)) e7 (D body) (by rw[aX];exact h8) (λn8 i5=>Dh i5) a n E 0 0 c6 (Y (bB args)) c5 t s r ⟨ND,b8.ah k,(R.ah a9).ah k⟩;rw[ay]at this;exact this
  have n4:H (A b)<H (A d):=Q;have m7:e<H (A d):=Q;obtain⟨c7,c0⟩:=au (dH bL ([],bB args) fns body);rw[<-c0]at z o;obtain⟨F,c1⟩:=au (bB args);rw[<-c1]at z o b8 b9 ⊢;have n1:∀a,c7=.ok a->0<=a.size/\a.size<=300:=λa k=>yF e7 (c0.symm.trans k);have i6:Y F<=1000:=by rw[c1,bB,E3];omega
  clear c0 c1 e2 g9 b2 g3;go_upto_region 5 with fail
  go_cut [5,7] (λc8 j4 K=>∃(a0:B5) (b1:A3 D6) (f:B1),c8=J U f/\j4=β (Z (α a0 0 E))/\Bl d K/\H (A d)<=a0/\K.heap[a0]? =Z (ι b1.toArray 210 (0,0))/\G ((c7=.error f/\f≠0)\/(∃a,c7=.ok a/\f=0/\dF K n (λi=>H (A d)<=i) b1 a)))
  ·go_region_with(first
    |(go_at_call 186;refine(z _ ?_).mono ?_;exact(A1 (H (A d)) d).drew;intro g e0 C;obtain⟨c,sort,a2,size,quiet,a3,a4,a5,place,head,P,a8,a7,a6,f,rfl,p⟩:=C.form;clear C;replace c:=jy c)
    |(go_at_call 186;refine(z _ ?_).mono ?_;exact(ai d Mw).drew;intro g e0 C;obtain⟨c,sort,a2,size,quiet,a3,a4,a5,place,head,P,a8,a7,a6,f,rfl,p⟩:=C.form;clear C;replace c:=jy c;have g0:=(c.block (H (A d)) ek).trans (κ d Mw);obtain⟨⟨p5,p6,p8,p9,q0,q1,q2,q3,q4,q5,p7⟩,l1,l4,l8,l9,h3,m0,m1,h4,m2,m3,l7⟩:=cZ g0))
   all_goals(go_wp2;go_meet)
   all_goals first
    |(refine⟨H (A e0),[J U sort,J U a2,J U size,ζ quiet,J U a3,J U a4,M (D a5),J U place,M (D head),β P,V a8 a7 a6],f,I,I,c.alloc c.size _,c.size,κ _ _, ?_⟩
      rcases p.out with b3|⟨a,b4,b5,b6⟩
      ·exact B7 b3
      exact B9 ⟨a,b4,b5,b6.bounded.move (λi j=>θ _ _ _ j.2) (λi j=>j.1)⟩)
    |(refine⟨H (A d),[J U sort,J U a2,J U size,ζ quiet,J U a3,J U a4,M (D a5),J U place,M (D head),β P,V a8 a7 a6],f,I,I,bV ((ai d Mw).trans (c.mono ek)) (A4 _),A4 _,OC g0, ?_⟩
      rcases p.out with b3|⟨a,b4,b5,b6⟩
      ·exact B7 b3
      exact B9 ⟨a,b4,b5,b6.move (λi j=>jO (by simp only[C7,γ]at j;omega)) (λi j=>by simp only[C7,γ]at j;omega)⟩)
  obtain⟨a0,b1,f,rfl,rfl,c,m8,g1,p⟩:=hcut;have L:Bl b wc:=bT a9 c;have n3:=c.size;have e4:=(c.block (H (A b)) Q).trans q;have j9:ε wc (α (H (A b)) 0 E)=Z (M (D name)):=aC e4;have b7:=(L.block e T).trans S;obtain⟨k0,h3,_⟩:=nP b7;clear h0 h1 h2 z;rcases p.out with⟨X,m⟩|⟨a,X,rfl,k⟩
  ·have b0:G (nI fns name args body=.error f):=by rw[G,o.out,X]
   have i2:(f==0)=ν:=by simpa using m
   clear p o
   go_wp2
   go_ret;exact B7 ⟨f,b0,m,I,L⟩
  have b0:G (nI fns name args body=.ok ⟨name,F,a⟩):=by rw[G,o.out,X]
  obtain⟨sort,a2,size,quiet,a3,a4,a5,place,head,l0,o3,P,a8,a7,a6,o2,i8,rfl, -, -, -, -, -⟩:=k.inv;obtain⟨⟨o4,o5,o7,o8,o9,p0,p1,p2,p3,p4,o6⟩,k1,k2,q,k4,e4,k5,k6,k7,k8,k9,k3⟩:=cZ g1;have g5:wc.ownsRow (e+1) 203 1 (V t s r) (Y fns) (ED n):=aD y λi j=>L.block i (y.lt i j).2;have g8:∀c3 c4:Obj,((wc.alloc c3).alloc c4).drew.ownsRow (e+1) 203 1 (V t s r) (Y fns) (ED n):=λc3 c4=>World.ownsRow.drew (World.ownsRow.alloc (World.ownsRow.alloc g5 c3) c4);have i3:wc.ownsRow 0 3 1 (V c6 (Y F) c5) (Y F) (aA F):=bY (aD b9 λi j=>c.block i (b9.lt i j).2) λ_ _=>A5 _;have i7:(V t s r).ownBlock≠Z e:=λg=>cz ((y.lt _ g).1);have m9:=af g1;have h9:e<H (A wc):=Q;have n5:H (A b)<H (A wc):=Q;clear p o X i8;go_upto_region 8 with fail
  go_region_law (refine step_append_lies _ I (.tmp 46) (.tmp 53) 191 I (e+1) 203 j2 _ 1 8 underlying191 i0 i9 j0 j1 I ag (V t s r) (Y fns) (ED n) jl (g8 _ _) ⟨H (A wc)+1,0,E⟩ 1 1 [β (Z (α (H (A wc)) 0 E))] jl I (World.news_of_block (yT wc)) (by intro o0 g4;simp at g4;subst g4;rfl) ag fD Q aN (H (A wc)+2) ak ?_;intro h4 j8 j5 i4 e9 m5 n0;have c2:j5.heap[e]? =_:=(e9.block e aN i7.symm).trans ((θ _ _ _ vK).trans ((θ _ _ _ h9).trans b7));have m6:=af c2;obtain⟨n7,n9,_⟩:=nP c2)
  all_goals(go_wp2;go_ret)
  all_goals
   obtain⟨g6,g7⟩:=aaC T g2 h5 W L g5 b7 i6 i3 k i4 e9 c2;exact B9 ⟨_,_,b0,I,g6,g7⟩
 have o:G (nI fns name args body=.error a1):=by
  rw[G,nI,<-x,<-u,<-m,Ψ w]
 have i2:(a1==0)=ν:=by simpa using w
 clear m x u O N B R W y
 go_wp2
 go_ret;exact B7 ⟨a1,o,w,I,e1⟩
abbrev qB:=Bs×Bs×Bs
def ado(k:Fn->C8 B1 (A3 Fn))(o:C8 B1 Fn):C8 B1 (A3 Fn):=match o with
 | .error n=>.error n
 | .ok fn=>k fn
def iy:A3 Fn->A3 qB->C8 B1 (A3 Fn)
 |acc,[]=>.ok acc
 |acc,f::r=>ado (λfn=>iy (acc++ [fn]) r) (nI acc f.1 f.2.1 f.2.2)
theorem Gx{fns}(b:∀w∈fns,0<=w.body.size/\w.body.size<=300)(a:nI fns d O P=.ok w):0<=w.body.size/\w.body.size<=300:=by
 unfold nI at a;split at a
 ·cases a
 split at a
 ·cases a
 next e c=>cases a;exact yF b c
theorem Lt{fns}(a:nI fns d O P=.error o){b}:iy fns ((d,O,P)::b)=.error o:=by rw[iy,a];rfl
theorem Sr{fns}(b:nI fns d O P=.ok w){a}:iy fns ((d,O,P)::a)=iy (fns++ [w]) a:=by rw[iy,b];rfl
theorem vE.ah{w x fns}(j:vE w b f fns)(c:Bl w x):vE x b f fns:=by
 obtain⟨k,l,m,d,e,n,o,p⟩:=j;exact⟨k,l,m,(c.block b (af d)).trans d,aD e λg q=>c.block g (e.lt g q).2,n,o,λi t s a r=>(p i t s a r).ah c⟩
def ik(w:Γ)(v:D6)(fs:A3 qB):Prop:=∃ao cap,v=V ao (Y fs) cap/\Y fs<=A7/\(fs= []\/∃b off,ao=Z ⟨b,off,E⟩/\b<H (A w)/\∀(i:B5) (f:qB),fs[i]? =Z f->
 (ε w ⟨b,off+i*3,E⟩=Z (M (D f.1))/\ε w ⟨b,off+i*3+1,E⟩=Z (M (D f.2.1))/\ε w ⟨b,off+i*3+2,E⟩=Z (M (D f.2.2)))/\Y f.1<=A7/\Y f.2.2<=A7)
theorem uE(d:c≠b):((a.setCell (α b 0 E) j).setCell (α b 1 E) q).heap[c]? =a.heap[c]? :=by
 rw[δ _ _ _ _ d,δ _ _ _ _ d]
end Go.Proofs.YthkeffolmbnkaaaGreatDoor

import Derived.Test.YthkeffolmbnkaaaGreatDoorAtCZ
set_option linter.unusedVariables false
set_option linter.unusedSimpArgs false
set_option maxRecDepth 100000
set_option maxHeartbeats 0
open Array renaming size->V
open Bool renaming true->δ,false->ο
open Go renaming World->ζ,bodyPost_ret->ν,Calls->σ,maxLen->Θ,results->A0,Addr->A5,heap_alloc_new->A7,Value->A8
open Go.Addr renaming mk->D
open Go.Ending renaming returned->η
open Go.IntKind renaming i64->G
open Go.Obj renaming cells->γ
open Go.Proofs.Tryz renaming results61->θ,prog->ρ,f110->ω,ntmps61->Δ,func61->Φ
open Go.Proofs.YthkeffolmbnkaaaGreatDoor renaming ae->Y
open Go.RowKit renaming Hid->Z,ownsRow_setCell_below->A1,Below->A9,intOf->B0
open Go.RowKit.Below renaming refl->ε,heap_alloc->υ
open Go.Value renaming slice->J,int->I,string->Q,pointer->β,agg->μ,bool->ξ,tuple->φ
open Go.World renaming heap->M,cell?->H,size_alloc->τ,ownsRow_nil->Ψ,frozen?->A3
open List renaming length->α,getElem?_eq_getElem->ι,drop_eq_getElem_cons->ψ,drop_of_length_le->Γ
open Option renaming none->U,some->E
open Or renaming inl->Ξ,inr->A6
open _root_ renaming rfl->A,List->κ,Option->χ,Nat->Ω,Int->A2,Except->A4,if_pos->B1,if_neg->B2
namespace Go.Proofs.YthkeffolmbnkaaaGreatDoor
open Go.Proofs.Tryz
open Go.RowKit
variable{B:Act->World->Prop}{t:Bool}{g0:Ending->World->Prop}{p g1 h7:Int}{e:List (aJ×Ex)}{j:List Nat}{q:List aJ}{s:List qB}{c d g k l m u:Nat}{f i n:Option Addr}{r v w z x y C F K L N O P R g2 g3 g4 g5 g6 g7 g8 g9 h0 h1 h2 h3 h4 h5 h6 S T W X a0 a1 a2 a3 a4 a5 a6 a7 a8 a9 b0 b1 b2 b3 b4 b5 b6 b7 b8 b9 c0 c1 c2 c3 c4 c5 c6 c7 c8 c9 e0 e1 e2 e3 e4 e5 e6 e7 e8 e9:Value}{b o:World}{a:aJ}
theorem Jc(s){wc}(q)(j:V (M b)<V (M wc))(i0:H wc (D (V (M b)) 0 U)=E (Q (Y a.name)))(i1:H wc (D (V (M b)) 1 U)=E (J f d c))(i2:H wc (D (V (M b)) 2 U)=E (J i k g))(i3:H wc (D (V (M b)) 3 U)=E (I G a.count))(i4:H wc (D (V (M b)) 4 U)=E (Q (Y a.aR)))(i5:H wc (D (V (M b)) 5 U)=E (J n m l))(h9:∀e:ζ,σ ρ 170 #[Q (Y a.name)] e (RE (ξ δ) e))(h8:∀e:ζ,Bl wc e->σ ρ 187 #[μ #[Q (Y a.name),J f d c,J i k g,I G a.count,Q (Y a.aR),J n m l]] e λu j9=>Bl wc j9/\u=η (ξ t))(g1:∀(i6 i7 v20 v21 i8 i9 j0 j1 j2 j3 j4 j5 j6 j7 j8:A8) (h7:ζ),Bl wc h7->B ⟨#[β (E (D s 0 U)),μ #[Q (Y a.name),J f d c,J i k g,I G a.count,Q (Y a.aR),J n m l],r,β (E (D (V (M b)) 0 U)),v,w,I G q,I G (aT [fT (!δ||(q==0)) 2,fT (!t) 6]),x,y,C,F,K,L,N,O,P,R,i6,i7,v20,v21,i8,i9,j0,j1,j2,j3,j4,j5,j6,j7,j8,S,T,W,X,a0,a1,a2,a3,a4,a5,a6,a7,a8,a9,b0,b1,b2,b3,b4,b5,b6,b7,b8,b9,c0,c1,c2,c3,c4,c5,c6,c7,c8,c9,e0,e1,e2,e3,e4,e5,e6,e7,e8,e9],[]⟩ h7):
  Code.wp ρ (Xb ω) (Exit.then B (bodyPost ρ ω g0)) ⟨#[β (E (D s 0 U)),μ #[Q (Y a.name),J f d c,J i k g,I G a.count,Q (Y a.aR),J n m l],r,β (E (D (V (M b)) 0 U)),v,w,I G q,z,x,y,C,F,K,L,N,O,P,R,g2,g3,g4,g5,g6,g7,g8,g9,h0,h1,h2,h3,h4,h5,h6,S,T,W,X,a0,a1,a2,a3,a4,a5,a6,a7,a8,a9,b0,b1,b2,b3,b4,b5,b6,b7,b8,b9,c0,c1,c2,c3,c4,c5,c6,c7,c8,c9,e0,e1,e2,e3,e4,e5,e6,e7,e8,e9],[]⟩ wc:=by
 conv=>arg 2;whnf
 change Z _ at g1;have k0:∀e:ζ,Bl wc e->H e (D (V (M b)) 0 U)=E (Q (Y a.name))/\H e (D (V (M b)) 1 U)=E (J f d c)/\H e (D (V (M b)) 2 U)=E (J i k g)/\H e (D (V (M b)) 3 U)=E (I G a.count)/\H e (D (V (M b)) 4 U)=E (Q (Y a.aR))/\H e (D (V (M b)) 5 U)=E (J n m l):=λe o=>
  ⟨cK o j i0,cK o j i1,cK o j i2,cK o j i3,cK o j i4,cK o j i5⟩
 go_region_held2 (λe=>H e (D (V (M b)) 0 U)=E (Q (Y a.name))/\H e (D (V (M b)) 1 U)=E (J f d c)/\H e (D (V (M b)) 2 U)=E (J i k g)/\H e (D (V (M b)) 3 U)=E (I G a.count)/\H e (D (V (M b)) 4 U)=E (Q (Y a.aR))/\H e (D (V (M b)) 5 U)=E (J n m l)) (go_keep) (first
  |(go_at_call 170;refine bP (h9 _) ?_)
  |(go_at_call 187;refine(h8 _ ?_).mono ?_;exact(ε _ wc).drew;rintro u k1 ⟨p,rfl⟩;obtain⟨_,_,_,_,_,_⟩:=k0 k1 p)
  |(go_at_call 122;refine bP eX ?_)
  |(go_at_call 65;refine bP (iU _ _ _) ?_))
 all_goals exact g1 _ _ _ _ _ _ _ _ _ _ _ _ _ _ _ _ (by first|exact p.alloc p.size _|exact(p.alloc p.size _).drew)
theorem Jb(s){wc}(q)(j:V (M b)<V (M wc))(i0:H wc (D (V (M b)) 0 U)=E (Q (Y a.name)))(i1:H wc (D (V (M b)) 1 U)=E (J f d c))(i2:H wc (D (V (M b)) 2 U)=E (J i k g))(i3:H wc (D (V (M b)) 3 U)=E (I G a.count))(i4:H wc (D (V (M b)) 4 U)=E (Q (Y a.aR)))(i5:H wc (D (V (M b)) 5 U)=E (J n m l))(h9:∀e:ζ,σ ρ 170 #[Q (Y a.name)] e (RE (ξ ο) e))(h8:∀e:ζ,Bl wc e->σ ρ 187 #[μ #[Q (Y a.name),J f d c,J i k g,I G a.count,Q (Y a.aR),J n m l]] e λu j9=>Bl wc j9/\u=η (ξ t))(g1:∀(i6 i7 v20 v21 i8 i9 j0 j1 j2 j3 j4 j5 j6 j7 j8:A8) (h7:ζ),Bl wc h7->B ⟨#[β (E (D s 0 U)),μ #[Q (Y a.name),J f d c,J i k g,I G a.count,Q (Y a.aR),J n m l],r,β (E (D (V (M b)) 0 U)),v,w,I G q,I G (aT [fT (!ο||(q==0)) 2,fT (!t) 6]),x,y,C,F,K,L,N,O,P,R,i6,i7,v20,v21,i8,i9,j0,j1,j2,j3,j4,j5,j6,j7,j8,S,T,W,X,a0,a1,a2,a3,a4,a5,a6,a7,a8,a9,b0,b1,b2,b3,b4,b5,b6,b7,b8,b9,c0,c1,c2,c3,c4,c5,c6,c7,c8,c9,e0,e1,e2,e3,e4,e5,e6,e7,e8,e9],[]⟩ h7):
  Code.wp ρ (Xb ω) (Exit.then B (bodyPost ρ ω g0)) ⟨#[β (E (D s 0 U)),μ #[Q (Y a.name),J f d c,J i k g,I G a.count,Q (Y a.aR),J n m l],r,β (E (D (V (M b)) 0 U)),v,w,I G q,z,x,y,C,F,K,L,N,O,P,R,g2,g3,g4,g5,g6,g7,g8,g9,h0,h1,h2,h3,h4,h5,h6,S,T,W,X,a0,a1,a2,a3,a4,a5,a6,a7,a8,a9,b0,b1,b2,b3,b4,b5,b6,b7,b8,b9,c0,c1,c2,c3,c4,c5,c6,c7,c8,c9,e0,e1,e2,e3,e4,e5,e6,e7,e8,e9],[]⟩ wc:=by
 conv=>arg 2;whnf
 change Z _ at g1;have k0:∀e:ζ,Bl wc e->H e (D (V (M b)) 0 U)=E (Q (Y a.name))/\H e (D (V (M b)) 1 U)=E (J f d c)/\H e (D (V (M b)) 2 U)=E (J i k g)/\H e (D (V (M b)) 3 U)=E (I G a.count)/\H e (D (V (M b)) 4 U)=E (Q (Y a.aR))/\H e (D (V (M b)) 5 U)=E (J n m l):=λe o=>
  ⟨cK o j i0,cK o j i1,cK o j i2,cK o j i3,cK o j i4,cK o j i5⟩
 first
  |(go_region_with(first
    |(go_at_call 170;refine bP (h9 _) ?_)
    |(go_at_call 187;refine(h8 _ ?_).mono ?_;exact(ε _ wc).drew;rintro u k1 ⟨p,rfl⟩;obtain⟨_,_,_,_,_,_⟩:=k0 k1 p)
    |(go_at_call 122;refine bP eX ?_)
    |(go_at_call 65;refine bP (iU _ _ _) ?_)))
  |fail
 all_goals exact g1 _ _ _ _ _ _ _ _ _ _ _ _ _ _ _ _ (by first|exact p.alloc p.size _|exact(p.alloc p.size _).drew)
theorem Uq(a:aT [p,fT t 5]=0):p=0/\t=ο:=by
 simp only[aT]at a;by_cases b:p=0
 ·subst b;cases t
  ·exact⟨A,A⟩
  revert a;simp[fT]
 exfalso;revert a;simp[b]
theorem MG(a:p≠0):aT [p,g1]=p:=by simp[aT,a]
theorem Qi(a:p=aT [0,fT t 5])(b:p≠0):t=δ/\p=5:=by
 cases t
 ·exfalso;apply b;rw[a];rfl
 exact⟨A,by rw[a];rfl⟩
theorem SL{g:Ω->Prop}{sort size quiet l place head}{a:Ex}(k:dF b j g [I G sort,I G p,I G size,ξ quiet,I G g1,I G h7,Q (Y l),I G place,Q (Y head),β f,J i d c] a):a.ty=p/\a.quiet=quiet:=by
 obtain⟨_,_,_,_,_,_,_,_,_,_,_,_,_,_,_,_,rfl,e,_⟩:=k.inv;simp only[List.cons.injEq,Value.int.injEq,Value.bool.injEq,true_and]at e;exact⟨e.2.1.symm,e.2.2.2.1.symm⟩
theorem acS{a}(d:b.heap[c]? =E (γ #[r,v,w,z,x,y] a (0,0))):
  (H b (D c 0 U)=E r/\H b (D c 1 U)=E v/\H b (D c 2 U)=E w/\H b (D c 3 U)=E z/\H b (D c 4 U)=E x/\H b (D c 5 U)=E y)/\A3 b (D c 0 U)=ο:=by
 simp[H,A3,d]
theorem Ja{fns}(r8:tK o b c j fns e)(c8:α e<=3)(j9:∀p6∈fns,0<=p6.body.size/\p6.body.size<=300)(p7:dC o (J f g d) a.aB)(p8:RowsIn o (J n u m) a.rows)(r9:gD o (J i l k) a.gZ)(s0:α a.name<=Θ)(p9:α a.aR<=Θ):
  σ ρ 110 #[β (E (D c 0 U)),μ #[Q (Y a.name),J f g d,J n u m,I G a.count,Q (Y a.aR),J i l k]] b λs x=>aak o b c j fns e a (dY fns e a) s x:=by
 obtain⟨c0,c1,c2,aS,c3,c4,h3,s1,h4,g3,hF,k0,q0,s2,s3,k1⟩:=r8;have w:=abY h4 k0 q0 s2 k1;have q1:=p7.ah h4;have s4:=p8.ah h4;obtain⟨c9,g4⟩:=au (aW a.name);obtain⟨e0,v⟩:=au (bG a);have q2:=af g3;have g5:0=aT [fT (!c9||(uH e a.name==0)) 2,fT (!e0) 6]->α a.aB<=1000/\∀e1∈a.aB,α e1.1<=1000:=by
  intro r;have X:e0=δ:=by
   cases e0
   ·exfalso;revert r;cases c9<;>cases(uH e a.name==0)<;>decide
   rfl
  rw[X]at v;exact xX (qK v.symm)
 have y:∀p:ζ,σ ρ 170 #[Q (Y a.name)] p (RE (ξ c9) p):=by
  intro p;have:=mH (Y a.name) p (by rw[aX];exact s0);rw[ay]at this;rw[g4];exact this
 obtain⟨e2,e3⟩:=au (uH e a.name);rw[<-e3]at g5;obtain⟨z,q⟩:=au (b.alloc (VX a f g d n u m i l k));have e4:z.heap[c]? =E (γ #[J c0 c1 c2,J aS c3 c4] 194 (0,0)):=by rw[q,υ _ _ _ q2];exact g3
 have b6:Bl b z:=by rw[q];exact ai b _
 have c5:z.heap[V (M b)]? =E (VX a f g d n u m i l k):=by rw[q];exact A7 b _
 obtain⟨h5,_,h6,_⟩:=nP e4;have b7:H z (D (V (M b)) 0 U)=E (Q (Y a.name)):=aC c5;have k2:c<V (M z):=cz b6.size;have s5:V (M z)=V (M b)+1:=by rw[q];simp[τ]
 have B:b.alloc (VX a f g d n u m i l k)=z:=q.symm;have F:∀p:ζ,Bl z p->σ ρ 75 #[μ #[J c0 c1 c2,J aS c3 c4],Q (Y a.name)] p λs x=>Bl z x/\Bl p x/\∃a0 a1 a2 a3 a4 a5 a6 a7 a8 a9 b0 q3 q4 q5 q6 q7 q8,nJ a0 a1 a2 a3 a4 a5 a6 a7 a8 a9 b0 q3 q4 q5 q6 q7 q8/\s=η (φ #[μ #[a0,a1,a2,a3,a4,a5,a6,a7,a8,a9,b0,q3,q4,q5,q6,q7,q8],I G e2]):=by
  intro p t;refine(Jh c0 c1 c2 (w.ah (bT b6 t)) a.name).mono λs x r=>⟨bT t r.1,r.1,by rw[e3];exact r.2⟩
 have h7:V (M b)<V (M z):=aa;change Z _ at e3;change Z _ at g4;have k3:Z _:=v;change Z _ at k1;change Z _ at k0;have s6:Z _:=hF;clear q w;go_enter func110,ntmps110;go_upto_region 1 with fail
 try rw[B]
 clear B;go_cut [6] (λq B=>q=I G e2/\Bl z B)
 ·refine Lx f g d n u m i l k k2 h7 s5 h5 h6 b7 F ?_;intro _ _ _ _ _ _ _ _ _ _ B w;dsimp only
  go_wp2
  go_meet;exact⟨A,w⟩
 obtain⟨rfl,h8⟩:=hcut;have q:=(h8.block (V (M b)) h7).trans c5;have e5:H wc (D (V (M b)) 0 U)=E (Q (Y a.name)):=aC q;have b1:H wc (D (V (M b)) 1 U)=E (J f g d):=aC q;have e6:H wc (D (V (M b)) 2 U)=E (J n u m):=aC q;have e7:H wc (D (V (M b)) 3 U)=E (I G a.count):=aC q;have b2:H wc (D (V (M b)) 4 U)=E (Q (Y a.aR)):=aC q;have e8:H wc (D (V (M b)) 5 U)=E (J i l k):=aC q;have b8:V (M b)<V (M wc):=cz h8.size;have C:∀p:ζ,Bl wc p->σ ρ 187 #[μ #[Q (Y a.name),J f g d,J n u m,I G a.count,Q (Y a.aR),J i l k]] p λs x=>Bl wc x/\s=η (ξ e0):=by
  intro p t;have K:Bl b p:=b6.trans ((bT h8 t).mono b6.size);exact(Nc i l k (q1.ah K) (s4.ah K)).mono λs x r=>⟨bT t r.2,by rw[v];exact r.1⟩
 clear v;have v:∀p:ζ,Bl wc p->H p (D (V (M b)) 0 U)=E (Q (Y a.name))/\H p (D (V (M b)) 1 U)=E (J f g d)/\H p (D (V (M b)) 2 U)=E (J n u m)/\H p (D (V (M b)) 3 U)=E (I G a.count)/\H p (D (V (M b)) 4 U)=E (Q (Y a.aR))/\H p (D (V (M b)) 5 U)=E (J i l k):=λp t=>
  ⟨cK t b8 e5,cK t b8 b1,cK t b8 e6,cK t b8 e7,cK t b8 b2,cK t b8 e8⟩
 go_upto_region 2 with fail
 go_cut [7] (λg6 B=>g6=I G (aT [fT (!c9||(e2==0)) 2,fT (!e0) 6])/\Bl wc B)
 ·cases c9 with
  |true=>
   refine Jc c e2 b8 e5 b1 e6 e7 b2 e8 y C ?_;intro K L v20 v21 N O P R S T W b3 b4 b5 b9 B w;dsimp only
   go_wp2
   go_meet;exact⟨A,w⟩
  |false=>
   refine Jb c e2 b8 e5 b1 e6 e7 b2 e8 y C ?_;intro K L v20 v21 N O P R S T W b3 b4 b5 b9 B w;dsimp only
   go_wp2
   go_meet;exact⟨A,w⟩
 obtain⟨rfl,s7⟩:=hcut;obtain⟨g7,c6⟩:=au (aT [fT (!c9||(e2==0)) 2,fT (!e0) 6]);rw[<-c6];change Z _ at c6;have e9:Bl z wc:=bT h8 s7;clear v C y F e5 b1 e6 e7 b2 e8 q;by_cases h9:g7=0
 ·subst h9;have g8:=(e9.block (V (M b)) h7).trans c5;have b1:H wc (D (V (M b)) 1 U)=E (J f g d):=aC g8;have b2:H wc (D (V (M b)) 4 U)=E (Q (Y a.aR)):=aC g8;obtain⟨q9,_⟩:=nP ((e9.block c k2).trans e4);have r0:V (M b)<V (M wc):=cz e9.size;have s8:c<V (M wc):=aa;have r1:Bl b wc:=bT b6 e9;generalize q:wc=wo at*;clear q;obtain⟨i0,k4⟩:=au (a.aB.map (bD [114,111,119]));obtain⟨g0,k5⟩:=au (dH bL (i0,[]) fns a.aR);have l1:∀p:ζ,Bl wo p->σ ρ 188 #[Q ⟨#[114,111,119]⟩,J f g d] p λs x=>∃S T W,s=η (J S T W)/\gN x (J S T W) i0/\Bl p x/\Bl wo x:=by
   intro p t;have q:Bl b p:=bT r1 t;refine(Vb [114,111,119] ak (q1.ah q) (g5 c6).1 (g5 c6).2).mono λs x r=>?_;obtain⟨S,T,W,C,X,c8⟩:=r;exact⟨S,T,W,C,by rw[k4];exact X,c8,bT t c8⟩
  have l4:∀(p:ζ) (S:χ A5) (T W:Ω),gN p (J S T W) i0->Bl wo p->σ ρ 186 #[μ #[J S T W,J U 0 0,J c0 c1 c2],Q (Y a.aR)] p λs x=>(Bl p x/\Bl wo x)/\∃a0 a1 a2 a3 a4 a5 a6 a7 a8 a9 b0 v,(a0.oneCell'=δ/\a1.oneCell'=δ/\a2.oneCell'=δ/\a3.oneCell'=δ/\a4.oneCell'=δ/\a5.oneCell'=δ/\a6.oneCell'=δ/\a7.oneCell'=δ/\a8.oneCell'=δ/\a9.oneCell'=δ/\b0.oneCell'=δ)/\s=η (φ #[μ #[a0,a1,a2,a3,a4,a5,a6,a7,a8,a9,b0],I G v])/\Z (∃sort y size quiet F K L place head N O P R,[a0,a1,a2,a3,a4,a5,a6,a7,a8,a9,b0]= [I G sort,I G y,I G size,ξ quiet,I G F,I G K,Q (Y L),I G place,Q (Y head),β N,J O P R]/\((g0=.error v/\v≠0)\/(∃w,g0=.ok w/\v=0/\dF x j (λq=>V (M p)<=q) [a0,a1,a2,a3,a4,a5,a6,a7,a8,a9,b0] w))):=by
   intro p S T W i1 t;have:=oH bL (ps:=(i0,[])) j9 (Y a.aR) (by rw[aX];exact p9) (λs9 i2=>Dh i2) p j S T W U 0 0 c0 c1 c2 ⟨i1,⟨U,0,A,ak,Ξ A⟩,(hF.ah (bT r1 t))⟩;rw[ay,<-k5]at this;refine this.mono λs x r=>?_;obtain⟨b3,sort,y,size,quiet,F,K,L,place,head,N,O,P,R,v,rfl,g1⟩:=r.form;exact⟨⟨b3,bT t b3⟩,_,_,_,_,_,_,_,_,_,_,_,v,⟨A,A,A,A,A,A,A,A,A,A,A⟩,A,sort,y,size,quiet,F,K,L,place,head,N,O,P,R,A,g1⟩
  change Z _ at k4;change Z _ at k5;go_upto_region 5 with fail
  go_cut [7,8] (λg6 b3 B=>∃(g2:Ω) (e1:κ A8) (v:A2),g6=I G v/\b3=β (E (D g2 0 U))/\Bl wo B/\V (M wo)<=g2/\B.heap[g2]? =E (γ e1.toArray 210 (0,0))/\Z (∃sort y size quiet F K L place head N O P R,e1= [I G sort,I G y,I G size,ξ quiet,I G F,I G K,Q (Y L),I G place,Q (Y head),β N,J O P R]/\((g0=.error v/\v≠0)\/(∃w,g0=.ok w/\v=0/\dF B j (λq=>V (M wo)<=q) e1 w))))
  ·have k6:∀p:ζ,Bl wo p->H p (D (V (M b)) 1 U)=E (J f g d)/\H p (D (V (M b)) 4 U)=E (Q (Y a.aR))/\H p (D c 0 U)=E (J c0 c1 c2):=λp t=>⟨cK t r0 b1,cK t r0 b2,cK t s8 q9⟩;clear e4 g3 c5 h5 h6 b7 g8 g5 hF j9 c6 e3 g4 k3;go_region_held2 (λp=>H p (D (V (M b)) 1 U)=E (J f g d)/\H p (D (V (M b)) 4 U)=E (Q (Y a.aR))/\H p (D c 0 U)=E (J c0 c1 c2)) (go_keep) (first
    |(go_at_call 188;refine(l1 _ ?_).mono ?_;(first|exact(ε _ wo).drew|exact(ai wo _).drew);rintro s b9 ⟨S,T,W,rfl,i1,n9,b3⟩;obtain⟨j6,j7,j8⟩:=k6 b9 b3)
    |(go_at_call 186;refine(l4 _ _ _ _ ?_ ?_).mono ?_;(first|exact i1|exact i1.ah (ai _ _));(first|exact b3|exact b3.alloc b3.size _);rintro s b4 ⟨⟨l8,c7⟩,a0,a1,a2,a3,a4,a5,a6,a7,a8,a9,b0,v,⟨i5,i6,i8,i9,j0,j1,j2,j3,j4,j5,i7⟩,rfl,g1⟩;
      (first
       |(have l9:=acK n9 l8;have h2:=l9.1;obtain⟨m9,n1,n2,n3,n4,n5,n6,n7,n8,n0,b5,k9,l0,m1,m2,m3,m4,m5,m6,m7,m8,m0,k8,h1,h0⟩:=wG (P:=ρ) h2 i5 i6 i8 i9 j0 j1 j2 j3 j4 j5 i7;have i3:Bl wo b5:=h0 _ _ (Nat.le_refl _) c7;have i4:Z (∀q,V (M b9)<=q->q<V (M b4)->b5.heap[q]? =b4.heap[q]?):=(λq C _=>h1 q (λs=>cz l9.2));have g9:Z (V (M wo)<=V (M wo)/\V (M wo)<=V (M b9)):=⟨Nat.le_refl _,b3.size⟩)
       |(have h2:=acL l8;obtain⟨m9,n1,n2,n3,n4,n5,n6,n7,n8,n0,b5,k9,l0,m1,m2,m3,m4,m5,m6,m7,m8,m0,k8,h1,h0⟩:=wG (P:=ρ) h2 i5 i6 i8 i9 j0 j1 j2 j3 j4 j5 i7;have i3:Bl wo b5:=h0 _ _ b3.size c7;have i4:Z (∀q,V (M b9)+1<=q->q<V (M b4)->b5.heap[q]? =b4.heap[q]?):=(λq C _=>h1 q (λs=>aa));have g9:Z (V (M wo)<=V (M b9)/\V (M wo)<=V (M b9)+1):=⟨b3.size,Nat.le_succ_of_le b3.size⟩)
       |(have h2:=A7 b4 Mw;obtain⟨m9,n1,n2,n3,n4,n5,n6,n7,n8,n0,b5,k9,l0,m1,m2,m3,m4,m5,m6,m7,m8,m0,k8,h1,h0⟩:=wG (P:=ρ) h2 i5 i6 i8 i9 j0 j1 j2 j3 j4 j5 i7;have i3:Bl wo b5:=h0 _ _ c7.size (c7.alloc c7.size _);have i4:Z (∀q,V (M b9)<=q->q<V (M b4)->b5.heap[q]? =b4.heap[q]?):=(λq _ X=>(h1 q (λs=>aa)).trans (υ _ _ _ X));have g9:Z (V (M wo)<=V (M b4)/\V (M wo)<=V (M b9)):=⟨c7.size,b3.size⟩));
      obtain⟨u0,u1,_⟩:=k6 b4 c7;obtain⟨_,_,_⟩:=k6 b5 i3))
   all_goals(go_wp2;go_meet)
   all_goals
    refine⟨_,[a0,a1,a2,a3,a4,a5,a6,a7,a8,a9,b0],v,A,A,i3,g9.1,k8, ?_⟩;obtain⟨sort,y,size,quiet,F,K,L,place,head,N,O,P,R,o0,r⟩:=g1.out;refine⟨sort,y,size,quiet,F,K,L,place,head,N,O,P,R,o0, ?_⟩;rcases r with r|⟨w,C,X,c8⟩
    ·exact Ξ r
    exact A6 ⟨w,C,X,Xv c8 (by first|exact i4|(intro q k7;exact i4 q (by simpa[τ]using k7))) (by first|exact g9.2|simpa[τ]using g9.out.2)⟩
  obtain⟨g2,e1,v,rfl,rfl,u2,_,c7,g1⟩:=hcut;obtain⟨sort,y,size,quiet,F,K,L,place,head,N,O,P,R,rfl,h0⟩:=g1.out;change Z _ at h0;clear g1 l1 l4;generalize b3:wc=w5 at*;clear b3;have r2:Bl z w5:=bT e9 u2;have v8:Bl b w5:=bT b6 r2;obtain⟨⟨j6,j7,j8,i4,k6,k8,l1,l4,l7,l8,l9⟩,_⟩:=cZ c7;have u3:=af c7;obtain⟨b4,b3⟩:=au (!(y==3)|| !quiet);go_upto_region 6 with fail
  go_cut [7] (λg6 B=>g6=I G (aT [v,fT b4 5])/\Bl w5 B)
  ·have g6:∀b5:A2,σ ρ 65 #[J (E (D (V (M w5)) 0 U)) 2 2] (w5.alloc (γ #[I G v,I G b5] 68)) λs x=>s=η (I G (aT [v,b5]))/\x=w5.alloc (γ #[I G v,I G b5] 68):=λb5=>iU w5 v b5;clear c7 b1 b2 q9 e4 g3 c5 h5 h6 b7 g8;by_cases b9:y=3
   ·subst b9
    cases quiet with
    |true=>
     obtain rfl:b4=ο:=by rw[b3];rfl
     clear b3;go_wp2_with(first
      |(go_at_call 122;refine bP eX ?_)
      |(go_at_call 65;refine(g6 _).mono ?_;rintro s B ⟨rfl,rfl⟩))
     go_meet;exact⟨A,ai _ _⟩
    |false=>
     obtain rfl:b4=δ:=by rw[b3];rfl
     clear b3;go_wp2_with(first
      |(go_at_call 122;refine bP eX ?_)
      |(go_at_call 65;refine(g6 _).mono ?_;rintro s B ⟨rfl,rfl⟩))
     go_meet;exact⟨A,ai _ _⟩
   have g9:(y==3)=ο:=by simpa using b9
   obtain rfl:b4=δ:=by rw[b3,g9];rfl
   have h1:(y != 3)=δ:=by simpa using b9
   clear b3 b9 g9;go_wp2_with(first
    |(go_at_call 122;refine bP eX ?_)
    |(go_at_call 65;refine(g6 _).mono ?_;rintro s B ⟨rfl,rfl⟩))
   go_meet;exact⟨A,ai _ _⟩
  obtain⟨rfl,h1⟩:=hcut;change Z _ at b3;clear j6 j7 j8 i4 k6 k8 l1 l4 l7 l8 l9;generalize b5:wc=B at*;clear b5;have h2:Bl z B:=bT r2 h1;have i1:Bl b B:=bT b6 h2;have m0:aT [fT (!aW a.name||(uH e a.name==0)) 2,fT (!bG a) 6]=0:=by
   rw[<-e3.out,<-g4.out,<-k3.out];exact c6.symm
  have g6:dY fns e a=Kk g0:=by
   rw[dY,m0,B2 ag,k5.out,k4.out]
  obtain⟨b5,b9⟩:=au (aT [v,fT b4 5]);rw[<-b9];by_cases C:b5=0
  ·have u4:v=0/\b4=ο:=Uq (b9.symm.trans C);obtain⟨rfl,rfl⟩:=u4;obtain⟨w,i3,g9⟩:∃w,g0=.ok w/\dF w5 j (λq=>V (M wo)<=q) [I G sort,I G y,I G size,ξ quiet,I G F,I G K,Q (Y L),I G place,Q (Y head),β N,J O P R] w:=by
    rcases h0.out with⟨_,r⟩|⟨w,C,_,X⟩
    ·exact absurd A r
    exact⟨w,C,X⟩
   have r:w.ty=y/\w.quiet=quiet:=SL g9;have u5:Z (dY fns e a=.ok w):=by
    rw[Z,g6,i3,Kk,r.1,r.2,<-b3.out];rfl
   have r3:dF B j (λq=>V (M wo)<=q) [I G sort,I G y,I G size,ξ quiet,I G F,I G K,Q (Y L),I G place,Q (Y head),β N,J O P R] w:=g9.ah h1;have m3:=(h2.block (V (M b)) h7).trans c5;obtain⟨⟨e5,b1,e6,e7,b2,e8⟩,_⟩:=acS m3;have m4:=(h1.block g2 u3).trans c7;obtain⟨⟨j6,j7,j8,i4,k6,k8,l1,l4,l7,l8,l9⟩,_⟩:=cZ m4;have r4:=(h2.block c k2).trans e4;obtain⟨_,_,_,_⟩:=nP r4;have X:b.ownsRow (c+1) 235 17 (J aS c3 c4) (α e) (dz h3):=k0.out;have m1:B.ownsRow (c+1) 235 17 (J aS c3 c4) (α e) (dz h3):=aD X λq k7=>i1.block q (X.lt q k7).2;have u6:∀m2:Obj,(B.alloc m2).drew.ownsRow (c+1) 235 17 (J aS c3 c4) (α e) (dz h3):=λm2=>World.ownsRow.drew (World.ownsRow.alloc m1 m2);have u7:(J aS c3 c4).ownBlock≠E c:=λs=>cz ((m1.lt _ s).1);have u8:c<V (M B):=cz i1.size;have v9:V (M b)<V (M B):=cz h2.size;have w0:g2<V (M B):=cz h1.size;change Z _ at r3;have r5:Z _:=r4;obtain⟨u9,v0,v1,v2,v3⟩:=info_parts SI;subst C;clear X b9 g6 m0 g9 i3 r c7 m4 m3 e4 g3 c5 h5 h6 b7 g5 hF j9 h0 p9 g8;obtain⟨b7,X⟩:∃r,Z (r=Q (Y a.name)):=⟨_,A⟩;rw[<-X.out]at e5;have i5:b7.oneCell'=δ:=by rw[X.out];rfl
   obtain⟨m3,m4⟩:∃r,Z (r=J f g d):=⟨_,A⟩;rw[<-m4.out]at b1;have i6:m3.oneCell'=δ:=by rw[m4.out];rfl
   obtain⟨m5,m6⟩:∃r,Z (r=J n u m):=⟨_,A⟩;rw[<-m6.out]at e6;have i8:m5.oneCell'=δ:=by rw[m6.out];rfl
   obtain⟨m7,m8⟩:∃r,Z (r=I G a.count):=⟨_,A⟩;rw[<-m8.out]at e7;have i9:m7.oneCell'=δ:=by rw[m8.out];rfl
   obtain⟨m9,n0⟩:∃r,Z (r=Q (Y a.aR)):=⟨_,A⟩;rw[<-n0.out]at b2;have j0:m9.oneCell'=δ:=by rw[n0.out];rfl
   obtain⟨n1,n2⟩:∃r,Z (r=J i l k):=⟨_,A⟩;rw[<-n2.out]at e8;have j1:n1.oneCell'=δ:=by rw[n2.out];rfl
   obtain⟨n3,n4⟩:∃r,Z (r=I G sort):=⟨_,A⟩;rw[<-n4.out]at j6;have j2:n3.oneCell'=δ:=by rw[n4.out];rfl
   obtain⟨n5,n6⟩:∃r,Z (r=I G y):=⟨_,A⟩;rw[<-n6.out]at j7;have j3:n5.oneCell'=δ:=by rw[n6.out];rfl
   obtain⟨n7,n8⟩:∃r,Z (r=I G size):=⟨_,A⟩;rw[<-n8.out]at j8;have j4:n7.oneCell'=δ:=by rw[n8.out];rfl
   obtain⟨n9,o0⟩:∃r,Z (r=ξ quiet):=⟨_,A⟩;rw[<-o0.out]at i4;have j5:n9.oneCell'=δ:=by rw[o0.out];rfl
   obtain⟨o1,o2⟩:∃r,Z (r=I G F):=⟨_,A⟩;rw[<-o2.out]at k6;have i7:o1.oneCell'=δ:=by rw[o2.out];rfl
   obtain⟨o3,o4⟩:∃r,Z (r=I G K):=⟨_,A⟩;rw[<-o4.out]at k8;have w1:o3.oneCell'=δ:=by rw[o4.out];rfl
   obtain⟨o5,o6⟩:∃r,Z (r=Q (Y L)):=⟨_,A⟩;rw[<-o6.out]at l1;have w2:o5.oneCell'=δ:=by rw[o6.out];rfl
   obtain⟨o7,o8⟩:∃r,Z (r=I G place):=⟨_,A⟩;rw[<-o8.out]at l4;have w3:o7.oneCell'=δ:=by rw[o8.out];rfl
   obtain⟨o9,p0⟩:∃r,Z (r=Q (Y head)):=⟨_,A⟩;rw[<-p0.out]at l7;have w4:o9.oneCell'=δ:=by rw[p0.out];rfl
   obtain⟨p1,p2⟩:∃r,Z (r=β N):=⟨_,A⟩;rw[<-p2.out]at l8;have w6:p1.oneCell'=δ:=by rw[p2.out];rfl
   obtain⟨p3,p4⟩:∃r,Z (r=J O P R):=⟨_,A⟩;rw[<-p4.out]at l9;have w7:p3.oneCell'=δ:=by rw[p4.out];rfl
   go_upto_region 9 with fail
   go_region_law (refine step_append_lies _ A (.tmp 69) (.tmp 73) 192 A (c+1) 235 u9 _ 17 232 underlying192 v0 v1 v2 v3 A ag (J aS c3 c4) (α e) (dz h3) jl (u6 _) (D (V (M B)) 0 U) 1 1 [b7,m3,m5,m7,m9,n1,n3,n5,n7,n9,o1,o3,o5,o7,o9,p1,p3] jl A (World.news_of_block (bS B)) (by intro s9 i2;simp only[List.mem_cons,List.not_mem_nil,or_false]at i2;rcases i2 with rfl|rfl|rfl|rfl|rfl|rfl|rfl|rfl|rfl|rfl|rfl|rfl|rfl|rfl|rfl|rfl|rfl<;>assumption) ag fD aa aN (V (M B)+1) ak ?_;intro _ _ v7 r7 r6 _ _;have p5:v7.heap[c]? =_:=(r6.block c aN u7.symm).trans ((υ _ _ _ u8).trans r5);have w8:=af p5;obtain⟨k9,u0,l0,u1⟩:=nP p5)
   all_goals(go_wp2;go_ret)
   all_goals
    have v6: [b7,m3,m5,m7,m9,n1,n3,n5,n7,n9,o1,o3,o5,o7,o9,p1,p3]=(dK.arr ⟨a.name,f,g,d,n,u,m,a.count,a.aR,i,l,k,sort,y,size,quiet,F,K,L,place,head,N,O,P,R⟩).toList:=by
     rw[X.out,m4.out,m6.out,m8.out,n0.out,n2.out,n4.out,n6.out,n8.out,o0.out,o2.out,o4.out,o6.out,o8.out,p0.out,p2.out,p4.out]
    rw[v6]at r7;obtain⟨v4,v5⟩:=abX (r:=⟨a.name,f,g,d,n,u,m,a.count,a.aR,i,l,k,sort,y,size,quiet,F,K,L,place,head,N,O,P,R⟩) s1 h4 q2 i1 r5 s6 m1 q0 c8 s3 k1 ⟨A,A,A,p7,p8,r9⟩ r3 r7 r6 p5;exact A6 ⟨w,u5,A,v4,v5⟩
  have q:Z (dY fns e a=.error b5):=by
   rcases h0.out with⟨X,i2⟩|⟨w,i3,rfl,g9⟩
   ·have:b5=v:=by rw[b9];exact MG i2
    rw[Z,g6,X,this];rfl
   obtain⟨i5,i6⟩:w.ty=y/\w.quiet=quiet:=SL g9;have r:b4=δ/\b5=5:=Qi b9 C;rw[Z,g6,i3,Kk,i5,i6,<-b3.out,r.1,r.2];rfl
  have r:(b5==0)=ο:=by simpa using C
  clear b9 g6 m0
  go_wp2
  go_ret;exact Ξ ⟨b5,q,C,A,i1⟩
 have w:(g7==0)=ο:=by simpa using h9
 have r:=True.intro;have v:Bl b wc:=bT b6 e9;have q:Z (dY fns e a=.error g7):=by
  have s:aT [fT (!aW a.name||(uH e a.name==0)) 2,fT (!bG a) 6]=g7:=by
   rw[c6.out,e3.out,g4.out,k3.out]
  rw[Z,dY,s,B1 h9]
 clear r
 go_wp2
 go_ret;exact Ξ ⟨g7,q,h9,A,v⟩
def Gt(w:ζ)(b o:Ω)(t:aJ):Prop:=∃(co:χ A5) (cn cc:Ω) (ro:χ A5) (rn rc:Ω) (uo:χ A5) (un uc:Ω),
 (H w ⟨b,o,U⟩=E (Q (Y t.name))/\H w ⟨b,o+1,U⟩=E (J co cn cc)/\H w ⟨b,o+2,U⟩=E (J ro rn rc)/\H w ⟨b,o+3,U⟩=E (I G t.count)/\H w ⟨b,o+4,U⟩=E (Q (Y t.aR))/\H w ⟨b,o+5,U⟩=E (J uo un uc))/\
 dC w (J co cn cc) t.aB/\RowsIn w (J ro rn rc) t.rows/\gD w (J uo un uc) t.gZ/\α t.name<=Θ/\α t.aR<=Θ
def kV(w:ζ)(v:A8)(ts:κ aJ):Prop:=∃ao cap,v=J ao (α ts) cap/\α ts<=Θ/\(ts= []\/∃b off,ao=E ⟨b,off,U⟩/\b<V (M w)/\∀(i:Ω) (t:aJ),ts[i]? =E t->Gt w b (off+i*6) t)
theorem Gt.ah{w x}(f:Gt w d c a)(g:d<V (M w))(e:Bl w x):Gt x d c a:=by
 obtain⟨i,j,k,l,m,n,o,q,r,⟨s,t,u,v,y,z⟩,B,C,F,f⟩:=f;have b:∀c,H x (D d c U)=H w (D d c U):=λc=>e.cell (p:=(D d c U)) g;exact⟨i,j,k,l,m,n,o,q,r,⟨(b _).trans s,(b _).trans t,(b _).trans u,(b _).trans v,(b _).trans y,(b _).trans z⟩,B.ah e,C.ah e,F.ah e,f⟩
theorem kV.ah{w x v}(a:kV w v q)(b:Bl w x):kV x v q:=by
 obtain⟨c,cap,d,e,f⟩:=a;refine⟨c,cap,d,e, ?_⟩;rcases f with a|⟨g,j,k,l,m⟩
 ·exact Ξ a
 exact A6 ⟨g,j,k,cz b.size,λi o n=>(m i o n).ah l b⟩
def kD(fns:κ Fn):κ (aJ×Ex)->κ aJ->A4 A2 (κ (aJ×Ex))
 |acc,[]=>.ok acc
 |acc,t::r=>match dY fns acc t with
  | .error n=>.error n
  | .ok x=>kD fns (acc++ [(t,x)]) r
def Si(fns:κ Fn)(o:A4 A2 (κ (aJ×Ex))):A4 A2 (κ Fn×κ (aJ×Ex)):=match o with
 | .error n=>.error n
 | .ok tt=>.ok (fns,tt)
def eG(fs:κ qB)(ts:κ aJ):A4 A2 (κ Fn×κ (aJ×Ex)):=
 if 8<α fs\/4<α ts then .error 9 else
 match iy [] fs with
 | .error n=>.error n
 | .ok fns=>Si fns (kD fns [] ts)
theorem Ir(c:α s<=8)(b:α q<=4)(a:iy [] s=.error p):eG s q=.error p:=by
 rw[eG,B2 aa,a]
theorem uy{fns}(c:α s<=8)(b:α q<=4)(a:iy [] s=.ok fns):eG s q=Si fns (kD fns [] q):=by
 rw[eG,B2 aa,a]
theorem tK.ah{w x fns}(p:tK b w c j fns e)(d:Bl w x):tK b x c j fns e:=by
 obtain⟨q,r,s,aS,t,u,v,y,z,f,B,g,C,F,K,k⟩:=p;exact⟨q,r,s,aS,t,u,v,y,bT z d,(d.block c (af f)).trans f,B.ah d,aD g λl L=>d.block l (g.lt l L).2,C,F,K,λi n o a m=>⟨(k i n o a m).1,(k i n o a m).2.ah d⟩⟩
theorem PP{wr fns}(a:vE wr c j fns)(e:V (M b)<=c)(d:Bl b wr):tK b wr c j fns []:=by
 obtain⟨f,g,i,k,l,m,n,o⟩:=a;exact⟨f,g,i,U,0,0,[],e,d,k,Hf l m n o,Ψ _ _ _ _,A,ak,λ_=>rfl,λ_ _ _ p=>by simp at p⟩
def Bv(w0 w:ζ)(FB:κ Ω)(v:A8)(ts:κ (aJ×Ex)):Prop:=∃ao cap,v=J ao (α ts) cap/\α ts<=1000/\(ts= []\/∃b cur fz,ao=E ⟨b,0,U⟩/\w.heap[b]? =E (γ cur 235 fz)/\∀(i:Ω) (te:aJ×Ex),ts[i]? =E te->∃r:dK,yQ w b i r/\qU w0 r te.1/\dF w FB (λ_=>True) r.ex te.2)
theorem Bv.bI{v}(a:Bv o b j v e)(c:Bl o b):dA b j v e:=by
 obtain⟨d,cap,f,g,k⟩:=a;refine⟨d,cap,f,g, ?_⟩;rcases k with a|⟨l,_,_,m,n,p⟩
 ·exact Ξ a
 refine A6 ⟨l,m,af n,λi r q=>?_⟩;obtain⟨s,t,u,w⟩:=p i r q;exact⟨s,t,u.full c w⟩
theorem Bv.other{w0 x:ζ}(d:Bv w0 b j r e){n o}(k:b.heap[c]? =E (γ n 194 o))(f:∀g,g≠c->x.heap[g]? =b.heap[g]?):Bv w0 x j r e:=by
 obtain⟨p,cap,q,s,t⟩:=d;refine⟨p,cap,q,s, ?_⟩;rcases t with d|⟨g,u,v,a,i,w⟩
 ·exact Ξ d
 have l:g≠c:=λa=>by subst a;rw[k]at i;cases i
 refine A6 ⟨g,u,v,a,(f g l).trans i,λz B y=>?_⟩;obtain⟨C,F,K,L⟩:=w z B y;refine⟨C,F.ah λN=>World.cell?_of_block (w:=b) (a:=(D g N U)) (f g l),K,L.typed.move (λO P=>?_) (λ_ _=>trivial)⟩;obtain⟨_,_,_,m⟩:=P;refine f O λa=>?_;subst a;rw[k]at m;cases m
theorem ZL{w0 bb aS raws}(m:b.ownsRow (bb+1) 235 17 (J aS d c) (α e) (dz raws))(x:α raws=α e)(w:α e<=4)(r:∀(f:Ω) (k:dK) (g:aJ×Ex),raws[f]? =E k->e[f]? =E g->qU w0 k g.1/\dF b j (λ_=>True) k.ex g.2):Bv w0 b j (J aS d c) e:=by
 rcases m.2 with⟨l,n⟩|⟨o,cap,_,l,_,s,_⟩
 ·cases l;exact⟨U,0,by rw[n],aa,Ξ (List.length_eq_zero_iff.mp n)⟩
 cases l;refine⟨_,_,A,aa,A6 ⟨o,_,_,A,s,λf g p=>?_⟩⟩;have:=(List.getElem?_eq_some_iff.mp p).1;have q:raws[f]? =E raws[f]:=ι aa;obtain⟨t,u⟩:=r f _ g q p;have a:∀i,i<17->H b ⟨o,f*17+i,U⟩=raws[f].arr[i]? :=λi v=>(m.cellAt _ aa).trans (nC raws f _ i q v);exact⟨raws[f],⟨a 0 aa,a 1 aa,a 2 aa,a 3 aa,a 4 aa,a 5 aa,a 6 aa,a 7 aa,a 8 aa,a 9 aa,a 10 aa,a 11 aa,a 12 aa,a 13 aa,a 14 aa,a 15 aa,a 16 aa⟩,t,u⟩
def Ll(w0 w:ζ)(o:A4 A2 (κ Fn×κ (aJ×Ex)))(e:Ending)(w':ζ):Prop:=A9 (V (M w)) w w'/\
 ((∃n:A2,o=.error n/\n≠0/\e=η (φ #[μ #[J U 0 0,J U 0 0],I G n]))\/
  (∃(fns:κ Fn) (tt:κ (aJ×Ex)) (FB:κ Ω) (fo:χ A5) (fnn fc:Ω) (aS:χ A5) (tn tc:Ω),o=.ok (fns,tt)/\e=η (φ #[μ #[J fo fnn fc,J aS tn tc],I G 0])/\kF w' FB (J fo fnn fc) fns/\Bv w0 w' FB (J aS tn tc) tt/\∀fn∈fns,0<=fn.body.size/\fn.body.size<=300))
theorem TZ{fns}(q:tK o b d j fns e)(m:b.heap[c]? =E (γ #[J U 0 0,J U 0 0] 194 (0,0)))(O:c<d)(N:V (M o)<=c):
  ∃(g:χ A5) (f a:Ω) (aS:χ A5) (k i:Ω),b.heap[d]? =E (γ #[J g f a,J aS k i] 194 (0,0))/\
   kF ((b.setCell (D c 0 U) (J g f a)).setCell (D c 1 U) (J aS k i)) j (J g f a) fns/\Bv o ((b.setCell (D c 0 U) (J g f a)).setCell (D c 1 U) (J aS k i)) j (J aS k i) e:=by
 obtain⟨g,f,a,aS,k,i,n,_,_,r,s,t,u,v,_,w⟩:=q;refine⟨g,f,a,aS,k,i,r,s.other m (by simp[World.setCell]) (λp l=>uE l), ?_⟩;refine ZL (w0:=o) (bb:=d) (raws:=n) ?_ u v λz B C x y=>?_
 ·exact A1 (A1 t (by show c<d+1;omega) _) (by show c<d+1;omega) _
 obtain⟨F,K⟩:=w z B C x y;refine⟨F,K.typed.move (λp l=>?_) (λ_ _=>trivial)⟩;obtain⟨_,_,_,p⟩:=l;refine uE λL=>?_;subst L;rw[m]at p;cases p
theorem Cx{F a}(b6:Bl F a){b}(b9:α b<=8){a4}(j3:ik a a4 b){d}(b8:α d<=4){w h5 C}(j4:kV F (J w h5 C) d):
  σ ρ 61 #[μ #[a4,J w h5 C]] a λb5 k4=>Ll F a (eG b d) b5 k4:=by
 obtain⟨b0,cap,rfl,m2,c8⟩:=j3;obtain⟨m5,KP,i7,m3,h1⟩:=j4
 cases i7;have c9:Z _:=h1;have g2:=b6.size;clear h1;have l9:decide ((8:A2)<(α b:A2))=ο:=aN;have l8:decide ((4:A2)<(α d:A2))=ο:=aN;go_enter Φ,Δ;go_wp2_with fail;go_loopw [25] (λz wr=>∃(c:Ω) (O:κ Ω) (g:κ Fn),c<=α b/\z=I G c/\α g=c/\vE wr (V (M a)+2) O g/\(∀t∈g,0<=t.body.size/\t.body.size<=300)/\Z (iy [] b=iy g (b.drop c))/\
   A9 (V (M a)+2) (((a.alloc (γ #[J b0 (α b) cap,J w (α d) C] 67)).alloc (γ #[J U 0 0,J U 0 0] 194)).alloc (γ #[J U 0 0,J U 0 0] 194)) wr) (λz _=>α b-(B0 z).toNat)
 case atStart=>exact⟨0,[],[],Nat.zero_le _,A,A,⟨U,0,0,(jF (ε _ _)).2.2.1,Ψ _ _ _ _,A,ak,λc h2 t i=>by simp at i⟩,λt i=>by simp at i,A,ε _ _⟩
 obtain⟨c,O,g,m0,rfl,i6,T,a3,n,u⟩:=hrel;have l1:V (M a)+2<V (M wr):=by obtain⟨_,_,_,b7,_⟩:=T;exact af b7
 have X:=qE a (γ #[J b0 (α b) cap,J w (α d) C] 67) (γ #[J U 0 0,J U 0 0] 194) (γ #[J U 0 0,J U 0 0] 194);have b1:wr.heap[V (M a)+1]? =E (γ #[J U 0 0,J U 0 0] 194 (0,0)):=(u.block _ aa).trans (jF (ε _ _)).2.1;have c1:wr.heap[V (M a)]? =E (γ #[J b0 (α b) cap,J w (α d) C] 67 (0,0)):=(u.block _ aa).trans (jF (ε _ _)).1;by_cases y:c<α b
 ·obtain⟨e,p,rfl,c5,a0⟩:∃e p,b0=E (D e p U)/\e<V (M a)/\∀(c:Ω) (l:qB),b[c]? =E l->(H a ⟨e,p+c*3,U⟩=E (Q (Y l.1))/\H a ⟨e,p+c*3+1,U⟩=E (Q (Y l.2.1))/\H a ⟨e,p+c*3+2,U⟩=E (Q (Y l.2.2)))/\α l.1<=Θ/\α l.2.2<=Θ:=by
   rcases c8 with i|i
   ·subst i;simp at y
   exact i
  obtain⟨⟨P,R,S⟩,c6,c7⟩:=a0 c b[c] (ι y);have k:∀f,H wr (D e f U)=H a (D e f U):=λf=>cK u (by show e<V (M a)+2;omega) (X.cell (p:=(D e f U)) c5);have B:=(k _).trans P;have L:=(k _).trans R;have N:=(k _).trans S;have a1:b.drop c=(b[c].1,b[c].2.1,b[c].2.2)::b.drop (c+1):=ψ y;rw[a1]at n;obtain⟨k5,g8⟩:=au (b[c].1);obtain⟨h9,g9⟩:=au (b[c].2.1);obtain⟨k6,h0⟩:=au (b[c].2.2);rw[<-g8]at B n c6;rw[<-g9]at L n;rw[<-h0]at N n c7;have l7:e<V (M wr):=aa;have x:=Ls (T.ah (ai wr (γ #[Q (Y k5),Q (Y h9),Q (Y k6)] 48))) aa a3 h9 c6 c7;clear k P R S a0 c8 a1 g8 g9 h0 c6 c7 T;go_wp2_with(go_at_call 109;refine x.mono ?_);rintro b5 r (⟨q,o,a2,rfl,m⟩|⟨t,h2,o,rfl,j,m⟩)
  ·have a9:Z (iy [] b=.error q):=by rw[Z,n.out];exact Lt o
   have j:Bl wr r:=(ai wr _).trans (m.mono ek);have j1:=j.size;have a7:Bl a r:=(X.trans (u.mono aa)).trans (j.mono aa);obtain⟨a5,g0,a6,g1⟩:=nP ((j.block _ aa).trans b1);have i5:V (M a)+1<V (M r):=aa;have j0:(q==0)=ο:=by simpa using a2
   clear x n u b1 c1 m j X B L N;go_wp2_with fail;exact ν (v:=φ #[μ #[J U 0 0,J U 0 0],I G q]) (by simp[A0,θ,go_sem,a5,a6]) A ⟨(a7.setCell ak _).setCell ak _,Ξ ⟨q,by rw[Ir b9 b8 a9.out],a2,A⟩⟩
  have b4:Z (iy [] b=iy (g++ [t]) (b.drop (c+1))):=by rw[Z,n.out];exact Sr o
  have j2:∀l∈g++ [t],0<=l.body.size/\l.body.size<=300:=by
   intro l i8;rcases List.mem_append.mp i8 with i|i
   ·exact a3 l i
   rw[List.mem_singleton.mp i];exact Gx a3 o
  have RB:A9 (V (M a)+2) (((a.alloc (γ #[J (E (D e p U)) (α b) cap,J w (α d) C] 67)).alloc (γ #[J U 0 0,J U 0 0] 194)).alloc (γ #[J U 0 0,J U 0 0] 194)) r:=u.trans (((ai wr _).mono aa).trans m);clear x n u b1 c1 m X B L N o
  go_wp2
  go_roundw
  ·exact⟨c+1,O++ [h2],g++ [t],aa,aP,by simp[i6],j,j2,b4,RB⟩
  simp[B0];omega
 have a9:Z (iy [] b=.ok g):=by rw[Z,n.out,Γ aa];rfl
 have a7:Bl a wr:=X.trans (u.mono aa);have g3:=PP T aa (b6.trans (a7.mono g2));have k7:H wr (D (V (M a)) 1 U)=E (J w (α d) C):=aC c1;generalize j5:wr=wa at*;clear j5 n T c8;go_wp2_with fail;go_loopw [39] (λz h7=>∃(f:Ω) (fG:κ (aJ×Ex)),f<=α d/\z=I G f/\α fG=f/\tK F h7 (V (M a)+2) O g fG/\Z (kD g [] d=kD g fG (d.drop f))/\A9 (V (M a)+2) wa h7) (λz _=>α d-(B0 z).toNat)
 ·exact⟨0,[],Nat.zero_le _,A,A,g3,A,ε _ _⟩
 obtain⟨f,fG,m1,rfl,i9,W,s,c0⟩:=hrel;generalize j6:wr=wj at*;clear j6 g3;have l0:V (M a)+2<V (M wj):=by obtain⟨_,_,_,_,_,_,_,_,_,b7,_⟩:=W;exact af b7
 have K:wj.heap[V (M a)+1]? =E (γ #[J U 0 0,J U 0 0] 194 (0,0)):=(c0.block _ aa).trans b1;have a8:Bl a wj:=a7.trans (c0.mono aa);by_cases y:f<α d
 ·obtain⟨e,p,rfl,c5,a0⟩:∃e p,w=E (D e p U)/\e<V (M F)/\∀(c:Ω) (v:aJ),d[c]? =E v->Gt F e (p+c*6) v:=by
   rcases c9.out with i|i
   ·subst i;simp at y
   exact i
  obtain⟨i4,i3,i2,k0,j9,j8,k3,k2,k1,⟨P,R,S,e4,e5,e6⟩,c2,c3,c4,g5,g6⟩:=a0 f d[f] (ι y);have k:∀b2,H wj (D e b2 U)=H F (D e b2 U):=λb2=>(b6.trans (a8.mono g2)).cell (p:=(D e b2 U)) c5;have B:=(k _).trans P;have L:=(k _).trans R;have N:=(k _).trans S;have e0:=(k _).trans e4;have e1:=(k _).trans e5;have h3:=(k _).trans e6;have l4:e<V (M wj):=cz a8.size;have a1:d.drop f=d[f]::d.drop (f+1):=ψ y;rw[a1]at s;obtain⟨v,g7⟩:=au (d[f]);rw[<-g7]at B e0 e1 s c2 c3 c4 g5 g6;have x:=Ja (W.ah (ai wj (γ #[Q (Y v.name),J i4 i3 i2,J k0 j9 j8,I G v.count,Q (Y v.aR),J k3 k2 k1] 54))) aa a3 c2 c3 c4 g5 g6;clear k P R S e4 e5 e6 a0 a1 g7 c2 c3 c4 W c9;go_wp2_with(go_at_call 110;refine x.mono ?_);rintro b5 r (⟨q,o,a2,rfl,m⟩|⟨h8,o,rfl,j,m⟩)
  ·have b3:Z (eG b d=.error q):=by rw[Z,uy b9 b8 a9.out,s.out,kD,o];rfl
   have j:Bl wj r:=(ai wj _).trans (m.mono ek);have j1:=j.size;have i0:Bl a r:=bT a8 j;obtain⟨a5,g0,a6,g1⟩:=nP ((j.block _ aa).trans K);have i5:V (M a)+1<V (M r):=aa;have j0:(q==0)=ο:=by simpa using a2
   clear x s K m j B L N e0 e1 h3;go_wp2_with fail;exact ν (v:=φ #[μ #[J U 0 0,J U 0 0],I G q]) (by simp[A0,θ,go_sem,a5,a6]) A ⟨(i0.setCell ak _).setCell ak _,Ξ ⟨q,b3,a2,A⟩⟩
  have b4:Z (kD g [] d=kD g (fG++ [(v,h8)]) (d.drop (f+1))):=by rw[Z,s.out,kD,o]
  have RB:A9 (V (M a)+2) wa r:=c0.trans (((ai wj _).mono aa).trans m);clear x s K m B L N e0 e1 h3 o
  go_wp2
  go_roundw
  ·exact⟨f+1,fG++ [(v,h8)],aa,aP,by simp[i9],j,b4,RB⟩
  simp[B0];omega
 have b3:Z (eG b d=.ok (g,fG)):=by rw[Z,uy b9 b8 a9.out,s.out,Γ aa];rfl
 obtain⟨e9,e8,e7,aS,h6,h4,i1⟩:=TZ W K aa aa;obtain⟨g4,e2⟩:=i1;obtain⟨a5,g0,a6,g1⟩:=nP K;obtain⟨k8,_,k9,_⟩:=nP g4;have m4:V (M a)+2≠V (M a)+1:=aa;have e3:Z _:=e2;clear s W K g4 e2 c9;go_wp2_with fail;exact ν (v:=φ #[μ #[J e9 e8 e7,J aS h6 h4],I G 0]) (by simp[A0,θ,go_sem,a5,a6]) A ⟨(a8.setCell ak _).setCell ak _,A6 ⟨g,fG,O,e9,e8,e7,aS,h6,h4,b3,A,e3.1,e3.2,a3⟩⟩
theorem FE(m:Bl o b)(a:ik b r s)(e:kV o (J f d c) q):
  σ ρ 61 #[μ #[r,J f d c]] b λl n=>Ll o b (eG s q) l n:=by
 by_cases p:α s<=8
 ·by_cases t:α q<=4
  ·exact Cx m p a t e
  obtain⟨u,cap,rfl,v,g⟩:=a;obtain⟨w,KP,i,x,j⟩:=e
  cases i;have k:Z (eG s q=.error 9):=by rw[Z,eG,B1 aa]
  have y:decide ((8:A2)<(α s:A2))=ο:=aN;have:decide ((4:A2)<(α q:A2))=δ:=aN;clear g j;go_enter Φ,Δ;go_wp2_with fail;refine ν (v:=φ #[μ #[J U 0 0,J U 0 0],I G 9]) (by simp[A0,θ,go_sem]) A ⟨?_,Ξ ⟨9,k,ag,A⟩⟩;exact aV b _ _
 obtain⟨u,cap,rfl,v,g⟩:=a;obtain⟨w,KP,i,x,j⟩:=e
 cases i;have k:Z (eG s q=.error 9):=by rw[Z,eG,B1 aa]
 have y:decide ((8:A2)<(α s:A2))=δ:=aN;clear g j;go_enter Φ,Δ;go_wp2_with fail;refine ν (v:=φ #[μ #[J U 0 0,J U 0 0],I G 9]) (by simp[A0,θ,go_sem]) A ⟨?_,Ξ ⟨9,k,ag,A⟩⟩;exact aV b _ _
end Go.Proofs.YthkeffolmbnkaaaGreatDoor

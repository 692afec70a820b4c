import Derived.Test.YthkeffolmbnkaaaGreatDoorTaFZ
import Derived.Deep.RegionHeld2
set_option linter.unusedVariables false
set_option linter.unusedSimpArgs false
set_option maxRecDepth 100000
set_option maxHeartbeats 0
open Array renaming size->Z,getElem?_modify->Δ
open Bool renaming true->E,and_eq_true->ε,false->τ
open Go renaming store->γ,World->ν,heap_alloc_new->ξ,Program->A0,Value->A3,Calls->A5,Addr->A8
open Go.Addr renaming mk->G
open Go.Ending renaming returned->θ
open Go.IntKind renaming i64->M
open Go.Obj renaming cells->δ
open Go.Proofs.Tryz renaming prog->η,f110->A4
open Go.Proofs.YthkeffolmbnkaaaGreatDoor renaming ak->A
open Go.RowKit renaming Below->ο,Hid->A1
open Go.RowKit.Below renaming heap_setCell->σ,refl->Ξ,heap_alloc->Ω
open Go.Value renaming slice->U,int->V,string->D,pointer->α,bool->ρ,agg->φ,tuple->ω
open Go.World renaming heap->Y,cell?->β,size_alloc->υ,setCell->Γ,frozen?->A2
open List renaming length->Q,getElem?_eq_getElem->ζ,getElem?_append_right->ι,getElem?_eq_some_iff->κ,getElem?_append_left->μ,flatMap_cons->Ψ
open Option renaming none->J,some->I
open _root_ renaming rfl->H,List->χ,Nat->ψ,Option->Θ,decide_eq_false_iff_not->Φ,Except->A6,True->A7
namespace Go.Proofs.YthkeffolmbnkaaaGreatDoor
open Go.Proofs.Tryz
open Go.RowKit
variable{x:Array Value}{m:Bs}{K:Ex}{d:List (aJ×Ex)}{f:List Nat}{i:List dK}{c e q z B P T:Nat}{O:Nat->dK}{s:Obj}{L:Option Addr}{g j l n o p u v y C F W X a0 a1 R S a2 a3 a4 a5 a6 a7 a8 a9 b0 b1 b2 b3 b4 b5 b6 b7 b8 b9 c0 c1 c2 c3 c4 c5 c6 c7 c8 c9 e0 e1 e2 e3 e4 e5 e6 e7 e8 e9 g0 g1 g2 g3 g4 g5 g6 g7 g8 g9 h0 h1 h2 h3 h4 h5 h6 h7 h8:Value}{a b N:World}{k:aJ}
theorem aQ{P:A0}{b j d}{v:A3}(c:a.heap[b]? =I (δ x d (0,0)))(e:j<x.size)(f:v.oneCell'=E):(γ (G b j J) v).run P a=.ok () (a.setCell (G b j J) v)/\(a.setCell (G b j J) v).heap[b]? =I (δ (x.set! j v) d (0,0)):=by
 have g:β a (G b j J)=I x[j]:=by simp[β,c,e]
 have i:A2 a (G b j J)=τ:=by simp[A2,c]
 refine⟨?_, ?_⟩
 ·rw[run_store _ _ _ _ _ f,g];simp[i]
 simp[Γ,Δ,c]
def vF(w:ν)(FB:χ ψ)(aS:Θ A8)(ts:χ (aJ×Ex))(R:ψ->dK):Prop:=∀(i:ψ) (te:aJ×Ex),ts[i]? =I te->∃b,aS=I ⟨b,0,J⟩/\b<Z (Y w)/\yQ w b i (R i)/\mY w FB (R i) te.1 te.2
theorem vF.ah{w x aS}(e:vF w f aS d O)(a:Bl w x):vF x f aS d O:=λi j g=>by
 obtain⟨b,k,c,l,m⟩:=e i j g;exact⟨b,k,Nat.lt_of_lt_of_le c a.size,l.ah λn=>a.cell (p:=(G b n J)) c,m.ah a⟩
theorem dA.choose{aS}(j:dA a f (U aS e c) d):∃o,vF a f aS d o:=by
 obtain⟨_,cap,l, -,p⟩:=j
 cases l;rcases p with j|⟨n,l,q,r⟩
 ·exact⟨λ_=>⟨[],J,0,0,J,0,0,0,[],J,0,0,0,0,0,τ,0,0,[],0,[],J,J,0,0⟩,λb g i=>by rw[j]at i;simp at i⟩
 have m:∀b:ψ,∃k:dK,∀g,d[b]? =I g->yQ a n b k/\mY a f k g.1 g.2:=λb=>by
  cases i:d[b]? with
  |none=>exact⟨⟨[],J,0,0,J,0,0,0,[],J,0,0,0,0,0,τ,0,0,[],0,[],J,J,0,0⟩,λg j=>by cases j⟩
  |some g=>obtain⟨k,s,t⟩:=r b g i;exact⟨k,λ_ u=>by cases u;exact⟨s,t⟩⟩
 exact⟨λb=>(m b).choose,λb g i=>⟨n,l,q,((m b).choose_spec g i).1,((m b).choose_spec g i).2⟩⟩
theorem uK(R P N){aS}(S:dA a f (U aS e c) d)(j:vF a f aS d O)(h1:dS d m≠J):
  A5 η 75 #[φ #[U R P N,U aS e c],D (ae m)] a λb7 h3=>Bl a h3/\∃(l:ψ) (h2:aJ×Ex),dS d m=I l/\d[l]? =I h2/\b7=θ (ω #[φ (O l).arr,V M 0]):=by
 have h4:Bl a (((a.alloc (δ #[U R P N,U aS e c] 194)).alloc (δ #[D (ae m)] 9)).alloc (δ #[D ⟨#[]⟩,U J 0 0,U J 0 0,V M 0,D ⟨#[]⟩,U J 0 0,V M 0,V M 0,V M 0,ρ τ,V M 0,V M 0,D ⟨#[]⟩,V M 0,D ⟨#[]⟩,α J,U J 0 0] 235)):=(tY (Ξ _ _)).1;have g:β (((a.alloc (δ #[U R P N,U aS e c] 194)).alloc (δ #[D (ae m)] 9)).alloc (δ #[D ⟨#[]⟩,U J 0 0,U J 0 0,V M 0,D ⟨#[]⟩,U J 0 0,V M 0,V M 0,V M 0,ρ τ,V M 0,V M 0,D ⟨#[]⟩,V M 0,D ⟨#[]⟩,α J,U J 0 0] 235)) ⟨Z (Y a)+1,0,J⟩=I (D (ae m)):=by
  have:=ξ (a.alloc (δ #[U R P N,U aS e c] 194)) (δ #[D (ae m)] 9);rw[υ]at this;exact(aI ((Ω _ _ _ gL).trans this)).trans H
 have i:=rC (S.ah h4) gL g;have c2:=S;obtain⟨_,cap,h5,_,c3⟩:=S
 cases h5;go_enter func75,ntmps75;go_wp2_with(go_at_call 132;refine i.mono ?_);clear i g;rintro b7 b8 ⟨⟨_,rfl,⟨k,rfl⟩|⟨l,k,rfl,h6⟩⟩,b5⟩
 ·exact absurd k h1
 have L:=ζ h6;obtain⟨b,rfl,h7,T, -⟩:=j l d[l] L;have c4:A7:=trivial;have c5:A7:=trivial;obtain⟨i,g⟩:=au (O l);have h8:A1 (i=O l):=g;rw[<-g]at T;clear g j;have b9:A1 (dS d m=I l/\d[l]? =I d[l]):=⟨k,L⟩;obtain⟨c0,⟨b6,j⟩,_,l2⟩:=tY b5;obtain⟨h9,i0,i1,i2,i3,i4,i5,i6,i7,i8,i9,j0,j1,j2,j3,j4,j5⟩:=T.ah λj6=>c0.cell (p:=(G b j6 J)) h7;have m1:β b8 (G (Z (Y a)) 1 J)=I (U (I (G b 0 J)) (Q d) c):=aC b6;obtain⟨⟨_,_,_,_,_,_,_,_,_,_,_,_,_,_,_,_,_⟩,_,_,_,_,_,_,_,_,_,_,_,_,_,_,_,g15,g16⟩:=yX j;have c1:=j;obtain⟨n,W⟩:∃g,A1 (g=D (ae i.name)):=⟨_,H⟩;rw[<-W.out]at h9;have j7:n.oneCell'=E:=by rw[W.out];rfl
 obtain⟨o,X⟩:∃g,A1 (g=U i.co i.cn i.cc):=⟨_,H⟩;rw[<-X.out]at i0;have j8:o.oneCell'=E:=by rw[X.out];rfl
 obtain⟨p,a0⟩:∃g,A1 (g=U i.ro i.rn i.rc):=⟨_,H⟩;rw[<-a0.out]at i1;have j9:p.oneCell'=E:=by rw[a0.out];rfl
 obtain⟨q,a1⟩:∃g,A1 (g=V M i.count):=⟨_,H⟩;rw[<-a1.out]at i2;have k0:q.oneCell'=E:=by rw[a1.out];rfl
 obtain⟨r,a2⟩:∃g,A1 (g=D (ae i.aR)):=⟨_,H⟩;rw[<-a2.out]at i3;have k1:r.oneCell'=E:=by rw[a2.out];rfl
 obtain⟨s,a3⟩:∃g,A1 (g=U i.uo i.un i.uc):=⟨_,H⟩;rw[<-a3.out]at i4;have k2:s.oneCell'=E:=by rw[a3.out];rfl
 obtain⟨t,a4⟩:∃g,A1 (g=V M i.sort):=⟨_,H⟩;rw[<-a4.out]at i5;have k3:t.oneCell'=E:=by rw[a4.out];rfl
 obtain⟨u,a5⟩:∃g,A1 (g=V M i.ty):=⟨_,H⟩;rw[<-a5.out]at i6;have k4:u.oneCell'=E:=by rw[a5.out];rfl
 obtain⟨v,a6⟩:∃g,A1 (g=V M i.size):=⟨_,H⟩;rw[<-a6.out]at i7;have k5:v.oneCell'=E:=by rw[a6.out];rfl
 obtain⟨w,a7⟩:∃g,A1 (g=ρ i.quiet):=⟨_,H⟩;rw[<-a7.out]at i8;have k6:w.oneCell'=E:=by rw[a7.out];rfl
 obtain⟨x,a8⟩:∃g,A1 (g=V M i.vk):=⟨_,H⟩;rw[<-a8.out]at i9;have k7:x.oneCell'=E:=by rw[a8.out];rfl
 obtain⟨y,a9⟩:∃g,A1 (g=V M i.vn):=⟨_,H⟩;rw[<-a9.out]at j0;have k8:y.oneCell'=E:=by rw[a9.out];rfl
 obtain⟨z,b0⟩:∃g,A1 (g=D (ae i.vs)):=⟨_,H⟩;rw[<-b0.out]at j1;have k9:z.oneCell'=E:=by rw[b0.out];rfl
 obtain⟨B,b1⟩:∃g,A1 (g=V M i.place):=⟨_,H⟩;rw[<-b1.out]at j2;have l0:B.oneCell'=E:=by rw[b1.out];rfl
 obtain⟨C,b2⟩:∃g,A1 (g=D (ae i.head)):=⟨_,H⟩;rw[<-b2.out]at j3;have l1:C.oneCell'=E:=by rw[b2.out];rfl
 obtain⟨F,b3⟩:∃g,A1 (g=α i.fp):=⟨_,H⟩;rw[<-b3.out]at j4;have l4:F.oneCell'=E:=by rw[b3.out];rfl
 obtain⟨K,b4⟩:∃g,A1 (g=U i.xo i.xn i.xc):=⟨_,H⟩;rw[<-b4.out]at j5;have l7:K.oneCell'=E:=by rw[b4.out];rfl
 clear k b5 c3 j b6 c4 L c5 T c2;go_wp2_with fail
 as_aux_lemma=>
  have l8:b8.heap[Z (Y a)+1+1]? =_:=c1;obtain⟨L,T⟩:=aQ (P:=η) (j:=0) l8 A j7;obtain⟨b5,b6⟩:=aQ (P:=η) (j:=1) T A j8;obtain⟨c2,c3⟩:=aQ (P:=η) (j:=2) b6 A j9;obtain⟨c4,c5⟩:=aQ (P:=η) (j:=3) c3 A k0;obtain⟨c6,c7⟩:=aQ (P:=η) (j:=4) c5 A k1;obtain⟨c8,c9⟩:=aQ (P:=η) (j:=5) c7 A k2;obtain⟨e0,e1⟩:=aQ (P:=η) (j:=6) c9 A k3;obtain⟨e2,e3⟩:=aQ (P:=η) (j:=7) e1 A k4;obtain⟨e4,e5⟩:=aQ (P:=η) (j:=8) e3 A k5;obtain⟨e6,e7⟩:=aQ (P:=η) (j:=9) e5 A k6;obtain⟨e8,e9⟩:=aQ (P:=η) (j:=10) e7 A k7;obtain⟨g0,g1⟩:=aQ (P:=η) (j:=11) e9 A k8;obtain⟨g2,g3⟩:=aQ (P:=η) (j:=12) g1 A k9;obtain⟨g4,g5⟩:=aQ (P:=η) (j:=13) g3 A l0;obtain⟨g6,g7⟩:=aQ (P:=η) (j:=14) g5 A l1;obtain⟨g8,g9⟩:=aQ (P:=η) (j:=15) g7 A l4;obtain⟨h0,l9⟩:=aQ (P:=η) (j:=16) g9 A l7;clear T b6 c3 c5 c7 c9 e1 e3 e5 e7 e9 g1 g3 g5 g7 g9 l9;simp only[L,b5,c2,c4,c6,c8,e0,e2,e4,e6,e8,g0,g2,g4,g6,g8,h0,Result.andThen];clear L b5 c2 c4 c6 c8 e0 e2 e4 e6 e8 g0 g2 g4 g6 g8 h0;go_wp2_with fail;have T:=Cm c0 (b:=Z (Y a)+2) aa n o p q r s t u v w x y z B C F K;have b5:=OD c1 n o p q r s t u v w x y z B C F K;refine(show∀L:ν,L=_->bodyPost η f75 _ Exit.ret _ L from λL b6=>?_) _ H;replace T:Bl a L:=by rw[b6];exact T
  replace b5:L.heap[Z (Y a)+2]? =I (δ #[n,o,p,q,r,s,t,u,v,w,x,y,z,B,C,F,K] 235 (0,0)):=by rw[b6];exact b5
  clear b6;obtain⟨⟨b6,c2,c3,c4,c5,c6,c7,c8,c9,e0,e1,e2,e3,e4,e5,e6,e7⟩,_⟩:=yX b5;refine bodyPost_ret (v:=ω #[φ #[n,o,p,q,r,s,t,u,v,w,x,y,z,B,C,F,K],V M 0]) (by simp[results,results75,go_sem,b6,c2,c3,c4,c5,c6,c7,c8,c9,e0,e1,e2,e3,e4,e5,e6,e7]) H ?_;exact⟨T,l,d[l],b9.1,b9.2,by rw[<-h8.out,W.out,X.out,a0.out,a1.out,a2.out,a3.out,a4.out,a5.out,a6.out,a7.out,a8.out,a9.out,b0.out,b1.out,b2.out,b3.out,b4.out]⟩
theorem DJ(o n l){aS}(p:dA a f (U aS e c) d)(t:dS d m≠J):
  A5 η 75 #[φ #[U o n l,U aS e c],D (ae m)] a λj k=>Bl a k/\((dS d m=J/\j=θ (ω #[φ #[D ⟨#[]⟩,U J 0 0,U J 0 0,V M 0,D ⟨#[]⟩,U J 0 0,V M 0,V M 0,V M 0,ρ τ,V M 0,V M 0,D ⟨#[]⟩,V M 0,D ⟨#[]⟩,α J,U J 0 0],V M 2]))\/∃(g:ψ) (i:aJ×Ex) (b:dK),dS d m=I g/\d[g]? =I i/\j=θ (ω #[φ #[D (ae b.name),U b.co b.cn b.cc,U b.ro b.rn b.rc,V M b.count,D (ae b.aR),U b.uo b.un b.uc,V M b.sort,V M b.ty,V M b.size,ρ b.quiet,V M b.vk,V M b.vn,D (ae b.vs),V M b.place,D (ae b.head),α b.fp,U b.xo b.xn b.xc],V M 0])/\mY k f b i.1 i.2):=by
 obtain⟨u,q⟩:=p.choose;refine(uK o n l p q t).mono ?_;rintro j k ⟨r,g,i,v,s,rfl⟩;obtain⟨_,_,_,_,w⟩:=q g i s;exact⟨r,.inr ⟨g,i,u g,v,s,H,w.ah r⟩⟩
theorem FH(k j i){aS}(n:dA a f (U aS e c) d)(g):
  A5 η 75 #[φ #[U k j i,U aS e c],D (ae g)] a λm p=>Bl a p/\((dS d g=J/\m=θ (ω #[φ #[D ⟨#[]⟩,U J 0 0,U J 0 0,V M 0,D ⟨#[]⟩,U J 0 0,V M 0,V M 0,V M 0,ρ τ,V M 0,V M 0,D ⟨#[]⟩,V M 0,D ⟨#[]⟩,α J,U J 0 0],V M 2]))\/∃(o:ψ) (l:aJ×Ex) (b:dK),dS d g=I o/\d[o]? =I l/\m=θ (ω #[φ #[D (ae b.name),U b.co b.cn b.cc,U b.ro b.rn b.rc,V M b.count,D (ae b.aR),U b.uo b.un b.uc,V M b.sort,V M b.ty,V M b.size,ρ b.quiet,V M b.vk,V M b.vn,D (ae b.vs),V M b.place,D (ae b.head),α b.fp,U b.xo b.xn b.xc],V M 0])/\mY p f b l.1 l.2):=by
 by_cases q:dS d g=J
 ·exact vJ k j i n q
 exact DJ k j i n q
def uH(ts:χ (aJ×Ex))(l:Bs):Int:=fT (dS ts l).isNone 2
def nJ(a0 a1 a2 a3 a4 a5 a6 a7 a8 a9 a10 a11 a12 a13 a14 a15 a16:A3):Prop:=a0.oneCell'=E/\a1.oneCell'=E/\a2.oneCell'=E/\a3.oneCell'=E/\a4.oneCell'=E/\a5.oneCell'=E/\a6.oneCell'=E/\a7.oneCell'=E/\a8.oneCell'=E/\a9.oneCell'=E/\a10.oneCell'=E/\a11.oneCell'=E/\a12.oneCell'=E/\a13.oneCell'=E/\a14.oneCell'=E/\a15.oneCell'=E/\a16.oneCell'=E
theorem Jh(C B z){aS}(L:dA a f (U aS e c) d)(b):
  A5 η 75 #[φ #[U C B z,U aS e c],D (ae b)] a λy F=>Bl a F/\∃g i q r s t u v w x j k l m n o p,nJ g i q r s t u v w x j k l m n o p/\y=θ (ω #[φ #[g,i,q,r,s,t,u,v,w,x,j,k,l,m,n,o,p],V M (uH d b)]):=by
 refine(FH C B z L b).mono ?_;rintro y F ⟨N,⟨K,rfl⟩|⟨_,_,_,K,_,rfl,_⟩⟩
 iterate 2
  ·exact⟨N,_,_,_,_,_,_,_,_,_,_,_,_,_,_,_,_,_,⟨H,H,H,H,H,H,H,H,H,H,H,H,H,H,H,H,H⟩,by rw[uH,K];rfl⟩
theorem acp(d:ο (a.alloc s).drew.heap.size (a.alloc s).drew b)(e:Z (Y a)=c):b.heap[c]? =I s:=by
 subst e;exact(d.block (Z (Y a)) ek).trans (ξ a _)
theorem gK{P:A0}{j f}(i:a.heap[c]? =I (δ x f (0,0)))(k:j<x.size)(l:g.oneCell'=E):∃d:ν,(γ (G c j J) g).run P a=.ok () d/\d.heap[c]? =I (δ (x.set! j g) f (0,0))/\∀(b:ψ) (e:ν),b<=c->ο b e a->ο b e d:=by
 obtain⟨m,n⟩:=aQ (P:=P) i k l;exact⟨_,m,n,λb e o p=>p.setCell (p:=(G c j J)) o _⟩
theorem VU{P:A0}(a3:a.heap[c]? =I (δ #[D ⟨#[]⟩,U J 0 0,U J 0 0,V M 0,D ⟨#[]⟩,U J 0 0,V M 0,V M 0,V M 0,ρ τ,V M 0,V M 0,D ⟨#[]⟩,V M 0,D ⟨#[]⟩,α J,U J 0 0] 235))(a4:g.oneCell'=E)(a5:j.oneCell'=E)(b3:l.oneCell'=E)(b4:n.oneCell'=E)(b5:o.oneCell'=E)(b6:p.oneCell'=E)(b7:u.oneCell'=E)(b8:v.oneCell'=E)(b9:y.oneCell'=E)(c0:C.oneCell'=E)(a6:F.oneCell'=E)(a7:W.oneCell'=E)(a8:X.oneCell'=E)(a9:a0.oneCell'=E)(b0:a1.oneCell'=E)(b1:R.oneCell'=E)(b2:S.oneCell'=E):
  ∃i z B K L N O T a2 k m q r s t w x:ν,(γ (G c 0 J) g).run P a=.ok () i/\(γ (G c 1 J) j).run P i=.ok () z/\(γ (G c 2 J) l).run P z=.ok () B/\(γ (G c 3 J) n).run P B=.ok () K/\(γ (G c 4 J) o).run P K=.ok () L/\(γ (G c 5 J) p).run P L=.ok () N/\(γ (G c 6 J) u).run P N=.ok () O/\(γ (G c 7 J) v).run P O=.ok () T/\(γ (G c 8 J) y).run P T=.ok () a2/\(γ (G c 9 J) C).run P a2=.ok () k/\(γ (G c 10 J) F).run P k=.ok () m/\(γ (G c 11 J) W).run P m=.ok () q/\(γ (G c 12 J) X).run P q=.ok () r/\(γ (G c 13 J) a0).run P r=.ok () s/\(γ (G c 14 J) a1).run P s=.ok () t/\(γ (G c 15 J) R).run P t=.ok () w/\(γ (G c 16 J) S).run P w=.ok () x/\∀(b:ψ) (d:ν),b<=c->ο b d a->ο b d x:=by
 obtain⟨i,c1,c2,c3⟩:=gK (P:=P) (j:=0) a3 A a4;obtain⟨z,c4,c5,c6⟩:=gK (P:=P) (j:=1) c2 A a5;obtain⟨B,c7,c8,c9⟩:=gK (P:=P) (j:=2) c5 A b3;obtain⟨K,e0,e1,e2⟩:=gK (P:=P) (j:=3) c8 A b4;obtain⟨L,e3,e4,e5⟩:=gK (P:=P) (j:=4) e1 A b5;obtain⟨N,e6,e7,e8⟩:=gK (P:=P) (j:=5) e4 A b6;obtain⟨O,e9,g0,g1⟩:=gK (P:=P) (j:=6) e7 A b7;obtain⟨T,g2,g3,g4⟩:=gK (P:=P) (j:=7) g0 A b8;obtain⟨a2,g5,g6,g7⟩:=gK (P:=P) (j:=8) g3 A b9;obtain⟨k,g8,g9,h0⟩:=gK (P:=P) (j:=9) g6 A c0;obtain⟨m,h1,h2,h3⟩:=gK (P:=P) (j:=10) g9 A a6;obtain⟨q,h4,h5,h6⟩:=gK (P:=P) (j:=11) h2 A a7;obtain⟨r,h7,h8,h9⟩:=gK (P:=P) (j:=12) h5 A a8;obtain⟨s,i0,i1,i2⟩:=gK (P:=P) (j:=13) h8 A a9;obtain⟨t,i3,i4,i5⟩:=gK (P:=P) (j:=14) i1 A b0;obtain⟨w,i6,i7,i8⟩:=gK (P:=P) (j:=15) i4 A b1;obtain⟨x,i9,m17,j0⟩:=gK (P:=P) (j:=16) i7 A b2;exact⟨i,z,B,K,L,N,O,T,a2,k,m,q,r,s,t,w,x,c1,c4,c7,e0,e3,e6,e9,g2,g5,g8,h1,h4,h7,i0,i3,i6,i9,λb d e j1=>j0 b d e (i8 b d e (i5 b d e (i2 b d e (h9 b d e (h6 b d e (h3 b d e (h0 b d e (g7 b d e (g4 b d e (g1 b d e (e8 b d e (e5 b d e (e2 b d e (c9 b d e (c6 b d e (c3 b d e (j1)))))))))))))))))⟩
theorem jZ:∀(c e:χ gB),dL e c=E->∀b∈c,mG b=E
 | [],_,_,b,a=>by simp at a
 |d::r,e,h,b,a=>by
  rw[dL,ε,ε]at h;rcases List.mem_cons.mp a with rfl|a
  ·exact h.1.1
  exact jZ r _ h.2 b a
theorem qK(a:bG k=E):bZ k.aB=E:=by
 unfold bG at a;simp only[ε]at a;exact a.1.1.1
theorem wQ(a:aW m=E):Q m<=12:=by
 unfold aW at a;simp only[ε,decide_eq_true_eq]at a;exact a.1.1.2
theorem xX{a}(c:bZ a=E):Q a<=1000/\∀b∈a,Q b.1<=1000:=by
 unfold bZ at c;rw[ε,Bool.not_eq_true',Bool.or_eq_false_iff,Φ,Φ]at c;refine⟨aa,λb d=>?_⟩;have:=jZ a [] c.2 b d;unfold mG at this;simp only[ε]at this;have:=wQ this.1.1.1;omega
theorem acK(c:ο (a.alloc s).drew.heap.size (a.alloc s).drew b)(d:Bl b N):N.heap[Z (Y a)]? =I s/\Z (Y a)<Z (Y b):=by
 have e:=c.size;have:Z (Y a)+1<=Z (Y b):=by simpa[υ]using e
 exact⟨(d.block _ aa).trans ((c.block (Z (Y a)) ek).trans (ξ a _)),aa⟩
theorem acL(c:ο (Z (Y (a.alloc s))) (a.alloc s) b):b.heap[Z (Y a)]? =I s:=(c.block (Z (Y a)) ek).trans (ξ a _)
theorem Xv{i}(j:dF a f (λd=>c<=d) i K)(k:∀d,c<=d->d<Z (Y a)->b.heap[d]? =a.heap[d]?)(l:e<=c):dF b f (λd=>e<=d) i K:=
 j.bounded.move (λd g=>k d g.1 g.2) (λd g=>cz g.1)
theorem aM{P:A0}(e k){j}(l:a.heap[c]? =I (δ x j (0,0)))(n:e<x.size)(o:g.oneCell'=E)(m:x.set! e g=k):∃f:ν,(γ (G c e J) g).run P a=.ok () f/\f.heap[c]? =I (δ k j (0,0))/\(∀d,d≠c->f.heap[d]? =a.heap[d]?)/\∀(b:ψ) (i:ν),b<=c->ο b i a->ο b i f:=by
 obtain⟨p,q⟩:=aQ (P:=P) l n o;subst m;exact⟨_,p,q,λd r=>σ _ _ _ _ r,λb i s t=>t.setCell (p:=(G c e J)) s _⟩
theorem wG{P:A0}(L:a.heap[c]? =I Mw)(N:g.oneCell'=E)(O:j.oneCell'=E)(S:l.oneCell'=E)(T:n.oneCell'=E)(W:o.oneCell'=E)(X:p.oneCell'=E)(a0:u.oneCell'=E)(a1:v.oneCell'=E)(a2:y.oneCell'=E)(a3:C.oneCell'=E)(R:F.oneCell'=E):
  ∃m r s t w x z B K q k:ν,(γ (G c 0 J) g).run P a=.ok () m/\(γ (G c 1 J) j).run P m=.ok () r/\(γ (G c 2 J) l).run P r=.ok () s/\(γ (G c 3 J) n).run P s=.ok () t/\(γ (G c 4 J) o).run P t=.ok () w/\(γ (G c 5 J) p).run P w=.ok () x/\(γ (G c 6 J) u).run P x=.ok () z/\(γ (G c 7 J) v).run P z=.ok () B/\(γ (G c 8 J) y).run P B=.ok () K/\(γ (G c 9 J) C).run P K=.ok () q/\(γ (G c 10 J) F).run P q=.ok () k/\k.heap[c]? =I (δ #[g,j,l,n,o,p,u,v,y,C,F] 210 (0,0))/\(∀d,d≠c->k.heap[d]? =a.heap[d]?)/\∀(b:ψ) (e:ν),b<=c->ο b e a->ο b e k:=by
 obtain⟨m,a4,a5,a6,a7⟩:=aM (P:=P) 0 #[g,V M 0,V M 0,ρ τ,V M 0,V M 0,D ⟨#[]⟩,V M 0,D ⟨#[]⟩,α J,U J 0 0] L A N H;obtain⟨r,a8,a9,b0,b1⟩:=aM (P:=P) 1 #[g,j,V M 0,ρ τ,V M 0,V M 0,D ⟨#[]⟩,V M 0,D ⟨#[]⟩,α J,U J 0 0] a5 A O H;obtain⟨s,b2,b3,b4,b5⟩:=aM (P:=P) 2 #[g,j,l,ρ τ,V M 0,V M 0,D ⟨#[]⟩,V M 0,D ⟨#[]⟩,α J,U J 0 0] a9 A S H;obtain⟨t,b6,b7,b8,b9⟩:=aM (P:=P) 3 #[g,j,l,n,V M 0,V M 0,D ⟨#[]⟩,V M 0,D ⟨#[]⟩,α J,U J 0 0] b3 A T H;obtain⟨w,c0,c1,c2,c3⟩:=aM (P:=P) 4 #[g,j,l,n,o,V M 0,D ⟨#[]⟩,V M 0,D ⟨#[]⟩,α J,U J 0 0] b7 A W H;obtain⟨x,c4,c5,c6,c7⟩:=aM (P:=P) 5 #[g,j,l,n,o,p,D ⟨#[]⟩,V M 0,D ⟨#[]⟩,α J,U J 0 0] c1 A X H;obtain⟨z,c8,c9,e0,e1⟩:=aM (P:=P) 6 #[g,j,l,n,o,p,u,V M 0,D ⟨#[]⟩,α J,U J 0 0] c5 A a0 H;obtain⟨B,e2,e3,e4,e5⟩:=aM (P:=P) 7 #[g,j,l,n,o,p,u,v,D ⟨#[]⟩,α J,U J 0 0] c9 A a1 H;obtain⟨K,e6,e7,e8,e9⟩:=aM (P:=P) 8 #[g,j,l,n,o,p,u,v,y,α J,U J 0 0] e3 A a2 H;obtain⟨q,g0,g1,g2,g3⟩:=aM (P:=P) 9 #[g,j,l,n,o,p,u,v,y,C,U J 0 0] e7 A a3 H;obtain⟨k,g4,g5,g6,g7⟩:=aM (P:=P) 10 #[g,j,l,n,o,p,u,v,y,C,F] g1 A R H;exact⟨m,r,s,t,w,x,z,B,K,q,k,a4,a8,b2,b6,c0,c4,c8,e2,e6,g0,g4,g5,λd f=>(g6 d f).trans ((g2 d f).trans ((e8 d f).trans ((e4 d f).trans ((e0 d f).trans ((c6 d f).trans ((c2 d f).trans ((b8 d f).trans ((b4 d f).trans ((b0 d f).trans (a6 d f)))))))))),λb e i g8=>g7 b e i (g3 b e i (e9 b e i (e5 b e i (e1 b e i (c7 b e i (c3 b e i (b9 b e i (b5 b e i (b1 b e i (a7 b e i (g8)))))))))))⟩
abbrev VX(t:aJ)(co:Θ A8)(cn cc:ψ)(ro:Θ A8)(rn rc:ψ)(uo:Θ A8)(un uc:ψ):Obj:=δ #[D (ae t.name),U co cn cc,U ro rn rc,V M t.count,D (ae t.aR),U uo un uc] 54
theorem SI:(η.info? 235).map (λa=>(a.zero,a.size,a.bytes))=I (I (φ #[D ⟨#[]⟩,U J 0 0,U J 0 0,V M 0,D ⟨#[]⟩,U J 0 0,V M 0,V M 0,V M 0,ρ τ,V M 0,V M 0,D ⟨#[]⟩,V M 0,D ⟨#[]⟩,α J,U J 0 0]),17,232):=aF
def dz(raws:χ dK):χ A3:=raws.flatMap λr=>r.arr.toList
theorem zM(a b):dz (a++b)=dz a++dz b:=by simp[dz]
theorem nC:∀(e:χ dK) (c:ψ) (d:dK) (b:ψ),e[c]? =I d->b<17->(dz e)[c*17+b]? =d.arr[b]?
 | [],c,d,b,h,_=>by simp at h
 |a::rs,0,d,b,h,hj=>by
  simp at h;subst h;rw[Nat.zero_mul,Nat.zero_add,dz,Ψ,μ aN];simp
 |a::rs,c+1,d,b,h,hj=>by
  have:=nC rs c d b (by simpa using h) hj;have f:Q a.arr.toList=17:=A;rw[dz,Ψ,ι (by rw[f];omega),f,show(c+1)*17+b-17=c*17+b by omega];exact this
structure qU(w:World)(r:dK)(t:aJ):Prop where
 name:r.name=t.name
 count:r.count=t.count
 aR:r.aR=t.aR
 aB:dC w (.slice r.co r.cn r.cc) t.aB
 rows:RowsIn w (.slice r.ro r.rn r.rc) t.rows
 gZ:gD w (.slice r.uo r.un r.uc) t.gZ
theorem qU.full{e:dK}(c:qU b e k)(d:Bl b a)(g:dF a f (λ_=>A7) e.ex K):mY a f e k K:=
 ⟨c.name,c.count,c.aR,c.aB.ah d,c.rows.ah d,c.gZ.ah d,g⟩
def tK(w0 w:ν)(bb:ψ)(FB:χ ψ)(fns:χ Fn)(ts:χ (aJ×Ex)):Prop:=∃(fo:Θ A8) (fnn fc:ψ) (aS:Θ A8) (tn tc:ψ) (raws:χ dK),
 Z (Y w0)<=bb/\ο (Z (Y w0)) w0 w/\w.heap[bb]? =I (δ #[U fo fnn fc,U aS tn tc] 194 (0,0))/\kF w FB (U fo fnn fc) fns/\
 w.ownsRow (bb+1) 235 17 (U aS tn tc) (Q ts) (dz raws)/\Q raws=Q ts/\Q ts<=4/\(Q ts=0->aS=J)/\
 ∀(i:ψ) (r:dK) (te:aJ×Ex),raws[i]? =I r->ts[i]? =I te->qU w0 r te.1/\dF w FB (λ_=>A7) r.ex te.2
theorem abY{aS}(u:Bl b a)(m:a.ownsRow (q+1) 235 17 (U aS e c) (Q d) (dz i))(B:Q i=Q d)(z:Q d<=4)(v:∀(j:ψ) (n:dK) (k:aJ×Ex),i[j]? =I n->d[j]? =I k->qU b n k.1/\dF a f (λ_=>A7) n.ex k.2):dA a f (U aS e c) d:=by
 rcases m.2 with⟨o,r⟩|⟨p,cap,_,o,_,_,_⟩
 ·cases o;exact⟨J,0,by rw[r],aa,.inl (List.length_eq_zero_iff.mp r)⟩
 cases o;refine⟨_,_,H,aa,.inr ⟨p,H,(m.lt p H).2,λj k s=>?_⟩⟩;have:=(κ.mp s).1;have t:i[j]? =I i[j]:=ζ aa;obtain⟨w,x⟩:=v j _ k t s;have g:∀l,l<17->β a ⟨p,j*17+l,J⟩=i[j].arr[l]? :=λl y=>(m.cellAt _ aa).trans (nC i j _ l t y);exact⟨i[j],⟨g 0 aa,g 1 aa,g 2 aa,g 3 aa,g 4 aa,g 5 aa,g 6 aa,g 7 aa,g 8 aa,g 9 aa,g 10 aa,g 11 aa,g 12 aa,g 13 aa,g 14 aa,g 15 aa,g 16 aa⟩,w.full u x⟩
theorem abX{wc:ν}{fns aS}{b1:ψ->Prop}{r:dK}(a3:Z (Y N)<=c)(b2:Bl N b)(g1:c<Z (Y b))(t:Bl b wc)(a5:wc.heap[c]? =I (δ #[U L T P,U aS B z] 194 (0,0)))(hF:kF b f (U L T P) fns)(R:wc.ownsRow (c+1) 235 17 (U aS B z) (Q d) (dz i))(b3:Q i=Q d)(a4:Q d<=3)(b4:Q d=0->aS=J)(W:∀(j:ψ) (r:dK) (C:aJ×Ex),i[j]? =I r->d[j]? =I C->qU N r C.1/\dF b f (λ_=>A7) r.ex C.2)(b6:qU N r k)(b7:dF wc f b1 r.ex K)(b5:a.ownsRow (c+1) 235 17 (U (I (G q 0 J)) (Q d+1) e) (Q d+1) (dz i++r.arr.toList))(y:(wc.alloc s).drew.grownBy a (U aS B z).ownBlock)(b8:a.heap[c]? =I (δ #[U L T P,U aS B z] 194 (0,0))):
  tK N (a.setCell (G c 1 J) (U (I (G q 0 J)) (Q d+1) e)) c f fns (d++ [(k,K)])/\ο c b (a.setCell (G c 1 J) (U (I (G q 0 J)) (Q d+1) e)):=by
 have g2:=t.size;have b9:=y.size;simp only[World.size_drew,υ]at b9;have X:∀g,g<Z (Y wc)->g≠c->(U aS B z).ownBlock≠I g->(a.setCell (G c 1 J) (U (I (G q 0 J)) (Q d+1) e)).heap[g]? =wc.heap[g]? :=by
  intro g m n a4;rw[σ _ _ _ _ n,y.block g LZ (λl=>a4 l.symm)];exact Ω _ _ _ m
 have a0:∀(g:ψ) (u:Array A3) (F:TypeId) (v:ψ×ψ),wc.heap[g]? =I (δ u F v)->F=212\/F=3\/F=210->(a.setCell (G c 1 J) (U (I (G q 0 J)) (Q d+1) e)).heap[g]? =wc.heap[g]? :=by
  intro g u F v n o;refine X g (af n) (λl=>?_) (λl=>?_)
  ·subst l;rw[a5]at n;cases n;revert o;decide
  rcases R.2 with⟨m,_⟩|⟨c0,c1,c2,m,_,W,_⟩
  ·rw[m]at l;cases l
  rw[m]at l;cases l;rw[W]at n;cases n;revert o;decide
 have a6:ο c b (a.setCell (G c 1 J) (U (I (G q 0 J)) (Q d+1) e)):=by
  suffices hB:ο c b a from hB.setCell (p:=(G c 1 J)) (Nat.le_refl _) _
  refine⟨y.os.trans t.os,y.tape.trans t.tape,y.output.trans t.output,aa,λg S=>?_⟩;have:=X g aa aa (λl=>cz ((R.lt _ l).1));rw[σ _ _ _ _ (by show g≠c;omega)]at this;exact this.trans (t.block g aa)
 refine⟨⟨L,T,P,I (G q 0 J),Q d+1,e,i++ [r],a3,b2.trans (a6.mono a3),by simp[Γ,Δ,b8], ?_, ?_,by simp[b3],aN,(λm=>by simp at m),λj c3 C p w=>?_⟩,a6⟩
 ·
  have c4:=hF.ah t;obtain⟨c5,cap,c6,c7,c8,c9,e0⟩:=c4;refine⟨c5,cap,c6,c7,c8, ?_,λj a1 e3 e1 e2=>(e0 j a1 e3 e1 e2).grow a0⟩;rcases c9 with m|⟨O,l,e4,a7⟩
  ·exact .inl m
  have e5:O<Z (Y (a.setCell (G c 1 J) (U (I (G q 0 J)) (Q d+1) e))):=by
   simp[Γ];omega
  refine .inr ⟨O,l,e5,λj a1 a8=>?_⟩;have o:=a7 j a1 a8;have e6:O≠c:=by
   intro x;subst x;rw[aI a5]at o
   match j,o with
   |0,o=>simp at o
   |1,o=>simp at o
   |(j+2),o=>simp at o
  have e7:(U aS B z).ownBlock≠I O:=by
   intro x;rcases R.2 with⟨m,_⟩|⟨c0,c1,c2,m,_,_,_⟩
   ·rw[m]at x;cases x
   rw[m]at x;cases x;obtain⟨a2,e8⟩:∃a2,f[0]? =I a2:=by
    have p:=(κ.mp a8).1;exact⟨f[0],ζ aa⟩
   have a9:=a7 0 a2 e8
   cases m;rcases Nat.eq_zero_or_pos (Q d)with b0|b0
   ·have:=b4 b0;cases this
   have e9:i[0]? =I i[0]:=ζ aa;have g0:=(R.cellAt 0 aa).trans ((nC i 0 _ 0 e9 aa));rw[g0]at a9;simp at a9
  rw[World.cell?_of_block (w:=wc) (X O e4 e6 e7)];exact o
 ·rw[zM,List.length_append];have:dz [r]=r.arr.toList:=by simp[dz]
  rw[this];exact ownsRow_setCell_below b5 (by show c<c+1;omega) _
 rcases Nat.lt_or_ge j (Q i)with l|m
 ·rw[μ l]at p;rw[μ aa]at w;obtain⟨o,x⟩:=W j c3 C p w;exact⟨o,(x.ah t).typed.move (λg S=>by obtain⟨_,u,v,n⟩:=S;exact a0 g u _ v n (.inr (.inr H))) (λ_ _=>trivial)⟩
 rw[ι m]at p;rw[ι aa]at w;have o:j-Q i=0:=by
  have:=(κ.mp p).1;simp at this;omega
 rw[o]at p;rw[show j-Q d=0 by omega]at w;simp at p w;subst p w;exact⟨b6,b7.typed.move (λg S=>by obtain⟨_,u,v,n⟩:=S;exact a0 g u _ v n (.inr (.inr H))) (λ_ _=>trivial)⟩
def Kk(o:A6 Int Ex):A6 Int Ex:=match o with
 | .error n=>.error n
 | .ok x=>if !(x.ty==3)|| !x.quiet then .error 5 else .ok x
def dY(fns:χ Fn)(ts:χ (aJ×Ex))(t:aJ):A6 Int Ex:=
 if aT [fT (!aW t.name||(uH ts t.name==0)) 2,fT (!bG t) 6]≠0 then .error (aT [fT (!aW t.name||(uH ts t.name==0)) 2,fT (!bG t) 6])
 else Kk (dH bL (t.aB.map (bD [114,111,119]),[]) fns t.aR)
def aak(w0 w:ν)(bb:ψ)(FB:χ ψ)(fns:χ Fn)(ts:χ (aJ×Ex))(t:aJ)(o:A6 Int Ex)(e:Ending)(w':ν):Prop:=
 (∃n:Int,o=.error n/\n≠0/\e=θ (V M n)/\ο (Z (Y w)) w w')\/
 (∃x:Ex,o=.ok x/\e=θ (V M 0)/\tK w0 w' bb FB fns (ts++ [(t,x)])/\ο bb w w')
def fV(n:ψ):Code->Θ Code
 | .region id ops b=>if id=n then I (.region id ops b)else J
 | .seq a b=>match fV n a with
  |some c=>I c
  |none=>fV n b
 | .block _ c=>fV n c
 | .scope c=>fV n c
 | .loop c=>fV n c
 | .cond _ a b=>match fV n a with
  |some c=>I c
  |none=>fV n b
 |_=>J
def acJ(f:Func):Code:=((f.body.bind (fV 1)).getD .skip)
def Xb(f:Func):Code:=((f.body.bind (fV 2)).getD .skip)
theorem Lx(j2 j1 j0 k0 j9 j8 k3 k2 k1){aS j7}(m:c<Z (Y a))(j6:Z (Y b)<Z (Y a))(k9:Z (Y a)=Z (Y b)+1)(i8:β a (G c 0 J)=I (U L q e))(i9:β a (G c 1 J)=I (U aS B z))(j3:β a (G (Z (Y b)) 0 J)=I (D (ae k.name)))(k8:∀d:ν,Bl a d->A5 η 75 #[φ #[U L q e,U aS B z],D (ae k.name)] d λj4 k4=>Bl a k4/\Bl d k4/\∃r s T h9 i0 i1 i2 i3 i4 i5 t w x K N O P,nJ r s T h9 i0 i1 i2 i3 i4 i5 t w x K N O P/\j4=θ (ω #[φ #[r,s,T,h9,i0,i1,i2,i3,i4,i5,t,w,x,K,N,O,P],V M j7])){i6:Act->ν->Prop}{i7:Ending->ν->Prop}(j5:∀(m2 m3 l0 l1 l4 l7 l8 l9 m0 m1:A3) (k5:ν),Bl a k5->i6 ⟨#[α (I (G c 0 J)),φ #[D (ae k.name),U j2 j1 j0,U k0 j9 j8,V M k.count,D (ae k.aR),U k3 k2 k1],g,α (I (G (Z (Y b)) 0 J)),j,m2,V M j7,o,p,m3,l0,l1,l4,l7,l8,l9,m0,m1,R,S,a2,a3,a4,a5,a6,a7,a8,a9,b0,b1,b2,b3,b4,b5,b6,b7,b8,b9,c0,c1,c2,c3,c4,c5,c6,c7,c8,c9,e0,e1,e2,e3,e4,e5,e6,e7,e8,e9,g0,g1,g2,g3,g4,g5,g6,g7,g8,g9,h0,h1,h2,h3,h4,h5,h6,h7,h8],[]⟩ k5):
  Code.wp η (acJ A4) (Exit.then i6 (bodyPost η A4 i7)) ⟨#[α (I (G c 0 J)),φ #[D (ae k.name),U j2 j1 j0,U k0 j9 j8,V M k.count,D (ae k.aR),U k3 k2 k1],g,α (I (G (Z (Y b)) 0 J)),j,l,n,o,p,u,v,y,C,F,W,X,a0,a1,R,S,a2,a3,a4,a5,a6,a7,a8,a9,b0,b1,b2,b3,b4,b5,b6,b7,b8,b9,c0,c1,c2,c3,c4,c5,c6,c7,c8,c9,e0,e1,e2,e3,e4,e5,e6,e7,e8,e9,g0,g1,g2,g3,g4,g5,g6,g7,g8,g9,h0,h1,h2,h3,h4,h5,h6,h7,h8],[]⟩ a:=by
 conv=>arg 2;whnf
 change A1 _ at j5;go_region_held2 (λd=>β d (G c 0 J)=I (U L q e)/\β d (G c 1 J)=I (U aS B z)/\β d (G (Z (Y b)) 0 J)=I (D (ae k.name))) (go_keep) (first|(go_at_call 75;refine(k8 _ ?_).mono ?_;(first|exact(Ξ _ a).drew|exact Ξ _ a|exact(ai a _).drew|exact ai a _);rintro j4 o2 ⟨f,m4,r,s,T,h9,i0,i1,i2,i3,i4,i5,t,w,x,K,N,O,P,⟨m5,m6,n4,n5,n6,n7,n8,n9,o0,o1,m7,m8,m9,n0,n1,n2,n3⟩,rfl⟩;have:=cK f m i8;have:=cK f m i9;have:=cK f j6 j3;(first|(have k7:=acp m4 k9)|(have k7:=ξ o2 (δ #[D ⟨#[]⟩,U J 0 0,U J 0 0,V M 0,D ⟨#[]⟩,U J 0 0,V M 0,V M 0,V M 0,ρ τ,V M 0,V M 0,D ⟨#[]⟩,V M 0,D ⟨#[]⟩,α J,U J 0 0] 235)));obtain⟨_,_,_,_,_,_,_,_,_,_,_,_,_,_,_,_,o3,_,_,_,_,_,_,_,_,_,_,_,_,_,_,_,_,_,k6⟩:=VU (P:=η) k7 m5 m6 n4 n5 n6 n7 n8 n9 o0 o1 m7 m8 m9 n0 n1 n2 n3;have i:Bl a o3:=(by first|exact k6 _ _ aa f|exact k6 _ _ f.size (f.alloc f.size _));have:=cK i m i8;have:=cK i m i9;have:=cK i j6 j3));all_goals exact j5 _ _ _ _ _ _ _ _ _ _ _ (by first|exact i|exact i.drew)
end Go.Proofs.YthkeffolmbnkaaaGreatDoor

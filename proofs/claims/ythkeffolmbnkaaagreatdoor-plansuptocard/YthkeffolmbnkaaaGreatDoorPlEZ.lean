import Derived.Test.YthkeffolmbnkaaaGreatDoorBaGZ
import Derived.Test.YthkeffolmbnkaaaGreatDoorPlPZ
set_option linter.unusedVariables false
set_option linter.unusedSimpArgs false
set_option maxRecDepth 100000
set_option maxHeartbeats 0
open Array renaming size->β
open Bool renaming true->I,false->ζ
open Go renaming store->δ,World->θ,heap_alloc_new->κ,bodyPost_ret->ν,Value->ξ,results->χ
open Go.Addr renaming mk->G
open Go.IntKind renaming i64->V
open Go.Obj renaming cells->η
open Go.Proofs.Tryz renaming results67->ι,ntmps67->σ,func67->τ,f211->υ,prog->ψ
open Go.Value renaming int->U,slice->M,string->E,pointer->Q,bool->ε,tuple->ο,agg->φ
open Go.World renaming cell?->Z,heap->α
open List renaming length->γ
open Option renaming none->J,some->D
open _root_ renaming rfl->H,List->A,Int->Y,Except->μ,Nat->ρ
namespace Go.Proofs.YthkeffolmbnkaaaGreatDoor
open Go.Proofs.Tryz
open Go.RowKit
variable{x:Act->World->Prop}{y:Except Int (List Fn×List (aJ×Ex))}{e2:Exit->Act->World->Prop}{w c2 c3:Int}{a t v:Nat}{e3 e4:Option Addr}{b c d e f g i j k l n o p q r s u z B C F K c4 c5 c6 L N O P R c7 c8 c9 S T W X a0 a1 a2 a3 a4 a5 a6 e0 e1 a7 a8 a9 b0 b1 b2 b3 b4 b5 b6 b7 b8 b9 c0 c1 e5 e6 e7 e8:Value}{m e9:World}
def pM(user:Bs)(o:μ Y (A Fn×A (aJ×Ex))):μ Y (A Fn×A (aJ×Ex)):=if 30<γ user then .error 9 else o
theorem JC{user b}(a:pM user y=.ok b):y=.ok b/\γ user<=30:=by
 unfold pM at a;split at a
 ·cases a
 next c=>exact⟨a,aa⟩
def Dt(w:θ)(o:μ Y (A Fn×A (aJ×Ex)))(e:Ending)(w':θ):Prop:=Below (β (α w)) w w'/\
 ∃(FB:A ρ) (fo:Option Addr) (fnn fc:ρ) (aS:Option Addr) (tn tc:ρ) (n:Y) (fns:A Fn) (tt:A (aJ×Ex)),e=.returned (ο #[φ #[M fo fnn fc,M aS tn tc],U V n])/\kF w' FB (M fo fnn fc) fns/\dA w' FB (M aS tn tc) tt/\Hid ((o=.error n/\n≠0/\tt= [])\/(o=.ok (fns,tt)/\n=0))
theorem Dt.bad{a}(e:y=.error w)(d:w≠0)(b:Bl m e9)(c:a=.returned (ο #[φ #[M J 0 0,M J 0 0],U V w])):Dt m y a e9:=
 ⟨b,[],J,0,0,J,0,0,w,[],[],c,Ut,RP,.inl ⟨e,d,H⟩⟩
theorem Km{b cap}(e:ik m (M e3 a cap) b){c}(f:kV m (M e4 v t) c)(user):
  Calls ψ 67 #[φ #[M e3 a cap,M e4 v t],E (ae user)] m λy N=>Dt m (pM user (eG b c)) y N:=by
 by_cases p:30<γ user
 ·have O:30<(ae user).size:=by rw[aX];exact p
  have P:decide ((30:Y)<((ae user).size:Y))=I:=aN;have d:Hid (pM user (eG b c)=.error 9):=by rw[Hid,pM,if_pos p]
  clear e f;go_enter τ,σ;go_wp2_with fail;refine ν (v:=ο #[φ #[M J 0 0,M J 0 0],U V 9]) (by simp[χ,ι,go_sem]) H (.bad d ag ?_ H);exact aV m _ _
 have O:(ae user).size<=30:=by rw[aX];omega
 have P:decide ((30:Y)<((ae user).size:Y))=ζ:=aN;have d:Hid (pM user (eG b c)=eG b c):=by rw[Hid,pM,if_neg p]
 have n:=aV m (η #[M e3 a cap,M e4 v t] 67) (η #[M J 0 0,M J 0 0] 194);have g:=FE n (e.ah n) f;clear e f;go_enter τ,σ;go_wp2_with(go_at_call 61;refine g.mono ?_);clear g;rintro y o ⟨q,R⟩;obtain⟨k,B,_⟩:=qN q;obtain⟨C,_,F,_⟩:=nP k;have:β (α m)+1<β (α o):=aa;rcases R with⟨K,l,S,rfl⟩|⟨fns,r,s,e,f,g,aS,i,j,l,rfl,hF,L,T⟩
 ·have u:Hid (pM user (eG b c)=.error K):=d.out.trans l;clear l q k d n;go_wp2_with fail;exact ν (v:=ο #[φ #[M J 0 0,M J 0 0],U V K]) (by simp[χ,ι,go_sem,C,F]) H (.bad u S ((B.setCell ak _).setCell ak _) H)
 have u:Hid (pM user (eG b c)=.ok (fns,r)):=d.out.trans l;have W:Hid (kF ((o.setCell ⟨β (α m)+1,0,J⟩ (M e f g)).setCell ⟨β (α m)+1,1,J⟩ (M aS i j)) s (M e f g) fns):=
  hF.other k (by simp[World.size_setCell]) λX w=>uE w
 have x:Bl m ((o.setCell ⟨β (α m)+1,0,J⟩ (M e f g)).setCell ⟨β (α m)+1,1,J⟩ (M aS i j)):=(B.setCell ak _).setCell ak _;have a0:Hid (dA ((o.setCell ⟨β (α m)+1,0,J⟩ (M e f g)).setCell ⟨β (α m)+1,1,J⟩ (M aS i j)) s (M aS i j) r):=
  (L.other k λX w=>uE w).bI x
 change Hid _ at x;clear l q k hF L T d n;go_wp2_with fail;exact ν (v:=ο #[φ #[M e f g,M aS i j],U V 0]) (by simp[χ,ι,go_sem,C,F]) H ⟨x,s,e,f,g,aS,i,j,0,fns,r,H,W,a0,.inr ⟨u,H⟩⟩
theorem BH:Calls ψ 65 #[M (D (G (β (α m)) 0 J)) 3 3] (m.alloc (η #[U V w,U V c2,U V c3] 68)) λb c=>b=.returned (U V (aT [w,c2,c3]))/\c=m.alloc (η #[U V w,U V c2,U V c3] 68):=by
 refine sI (β (α m)) 3 [w,c2,c3] ak λd _ a=>?_;rw[aI (κ m _)]
 match d,a with
 |0,a=>simp at a;subst a;rfl
 |1,a=>simp at a;subst a;rfl
 |2,a=>simp at a;subst a;rfl
theorem wH{P:Program}(a2:m.heap[a]? =D (η #[E ⟨#[]⟩,M J 0 0,M J 0 0,U V 0,E ⟨#[]⟩,M J 0 0,U V 0,U V 0,U V 0,ε ζ,U V 0,U V 0,E ⟨#[]⟩,U V 0,E ⟨#[]⟩,Q J,M J 0 0] 235))(a3:b.oneCell'=I)(a4:c.oneCell'=I)(b2:d.oneCell'=I)(b3:e.oneCell'=I)(b4:f.oneCell'=I)(b5:g.oneCell'=I)(b6:i.oneCell'=I)(b7:j.oneCell'=I)(b8:k.oneCell'=I)(b9:l.oneCell'=I)(a5:n.oneCell'=I)(a6:o.oneCell'=I)(a7:p.oneCell'=I)(a8:q.oneCell'=I)(a9:r.oneCell'=I)(b0:s.oneCell'=I)(b1:u.oneCell'=I):
  ∃y O R S T W X a0 a1 z B C F K L N x:θ,(δ (G a 0 J) b).run P m=.ok () y/\(δ (G a 1 J) c).run P y=.ok () O/\(δ (G a 2 J) d).run P O=.ok () R/\(δ (G a 3 J) e).run P R=.ok () S/\(δ (G a 4 J) f).run P S=.ok () T/\(δ (G a 5 J) g).run P T=.ok () W/\(δ (G a 6 J) i).run P W=.ok () X/\(δ (G a 7 J) j).run P X=.ok () a0/\(δ (G a 8 J) k).run P a0=.ok () a1/\(δ (G a 9 J) l).run P a1=.ok () z/\(δ (G a 10 J) n).run P z=.ok () B/\(δ (G a 11 J) o).run P B=.ok () C/\(δ (G a 12 J) p).run P C=.ok () F/\(δ (G a 13 J) q).run P F=.ok () K/\(δ (G a 14 J) r).run P K=.ok () L/\(δ (G a 15 J) s).run P L=.ok () N/\(δ (G a 16 J) u).run P N=.ok () x/\x.heap[a]? =D (η #[b,c,d,e,f,g,i,j,k,l,n,o,p,q,r,s,u] 235 (0,0))/\∀(t:ρ) (v:θ),t<=a->Below t v m->Below t v x:=by
 obtain⟨y,c0,c1, -,c2⟩:=aM (P:=P) 0 #[b,M J 0 0,M J 0 0,U V 0,E ⟨#[]⟩,M J 0 0,U V 0,U V 0,U V 0,ε ζ,U V 0,U V 0,E ⟨#[]⟩,U V 0,E ⟨#[]⟩,Q J,M J 0 0] a2 ak a3 H;obtain⟨O,c3,c4, -,c5⟩:=aM (P:=P) 1 #[b,c,M J 0 0,U V 0,E ⟨#[]⟩,M J 0 0,U V 0,U V 0,U V 0,ε ζ,U V 0,U V 0,E ⟨#[]⟩,U V 0,E ⟨#[]⟩,Q J,M J 0 0] c1 ak a4 H;obtain⟨R,c6,c7, -,c8⟩:=aM (P:=P) 2 #[b,c,d,U V 0,E ⟨#[]⟩,M J 0 0,U V 0,U V 0,U V 0,ε ζ,U V 0,U V 0,E ⟨#[]⟩,U V 0,E ⟨#[]⟩,Q J,M J 0 0] c4 ak b2 H;obtain⟨S,c9,e0, -,e1⟩:=aM (P:=P) 3 #[b,c,d,e,E ⟨#[]⟩,M J 0 0,U V 0,U V 0,U V 0,ε ζ,U V 0,U V 0,E ⟨#[]⟩,U V 0,E ⟨#[]⟩,Q J,M J 0 0] c7 ak b3 H;obtain⟨T,e2,e3, -,e4⟩:=aM (P:=P) 4 #[b,c,d,e,f,M J 0 0,U V 0,U V 0,U V 0,ε ζ,U V 0,U V 0,E ⟨#[]⟩,U V 0,E ⟨#[]⟩,Q J,M J 0 0] e0 ak b4 H;obtain⟨W,e5,e6, -,e7⟩:=aM (P:=P) 5 #[b,c,d,e,f,g,U V 0,U V 0,U V 0,ε ζ,U V 0,U V 0,E ⟨#[]⟩,U V 0,E ⟨#[]⟩,Q J,M J 0 0] e3 ak b5 H;obtain⟨X,e8,e9, -,g0⟩:=aM (P:=P) 6 #[b,c,d,e,f,g,i,U V 0,U V 0,ε ζ,U V 0,U V 0,E ⟨#[]⟩,U V 0,E ⟨#[]⟩,Q J,M J 0 0] e6 ak b6 H;obtain⟨a0,g1,g2, -,g3⟩:=aM (P:=P) 7 #[b,c,d,e,f,g,i,j,U V 0,ε ζ,U V 0,U V 0,E ⟨#[]⟩,U V 0,E ⟨#[]⟩,Q J,M J 0 0] e9 ak b7 H;obtain⟨a1,g4,g5, -,g6⟩:=aM (P:=P) 8 #[b,c,d,e,f,g,i,j,k,ε ζ,U V 0,U V 0,E ⟨#[]⟩,U V 0,E ⟨#[]⟩,Q J,M J 0 0] g2 ak b8 H;obtain⟨z,g7,g8, -,g9⟩:=aM (P:=P) 9 #[b,c,d,e,f,g,i,j,k,l,U V 0,U V 0,E ⟨#[]⟩,U V 0,E ⟨#[]⟩,Q J,M J 0 0] g5 ak b9 H;obtain⟨B,h0,h1, -,h2⟩:=aM (P:=P) 10 #[b,c,d,e,f,g,i,j,k,l,n,U V 0,E ⟨#[]⟩,U V 0,E ⟨#[]⟩,Q J,M J 0 0] g8 ak a5 H;obtain⟨C,h3,h4, -,h5⟩:=aM (P:=P) 11 #[b,c,d,e,f,g,i,j,k,l,n,o,E ⟨#[]⟩,U V 0,E ⟨#[]⟩,Q J,M J 0 0] h1 ak a6 H;obtain⟨F,h6,h7, -,h8⟩:=aM (P:=P) 12 #[b,c,d,e,f,g,i,j,k,l,n,o,p,U V 0,E ⟨#[]⟩,Q J,M J 0 0] h4 ak a7 H;obtain⟨K,h9,i0, -,i1⟩:=aM (P:=P) 13 #[b,c,d,e,f,g,i,j,k,l,n,o,p,q,E ⟨#[]⟩,Q J,M J 0 0] h7 ak a8 H;obtain⟨L,i2,i3, -,i4⟩:=aM (P:=P) 14 #[b,c,d,e,f,g,i,j,k,l,n,o,p,q,r,Q J,M J 0 0] i0 ak a9 H;obtain⟨N,i5,i6, -,i7⟩:=aM (P:=P) 15 #[b,c,d,e,f,g,i,j,k,l,n,o,p,q,r,s,M J 0 0] i3 ak b0 H;obtain⟨x,i8,m17, -,i9⟩:=aM (P:=P) 16 #[b,c,d,e,f,g,i,j,k,l,n,o,p,q,r,s,u] i6 ak b1 H;exact⟨_,_,_,_,_,_,_,_,_,_,_,_,_,_,_,_,_,c0,c3,c6,c9,e2,e5,e8,g1,g4,g7,h0,h3,h6,h9,i2,i5,i8,m17,λt v w j0=>(i9 t v w (i7 t v w (i4 t v w (i1 t v w (h8 t v w (h5 t v w (h2 t v w (g9 t v w (g6 t v w (g3 t v w (g0 t v w (e7 t v w (e4 t v w (e1 t v w (c8 t v w (c5 t v w (c2 t v w j0)))))))))))))))))⟩
def yO(w:θ)(b i:ρ)(a0 a1 a2 a3 a4 a5 a6 a7 a8 a9 a10 a11 a12 a13 a14 a15 a16:ξ):Prop:=Z w ⟨b,i*17,J⟩=D a0/\Z w ⟨b,i*17+1,J⟩=D a1/\Z w ⟨b,i*17+2,J⟩=D a2/\Z w ⟨b,i*17+3,J⟩=D a3/\Z w ⟨b,i*17+4,J⟩=D a4/\Z w ⟨b,i*17+5,J⟩=D a5/\Z w ⟨b,i*17+6,J⟩=D a6/\Z w ⟨b,i*17+7,J⟩=D a7/\Z w ⟨b,i*17+8,J⟩=D a8/\Z w ⟨b,i*17+9,J⟩=D a9/\Z w ⟨b,i*17+10,J⟩=D a10/\Z w ⟨b,i*17+11,J⟩=D a11/\Z w ⟨b,i*17+12,J⟩=D a12/\Z w ⟨b,i*17+13,J⟩=D a13/\Z w ⟨b,i*17+14,J⟩=D a14/\Z w ⟨b,i*17+15,J⟩=D a15/\Z w ⟨b,i*17+16,J⟩=D a16
def yN(w:θ)(b i:ρ)(a0 a1 a2 a3 a4 a5 a6 a7 a8 a9 a10 a11 a12:ξ):Prop:=Z w ⟨b,i*13,J⟩=D a0/\Z w ⟨b,i*13+1,J⟩=D a1/\Z w ⟨b,i*13+2,J⟩=D a2/\Z w ⟨b,i*13+3,J⟩=D a3/\Z w ⟨b,i*13+4,J⟩=D a4/\Z w ⟨b,i*13+5,J⟩=D a5/\Z w ⟨b,i*13+6,J⟩=D a6/\Z w ⟨b,i*13+7,J⟩=D a7/\Z w ⟨b,i*13+8,J⟩=D a8/\Z w ⟨b,i*13+9,J⟩=D a9/\Z w ⟨b,i*13+10,J⟩=D a10/\Z w ⟨b,i*13+11,J⟩=D a11/\Z w ⟨b,i*13+12,J⟩=D a12
def Dn(a0 a1 a2 a3 a4 a5 a6 a7 a8 a9 a10 a11 a12:ξ):Prop:=a0.oneCell'=I/\a1.oneCell'=I/\a2.oneCell'=I/\a3.oneCell'=I/\a4.oneCell'=I/\a5.oneCell'=I/\a6.oneCell'=I/\a7.oneCell'=I/\a8.oneCell'=I/\a9.oneCell'=I/\a10.oneCell'=I/\a11.oneCell'=I/\a12.oneCell'=I
def xS(w:θ)(v:ξ)(cs:A Y):Prop:=∃ao cap,v=M ao (γ cs) cap/\γ cs<=4/\(cs= []\/∃b,ao=D ⟨b,0,J⟩/\b<β (α w)/\∀(i:ρ) (c:Y),cs[i]? =D c->∃a0 a1 a2 a4 a5 a6 a7 a8 a9 a10 a11 a12 a13 a14 a15 a16,nJ a0 a1 a2 (U V c) a4 a5 a6 a7 a8 a9 a10 a11 a12 a13 a14 a15 a16/\yO w b i a0 a1 a2 (U V c) a4 a5 a6 a7 a8 a9 a10 a11 a12 a13 a14 a15 a16)
def qC(w:θ)(v:ξ)(ps:A (ρ×Y×Bool)):Prop:=∃ao cap,v=M ao (γ ps) cap/\γ ps<=1000/\(ps= []\/∃b,ao=D ⟨b,0,J⟩/\b<β (α w)/\∀(i:ρ) (p:ρ×Y×Bool),ps[i]? =D p->∃a0 a1 a2 a4 a5 a6 a7 a8 a9 a10,Dn a0 a1 a2 (ε p.2.2) a4 a5 a6 a7 a8 a9 a10 (U .u64 (p.1:Y)) (U V p.2.1)/\yN w b i a0 a1 a2 (ε p.2.2) a4 a5 a6 a7 a8 a9 a10 (U .u64 (p.1:Y)) (U V p.2.1))
theorem xS.ah{w x v c}(g:xS w v c)(d:Bl w x):xS x v c:=by
 obtain⟨j,cap,l,m,n⟩:=g;refine⟨j,cap,l,m,n.imp id ?_⟩;rintro⟨a,o,e,q⟩;refine⟨a,o,Nat.lt_of_lt_of_le e d.size,λi r s=>?_⟩;obtain⟨t,u,y,z,B,C,F,K,L,N,O,P,R,S,T,W,X,f⟩:=q i r s;refine⟨t,u,y,z,B,C,F,K,L,N,O,P,R,S,T,W,X, ?_⟩;unfold yO at f ⊢;have k:∀b,Z x (G a b J)=Z w (G a b J):=λb=>d.cell (p:=(G a b J)) e;simp only[k];exact f
theorem qC.ah{w x v d}(g:qC w v d)(c:Bl w x):qC x v d:=by
 obtain⟨j,cap,l,m,n⟩:=g;refine⟨j,cap,l,m,n.imp id ?_⟩;rintro⟨a,o,e,q⟩;refine⟨a,o,Nat.lt_of_lt_of_le e c.size,λi r s=>?_⟩;obtain⟨t,u,y,z,B,C,F,K,L,N,O,f⟩:=q i r s;refine⟨t,u,y,z,B,C,F,K,L,N,O, ?_⟩;unfold yN at f ⊢;have k:∀b,Z x (G a b J)=Z w (G a b J):=λb=>c.cell (p:=(G a b J)) e;simp only[k];exact f
theorem Cs{P:Program}(O:m.heap[a]? =D (η #[U V 0,U V 0,U V 0,ε ζ,U V 0,U V 0,E ⟨#[]⟩,U V 0,E ⟨#[]⟩,Q J,M J 0 0,U .u64 0,U V 0] 387))(R:b.oneCell'=I)(S:c.oneCell'=I)(a0:d.oneCell'=I)(a1:e.oneCell'=I)(a2:f.oneCell'=I)(a3:g.oneCell'=I)(a4:i.oneCell'=I)(a5:j.oneCell'=I)(a6:k.oneCell'=I)(a7:l.oneCell'=I)(T:n.oneCell'=I)(W:o.oneCell'=I)(X:p.oneCell'=I):
  ∃u y z B C F K L N v w x t:θ,(δ (G a 0 J) b).run P m=.ok () u/\(δ (G a 1 J) c).run P u=.ok () y/\(δ (G a 2 J) d).run P y=.ok () z/\(δ (G a 3 J) e).run P z=.ok () B/\(δ (G a 4 J) f).run P B=.ok () C/\(δ (G a 5 J) g).run P C=.ok () F/\(δ (G a 6 J) i).run P F=.ok () K/\(δ (G a 7 J) j).run P K=.ok () L/\(δ (G a 8 J) k).run P L=.ok () N/\(δ (G a 9 J) l).run P N=.ok () v/\(δ (G a 10 J) n).run P v=.ok () w/\(δ (G a 11 J) o).run P w=.ok () x/\(δ (G a 12 J) p).run P x=.ok () t/\t.heap[a]? =D (η #[b,c,d,e,f,g,i,j,k,l,n,o,p] 387 (0,0))/\∀(q:ρ) (r:θ),q<=a->Below q r m->Below q r t:=by
 obtain⟨u,a8,a9, -,b0⟩:=aM (P:=P) 0 #[b,U V 0,U V 0,ε ζ,U V 0,U V 0,E ⟨#[]⟩,U V 0,E ⟨#[]⟩,Q J,M J 0 0,U .u64 0,U V 0] O ak R H;obtain⟨y,b1,b2, -,b3⟩:=aM (P:=P) 1 #[b,c,U V 0,ε ζ,U V 0,U V 0,E ⟨#[]⟩,U V 0,E ⟨#[]⟩,Q J,M J 0 0,U .u64 0,U V 0] a9 ak S H;obtain⟨z,b4,b5, -,b6⟩:=aM (P:=P) 2 #[b,c,d,ε ζ,U V 0,U V 0,E ⟨#[]⟩,U V 0,E ⟨#[]⟩,Q J,M J 0 0,U .u64 0,U V 0] b2 ak a0 H;obtain⟨B,b7,b8, -,b9⟩:=aM (P:=P) 3 #[b,c,d,e,U V 0,U V 0,E ⟨#[]⟩,U V 0,E ⟨#[]⟩,Q J,M J 0 0,U .u64 0,U V 0] b5 ak a1 H;obtain⟨C,c0,c1, -,c2⟩:=aM (P:=P) 4 #[b,c,d,e,f,U V 0,E ⟨#[]⟩,U V 0,E ⟨#[]⟩,Q J,M J 0 0,U .u64 0,U V 0] b8 ak a2 H;obtain⟨F,c3,c4, -,c5⟩:=aM (P:=P) 5 #[b,c,d,e,f,g,E ⟨#[]⟩,U V 0,E ⟨#[]⟩,Q J,M J 0 0,U .u64 0,U V 0] c1 ak a3 H;obtain⟨K,c6,c7, -,c8⟩:=aM (P:=P) 6 #[b,c,d,e,f,g,i,U V 0,E ⟨#[]⟩,Q J,M J 0 0,U .u64 0,U V 0] c4 ak a4 H;obtain⟨L,c9,e0, -,e1⟩:=aM (P:=P) 7 #[b,c,d,e,f,g,i,j,E ⟨#[]⟩,Q J,M J 0 0,U .u64 0,U V 0] c7 ak a5 H;obtain⟨N,e2,e3, -,e4⟩:=aM (P:=P) 8 #[b,c,d,e,f,g,i,j,k,Q J,M J 0 0,U .u64 0,U V 0] e0 ak a6 H;obtain⟨v,e5,e6, -,e7⟩:=aM (P:=P) 9 #[b,c,d,e,f,g,i,j,k,l,M J 0 0,U .u64 0,U V 0] e3 ak a7 H;obtain⟨w,e8,e9, -,g0⟩:=aM (P:=P) 10 #[b,c,d,e,f,g,i,j,k,l,n,U .u64 0,U V 0] e6 ak T H;obtain⟨x,g1,g2, -,g3⟩:=aM (P:=P) 11 #[b,c,d,e,f,g,i,j,k,l,n,o,U V 0] e9 ak W H;obtain⟨t,g4,g5, -,g6⟩:=aM (P:=P) 12 #[b,c,d,e,f,g,i,j,k,l,n,o,p] g2 ak X H;exact⟨_,_,_,_,_,_,_,_,_,_,_,_,_,a8,b1,b4,b7,c0,c3,c6,c9,e2,e5,e8,g1,g4,g5,λq r s g7=>(g6 q r s (g3 q r s (g0 q r s (e7 q r s (e4 q r s (e1 q r s (c8 q r s (c5 q r s (c2 q r s (b9 q r s (b6 q r s (b3 q r s (b0 q r s g7)))))))))))))⟩
def acY(f:Func):Code:=((f.body.bind (fV 4)).getD .skip)
theorem acX{wr}(cap)(j7:a<v)(c3:nJ b c d e f g i j k l n o p q r s u)(c2:yO wr t a b c d e f g i j k l n o p q r s u)(w:∀(e3 e4 e9:ξ) (m:θ),m.heap[β (α wr)]? =D (η #[b,c,d,e,f,g,i,j,k,l,n,o,p,q,r,s,u] 235 (0,0))->Bl wr m->x ⟨#[z,B,C,F,K,c4,U V (a:Y),Q (D (G (β (α wr)) 0 J)),L,N,O,M (D (G t 0 J)) v cap,P,U V (a:Y),R,e3,e4,e9,S,T,W,X,a0,a1,a2,a3,a4,a5,a6,e0,e1,a7,a8,a9,b0,b1,b2,b3,b4,b5,b6,b7,b8,b9,c0,c1,e5,e6,e7,e8],[]⟩ m):
  Code.wp ψ (acY υ) (Exit.then x e2) ⟨#[z,B,C,F,K,c4,c5,c6,L,N,O,M (D (G t 0 J)) v cap,P,U V (a:Y),R,c7,c8,c9,S,T,W,X,a0,a1,a2,a3,a4,a5,a6,e0,e1,a7,a8,a9,b0,b1,b2,b3,b4,b5,b6,b7,b8,b9,c0,c1,e5,e6,e7,e8],[]⟩ wr:=by
 conv=>arg 2;whnf
 change Hid _ at w;obtain⟨_,_,_,_,_,_,_,_,_,_,_,_,_,_,_,_,_⟩:yO wr t a b c d e f g i j k l n o p q r s u:=c2;obtain⟨g0,g1,g2,g3,g4,g5,g6,g7,g8,g9,h0,h1,h2,h3,h4,h5,h6⟩:nJ b c d e f g i j k l n o p q r s u:=c3;go_wp2_with fail
 as_aux_lemma=>
 obtain⟨_,_,_,_,_,_,_,_,_,_,_,_,_,_,_,_,h7,h8,h9,i0,i1,i2,i3,i4,i5,i6,i7,i8,i9,j0,j1,j2,j3,j4,j5,y⟩:=wH (P:=ψ) (κ wr (η #[E ⟨#[]⟩,M J 0 0,M J 0 0,U V 0,E ⟨#[]⟩,M J 0 0,U V 0,U V 0,U V 0,ε ζ,U V 0,U V 0,E ⟨#[]⟩,U V 0,E ⟨#[]⟩,Q J,M J 0 0] 235)) g0 g1 g2 g3 g4 g5 g6 g7 g8 g9 h0 h1 h2 h3 h4 h5 h6;have j6:Bl wr h7:=y _ _ (Nat.le_refl _) (ai wr _);clear y;simp only[h8,h9,i0,i1,i2,i3,i4,i5,i6,i7,i8,i9,j0,j1,j2,j3,j4,Result.andThen];go_wp2_with fail;exact w _ _ _ _ j5 j6
def aaU(f:Func):Code:=((f.body.bind (fV 10)).getD .skip)
theorem aaT{wr}(cap)(h1:a<v)(c3:Dn b c d e f g i j k l n o p)(c2:yN wr t a b c d e f g i j k l n o p)(w:∀(e3 e4:ξ) (m:θ),m.heap[β (α wr)]? =D (η #[b,c,d,e,f,g,i,j,k,l,n,o,p] 387 (0,0))->Bl wr m->x ⟨#[q,r,s,u,z,B,C,F,K,Q (D (G (β (α wr)) 0 J)),c5,c6,L,N,O,P,R,c7,c8,c9,S,T,W,X,a0,a1,a2,a3,a4,M (D (G t 0 J)) v cap,a5,U V (a:Y),a6,e3,e4,a7,a8,a9,b0,b1,b2,b3,b4,b5,b6,b7,b8,b9,c0,c1],[]⟩ m):
  Code.wp ψ (aaU υ) (Exit.then x e2) ⟨#[q,r,s,u,z,B,C,F,K,c4,c5,c6,L,N,O,P,R,c7,c8,c9,S,T,W,X,a0,a1,a2,a3,a4,M (D (G t 0 J)) v cap,a5,U V (a:Y),a6,e0,e1,a7,a8,a9,b0,b1,b2,b3,b4,b5,b6,b7,b8,b9,c0,c1],[]⟩ wr:=by
 conv=>arg 2;whnf
 change Hid _ at w;obtain⟨_,_,_,_,_,_,_,_,_,_,_,_,_⟩:yN wr t a b c d e f g i j k l n o p:=c2;obtain⟨e5,e6,e7,e8,e9,g0,g1,g2,g3,g4,g5,g6,g7⟩:Dn b c d e f g i j k l n o p:=c3;obtain⟨_,_,_,_,_,_,_,_,_,_,_,_,g8,_,_,_,_,_,_,_,_,_,_,_,_,_,g9,y⟩:=Cs (P:=ψ) (κ wr (η #[U V 0,U V 0,U V 0,ε ζ,U V 0,U V 0,E ⟨#[]⟩,U V 0,E ⟨#[]⟩,Q J,M J 0 0,U .u64 0,U V 0] 387)) e5 e6 e7 e8 e9 g0 g1 g2 g3 g4 g5 g6 g7;have h0:Bl wr g8:=y _ _ (Nat.le_refl _) (ai wr _);clear y;go_wp2_with fail;exact w _ _ _ g9 h0
structure qD where
 from_:List (Bs×Bs)
 aL:Bs
 outs:List Bs
 order:List (Int×Bool)
 bi:Int
def iQ(q:qD):Bool:=decide (1<=γ q.from_)&&decide (γ q.from_<=4)&&decide (1<=γ q.outs)&&decide (γ q.outs<=4)&&decide (-1<=q.bi)&&(decide (q.bi= -1)||decide (γ q.order≠0))&&decide (γ q.order<=4)&&q.order.all λk=>decide (0<=k.1)&&decide (k.1<γ q.outs)
def dh(ts:A (aJ×Ex))(user:Bs):A (Bs×Bs)->A (Bs×Bs)->μ Y (A (aJ×Ex))
 |_,[]=>.ok []
 |before,it::rest=>match dS ts it.1 with
  |none=>.error 2
  |some i=>match ts[i]? with
   |none=>.error 2
   |some te=>if !aW it.2||before.any (λo=>o.2==it.2)then .error 2 else if !bC te.1.gZ user then .error 7 else match dh ts user (before++ [it]) rest with
    | .error n=>.error n
    | .ok l=>.ok (te::l)
abbrev dB:=(Bs×Y)×ρ×Y
def aK:ρ->A (aJ×Ex)->A (Bs×Bs)->A dB
 |k,te::tes,it::its=>(te.1.aB.map λc=>(bD it.2 c,k,c.2.2))++aK (k+1) tes its
 |_,_,_=>[]
def Ex.sort:Ex->Y
 | .mk s _ _ _ _ _ _ _ _ _ _=>s
def Ex.place:Ex->Y
 | .mk _ _ _ _ _ _ _ p _ _ _=>p
def Ex.head:Ex->Bs
 | .mk _ _ _ _ _ _ _ _ h _ _=>h
def Ex.ops:Ex->A Ex
 | .mk _ _ _ _ _ _ _ _ _ _ o=>o
mutual
def fU:Ex->A Ex
 | .mk s t z q vk vn vs p h f o=>if h= [97,110,100]then fK o else [.mk s t z q vk vn vs p h f o]
def fK:A Ex->A Ex
 | []=>[]
 |e::es=>fU e++fK es
end
def lL(cs:A dB)(p:Y):ρ:=match cs[p.toNat]? with
 |some c=>c.2.1
 |none=>0
def fq(cs:A dB)(p:Y):Y:=match cs[p.toNat]? with
 |some c=>c.2.2
 |none=>0
mutual
def bH(cs:A dB):Ex->ρ
 | .mk s _ _ _ _ _ _ p _ _ o=>iw cs (if s=2 then bu 0 (lL cs p)else 0) o
def iw(cs:A dB):ρ->A Ex->ρ
 |m,[]=>m
 |m,e::es=>iw cs (m|||bH cs e) es
end
def oQ(cs:A dB)(e:Ex):Y:=if e.head≠ [61]then 3 else match e.ops with
 |l::r::_=>
  if l.sort=2/\r.sort=2/\bH cs l≠bH cs r then max (fq cs l.place) (fq cs r.place)
  else if l.sort=2/\bH cs r=0 then fq cs l.place
  else if r.sort=2/\bH cs l=0 then fq cs r.place
  else 3
 |_=>3
structure nH where
 fns:List Fn
 bI:List (aJ×Ex)
 aB:List dB
 conds:List Ex
 outs:List Ex
def fw(sc:Sc)(fns:A Fn)(wh:Bs):μ Y (A Ex):=if wh= []then .ok []else match dH bL sc fns wh with
 | .error n=>.error n
 | .ok e=>if e.ty≠3 then .error 3 else .ok (fU e)
def eF(sc:Sc)(fns:A Fn):A Bs->μ Y (A Ex)
 | []=>.ok []
 |o::os=>match dH bL sc fns o with
  | .error n=>.error n
  | .ok e=>match eF sc fns os with
   | .error n=>.error n
   | .ok es=>.ok (e::es)
def lh(fs:A qB)(ts:A aJ)(user:Bs)(q:qD):μ Y nH:=match pM user (eG fs ts)with
 | .error n=>.error n
 | .ok p=>if iQ q=ζ then .error 8 else match dh p.2 user [] q.from_ with
  | .error n=>.error n
  | .ok tes=>
   match fw ((aK 0 tes q.from_).map (·.1),[]) p.1 q.aL with
   | .error n=>.error n
   | .ok cs=>match eF ((aK 0 tes q.from_).map (·.1),[]) p.1 q.outs with
    | .error n=>.error n
    | .ok os=>.ok ⟨p.1,tes,aK 0 tes q.from_,cs,os⟩
def nH.pq(r:nH):PQ:=⟨r.bI.map (·.1.count),r.conds.map λe=>(bH r.aB e,oQ r.aB e,e.quiet)⟩
end Go.Proofs.YthkeffolmbnkaaaGreatDoor

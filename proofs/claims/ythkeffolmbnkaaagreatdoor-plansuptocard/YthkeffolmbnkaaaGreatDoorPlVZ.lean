import Derived.Test.YthkeffolmbnkaaaGreatDoorPlEZ
set_option linter.unusedVariables false
set_option linter.unusedSimpArgs false
set_option maxRecDepth 100000
set_option maxHeartbeats 0
open Array renaming size->β
open Bool renaming true->θ,false->φ,and_eq_true->Ω
open Go renaming heap_alloc_new->ε,World->μ,Value->ξ,store->ψ,Calls->ω,maxLen->A2,Func->A8,Exit->A9,Code->B0,Addr->B1
open Go.Addr renaming mk->I
open Go.IntKind renaming i64->U
open Go.Obj renaming cells->ζ
open Go.Proofs.Tryz renaming prog->κ,ntmps255->A3,func255->A4
open Go.Proofs.YthkeffolmbnkaaaGreatDoor renaming ae->Y
open Go.RowKit renaming Hid->H,intOf->Γ
open Go.Value renaming int->J,string->E,slice->G,pointer->Q,bool->γ,agg->A7
open Go.World renaming cell?->Z,heap->α
open List renaming length->A,getElem?_eq_getElem->δ,drop_of_length_le->η,drop_eq_getElem_cons->ι,length_append->Θ,flatMap_cons->Ξ,length_cons->Φ,getElem_mem->Ψ,mem_cons->A1
open Nat renaming zero_le->σ,le_refl->τ,lt_of_lt_of_le->υ,zero_mul->A5,zero_add->A6
open Option renaming none->V,some->M
open SizeOf renaming sizeOf->ρ
open _root_ renaming rfl->D,Int->ν,List->ο,Nat->χ,Bool->Δ,Option->A0
namespace Go.Proofs.YthkeffolmbnkaaaGreatDoor
open Go.Proofs.Tryz
open Go.RowKit
variable{C:Act->World->Prop}{g4 g5:Bool}{q g6 g7 g8:Bs}{a6 g3:Ex}{b0:Exit->Act->World->Prop}{r e8 e9 g9 h0 h1 h2 h3 h4 h5 h6 h7:Int}{s:List (Bs×Bs)}{y:List (Int×Bool)}{c:List dB}{a o t h8 h9 i0 i1:Nat}{g0 g2:Obj}{a7 g1 i2 i3:Option Addr}{d e f g i j k l m n p u v w x z B F a4 K L N a2 a3 O P R S T W X a0 a1 a8 a9 a5 b1 b2 b3 b4 b5 b6 b7 b8 b9 c0 c1 c2 c3 c4 c5 c6 c7 c8 c9 e0 e1 e2 e3 e4 e5 e6 e7 i4 i5 i6 i7 i8 i9 j0 j1 j2 j3 j4 j5 j6 j7 j8 j9 k0:Value}{b:World}
def kH(w:μ)(b i:χ)(a0 a1 a2 a3 a4 a5 a6 a7 a8 a9 a10:ξ):Prop:=Z w ⟨b,i*11,V⟩=M a0/\Z w ⟨b,i*11+1,V⟩=M a1/\Z w ⟨b,i*11+2,V⟩=M a2/\Z w ⟨b,i*11+3,V⟩=M a3/\Z w ⟨b,i*11+4,V⟩=M a4/\Z w ⟨b,i*11+5,V⟩=M a5/\Z w ⟨b,i*11+6,V⟩=M a6/\Z w ⟨b,i*11+7,V⟩=M a7/\Z w ⟨b,i*11+8,V⟩=M a8/\Z w ⟨b,i*11+9,V⟩=M a9/\Z w ⟨b,i*11+10,V⟩=M a10
def Gr(a0 a1 a2 a3 a4 a5 a6 a7 a8 a9 a10:ξ):Prop:=a0.oneCell'=θ/\a1.oneCell'=θ/\a2.oneCell'=θ/\a3.oneCell'=θ/\a4.oneCell'=θ/\a5.oneCell'=θ/\a6.oneCell'=θ/\a7.oneCell'=θ/\a8.oneCell'=θ/\a9.oneCell'=θ/\a10.oneCell'=θ
theorem uG{P:Program}(F:b.heap[a]? =M (ζ #[J U 0,J U 0,J U 0,γ φ,J U 0,J U 0,E ⟨#[]⟩,J U 0,E ⟨#[]⟩,Q V,G V 0 0] 210))(K:d.oneCell'=θ)(L:e.oneCell'=θ)(O:f.oneCell'=θ)(R:g.oneCell'=θ)(S:i.oneCell'=θ)(T:j.oneCell'=θ)(W:k.oneCell'=θ)(X:l.oneCell'=θ)(a0:m.oneCell'=θ)(a1:n.oneCell'=θ)(N:p.oneCell'=θ):
  ∃s u v w x y z B C t r:μ,(ψ (I a 0 V) d).run P b=.ok () s/\(ψ (I a 1 V) e).run P s=.ok () u/\(ψ (I a 2 V) f).run P u=.ok () v/\(ψ (I a 3 V) g).run P v=.ok () w/\(ψ (I a 4 V) i).run P w=.ok () x/\(ψ (I a 5 V) j).run P x=.ok () y/\(ψ (I a 6 V) k).run P y=.ok () z/\(ψ (I a 7 V) l).run P z=.ok () B/\(ψ (I a 8 V) m).run P B=.ok () C/\(ψ (I a 9 V) n).run P C=.ok () t/\(ψ (I a 10 V) p).run P t=.ok () r/\r.heap[a]? =M (ζ #[d,e,f,g,i,j,k,l,m,n,p] 210 (0,0))/\∀(c:χ) (o:μ),c<=a->Below c o b->Below c o r:=by
 obtain⟨s,a2,a3, -,a4⟩:=aM (P:=P) 0 #[d,J U 0,J U 0,γ φ,J U 0,J U 0,E ⟨#[]⟩,J U 0,E ⟨#[]⟩,Q V,G V 0 0] F ak K D;obtain⟨u,a5,a6, -,a7⟩:=aM (P:=P) 1 #[d,e,J U 0,γ φ,J U 0,J U 0,E ⟨#[]⟩,J U 0,E ⟨#[]⟩,Q V,G V 0 0] a3 ak L D;obtain⟨v,a8,a9, -,b0⟩:=aM (P:=P) 2 #[d,e,f,γ φ,J U 0,J U 0,E ⟨#[]⟩,J U 0,E ⟨#[]⟩,Q V,G V 0 0] a6 ak O D;obtain⟨w,b1,b2, -,b3⟩:=aM (P:=P) 3 #[d,e,f,g,J U 0,J U 0,E ⟨#[]⟩,J U 0,E ⟨#[]⟩,Q V,G V 0 0] a9 ak R D;obtain⟨x,b4,b5, -,b6⟩:=aM (P:=P) 4 #[d,e,f,g,i,J U 0,E ⟨#[]⟩,J U 0,E ⟨#[]⟩,Q V,G V 0 0] b2 ak S D;obtain⟨y,b7,b8, -,b9⟩:=aM (P:=P) 5 #[d,e,f,g,i,j,E ⟨#[]⟩,J U 0,E ⟨#[]⟩,Q V,G V 0 0] b5 ak T D;obtain⟨z,c0,c1, -,c2⟩:=aM (P:=P) 6 #[d,e,f,g,i,j,k,J U 0,E ⟨#[]⟩,Q V,G V 0 0] b8 ak W D;obtain⟨B,c3,c4, -,c5⟩:=aM (P:=P) 7 #[d,e,f,g,i,j,k,l,E ⟨#[]⟩,Q V,G V 0 0] c1 ak X D;obtain⟨C,c6,c7, -,c8⟩:=aM (P:=P) 8 #[d,e,f,g,i,j,k,l,m,Q V,G V 0 0] c4 ak a0 D;obtain⟨t,c9,e0, -,e1⟩:=aM (P:=P) 9 #[d,e,f,g,i,j,k,l,m,n,G V 0 0] c7 ak a1 D;obtain⟨r,e2,e3, -,e4⟩:=aM (P:=P) 10 #[d,e,f,g,i,j,k,l,m,n,p] e0 ak N D;exact⟨_,_,_,_,_,_,_,_,_,_,_,a2,a5,a8,b1,b4,b7,c0,c3,c6,c9,e2,e3,λc o q e5=>(e4 c o q (e1 c o q (c8 c o q (c5 c o q (c2 c o q (b9 c o q (b6 c o q (b3 c o q (b0 c o q (a7 c o q (a4 c o q e5)))))))))))⟩
def XZ(f:A8):B0:=((f.body.bind (fV 6)).getD .skip)
theorem Ng{wr}(cap)(e0:a<t)(s:Gr d e f g i j k l m n p)(r:kH wr o a d e f g i j k l m n p)(c:∀(y a6:ξ) (b:μ),b.heap[β (α wr)]? =M (ζ #[d,e,f,g,i,j,k,l,m,n,p] 210 (0,0))->Bl wr b->C ⟨#[u,v,w,x,z,B,F,Q (M (I (β (α wr)) 0 V)),K,L,N,a2,a3,O,P,R,S,T,W,X,G (M (I o 0 V)) t cap,a0,J U (a:ν),a1,y,a6,a5,b1,b2,b3,b4,b5,b6],[]⟩ b):
  Code.wp κ (XZ f207) (A9.then C b0) ⟨#[u,v,w,x,z,B,F,a4,K,L,N,a2,a3,O,P,R,S,T,W,X,G (M (I o 0 V)) t cap,a0,J U (a:ν),a1,a8,a9,a5,b1,b2,b3,b4,b5,b6],[]⟩ wr:=by
 conv=>arg 2;whnf
 change H _ at c;obtain⟨_,_,_,_,_,_,_,_,_,_,_⟩:kH wr o a d e f g i j k l m n p:=r;obtain⟨a7,b7,b8,b9,c0,c1,c2,c3,c4,c5,c6⟩:Gr d e f g i j k l m n p:=s;obtain⟨_,_,_,_,_,_,_,_,_,_,c7,_,_,_,_,_,_,_,_,_,_,_,c8,q⟩:=uG (P:=κ) (ε wr (ζ #[J U 0,J U 0,J U 0,γ φ,J U 0,J U 0,E ⟨#[]⟩,J U 0,E ⟨#[]⟩,Q V,G V 0 0] 210)) a7 b7 b8 b9 c0 c1 c2 c3 c4 c5 c6;have c9:Bl wr c7:=q _ _ (τ _) (ai wr _);clear q;go_wp2_with fail;exact c _ _ _ c8 c9
def ZA(f:A8):B0:=((f.body.bind (fV 6)).getD .skip)
theorem Zz{wr}(cap)(c1:a<t)(s:Gr d e f g i j k l m n p)(r:kH wr o a d e f g i j k l m n p)(c:∀(y a5:ξ) (b:μ),b.heap[β (α wr)]? =M (ζ #[d,e,f,g,i,j,k,l,m,n,p] 210 (0,0))->Bl wr b->C ⟨#[u,v,w,x,z,Q (M (I (β (α wr)) 0 V)),F,a4,K,L,N,a2,G (M (I o 0 V)) t cap,a3,J U (a:ν),O,y,a5,S,T,W,X,a0,a1],[]⟩ b):
  Code.wp κ (ZA f206) (A9.then C b0) ⟨#[u,v,w,x,z,B,F,a4,K,L,N,a2,G (M (I o 0 V)) t cap,a3,J U (a:ν),O,P,R,S,T,W,X,a0,a1],[]⟩ wr:=by
 conv=>arg 2;whnf
 change H _ at c;obtain⟨_,_,_,_,_,_,_,_,_,_,_⟩:kH wr o a d e f g i j k l m n p:=r;obtain⟨a6,a7,a8,a9,b1,b2,b3,b4,b5,b6,b7⟩:Gr d e f g i j k l m n p:=s;obtain⟨_,_,_,_,_,_,_,_,_,_,b8,_,_,_,_,_,_,_,_,_,_,_,b9,q⟩:=uG (P:=κ) (ε wr (ζ #[J U 0,J U 0,J U 0,γ φ,J U 0,J U 0,E ⟨#[]⟩,J U 0,E ⟨#[]⟩,Q V,G V 0 0] 210)) a6 a7 a8 a9 b1 b2 b3 b4 b5 b6 b7;have c0:Bl wr b8:=q _ _ (τ _) (ai wr _);clear q;go_wp2_with fail;exact c _ _ _ b9 c0
def YT(f:A8):B0:=((f.body.bind (fV 4)).getD .skip)
theorem YR{wr}(cap)(c4:a<t)(s:Gr d e f g i j k l m n p)(r:kH wr o a d e f g i j k l m n p)(c:∀(y a6:ξ) (b:μ),b.heap[β (α wr)]? =M (ζ #[d,e,f,g,i,j,k,l,m,n,p] 210 (0,0))->Bl wr b->C ⟨#[u,v,w,x,z,B,F,Q (M (I (β (α wr)) 0 V)),G (M (I o 0 V)) t cap,K,J U (a:ν),L,y,a6,a3,O,P,R,S,T,W,X,a0,a1,a8,a9,a5],[]⟩ b):
  Code.wp κ (YT f147) (A9.then C b0) ⟨#[u,v,w,x,z,B,F,a4,G (M (I o 0 V)) t cap,K,J U (a:ν),L,N,a2,a3,O,P,R,S,T,W,X,a0,a1,a8,a9,a5],[]⟩ wr:=by
 conv=>arg 2;whnf
 change H _ at c;obtain⟨_,_,_,_,_,_,_,_,_,_,_⟩:kH wr o a d e f g i j k l m n p:=r;obtain⟨a7,b1,b2,b3,b4,b5,b6,b7,b8,b9,c0⟩:Gr d e f g i j k l m n p:=s;obtain⟨_,_,_,_,_,_,_,_,_,_,c1,_,_,_,_,_,_,_,_,_,_,_,c2,q⟩:=uG (P:=κ) (ε wr (ζ #[J U 0,J U 0,J U 0,γ φ,J U 0,J U 0,E ⟨#[]⟩,J U 0,E ⟨#[]⟩,Q V,G V 0 0] 210)) a7 b1 b2 b3 b4 b5 b6 b7 b8 b9 c0;have c3:Bl wr c1:=q _ _ (τ _) (ai wr _);clear q;go_wp2_with fail;exact c _ _ _ c2 c3
def aaN(f:A8):B0:=((f.body.bind (fV 4)).getD .skip)
theorem aaM{wr}(cap)(j5:a<t)(s:nJ d e f g i j k l m n p u v w x z B)(r:yO wr o a d e f g i j k l m n p u v w x z B)(c:∀(y a6 a7:ξ) (b:μ),b.heap[β (α wr)]? =M (ζ #[d,e,f,g,i,j,k,l,m,n,p,u,v,w,x,z,B] 235 (0,0))->Bl wr b->C ⟨#[F,a4,K,L,N,a2,J U (a:ν),Q (M (I (β (α wr)) 0 V)),P,R,S,G (M (I o 0 V)) t cap,T,J U (a:ν),W,y,a6,a7,a8,a9,a5,b1,b2,b3,b4,b5,b6,b7,b8,b9,c0,c1,c2,c3,c4,c5,c6,c7,c8,c9,e0,e1,e2,e3,e4,e5,e6,e7],[]⟩ b):
  Code.wp κ (aaN f143) (A9.then C b0) ⟨#[F,a4,K,L,N,a2,a3,O,P,R,S,G (M (I o 0 V)) t cap,T,J U (a:ν),W,X,a0,a1,a8,a9,a5,b1,b2,b3,b4,b5,b6,b7,b8,b9,c0,c1,c2,c3,c4,c5,c6,c7,c8,c9,e0,e1,e2,e3,e4,e5,e6,e7],[]⟩ wr:=by
 conv=>arg 2;whnf
 change H _ at c;obtain⟨_,_,_,_,_,_,_,_,_,_,_,_,_,_,_,_,_⟩:yO wr o a d e f g i j k l m n p u v w x z B:=r;obtain⟨e8,e9,g0,g1,g2,g3,g4,g5,g6,g7,g8,g9,h0,h1,h2,h3,h4⟩:nJ d e f g i j k l m n p u v w x z B:=s;go_wp2_with fail
 as_aux_lemma=>
 obtain⟨_,_,_,_,_,_,_,_,_,_,_,_,_,_,_,_,h5,h6,h7,h8,h9,i0,i1,i2,i3,i4,i5,i6,i7,i8,i9,j0,j1,j2,j3,q⟩:=wH (P:=κ) (ε wr (ζ #[E ⟨#[]⟩,G V 0 0,G V 0 0,J U 0,E ⟨#[]⟩,G V 0 0,J U 0,J U 0,J U 0,γ φ,J U 0,J U 0,E ⟨#[]⟩,J U 0,E ⟨#[]⟩,Q V,G V 0 0] 235)) e8 e9 g0 g1 g2 g3 g4 g5 g6 g7 g8 g9 h0 h1 h2 h3 h4;have j4:Bl wr h5:=q _ _ (τ _) (ai wr _);clear q;simp only[h6,h7,h8,h9,i0,i1,i2,i3,i4,i5,i6,i7,i8,i9,j0,j1,j2,Result.andThen];go_wp2_with fail;exact c _ _ _ _ j3 j4
def fE(w:μ)(v:ξ)(cs:ο dB):Prop:=∃ao cap,v=G ao (A cs) cap/\A cs<=1000/\(cs= []\/∃b,ao=M ⟨b,0,V⟩/\b<β (α w)/\∀(i:χ) (c:dB),cs[i]? =M c->Z w ⟨b,i*4,V⟩=M (E (Y c.1.1))/\Z w ⟨b,i*4+1,V⟩=M (J U c.1.2)/\Z w ⟨b,i*4+2,V⟩=M (J U (c.2.1:ν))/\Z w ⟨b,i*4+3,V⟩=M (J U c.2.2))
theorem fE.ah{w x v}(f:fE w v c)(d:Bl w x):fE x v c:=by
 obtain⟨g,cap,j,l,m⟩:=f;refine⟨g,cap,j,l,m.imp id ?_⟩;rintro⟨a,n,e,o⟩;refine⟨a,n,υ e d.size,λi q r=>?_⟩;have k:∀b,Z x (I a b V)=Z w (I a b V):=λb=>d.cell (p:=(I a b V)) e;simp only[k];exact o i q r
mutual
def lT(n:χ):Ex->Δ
 | .mk s _ _ _ _ _ _ p _ _ o=>(decide (s≠2)||(decide (0<=p)&&decide (p<n)))&&rO n o
def rO(n:χ):ο Ex->Δ
 | []=>θ
 |e::es=>lT n e&&rO n es
end
theorem nQ{f}:∀ {d:ο Ex} {c:Ex},rO f d=θ->c∈d->lT f c=θ
 | [],c,_,b=>by cases b
 |a::d,c,b,e=>by
  rw[rO,Ω]at b;rcases A1.mp e with rfl|e
  ·exact b.1
  exact nQ b.2 e
theorem AL(d:∀a∈c,a.2.1<4)(b):lL c b<4:=by
 unfold lL
 cases e:c[b.toNat]? with
 |none=>simp
 |some a=>exact d a (List.mem_of_getElem? e)
theorem YK(b:a<16)(c:o<16):(a|||o)<16:=Nat.or_lt_two_pow (n:=4) b c
mutual
theorem qx{a:ο dB}(b:∀c∈a,c.2.1<4):∀d:Ex,bH a d<16
 | .mk g _ _ _ _ _ _ f _ _ e=>by
  rw[bH];refine Ht b e _ ?_;split
  ·exact wO ag (AL b f)
  decide
theorem Ht{c:ο dB}(d:∀f∈c,f.2.1<4):∀(b:ο Ex) (a:χ),a<16->iw c a b<16
 | [],a,hm=>by rw[iw];exact hm
 |e::b,a,hm=>by rw[iw];exact Ht d b _ (YK hm (qx d e))
end
theorem dF.op{k}{l:χ->Prop}{sort size quiet place head}(O:dF b k l [J U sort,J U r,J U size,γ quiet,J U e8,J U e9,E (Y q),J U place,E (Y head),Q g1,G a7 a o] a6):a=A a6.ops/\a6.sort=sort/\a6.place=place/\a6.head=head/\a6.ty=r/\a6.quiet=quiet/\∀(d:χ) (i:d<A a6.ops),∃e,a7=M (I e 0 V)/\e<β (α b)/\∃(sort r size:ν) (quiet:Δ) (e8 e9:ν) (q:Bs) (place:ν) (head:Bs) (g1 a7:A0 B1) (a o:χ),kH b e d (J U sort) (J U r) (J U size) (γ quiet) (J U e8) (J U e9) (E (Y q)) (J U place) (E (Y head)) (Q g1) (G a7 a o)/\dF b k l [J U sort,J U r,J U size,γ quiet,J U e8,J U e9,E (Y q),J U place,E (Y head),Q g1,G a7 a o] a6.ops[d]:=by
 obtain⟨_,_,_,_,_,_,_,_,m,_,n,_,_,_,_,_,rfl,f,P,R,p,_,_⟩:=O.inv;simp only[List.cons.injEq,Value.int.injEq,Value.bool.injEq,Value.string.injEq,Value.pointer.injEq,Value.slice.injEq,and_true,true_and]at f;obtain⟨rfl,rfl,rfl,rfl,rfl,rfl,_,rfl,S,rfl,rfl,rfl,rfl⟩:=f;have T:head=m:=by have:=congrArg ByteArray.toList S;rw[ay,ay]at this;exact this
 subst T;refine⟨P,D,D,D,D,D,λd i=>?_⟩;rcases p.2 with⟨f,_⟩|⟨e,cap,_,f,_,W,_,_,_,_⟩
 ·have m:d<A n:=i;omega
 cases f;obtain⟨_,s,X⟩:=R.get d i;obtain⟨t,u,v,w,x,y,z,B,C,_,_,F,K,L,N,_,_,rfl, -⟩:=s.inv;refine⟨e,D,af W,t,u,v,w,x,y,z,B,C,F,K,L,N, ?_,s⟩;have c:∀g,g<11->∀j,([J U t,J U u,J U v,γ w,J U x,J U y,E (Y z),J U B,E (Y C),Q F,G K L N]:ο ξ)[g]? =M j->Z b ⟨e,d*11+g,V⟩=M j:=λg a0 j a1=>by
  have a2:d<A n:=i;rw[p.cellAt _ aa,X g a0];exact a1
 exact⟨c 0 aa _ D,c 1 aa _ D,c 2 aa _ D,c 3 aa _ D,c 4 aa _ D,c 5 aa _ D,c 6 aa _ D,c 7 aa _ D,c 8 aa _ D,c 9 aa _ D,c 10 aa _ D⟩
theorem BL(c){b:ο Ex}(d)(e:a<A b):iw c d (b.drop a)=iw c (d|||bH c b[a]) (b.drop (a+1)):=by
 rw[ι e,iw]
theorem UI(b):∀a:Ex,bH b a=iw b (if a.sort=2 then bu 0 (lL b a.place)else 0) a.ops
 | .mk e _ _ _ _ _ _ d _ _ c=>by rw[bH];rfl
theorem za(b):∀a:Ex,lT b a=((decide (a.sort≠2)||(decide (0<=a.place)&&decide (a.place<b)))&&rO b a.ops)
 | .mk d _ _ _ _ _ _ p _ _ c=>by rw[lT];rfl
theorem Ex.Ba(a:a6∈g3.ops):ρ a6<ρ g3:=by
 cases g3 with
 |mk m c d e f g i l k j b=>
  have:=List.sizeOf_lt_of_mem (show a6∈b from a);simp;omega
theorem oO{o}(c:b.heap[a]? =M (ζ #[d,e,g,i,j,k,l,m,n,p,f] o (0,0))):(Z b (I a 0 V)=M d/\Z b (I a 1 V)=M e/\Z b (I a 2 V)=M g/\Z b (I a 3 V)=M i/\Z b (I a 4 V)=M j/\Z b (I a 5 V)=M k/\Z b (I a 6 V)=M l/\Z b (I a 7 V)=M m/\Z b (I a 8 V)=M n/\Z b (I a 9 V)=M p/\Z b (I a 10 V)=M f)/\a<β (α b):=
 ⟨⟨aC c,aC c,aC c,aC c,aC c,aC c,aC c,aC c,aC c,aC c,aC c⟩,af c⟩
theorem AO(c9:∀h2∈c,h2.2.1<4):∀(t:χ) (k:Ex),ρ k<t->lT (A c) k=θ->∀(d:μ) (b4:ο χ) (b5:χ->Prop) (a2:A0 B1) (c8 L:χ),fE d (G a2 c8 L) c->∀(sort u size:ν) (quiet:Δ) (v w:ν) (x:Bs) (place:ν) (head:Bs) (r o:A0 B1) (b2 j:χ),dF d b4 b5 [J U sort,J U u,J U size,γ quiet,J U v,J U w,E (Y x),J U place,E (Y head),Q r,G o b2 j] k->
  ω κ 207 #[G a2 c8 L,A7 #[J U sort,J U u,J U size,γ quiet,J U v,J U w,E (Y x),J U place,E (Y head),Q r,G o b2 j]] d (RB (J .u64 ((bH c k:χ):ν)) d):=by
 intro t
 induction t with
 |zero=>intro k C;omega
 |succ t ih=>
  intro k F g7 d b4 b5 a2 c8 L i sort u size quiet v w x place head r o b2 j m;obtain⟨h3,n,y,a9, -, -,K⟩:=m.op;have h4:c8=A c/\A c<=1000:=by obtain⟨_,_,g,h5,_⟩:=i;cases g;exact⟨D,h5⟩
  obtain⟨rfl,_⟩:=h4;rw[za,Ω]at g7;obtain⟨e0,a6⟩:=g7;have b6:H (bH c k=iw c (if sort=2 then bu 0 (lL c place)else 0) k.ops):=by rw[H,UI,n,y]
  have h6:A k.ops<=9223372036854775807:=by
   have:=m.inv;obtain⟨N,O,P,R,S,T,W,X,a0,_,p,a1,_,_,_,_,rfl,g,_,_,a3,_,_⟩:=this;rcases a3.2 with⟨g,_⟩|⟨f,cap,_,g,e1,F,a7,a,_,_⟩
   ·show A p<=_;omega
   show A p<=_;unfold A2 at a;omega
  subst h3;obtain⟨b,e⟩:=au k.ops;have e2:H (∀g∈b,ρ g<t/\lT (A c) g=θ):=λg e7=>by
   rw[e]at e7;have:=Ex.Ba e7;exact⟨aa,nQ a6 e7⟩
  have e3:H (∀(a:χ) (g8:a<A b),∃f,o=M (I f 0 V)/\f<β (α d)/\∃(sort u size:ν) (quiet:Δ) (v w:ν) (x:Bs) (place:ν) (head:Bs) (r o:A0 B1) (b2 j:χ),kH d f a (J U sort) (J U u) (J U size) (γ quiet) (J U v) (J U w) (E (Y x)) (J U place) (E (Y head)) (Q r) (G o b2 j)/\dF d b4 b5 [J U sort,J U u,J U size,γ quiet,J U v,J U w,E (Y x),J U place,E (Y head),Q r,G o b2 j] b[a]):=by rw[H,e];exact K
  rw[<-e]at b6 h6 ⊢;rw[n,y]at e0;obtain⟨b3,a8⟩:=au (bH c k);rw[<-a8]at b6 ⊢;have a4:H (fE d (G a2 (A c) L) c):=i;change H _ at ih;have l:=ai d (ζ #[J U sort,J U u,J U size,γ quiet,J U v,J U w,E (Y x),J U place,E (Y head),Q r,G o (A b) j] 210);obtain⟨q,z⟩:=au (d.alloc (ζ #[J U sort,J U u,J U size,γ quiet,J U v,J U w,E (Y x),J U place,E (Y head),Q r,G o (A b) j] 210));have B:=ε d (ζ #[J U sort,J U u,J U size,γ quiet,J U v,J U w,E (Y x),J U place,E (Y head),Q r,G o (A b) j] 210);rw[<-z]at B l;obtain⟨⟨_, -, -, -, -, -, -,_, -, -,_⟩,_⟩:=oO B;obtain⟨e4,a5⟩:∃e4:χ,e4=if sort=2 then bu 0 (lL c place)else 0:=⟨_,D⟩
  have g9:e4<16:=by
   rw[a5];split
   ·exact wO ag (AL c9 place)
   decide
  rw[<-a5]at b6;have b7:H (Bl d q):=l;clear i m K e a8 n y a9 a6 F B l;go_enter func207,ntmps207;go_upto_region 2 with fail
  rw[<-z];clear z;by_cases e8:sort=2
  ·subst e8;simp only[if_true]at a5;obtain⟨n,_⟩:0<=place/\place<A c:=by simpa using e0
   obtain⟨m,rfl⟩:∃m:χ,place=(m:ν):=⟨place.toNat,aa⟩;have e5:m<A c:=aa;obtain⟨h0,rfl,_,h7⟩:∃a3,a2=M (I a3 0 V)/\a3<β (α q)/\Z q ⟨a3,m*4+2,V⟩=M (J U (lL c (m:ν):ν)):=by
    obtain⟨_,cap,g,_,e⟩:=a4.out.ah b7
    cases g;rcases e with C|⟨a3,g,i,a7⟩
    ·rw[C]at e5;simp at e5
    refine⟨a3,g,i, ?_⟩;have:=(a7 m _ (δ e5)).2.2.1;rw[this,lL,Int.toNat_natCast,δ e5]
   have e:=AL c9 (m:ν);have e6:=rz q (s:=0) ag e;rw[<-a5]at e6;have j4:¬(m:ν)<0:=aa;obtain⟨_,i⟩:=au (lL c (m:ν));rw[<-i]at h7 e6;clear e0 i a5 e n;go_wp2_with(go_at_call 155;refine e6.mono ?_;clear e6;rintro g h8 ⟨rfl,h1⟩;rw[h1];clear h1 h8);go_loopw [5,22] (λe9 a6 wr=>∃(a e:χ),a<=A b/\e9=J .u64 (e:ν)/\a6=J U a/\e<16/\H (b3=iw c e (b.drop a))/\Bl q wr) (λ_ a6 _=>A b-(Γ a6).toNat)
   ·exact⟨0,e4,σ _,D,D,g9,b6,Below.refl _ _⟩
   obtain⟨a,e,g8,rfl,rfl,b8,y,i⟩:=hrel;have g0:=i.size;by_cases z:a<A b
   ·obtain⟨f,rfl,e1,N,O,P,R,S,T,W,X,a0,a1,p,a7,a8,a9,b9⟩:=e3.out a z;obtain⟨c0,c1⟩:=e2.out b[a] (Ψ z);have B:Bl d wr:=bT b7 i;have c2:H (kH wr f a (J U N) (J U O) (J U P) (γ R) (J U S) (J U T) (E (Y W)) (J U X) (E (Y a0)) (Q a1) (G p a7 a8)):=by
     unfold kH at a9 ⊢;have t:∀C,Z wr (I f C V)=Z d (I f C V):=λC=>B.cell (p:=(I f C V)) e1;simp only[t,H];exact a9
    have F:H (b3=iw c (e|||bH c b[a]) (b.drop (a+1))):=y.out.trans (BL c e z);have b1:=qx c9 b[a];have g1:=NL b8 b1;have c3:=YK b8 b1;have b0:H (∀n,Bl wr n->ω κ 207 #[G (M (I h0 0 V)) (A c) L,A7 #[J U N,J U O,J U P,γ R,J U S,J U T,E (Y W),J U X,E (Y a0),Q a1,G p a7 a8]] n (RB (J .u64 ((bH c b[a]:χ):ν)) n)):=λn c4=>ih.out b[a] c0 c1 n b4 b5 (M (I h0 0 V)) (A c) L (a4.ah (bT B c4)) N O P R S T W X a0 a1 p a7 a8 (b9.ah (bT B c4));obtain⟨h9,c5⟩:=au (bH c b[a]);rw[<-c5]at F b1 g1 c3 b0;have K:H _:=i;clear a9 b9 y c5 i c0 c1 a4 ih B;go_upto_region 6 with fail
    refine Ng j z ⟨D,D,D,D,D,D,D,D,D,D,D⟩ c2 ?_;intro i0 i1 c6 c7 l;dsimp only;obtain⟨⟨i2,i3,i4,i5,i6,i7,i8,i9,j0,j1,j2⟩,j3⟩:=oO c7;have g2:=b0.out c6 l;have g3:H (Bl q c6):=K.out.trans (l.mono g0);clear c2 c7 l K b0;go_wp2_with(go_at_call 207;refine cB g2 ?_;rintro g6 g5;have g4:H (Bl q g6):=bT g3 g5);go_roundw
    ·exact⟨a+1,_,aa,D,aP,c3,F,g4⟩
    simp[Γ];omega
   have F:H (b3=e):=by rw[H,y.out,η aa,iw]
   have K:H (Bl d wr):=bT b7 i;clear y i a4 ih e3 e2
   go_wp2
   go_ret;exact⟨by rw[F.out];rfl,K⟩
  have a3:(sort==2)=φ:=by rw[beq_eq_false_iff_ne];exact e8
  rw[if_neg e8]at a5;subst a5;clear e0;go_wp2_with fail;go_loopw [5,22] (λe9 a6 wr=>∃(a e:χ),a<=A b/\e9=J .u64 (e:ν)/\a6=J U a/\e<16/\H (b3=iw c e (b.drop a))/\Bl q wr) (λ_ a6 _=>A b-(Γ a6).toNat)
  ·exact⟨0,0,σ _,D,D,g9,b6,Below.refl _ _⟩
  obtain⟨a,e,g8,rfl,rfl,b8,y,i⟩:=hrel;have g0:=i.size;by_cases z:a<A b
  ·obtain⟨f,rfl,e1,N,O,P,R,S,T,W,X,a0,a1,p,a7,a8,a9,b9⟩:=e3.out a z;obtain⟨c0,c1⟩:=e2.out b[a] (Ψ z);have B:Bl d wr:=bT b7 i;have c2:H (kH wr f a (J U N) (J U O) (J U P) (γ R) (J U S) (J U T) (E (Y W)) (J U X) (E (Y a0)) (Q a1) (G p a7 a8)):=by
    unfold kH at a9 ⊢;have t:∀C,Z wr (I f C V)=Z d (I f C V):=λC=>B.cell (p:=(I f C V)) e1;simp only[t,H];exact a9
   have F:H (b3=iw c (e|||bH c b[a]) (b.drop (a+1))):=y.out.trans (BL c e z);have b1:=qx c9 b[a];have g1:=NL b8 b1;have c3:=YK b8 b1;have b0:H (∀n,Bl wr n->ω κ 207 #[G a2 (A c) L,A7 #[J U N,J U O,J U P,γ R,J U S,J U T,E (Y W),J U X,E (Y a0),Q a1,G p a7 a8]] n (RB (J .u64 ((bH c b[a]:χ):ν)) n)):=λn c4=>ih.out b[a] c0 c1 n b4 b5 a2 (A c) L (a4.ah (bT B c4)) N O P R S T W X a0 a1 p a7 a8 (b9.ah (bT B c4));obtain⟨h9,c5⟩:=au (bH c b[a]);rw[<-c5]at F b1 g1 c3 b0;have K:H _:=i;clear a9 b9 y c5 i c0 c1 a4 ih B;go_upto_region 6 with fail
   refine Ng j z ⟨D,D,D,D,D,D,D,D,D,D,D⟩ c2 ?_;intro i0 i1 c6 c7 l;dsimp only;obtain⟨⟨i2,i3,i4,i5,i6,i7,i8,i9,j0,j1,j2⟩,j3⟩:=oO c7;have g2:=b0.out c6 l;have g3:H (Bl q c6):=K.out.trans (l.mono g0);clear c2 c7 l K b0;go_wp2_with(go_at_call 207;refine cB g2 ?_;rintro g6 g5;have g4:H (Bl q g6):=bT g3 g5);go_roundw
   ·exact⟨a+1,_,aa,D,aP,c3,F,g4⟩
   simp[Γ];omega
  have F:H (b3=e):=by rw[H,y.out,η aa,iw]
  have K:H (Bl d wr):=bT b7 i;clear y i a4 ih e3 e2
  go_wp2
  go_ret;exact⟨by rw[F.out];rfl,K⟩
theorem aco(a:μ):((a.alloc g2).alloc g0).heap[β (α a)+1]? =M g0:=by
 have:=ε (a.alloc g2) g0;rw[World.size_alloc]at this;exact this
theorem Jy(d:fE b (G a7 o a) c):
  ω κ 144 #[G a7 o a] b λf F=>∃C B z,f=.returned (G C B z)/\gN F (G C B z) (c.map (·.1))/\Bl b F:=by
 obtain⟨a3,a4,a5,a6,a8⟩:=info_parts MQ;have a9:o=A c/\A c<=1000:=by obtain⟨_,_,f,b0,_⟩:=d;cases f;exact⟨D,b0⟩
 obtain⟨rfl,b1⟩:=a9;have t:H (fE b (G a7 (A c) a) c):=d;clear d;go_enter func144,ntmps144;go_wp2_with fail;go_loopw [3,8] (λg e wr=>∃(d i j:χ) (k:A0 B1),d<=A c/\g=G k i j/\e=J U d/\H (wr.ownsRow (β (α b)) 380 2 (G k i j) ((c.take d).map (·.1)).length (bR ((c.take d).map (·.1))))/\Bl b wr) (λ_ e _=>A c-(Γ e).toNat)
 ·exact⟨0,0,0,V,σ _,D,D,World.ownsRow_nil _ _ _ _,Below.refl _ _⟩
 obtain⟨d,i,j,k,_,rfl,rfl,m,p⟩:=hrel;have b2:=p.size;by_cases q:d<A c
 ·obtain⟨e,rfl,K,L,N,O,P⟩:∃e,a7=M (I e 0 V)/\e<β (α wr)/\Z wr ⟨e,d*4,V⟩=M (E (Y c[d].1.1))/\Z wr ⟨e,d*4+1,V⟩=M (J U c[d].1.2)/\Z wr ⟨e,d*4+2,V⟩=M (J U (c[d].2.1:ν))/\Z wr ⟨e,d*4+3,V⟩=M (J U c[d].2.2):=by
   obtain⟨_,cap,f,_,g⟩:=t.out.ah p
   cases f;rcases g with l|⟨e,f,K,r⟩
   ·rw[l]at q;simp at q
   exact⟨e,f,K,r d _ (δ q)⟩
  have n:H ((c.take (d+1)).map (·.1)=(c.take d).map (·.1)++ [c[d].1]):=by rw[H,List.take_succ_eq_append_getElem q,List.map_append];rfl
  have b3:((c.take d).map (·.1)).length<=1000:=aN;obtain⟨s,R⟩:=au ((c.take d).map (·.1));rw[<-R]at n m b3;obtain⟨⟨⟨S,T⟩,_,_⟩,r⟩:∃u,u=c[d]:=⟨_,D⟩;rw[<-r]at n L N O P;simp only at n L N O P;have b4:H (∀(v g:μ) (w:Obj) (l:ξ),Bl wr v->g.ownsRow (β (α b)) 380 2 l (A s+1) (bR s++ [E (Y S),J U T])->(v.alloc w).grownBy g (G k i j).ownBlock->g.ownsRow (β (α b)) 380 2 l ((c.take (d+1)).map (·.1)).length (bR ((c.take (d+1)).map (·.1)))/\Bl b g):=λv g w l W x e=>by
   have a0:=W.size;refine⟨by rw[n.out,sQ,Θ];exact x,((p.trans (W.mono b2)).alloc aa w).grown e aN λX y=>(World.ownsRow.lt m X y).1⟩
  clear R r t n;go_wp2_with(at_builtin;refine wpList_append_own _ D (.tmp 12) (.tmp 15) 329 D (β (α b)) 380 a3 _ 2 24 underlying329 a4 a5 a6 a8 D ag (G k i j) (A s) (bR s) D (World.ownsRow.alloc (World.ownsRow.alloc m _) _) ⟨β (α wr)+1,0,V⟩ 1 1 [E (Y S),J U T] D D (World.news_of_block (aco wr)) (by intro _ a2;simp only[A1,List.not_mem_nil,or_false]at a2;rcases a2 with rfl|rfl<;>rfl) fD aa aN ?_;intro l g y a0 _;obtain⟨a1,X⟩:=b4.out _ g _ l (ai wr _) y a0;have b6:H _:=a1;have b5:H (Bl b g):=X;obtain⟨_,_,_,rfl⟩:∃x e u,l=G x e u:=(by rcases y.2 with⟨f,_⟩|⟨_,_,_,f,_⟩<;>exact⟨_,_,_,f⟩);clear y a0 a1 X);go_roundw
  ·exact⟨d+1,_,_,_,aa,D,aP,b6,b5⟩
  simp[Γ];omega
 have e:H (gN wr (G k i j) (c.map (·.1))):=by
  have f:c.take d=c:=List.take_of_length_le aa;have:=m.out;rw[f]at this;exact BR this (by simpa using b1)
 clear m t
 go_wp2
 go_ret;exact⟨_,_,_,D,e,p⟩
theorem LJ(a:μ):((a.alloc g0).alloc g2).drew.heap[β (α a)]? =M g0:=(Below.heap_alloc _ _ _ ek).trans (ε a g0)
def acU(f:A8):B0:=((f.body.bind (fV 3)).getD .skip)
theorem acT{wr cap}(n2:o<β (α wr))(n4:2<=a)(n3:t<β (α wr))(n1:Z wr (I o 10 V)=M (G (M (I t 0 V)) a cap))(a6:kH wr t 0 (J U g9) (J U h0) (J U h1) (γ g4) (J U r) (J U e8) (E (Y g6)) (J U e9) (E (Y q)) (Q a7) (G g1 h9 h8))(g0:kH wr t 1 (J U h5) (J U h6) (J U h7) (γ g5) (J U h2) (J U h3) (E (Y g8)) (J U h4) (E (Y g7)) (Q i2) (G i3 i1 i0))(c:∀(s y:χ) (g2 g3 k1 k2 k3 k4 v20 v21:ξ) (b:μ),b.heap[s]? =M (ζ #[J U g9,J U h0,J U h1,γ g4,J U r,J U e8,E (Y g6),J U e9,E (Y q),Q a7,G g1 h9 h8] 210 (0,0))->b.heap[y]? =M (ζ #[J U h5,J U h6,J U h7,γ g5,J U h2,J U h3,E (Y g8),J U h4,E (Y g7),Q i2,G i3 i1 i0] 210 (0,0))->Bl wr b->C ⟨#[d,e,f,Q (M (I o 0 V)),g,Q (M (I s 0 V)),Q (M (I y 0 V)),k,l,m,n,p,u,v,g2,g3,k1,k2,k3,k4,v20,v21,N,a2,a3,O,P,R,S,T,W,X,a0,a1,a8,a9,a5,b1,b2,b3,b4,b5,b6,b7,b8,b9,c0,c1,c2,c3,c4,c5,c6,c7,c8,c9,e0,e1,e2,e3,e4,e5,e6,e7,i4,i5,i6,i7,i8,i9,j0,j1,j2,j3,j4,j5,j6,j7,j8,j9,k0],[]⟩ b):
  Code.wp κ (acU f208) (A9.then C b0) ⟨#[d,e,f,Q (M (I o 0 V)),g,i,j,k,l,m,n,p,u,v,w,x,z,B,F,a4,K,L,N,a2,a3,O,P,R,S,T,W,X,a0,a1,a8,a9,a5,b1,b2,b3,b4,b5,b6,b7,b8,b9,c0,c1,c2,c3,c4,c5,c6,c7,c8,c9,e0,e1,e2,e3,e4,e5,e6,e7,i4,i5,i6,i7,i8,i9,j0,j1,j2,j3,j4,j5,j6,j7,j8,j9,k0],[]⟩ wr:=by
 conv=>arg 2;whnf
 change H _ at c;obtain⟨k5,k6,k7,k8,k9,l0,l1,l4,l7,l8,l9⟩:=a6;obtain⟨m0,m1,m2,m3,m4,m5,m6,m7,m8,m9,n0⟩:=g0;simp only[A5,Nat.one_mul,A6]at k5 k6 k7 k8 k9 l0 l1 l4 l7 l8 l9 m0 m1 m2 m3 m4 m5 m6 m7 m8 m9 n0;have:0<a:=aa;have:1<a:=aa;have:(0:ν)<(a:ν):=aa;have:(1:ν)<(a:ν):=aa;dsimp only;go_region
 ·exact c (β (α wr)) (β (α wr)+1) _ _ _ _ _ _ _ _ _ (LJ wr) (yT wr) (aV wr _ _).drew
 exact c (β (α wr)+1) (β (α wr)) _ _ _ _ _ _ _ _ _ (yT wr) (LJ wr) (aV wr _ _).drew
def qcC(c:dB):ο ξ:=[E (Y c.1.1),J U c.1.2,J U (c.2.1:ν),J U c.2.2]
def vv(l:ο dB):ο ξ:=l.flatMap qcC
theorem Vw(b a):vv (b++ [a])=vv b++ [E (Y a.1.1),J U a.1.2,J U (a.2.1:ν),J U a.2.2]:=by simp[vv,qcC]
theorem Od:∀(e:ο dB) (c:χ) (d:dB) (b:χ),e[c]? =M d->b<4->(vv e)[c*4+b]? =(qcC d)[b]?
 | [],c,d,b,h,_=>by simp at h
 |a::rs,0,d,b,h,hj=>by
  simp at h;subst h;rw[A5,A6,vv,Ξ,List.getElem?_append_left (by simp[qcC];omega)]
 |a::rs,c+1,d,b,h,hj=>by
  have:=Od rs c d b (by simpa using h) hj;have f:A (qcC a)=4:=by simp[qcC]
  rw[vv,Ξ,List.getElem?_append_right aa,f];rw[show(c+1)*4+b-4=c*4+b by omega];exact this
theorem Vx{base}(f:b.ownsRow base 382 4 d (A c) (vv c))(l:A c<=1000):fE b d c:=by
 rcases f.2 with⟨rfl,m⟩|⟨g,cap,_,rfl,_,n,_,_,_,_⟩
 ·have:c= []:=List.length_eq_zero_iff.mp m;subst this;exact⟨_,_,D,ak,.inl D⟩
 refine⟨_,_,D,l,.inr ⟨g,D,af n,λk i j=>?_⟩⟩;have p:=(List.getElem?_eq_some_iff.mp j).1;have e:∀a,a<4->Z b ⟨g,k*4+a,V⟩=(qcC i)[a]? :=λa o=>(f.cellAt _ aa).trans (Od c k i a j o);exact⟨e 0 aa,e 1 aa,e 2 aa,e 3 aa⟩
theorem aaY:(κ.info? 382).map (λa=>(a.zero,a.size,a.bytes))=M (M (A7 #[E ⟨#[]⟩,J U 0,J U 0,J U 0]),4,40):=aF
def wR(w:μ)(v:ξ)(its:ο (Bs×Bs)):Prop:=∃ao cap,v=G ao (A its) cap/\A its<=1000/\(its= []\/∃b off,ao=M ⟨b,off,V⟩/\b<β (α w)/\∀(i:χ) (it:Bs×Bs),its[i]? =M it->Z w ⟨b,off+i*2,V⟩=M (E (Y it.1))/\Z w ⟨b,off+i*2+1,V⟩=M (E (Y it.2)))
theorem wR.ah{w x v}(e:wR w v s)(c:Bl w x):wR x v s:=by
 obtain⟨f,cap,g,j,l⟩:=e;refine⟨f,cap,g,j,l.imp id ?_⟩;rintro⟨a,m,n,d,o⟩;refine⟨a,m,n,υ d c.size,λi q r=>?_⟩;have k:∀b,Z x (I a b V)=Z w (I a b V):=λb=>c.cell (p:=(I a b V)) d;simp only[k];exact o i q r
theorem DW:∀(d:ο (aJ×Ex)) (f:ο (Bs×Bs)) (c:χ) (g:aJ×Ex) (e:Bs×Bs),A d=A f->aK c (d++ [g]) (f++ [e])=aK c d f++g.1.aB.map λi=>(bD e.2 i,c+A d,i.2.2)
 | [],[],c,g,e,_=>by simp[aK]
 | [],_::_,_,_,_,h=>by simp at h
 |_::_,[],_,_,_,h=>by simp at h
 |a::d,b::f,c,g,e,h=>by
  simp only[List.cons_append,aK];rw[DW d f (c+1) g e (by simpa using h),List.append_assoc,Φ];congr 2;rw[show c+1+A d=c+(A d+1)by omega]
theorem sw:∀(a:ο (aJ×Ex)) (b:ο (Bs×Bs)) (c:χ),(∀d∈a,A d.1.aB<=4)->A (aK c a b)<=A a*4
 | [],_,_,_=>by simp[aK]
 |_::_,[],_,_=>by simp[aK]
 |d::a,it::b,c,h=>by
  have:=sw a b (c+1) λf e=>h f (by simp[e]);have:=h d ak;simp only[aK,Θ,List.length_map,Φ];omega
def mr(w:μ)(v:ξ)(ks:ο (ν×Δ)):Prop:=∃ao cap,v=G ao (A ks) cap/\A ks<=A2/\(ks= []\/∃b off,ao=M ⟨b,off,V⟩/\b<β (α w)/\∀(i:χ) (k:ν×Δ),ks[i]? =M k->Z w ⟨b,off+i*2,V⟩=M (J U k.1)/\Z w ⟨b,off+i*2+1,V⟩=M (γ k.2))
theorem mr.ah{w x v}(e:mr w v y)(c:Bl w x):mr x v y:=by
 obtain⟨f,cap,g,j,l⟩:=e;refine⟨f,cap,g,j,l.imp id ?_⟩;rintro⟨a,m,n,d,o⟩;refine⟨a,m,n,υ d c.size,λi q r=>?_⟩;have k:∀b,Z x (I a b V)=Z w (I a b V):=λb=>c.cell (p:=(I a b V)) d;simp only[k];exact o i q r
def xD(n:ν)(k:ν×Δ):Δ:=decide (k.1<0)||decide (n<=k.1)
def lS(n:ν)(ks:ο (ν×Δ)):Δ:=ks.any (xD n)
theorem LG(d)(l:a<β (α b))(k:Z b (I a 0 V)=M (J U r)):
  ω κ 255 #[A7 #[J U d.1,γ d.2],Q (M (I a 0 V))] b (RB (γ (xD r d)) b):=by
 have e:=ai b (ζ #[J U d.1,γ d.2] 245);have m:=cK e l k;obtain⟨c,i⟩:=d;simp only at e m ⊢;have f:H (xD r (c,i)=(decide (c<0)||decide (r<=c))):=D;obtain⟨_,g⟩:=au (xD r (c,i));rw[<-g]at f ⊢;clear g;by_cases j:c<0
 ·have g:decide (c<0)=θ:=by simpa using j
  go_enter A4,A3
  go_wp2
  go_ret;exact⟨by rw[f.out,g];rfl,e⟩
 have g:decide (c<0)=φ:=by simpa using j
 go_enter A4,A3
 go_wp2
 go_ret;exact⟨by rw[f.out,g,Bool.false_or];rfl,e⟩
theorem zA(p:mr b d y)(x:a<β (α b))(w:Z b (I a 0 V)=M (J U r)):
  ω κ 254 #[d,.func (Fn.func 255) #[] #[Q (M (I a 0 V))]] b λo z=>(∃t:ν,o=.returned (J U t)/\decide (0<=t)=lS r y)/\Bl b z:=by
 obtain⟨B,cap,rfl,C,q⟩:=p;unfold A2 at C;go_enter func254,ntmps254;go_wp2_with fail;go_loopw [8] (λe f=>∃c:χ,c<=A y/\e=J U c/\Bl b f/\H (lS r y=lS r (y.drop c))) (λe _=>A y-(Γ e).toNat)
 ·exact⟨0,σ _,D,Below.refl _ _,D⟩
 obtain⟨c,_,rfl,f,k⟩:=hrel;have u:=f.size;by_cases l:c<A y
 ·obtain⟨e,g,rfl,m,j,s⟩:∃e g,B=M (I e g V)/\e<β (α b)/\Z b ⟨e,g+c*2,V⟩=M (J U y[c].1)/\Z b ⟨e,g+c*2+1,V⟩=M (γ y[c].2):=by
   rcases q with p|⟨e,g,o,m,i⟩
   ·rw[p]at l;simp at l
   exact⟨e,g,o,m,i c _ (δ l)⟩
  have F:=cK f m j;have K:=cK f m s;have i:H (lS r y=(xD r y[c]||lS r (y.drop (c+1)))):=by rw[H,k.out,ι l];rfl
  have L:=cK f x w;have N:a<β (α wr):=aa;have:e<β (α wr):=aa;have n:=LG y[c] N L;obtain⟨O,v⟩:=au (y[c]);rw[<-v]at F K i n;clear q v k j s;obtain⟨v,j⟩:=au (xD r O);rw[<-j]at n i;clear j
  cases v with
  |false=>
   have j:H (lS r y=lS r (y.drop (c+1))):=by rw[H,i.out];rfl
   clear i;go_wp2_with(go_at_call 255;refine cB n ?_;rintro P s);go_roundw
   ·exact⟨c+1,aa,aP,f.trans (s.mono u),j⟩
   simp[Γ];omega
  |true=>
   have j:H (lS r y=θ):=by rw[H,i.out];rfl
   clear i;go_wp2_with(go_at_call 255;refine cB n ?_;rintro P s);go_ret;exact⟨⟨_,D,by rw[j.out];simp⟩,f.trans (s.mono u)⟩
 have j:H (lS r y=φ):=by rw[H,k.out,η aa];rfl
 clear k q
 go_wp2
 go_ret;exact⟨⟨_,D,by rw[j.out];rfl⟩,f⟩
theorem vW(a f b d c)(e:mr a f b)(k:d<β (α a))(j:Z a (I d 0 V)=M (J U c)):
  ω κ 202 #[f,.func (Fn.func 255) #[] #[Q (M (I d 0 V))]] a (RB (γ (lS c b)) a):=by
 have g:=zA e k j;obtain⟨_,i⟩:=au (lS c b);rw[<-i]at g ⊢;clear i e;go_enter func202,ntmps202;go_wp2_with(go_at_call 254;refine g.mono ?_;rintro _ _ ⟨⟨_,rfl,i⟩,e⟩);go_ret;exact⟨by rw[<-i];rfl,e⟩
theorem JK:ω κ 203 #[J U r] b λa c=>a=.returned (.func (Fn.func 255) #[] #[Q (M (I (β (α b)) 0 V))])/\c=b.alloc (ζ #[J U r] 3):=by
 go_enter func203,ntmps203
 go_wp2
 go_ret;exact⟨D,D⟩
def iM(w:μ)(v:ξ)(its:ο (Bs×Bs)):Prop:=∃ao cap,v=G ao (A its) cap/\A its<=A2/\(its= []\/∃b off,ao=M ⟨b,off,V⟩/\b<β (α w)/\∀(i:χ) (it:Bs×Bs),its[i]? =M it->Z w ⟨b,off+i*2,V⟩=M (E (Y it.1))/\Z w ⟨b,off+i*2+1,V⟩=M (E (Y it.2)))
def UY(n:Bs)(it:Bs×Bs):Δ:=it.2==n
def uX(n:Bs)(its:ο (Bs×Bs)):Δ:=its.any (UY n)
theorem UZ(c)(i:a<β (α b))(g:Z b (I a 1 V)=M (E (Y q))):
  ω κ 204 #[A7 #[E (Y c.1),E (Y c.2)],Q (M (I a 0 V))] b (RB (γ (UY q c)) b):=by
 have d:H (UY q c=((Y c.2).toList==(Y q).toList)):=by rw[H,ay,ay];rfl
 have e:=ai b (ζ #[E (Y c.1),E (Y c.2)] 59);have:=cK e i g;obtain⟨_,f⟩:=au (UY q c);rw[<-f]at d ⊢;clear f;go_enter func204,ntmps204;go_upto_region 1 with fail
 first
  |(go_region;go_wp2;go_ret;exact⟨by rw[d.out];rfl,e.drew⟩)
  |(go_wp2;go_ret;exact⟨by rw[d.out];rfl,e⟩)
theorem AP(p:iM b d s)(y:a<β (α b))(x:Z b (I a 1 V)=M (E (Y q))):
  ω κ 256 #[d,.func (Fn.func 204) #[] #[Q (M (I a 0 V))]] b λo z=>(∃u:ν,o=.returned (J U u)/\decide (0<=u)=uX q s)/\Bl b z:=by
 obtain⟨B,cap,rfl,C,r⟩:=p;unfold A2 at C;go_enter func256,ntmps256;go_wp2_with fail;go_loopw [8] (λe f=>∃c:χ,c<=A s/\e=J U c/\Bl b f/\H (uX q s=uX q (s.drop c))) (λe _=>A s-(Γ e).toNat)
 ·exact⟨0,σ _,D,Below.refl _ _,D⟩
 obtain⟨c,_,rfl,f,k⟩:=hrel;have v:=f.size;by_cases l:c<A s
 ·obtain⟨e,g,rfl,m,j,t⟩:∃e g,B=M (I e g V)/\e<β (α b)/\Z b ⟨e,g+c*2,V⟩=M (E (Y s[c].1))/\Z b ⟨e,g+c*2+1,V⟩=M (E (Y s[c].2)):=by
   rcases r with p|⟨e,g,o,m,i⟩
   ·rw[p]at l;simp at l
   exact⟨e,g,o,m,i c _ (δ l)⟩
  have F:=cK f m j;have K:=cK f m t;have i:H (uX q s=(UY q s[c]||uX q (s.drop (c+1)))):=by rw[H,k.out,ι l];rfl
  have L:=cK f y x;have N:a<β (α wr):=aa;have:e<β (α wr):=aa;have n:=UZ s[c] N L;obtain⟨O,w⟩:=au (s[c]);rw[<-w]at F K i n;clear r w k j t;obtain⟨w,j⟩:=au (UY q O);rw[<-j]at n i;clear j
  cases w with
  |false=>
   have j:H (uX q s=uX q (s.drop (c+1))):=by rw[H,i.out];rfl
   clear i;go_wp2_with(go_at_call 204;refine cB n ?_;rintro P t);go_roundw
   ·exact⟨c+1,aa,aP,f.trans (t.mono v),j⟩
   simp[Γ];omega
  |true=>
   have j:H (uX q s=θ):=by rw[H,i.out];rfl
   clear i;go_wp2_with(go_at_call 204;refine cB n ?_;rintro P t);go_ret;exact⟨⟨_,D,by rw[j.out];simp⟩,f.trans (t.mono v)⟩
 have j:H (uX q s=φ):=by rw[H,k.out,η aa];rfl
 clear k r
 go_wp2
 go_ret;exact⟨⟨_,D,by rw[j.out];rfl⟩,f⟩
theorem xI(c:iM b d s)(i:a<β (α b))(g:Z b (I a 1 V)=M (E (Y q))):
  ω κ 205 #[d,.func (Fn.func 204) #[] #[Q (M (I a 0 V))]] b (RB (γ (uX q s)) b):=by
 have e:=AP c i g;obtain⟨_,f⟩:=au (uX q s);rw[<-f]at e ⊢;clear f c;go_enter func205,ntmps205;go_wp2_with(go_at_call 256;refine e.mono ?_;rintro _ _ ⟨⟨_,rfl,f⟩,c⟩);go_ret;exact⟨by rw[<-f];rfl,c⟩
def acI(f:A8):B0:=((f.body.bind (fV 4)).getD .skip)
theorem acH{wr}(cap)(h4:a<t)(s:Dn d e f g i j k l m n p u v)(r:yN wr o a d e f g i j k l m n p u v)(c:∀(y a6 a7:ξ) (b:μ),b.heap[β (α wr)]? =M (ζ #[d,e,f,g,i,j,k,l,m,n,p,u,v] 387 (0,0))->Bl wr b->C ⟨#[w,x,z,B,F,a4,K,L,N,J U (a:ν),Q (M (I (β (α wr)) 0 V)),O,G (M (I o 0 V)) t cap,P,J U (a:ν),R,y,a6,a7,X,a0,a1,a8,a9,a5,b1,b2,b3,b4,b5,b6,b7,b8,b9,c0,c1,c2,c3,c4,c5,c6,c7,c8,c9,e0,e1,e2,e3,e4,e5,e6,e7],[]⟩ b):
  Code.wp κ (acI f154) (A9.then C b0) ⟨#[w,x,z,B,F,a4,K,L,N,a2,a3,O,G (M (I o 0 V)) t cap,P,J U (a:ν),R,S,T,W,X,a0,a1,a8,a9,a5,b1,b2,b3,b4,b5,b6,b7,b8,b9,c0,c1,c2,c3,c4,c5,c6,c7,c8,c9,e0,e1,e2,e3,e4,e5,e6,e7],[]⟩ wr:=by
 conv=>arg 2;whnf
 change H _ at c;obtain⟨_,_,_,_,_,_,_,_,_,_,_,_,_⟩:yN wr o a d e f g i j k l m n p u v:=r;obtain⟨e8,e9,g0,g1,g2,g3,g4,g5,g6,g7,g8,g9,h0⟩:Dn d e f g i j k l m n p u v:=s;obtain⟨_,_,_,_,_,_,_,_,_,_,_,_,h1,_,_,_,_,_,_,_,_,_,_,_,_,_,h2,q⟩:=Cs (P:=κ) (ε wr (ζ #[J U 0,J U 0,J U 0,γ φ,J U 0,J U 0,E ⟨#[]⟩,J U 0,E ⟨#[]⟩,Q V,G V 0 0,J .u64 0,J U 0] 387)) e8 e9 g0 g1 g2 g3 g4 g5 g6 g7 g8 g9 h0;have h3:Bl wr h1:=q _ _ (τ _) (ai wr _);clear q;go_wp2_with fail;exact c _ _ _ _ h2 h3
end Go.Proofs.YthkeffolmbnkaaaGreatDoor

import Derived.Test.YthkeffolmbnkaaaGreatDoorBaCZ
set_option linter.unusedVariables false
set_option linter.unusedSimpArgs false
set_option maxRecDepth 100000
set_option maxHeartbeats 0
open Array renaming size->β
open Bool renaming false->Q,true->A1
open ByteArray renaming mk->τ
open Go renaming heap_alloc_new->ν,Calls->ψ,World->Φ,maxLen->A4,Value->A8
open Go.Addr renaming mk->M
open Go.IntKind renaming i64->V
open Go.Obj renaming cells->δ
open Go.Proofs.Tryz renaming ntmps187->υ,func187->χ,prog->Γ,ntmps242->Θ,func242->Ξ,ntmps334->A5,ntmps243->A6,func334->A9,func243->B0
open Go.Proofs.YthkeffolmbnkaaaGreatDoor renaming ae->I
open Go.RowKit renaming Hid->H,intOf->Δ,Below->B3
open Go.RowKit.Below renaming refl->κ,heap_alloc->Ω
open Go.Value renaming int->U,slice->E,string->D,pointer->μ,bool->ξ,agg->A2,tuple->B2
open Go.World renaming cell?->Z,heap->α,frozen?->γ,size_alloc->ο
open List renaming length->A,getElem?_eq_getElem->ε,drop_eq_getElem_cons->ζ,drop_of_length_le->θ,take_succ_eq_append_getElem->φ,getElem?_append_right->ω,length_map->A0
open Nat renaming zero_le->ρ
open Option renaming none->J,some->G
open Or renaming inl->Ψ,inr->A7
open _root_ renaming rfl->Y,decide_eq_false->η,decide_eq_true->ι,List->σ,Int->A3,Nat->B1,Bool->B4
namespace Go.Proofs.YthkeffolmbnkaaaGreatDoor
open Go.Proofs.Tryz
open Go.RowKit
variable{d:Bs}{k:List Nat}{b:List gB}{g:List gq}{c i m n S:Nat}{p:Nat×Nat}{j o:Option Addr}{f l q s u v x y z B C F K L N O P:Value}{a R:World}
theorem Ut:kF a [] (E J 0 0) []:=⟨J,0,Y,Y,ak,Ψ Y,λ_ _ _ b=>by simp at b⟩
theorem ik.ah{w x v e}(c:ik w v e)(b:Bl w x):ik x v e:=by
 obtain⟨f,cap,g,j,k⟩:=c;refine⟨f,cap,g,j, ?_⟩;rcases k with c|⟨l,m,n,d,o⟩
 ·exact Ψ c
 refine A7 ⟨l,m,n,cz b.size,λi p q=>?_⟩;obtain⟨⟨a,r,s⟩,t⟩:=o i p q;exact⟨⟨cK b d a,cK b d r,cK b d s⟩,t⟩
theorem kF.other{x:Φ}{fns}(e:kF a k f fns)(r:a.heap[c]? =G (δ #[E j n i,E o S m] 194 p))(T:β (α a)<=β (α x))(s:∀g,g≠c->x.heap[g]? =a.heap[g]?):kF x k f fns:=by
 obtain⟨w,cap,y,z,B,C,F⟩:=e;refine⟨w,cap,y,z,B, ?_,λb d N K L=>(F b d N K L).grow λg _ _ _ t O=>s g λl=>?_⟩
 ·rcases C with e|⟨q,l,_,u⟩
  ·exact Ψ e
  refine A7 ⟨q,l,aa,λb d v=>?_⟩;have P:q≠c:=λR=>by
   subst R;have:=u b d v;rw[aI r]at this
   match b,this with
   |0,this=>simp at this
   |1,this=>simp at this
   |(b+2),this=>simp at this
  rw[World.cell?_of_block (w:=a) (s q P)];exact u b d v
 subst l;rw[r]at t;cases t;revert O;decide
def dL(prev:σ gB):σ gB->B4
 | []=>A1
 |c::r=>mG c&& !kL c.1 prev&&dL (prev++ [c]) r
def bZ(cs:σ gB):B4:= !(decide (A cs<1)||decide (4<A cs))&&dL [] cs
theorem dC.take{cap}(e:dC a (E j c cap) b)(d)(s:d<=A b):dC a (E j d cap) (b.take d):=by
 obtain⟨_,_,f,_,_,k⟩:=e
 cases f;have l:A (b.take d)=d:=PS;refine⟨j,cap,by rw[l],aa,aa, ?_⟩;rcases k with e|⟨m,n,f,o,p⟩
 ·subst e;exact Ψ ak
 exact A7 ⟨m,n,f,o,λi q g=>p i q (by
  have r:i<d:=cz ((List.getElem?_eq_some_iff.mp g).1);rw[List.getElem?_take_of_lt r]at g;exact g)⟩
theorem DD(o:dC a f b):
  ψ Γ 242 #[f] a (RB (ξ (bZ b)) a):=by
 have t:=o;obtain⟨_,cap,rfl,_,P,u⟩:=o;unfold A4 at P;by_cases v:A b<1
 ·have k:H (bZ b=Q):=by rw[H,bZ,ι v];rfl
  have R:decide ((A b:A3)<1)=A1:=ι aa;clear u t;go_enter Ξ,Θ
  go_wp2
  go_ret;exact⟨by rw[k.out];rfl,κ _ _⟩
 have R:decide ((A b:A3)<1)=Q:=η aa;by_cases K:4<A b
 ·have k:H (bZ b=Q):=by rw[H,bZ,ι K];simp
  have S:decide ((4:A3)<(A b:A3))=A1:=ι aa;clear u t;go_enter Ξ,Θ
  go_wp2
  go_ret;exact⟨by rw[k.out];rfl,κ _ _⟩
 have S:decide ((4:A3)<(A b:A3))=Q:=η aa;have k:H (bZ b=dL (b.take 0) (b.drop 0)):=by rw[H,bZ,η v,η K];simp
 rcases(id u)with o|⟨L,T,rfl,w,x⟩
 ·subst o;simp at v
 go_enter Ξ,Θ;go_wp2_with fail;go_loopw [16] (λd e=>∃c:B1,c<=A b/\d=U V c/\Bl a e/\H (bZ b=dL (b.take c) (b.drop c))) (λd _=>A b-(Δ d).toNat)
 ·exact⟨0,ρ _,Y,κ _ _,k⟩
 obtain⟨c,_,rfl,e,p⟩:=hrel;have q:=e.size;by_cases y:c<A b
 ·obtain⟨⟨i,l,s⟩,N,_⟩:=x c b[c] (ε y);have W:=cK e w i;have X:=cK e w l;have a0:=cK e w s;have g:H (bZ b=(mG b[c]&& !kL b[c].1 (b.take c)&&dL (b.take (c+1)) (b.drop (c+1)))):=by
   rw[H,p.out,ζ y,dL,φ y]
  obtain⟨d,B⟩:=au (b[c]);rw[<-B]at W X a0 g N;have:L<β (α wr):=aa;have r:=ai wr (δ #[D (I d.1),D (I d.2.1),U V d.2.2] 50);have a1:=ν wr (δ #[D (I d.1),D (I d.2.1),U V d.2.2] 50);have m:=Gm (wr.alloc (δ #[D (I d.1),D (I d.2.1),U V d.2.2] 50)) N;have z:=λ(j:World) (n:Bl a j)=>(t.ah n).take c aa;clear x p i l s B k
  cases s:mG d with
  |false=>
   have l:H (bZ b=Q):=by rw[H,g.out,s];rfl
   rw[s]at m;clear g z;go_wp2_with(go_at_call 292;refine cB m ?_;rintro O i);go_ret;exact⟨by rw[l.out];rfl,(e.trans (r.mono q)).trans (i.mono FK)⟩
  |true=>
   rw[s]at m g;have B:∀j:Φ,B3 (β (α (wr.alloc (δ #[D (I d.1),D (I d.2.1),U V d.2.2] 50)))) (wr.alloc (δ #[D (I d.1),D (I d.2.1),U V d.2.2] 50)) j->ψ Γ 293 #[E (G (M L T J)) c cap,.func (Fn.func 291) #[] #[μ (G (M (β (α wr)) 0 J))]] j (RB (ξ (kL d.1 (b.take c))) j):=by
    intro j n;have C:Bl a j:=(e.trans (r.mono q)).trans (n.mono FK);have F:=n.size;rw[ο]at F;exact vM (β (α wr)) d.1 (z j C) aa ((aI ((n.block (β (α wr)) FK).trans a1)).trans Y)
   obtain⟨a2,C⟩:=au (kL d.1 (b.take c));rw[<-C]at g;simp only[<-C]at B;clear C z s
   cases a2 with
   |true=>
    have l:H (bZ b=Q):=by rw[H,g.out];rfl
    clear g;go_wp2_with(first
     |(go_at_call 292;refine cB m ?_;rintro O i)
     |(go_at_call 293;refine cB (B _ i) ?_;rintro a3 C))
    go_ret;have F:=i.size;rw[ο]at F;exact⟨by rw[l.out];rfl,((e.trans (r.mono q)).trans (i.mono FK)).trans (C.mono aa)⟩
   |false=>
    have l:H (bZ b=dL (b.take (c+1)) (b.drop (c+1))):=by rw[H,g.out];rfl
    clear g;go_wp2_with(first
     |(go_at_call 292;refine cB m ?_;rintro O i)
     |(go_at_call 293;refine cB (B _ i) ?_;rintro a3 C))
    have F:=i.size;rw[ο]at F;go_roundw
    ·exact⟨c+1,aa,aP,((e.trans (r.mono q)).trans (i.mono FK)).trans (C.mono aa),l⟩
    simp[Δ];omega
 have l:H (bZ b=A1):=by rw[H,p.out,θ aa];rfl
 clear p x k
 go_wp2
 go_ret;exact⟨by rw[l.out];rfl,e⟩
theorem Rl(c a b):
  ψ Γ 333 #[A2 #[U V c.1,U V c.2.1,D (I c.2.2)],A2 #[D (I a.1),D (I a.2.1),U V a.2.2]] b (RB (ξ (dZ c (iF a))) b):=by
 obtain⟨d,e,f⟩:=c;have j:=λi:World=>qG a i;obtain⟨k,g⟩:=au (iF a);simp only[<-g]at j ⊢;clear g;have l:=λi:World=>XF d e f k i;obtain⟨_,g⟩:=au (dZ (d,e,f) k);simp only[<-g]at l ⊢;clear g;have m:=aV b (δ #[U V d,U V e,D (I f)] 56) (δ #[D (I a.1),D (I a.2.1),U V a.2.2] 50);have n:((b.alloc (δ #[U V d,U V e,D (I f)] 56)).alloc (δ #[D (I a.1),D (I a.2.1),U V a.2.2] 50)).heap[β (α b)]? =G (δ #[U V d,U V e,D (I f)] 56):=(Ω _ _ _ ek).trans (ν b _);go_enter func333,ntmps333;go_upto_region 1 with fail
 go_region_with(first
  |(go_at_call 244;refine cB (j _) ?_;rintro _ g;replace g:=jy g;have o:=bT m g;obtain⟨⟨_,_,_⟩,_⟩:=tX ((g.block _ vK).trans n))
  |(go_at_call 124;refine cB (l _) ?_;rintro _ p))
 all_goals(go_wp2;go_ret)
 all_goals exact⟨Y,bT o p⟩
def jI:σ gq->σ gB->B4
 | [],[]=>A1
 |c::cs,d::ds=>dZ c (iF d)&&jI cs ds
 |_,_=>Q
theorem EN:∀(a:σ gq) (b:σ gB),A a≠A b->jI a b=Q
 | [],[],h=>absurd Y h
 | [],_::_,_=>rfl
 |_::_,[],_=>rfl
 |c::a,d::b,h=>by rw[jI,EN a b (by simpa using h)];simp
theorem Bg(W:oD a f g)(X:dC a l b):
  ψ Γ 334 #[f,l,.func (Fn.func 333) #[] #[]] a (RB (ξ (jI g b)) a):=by
 obtain⟨_,_,rfl,w,m⟩:=W;obtain⟨_,_,rfl,_,l2,n⟩:=X;unfold A4 at w l2;by_cases o:A g=A b
 ·obtain⟨k,c⟩:=au (A g);have x:H (A g=k):=c.symm;have y:H (A b=k):=by rw[H,<-o,c]
  rw[<-o,<-c];rw[<-c]at w;clear o c l2;go_enter A9,A5;go_wp2_with fail;go_loopw [17] (λd e=>∃c:B1,c<=k/\d=U V c/\Bl a e/\H (jI g b=jI (g.drop c) (b.drop c))) (λd _=>k-(Δ d).toNat)
  ·exact⟨0,ρ _,Y,κ _ _,Y⟩
  obtain⟨c,_,rfl,d,p⟩:=hrel;have z:=d.size;by_cases b0:c<k
  ·have i:c<A g:=by have:=x.out;omega
   have j:c<A b:=cz y.out;rcases(id m)with q|⟨a0,_,rfl,r,v⟩
   ·subst q;simp at i
   rcases(id n)with q|⟨a1,_,rfl,s,B⟩
   ·subst q;simp at j
   obtain⟨C,F,K⟩:=v c g[c] (ε i);obtain⟨⟨L,N,O⟩, -⟩:=B c b[c] (ε j);have a2:=cK d r C;have a3:=cK d r F;have a4:=cK d r K;have a5:=cK d s L;have a6:=cK d s N;have a7:=cK d s O;have e:H (jI g b=(dZ g[c] (iF b[c])&&jI (g.drop (c+1)) (b.drop (c+1)))):=by
    rw[H,p.out,ζ i,ζ j,jI]
   obtain⟨P,R⟩:=au (g[c]);obtain⟨S,T⟩:=au (b[c]);rw[<-R]at a2 a3 a4 e;rw[<-T]at a5 a6 a7 e;have t:=λa8:World=>Rl P S a8;obtain⟨a9,u⟩:=au (dZ P (iF S));rw[<-u]at e;simp only[<-u]at t;have:a0<β (α wr):=aa;have:a1<β (α wr):=aa;clear p v B m n C F K L N O R T u i j
   cases a9
   ·have i:H (jI g b=Q):=by rw[H,e.out];rfl
    clear e;go_wp2_with(go_at_call 333;refine cB (t _) ?_;rintro u j);go_ret;have v:Bl wr u:=by
     first|exact(aV wr _ _).trans (j.mono vK)|exact(ai wr _).trans (j.mono ek)|exact j
    exact⟨aG i.symm,d.trans (v.mono z)⟩
   have i:H (jI g b=jI (g.drop (c+1)) (b.drop (c+1))):=by rw[H,e.out];rfl
   clear e;go_wp2_with(go_at_call 333;refine cB (t _) ?_;rintro u j);have v:Bl wr u:=by
    first|exact(aV wr _ _).trans (j.mono vK)|exact(ai wr _).trans (j.mono ek)|exact j
   go_roundw
   ·exact⟨c+1,aa,aP,d.trans (v.mono z),i⟩
   simp[Δ];omega
  have i:H (jI g b=A1):=by rw[H,p.out,θ (by have:=x.out;omega),θ (by have:=y.out;omega)];rfl
  clear p m n
  go_wp2
  go_ret;exact⟨aG i.symm,d⟩
 have:((A g:A3)==(A b:A3))=Q:=aN;have i:H (jI g b=Q):=EN g b o;clear m n;go_enter A9,A5
 go_wp2
 go_ret;exact⟨aG i.symm,κ _ _⟩
theorem UH(c:oD a f g)(d:dC a l b):
  ψ Γ 294 #[f,l] a (RB (ξ (jI g b)) a):=by
 have e:=Bg c d;obtain⟨_,_,rfl,_,_⟩:=c;obtain⟨_,_,rfl,_,_,_⟩:=d;go_enter func294,ntmps294;go_wp2_with(go_at_call 334;refine cB e ?_;rintro _ i);go_ret;exact⟨Y,i⟩
def RowsIn(w:Φ)(v:A8)(rs:σ (σ gq)):Prop:=∃ao cap,v=E ao (A rs) cap/\A rs<=A4/\(rs= []\/∃b off,ao=G ⟨b,off,J⟩/\b<β (α w)/\∀(i:B1) (r:σ gq),rs[i]? =G r->∃ro rn rc,Z w ⟨b,off+i,J⟩=G (E ro rn rc)/\oD w (E ro rn rc) r)
theorem RowsIn.ah{w x v rs}(b:RowsIn w v rs)(c:Bl w x):RowsIn x v rs:=by
 obtain⟨d,cap,e,f,g⟩:=b;refine⟨d,cap,e,f, ?_⟩;rcases g with b|⟨j,k,l,m,n⟩
 ·exact Ψ b
 refine A7 ⟨j,k,l,cz c.size,λi p o=>?_⟩;obtain⟨q,r,s,a,t⟩:=n i p o;exact⟨q,r,s,cK c m a,t.ah c⟩
def iE(rs:σ (σ gq))(ds:σ gB):B4:= !decide (10<A rs)&&rs.all λr=>jI r ds
theorem LC{d}(z:RowsIn a f d)(n:dC a (E j i c) b):
  ψ Γ 243 #[f,E j i c] a (RB (ξ (iE d b)) a):=by
 obtain⟨_,cap,rfl,B,o⟩:=z;unfold A4 at B;by_cases u:10<A d
 ·have C:decide ((10:A3)<(A d:A3))=A1:=ι aa;have g:H (iE d b=Q):=by rw[H,iE,ι u];rfl
  clear o n;go_enter B0,A6
  go_wp2
  go_ret;exact⟨by rw[g.out];rfl,κ _ _⟩
 have C:decide ((10:A3)<(A d:A3))=Q:=η aa;have q:H (iE d b=(d.drop 0).all λk=>jI k b):=by rw[H,iE,η u];simp
 go_enter B0,A6;go_wp2_with fail;go_loopw [12] (λl m=>∃e:B1,e<=A d/\l=U V e/\Bl a m/\H (iE d b=(d.drop e).all λk=>jI k b)) (λl _=>A d-(Δ l).toNat)
 ·exact⟨0,ρ _,Y,κ _ _,q⟩
 obtain⟨e,_,rfl,l,p⟩:=hrel;have v:=l.size;by_cases r:e<A d
 ·rcases(id o)with F|⟨K,_,rfl,L,t⟩
  ·subst F;simp at r
  obtain⟨_,_,_,w,x⟩:=t e d[e] (ε r);have:=cK l L w;have m:H (iE d b=(jI d[e] b&&(d.drop (e+1)).all λk=>jI k b)):=by rw[H,p.out,ζ r];rfl
  have s:=UH (x.ah l) (n.ah l);obtain⟨N,y⟩:=au (jI d[e] b);rw[<-y]at m s;have:K<β (α wr):=aa;clear p t o w y x q n
  cases N
  ·have g:H (iE d b=Q):=by rw[H,m.out];rfl
   clear m;go_wp2_with(go_at_call 294;refine cB s ?_;rintro w t);go_ret;exact⟨by rw[g.out];rfl,l.trans (t.mono v)⟩
  have g:H (iE d b=(d.drop (e+1)).all λk=>jI k b):=by rw[H,m.out];rfl
  clear m;go_wp2_with(go_at_call 294;refine cB s ?_;rintro w t);go_roundw
  ·exact⟨e+1,aa,aP,l.trans (t.mono v),g⟩
  simp[Δ];omega
 have g:H (iE d b=A1):=by rw[H,p.out,θ aa];rfl
 clear p o q n
 go_wp2
 go_ret;exact⟨by rw[g.out];rfl,l⟩
structure aJ where
 name:Bs
 aB:List gB
 rows:List (List gq)
 count:Int
 aR:Bs
 gZ:List Bs
def bG(t:aJ):B4:=bZ t.aB&&decide (0<=t.count)&&decide (t.count<=1000000)&&iE t.rows t.aB
theorem Nc{b:aJ}(p l k)(d:dC a (E j i c) b.aB)(g:RowsIn a (E o n m) b.rows):
  ψ Γ 187 #[A2 #[D (I b.name),E j i c,E o n m,U V b.count,D (I b.aR),E p l k]] a (RB (ξ (bG b)) a):=by
 have x:=ai a (δ #[D (I b.name),E j i c,E o n m,U V b.count,D (I b.aR),E p l k] 54);have F:=ν a (δ #[D (I b.name),E j i c,E o n m,U V b.count,D (I b.aR),E p l k] 54);have q:=DD (d.ah x);have y:=λ(K:World) (z:Bl a K)=>LC (g.ah z) (d.ah z);have e:H (bG b=(bZ b.aB&&decide (0<=b.count)&&decide (b.count<=1000000)&&iE b.rows b.aB)):=Y;obtain⟨L,r⟩:=au (bZ b.aB);obtain⟨_,f⟩:=au (iE b.rows b.aB);rw[<-r]at q e;rw[<-f]at e;simp only[<-f]at y;clear r f d g;have r:∀d:Φ,B3 (β (α (a.alloc (δ #[D (I b.name),E j i c,E o n m,U V b.count,D (I b.aR),E p l k] 54)))) (a.alloc (δ #[D (I b.name),E j i c,E o n m,U V b.count,D (I b.aR),E p l k] 54)) d->(Z d (M (β (α a)) 1 J)=G (E j i c)/\Z d (M (β (α a)) 2 J)=G (E o n m)/\Z d (M (β (α a)) 3 J)=G (U V b.count))/\Bl a d:=by
  intro d g;have f:=(g.block (β (α a)) ek).trans F;exact⟨⟨aC f,aC f,aC f⟩,bT x g⟩
 cases L
 ·go_enter χ,υ;go_wp2_with(go_at_call 242;refine cB q ?_;rintro d g;obtain⟨⟨t,u,v⟩,f⟩:=r d g);go_ret;exact⟨by rw[e.out];rfl,f⟩
 by_cases B:0<=b.count
 ·have s:decide (0<=b.count)=A1:=ι B;by_cases C:b.count<=1000000
  ·have w:decide (b.count<=1000000)=A1:=ι C;rw[s,w]at e;go_enter χ,υ;go_wp2_with(first
    |(go_at_call 242;refine cB q ?_;rintro d g;obtain⟨⟨t,u,v⟩,f⟩:=r d g)
    |(go_at_call 243;refine cB (y _ f) ?_;rintro _ N))
   go_ret;exact⟨by rw[e.out];rfl,bT f N⟩
  have w:decide (b.count<=1000000)=Q:=η C;rw[s,w]at e;go_enter χ,υ;go_wp2_with(go_at_call 242;refine cB q ?_;rintro d g;obtain⟨⟨t,u,v⟩,f⟩:=r d g);go_ret;exact⟨by rw[e.out];rfl,f⟩
 have s:decide (0<=b.count)=Q:=η B;rw[s]at e;go_enter χ,υ;go_wp2_with(go_at_call 242;refine cB q ?_;rintro d g;obtain⟨⟨t,u,v⟩,f⟩:=r d g);go_ret;exact⟨by rw[e.out];rfl,f⟩
def bD(tb:Bs)(c:gB):Bs×A3:=(tb++ [46]++c.1,iF c)
def bR(ns:σ (Bs×A3)):σ A8:=ns.flatMap λn=>[D (I n.1),U V n.2]
theorem sQ(a b):bR (a++b)=bR a++bR b:=by simp[bR]
theorem rP:∀(a:σ (Bs×A3)) (c:B1) (b:Bs×A3),a[c]? =G b->(bR a)[c*2]? =G (D (I b.1))/\(bR a)[c*2+1]? =G (U V b.2)
 | [],c,b,h=>by simp at h
 |d::a,0,b,h=>by simp at h;subst h;simp[bR]
 |d::a,c+1,b,h=>by
  have:=rP a c b (by simpa using h);have e:bR (d::a)= [D (I d.1),U V d.2]++bR a:=by simp[bR]
  rw[e];refine⟨?_, ?_⟩
  ·rw[ω aN,<-this.1];congr 1;simp;omega
  rw[ω aN,<-this.2];congr 1;simp;omega
theorem BR{b}(e:a.ownsRow c 380 2 f (A b) (bR b))(k:A b<=1000):gN a f b:=by
 rcases e.2 with⟨rfl,l⟩|⟨d,cap,_,rfl,_⟩
 ·have:b= []:=List.length_eq_zero_iff.mp l;subst this;exact⟨_,_,Y,ak,Ψ Y⟩
 refine⟨_,_,Y,k,A7 ⟨d,Y,(e.lt d Y).2,λg n m=>?_⟩⟩;obtain⟨o,p⟩:=rP b g n m;have i:=e.cells (g:=d) Y (g*2) _ o;have j:=e.cells (g:=d) Y (g*2+1) _ p;rw[Addr.add_lit]at i j;exact⟨by simpa using i,by simpa using j⟩
theorem MQ:(Γ.info? 380).map (λa=>(a.zero,a.size,a.bytes))=G (G (A2 #[D ⟨#[]⟩,U V 0]),2,24):=aF
theorem nO(b:Φ){a}:(b.alloc a).drew.heap[β (α b)]? =G a:=ν b a
theorem Qf(a b):(I a++τ #[46])++I b=I (a++ [46]++b):=by
 have c:=rX a [46];have d:=rX (a++ [46]) b;have e:τ #[46]=I [46]:=Y;rw[e,c,d]
theorem Ie(a0:A d<=1000)(r:dC a f b)(X:A b<=1000)(s:∀e∈b,A e.1<=1000):
  ψ Γ 188 #[D (I d),f] a λW w=>∃v u t,W=.returned (E v u t)/\(gN w (E v u t) (b.map (bD d))/\w.ownsRow (β (α a)) 380 2 (E v u t) (A b) (bR (b.map (bD d))))/\Bl a w:=by
 obtain⟨a1,a2,a3,a4,a5⟩:=info_parts MQ;obtain⟨_,cap,rfl,_,_,x⟩:=r;have:(I d).size<=1000:=by rw[aX];exact a0
 have:(τ #[46]).size=1:=Y;go_enter func188,ntmps188;go_wp2_with fail;go_loopw [5,10] (λi g wr=>∃(c j k:B1) (l:Option Addr),c<=A b/\i=E l j k/\g=U V c/\wr.ownsRow (β (α a)) 380 2 (E l j k) c (bR ((b.take c).map (bD d)))/\Bl a wr) (λ_ g _=>A b-(Δ g).toNat)
 ·exact⟨0,0,0,J,ρ _,Y,Y,World.ownsRow_nil _ _ _ _,κ _ _⟩
 obtain⟨c,j,k,l,_,rfl,rfl,g,n⟩:=hrel;have a6:=n.size;by_cases o:c<A b
 ·rcases(id x)with r|⟨a7,_,rfl,y,i⟩
  ·subst r;simp at o
  obtain⟨⟨m,p,q⟩, -⟩:=i c b[c] (ε o);have a8:=cK n y m;have a9:=cK n y p;have b0:=cK n y q;have N:=s b[c] (List.getElem_mem o);have z:H ((b.take (c+1)).map (bD d)=(b.take c).map (bD d)++ [bD d b[c]]):=by rw[H,φ o,List.map_append];rfl
  obtain⟨e,F⟩:=au (b[c]);rw[<-F]at a8 a9 b0 N z;have:a7<β (α wr):=aa;have O:=λb1:World=>qG e b1;have B:H (bD d e=(d++ [46]++e.1,iF e)):=Y;obtain⟨b2,K⟩:=au (iF e);simp only[<-K]at O B;have:(I e.1).size<=1000:=by rw[aX];exact N
  have C:=Qf d e.1;have P:I d++τ #[46]=I (d++ [46]):=rX d [46];have b3:(I (d++ [46])).size<=1001:=by rw[aX];simp;omega
  rw[P]at C;have:¬9223372036854775807<(I d).size+1:=aa;have b4:¬9223372036854775807<(I (d++ [46])).size+(I e.1).size:=aa;obtain⟨b5,L⟩:=au (d++ [46]++e.1);obtain⟨_,R⟩:=au (d++ [46]);rw[<-L]at C B;rw[<-R]at C P b3 b4;clear i x m p q F K s L R;go_upto_region 5 with fail
  have F:=ai wr (δ #[D (I e.1),D (I e.2.1),U V e.2.2] 50);obtain⟨K,p⟩:=au (wr.alloc (δ #[D (I e.1),D (I e.2.1),U V e.2.2] 50));rw[<-p]at F ⊢;have R:K.heap[β (α wr)]? =G (δ #[D (I e.1),D (I e.2.1),U V e.2.2] 50):=by rw[p];exact ν wr _
  obtain⟨⟨_,_,_⟩,_⟩:=tX R;have:β (α K)=β (α wr)+1:=by rw[p];simp
  have b6:∀(m:Φ),Bl K m->∀L:Obj,(m.alloc L).drew.ownsRow (β (α a)) 380 2 (E l j k) c (bR ((b.take c).map (bD d))):=λm i L=>
   World.ownsRow.drew (World.ownsRow.alloc (aD g λq S=>(i.block q (by have:=(g.lt q S).2;omega)).trans (F.block q (g.lt q S).2)) L)
  clear p
  go_region_law (first
   |(refine step_append_lies _ Y (.tmp 14) (.tmp 23) 329 Y (β (α a)) 380 a1 _ 2 24 underlying329 a2 a3 a4 a5 Y ag (E l j k) _ (bR ((b.take c).map (bD d))) jl (b6 _ i _) (M (β (α m)) 0 J) 1 1 [D (I b5),U V b2] jl Y (World.news_of_block (nO m)) (by intro _ S;simp at S;rcases S with rfl|rfl<;>rfl) ag fD aa aN (β (α m)+1) ak ?_;intro b9 b8 T q p c0 _)
   |(go_simp;go_at_call 244;refine cB (O _) ?_;rintro m i;replace i:=jy i;have:=i.size;obtain⟨⟨_,_,_⟩,_⟩:=tX ((i.block _ aa).trans R)))
  all_goals
   have b7:T.ownsRow (β (α a)) 380 2 (E (G (M b9 0 J)) (c+1) b8) (c+1) (bR ((b.take (c+1)).map (bD d))):=by
    rw[z.out,sQ,B.out];exact q
   have RB:Bl a T:=(((n.trans (F.mono a6)).trans (i.mono aa)).alloc aa _).grown p FK (λc2 c1=>(g.lt c2 c1).1);clear q p g z c0
   go_wp2
   go_roundw
   ·exact⟨c+1,_,_,_,aa,Y,aP,b7,RB⟩
   simp[Δ];omega
 have i:c=A b:=aa;have m:H (gN wr (E l j k) (b.map (bD d))/\wr.ownsRow (β (α a)) 380 2 (E l j k) (A b) (bR (b.map (bD d)))):=by
  rw[i,List.take_length]at g;exact⟨BR (by rw[A0];exact g) (by rw[A0];exact X),g⟩
 clear g x s
 go_wp2
 go_ret;exact⟨_,_,_,Y,m,n⟩
theorem Vb(g:Bs)(o:A g<=1000)(l:dC a f b)(m:A b<=1000)(n:∀j∈b,A j.1<=1000):
  ψ Γ 188 #[D (I g),f] a λk i=>∃e d c,k=.returned (E e d c)/\gN i (E e d c) (b.map (bD g))/\Bl a i:=
 (Ie o l m n).mono λ_ _ ⟨e,d,c,he,hi,hb⟩=>⟨e,d,c,he,hi.1,hb⟩
structure dK where
 name:Bs
 co:Option Addr
 cn:Nat
 cc:Nat
 ro:Option Addr
 rn:Nat
 rc:Nat
 count:Int
 aR:Bs
 uo:Option Addr
 un:Nat
 uc:Nat
 sort:Int
 ty:Int
 size:Int
 quiet:Bool
 vk:Int
 vn:Int
 vs:Bs
 place:Int
 head:Bs
 fp:Option Addr
 xo:Option Addr
 xn:Nat
 xc:Nat
abbrev dK.arr(r:dK):Array A8:= #[D (I r.name),E r.co r.cn r.cc,E r.ro r.rn r.rc,U V r.count,D (I r.aR),E r.uo r.un r.uc,U V r.sort,U V r.ty,U V r.size,ξ r.quiet,U V r.vk,U V r.vn,D (I r.vs),U V r.place,D (I r.head),μ r.fp,E r.xo r.xn r.xc]
abbrev dK.ex(r:dK):σ A8:=[U V r.sort,U V r.ty,U V r.size,ξ r.quiet,U V r.vk,U V r.vn,D (I r.vs),U V r.place,D (I r.head),μ r.fp,E r.xo r.xn r.xc]
def gD(w:Φ)(v:A8)(ls:σ Bs):Prop:=∃ao cap,v=E ao (A ls) cap/\A ls<=A4/\(ls= []\/∃b off,ao=G ⟨b,off,J⟩/\b<β (α w)/\∀(i:B1) (l:Bs),ls[i]? =G l->Z w ⟨b,off+i,J⟩=G (D (I l)))
theorem gD.ah{w x v c}(a:gD w v c)(b:Bl w x):gD x v c:=by
 obtain⟨d,cap,e,f,g⟩:=a;refine⟨d,cap,e,f, ?_⟩;rcases g with a|⟨j,k,m,n,o⟩
 ·exact Ψ a
 exact A7 ⟨j,k,m,cz b.size,λi l p=>cK b n (o i l p)⟩
structure mY(w:World)(FB:List Nat)(r:dK)(t:aJ)(e:Ex):Prop where
 name:r.name=t.name
 count:r.count=t.count
 aR:r.aR=t.aR
 aB:dC w (.slice r.co r.cn r.cc) t.aB
 rows:RowsIn w (.slice r.ro r.rn r.rc) t.rows
 gZ:gD w (.slice r.uo r.un r.uc) t.gZ
 ex:dF w FB (λ_=>True) r.ex e
theorem mY.ah{w x d e c}(a:mY w k d e c)(b:Bl w x):mY x k d e c:=
 ⟨a.name,a.count,a.aR,a.aB.ah b,a.rows.ah b,a.gZ.ah b,a.ex.ah b⟩
def yQ(x:Φ)(b i:B1)(r:dK):Prop:=Z x ⟨b,i*17,J⟩=G (D (I r.name))/\Z x ⟨b,i*17+1,J⟩=G (E r.co r.cn r.cc)/\Z x ⟨b,i*17+2,J⟩=G (E r.ro r.rn r.rc)/\Z x ⟨b,i*17+3,J⟩=G (U V r.count)/\Z x ⟨b,i*17+4,J⟩=G (D (I r.aR))/\Z x ⟨b,i*17+5,J⟩=G (E r.uo r.un r.uc)/\Z x ⟨b,i*17+6,J⟩=G (U V r.sort)/\Z x ⟨b,i*17+7,J⟩=G (U V r.ty)/\Z x ⟨b,i*17+8,J⟩=G (U V r.size)/\Z x ⟨b,i*17+9,J⟩=G (ξ r.quiet)/\Z x ⟨b,i*17+10,J⟩=G (U V r.vk)/\Z x ⟨b,i*17+11,J⟩=G (U V r.vn)/\Z x ⟨b,i*17+12,J⟩=G (D (I r.vs))/\Z x ⟨b,i*17+13,J⟩=G (U V r.place)/\Z x ⟨b,i*17+14,J⟩=G (D (I r.head))/\Z x ⟨b,i*17+15,J⟩=G (μ r.fp)/\Z x ⟨b,i*17+16,J⟩=G (E r.xo r.xn r.xc)
def dA(w:Φ)(FB:σ B1)(v:A8)(ts:σ (aJ×Ex)):Prop:=∃ao cap,v=E ao (A ts) cap/\A ts<=1000/\(ts= []\/∃b,ao=G ⟨b,0,J⟩/\b<β (α w)/\∀(i:B1) (te:aJ×Ex),ts[i]? =G te->∃r:dK,yQ w b i r/\mY w FB r te.1 te.2)
theorem yQ.ah{w x i d}(a:yQ w c i d)(e:∀b,Z x (M c b J)=Z w (M c b J)):yQ x c i d:=by
 unfold yQ at a ⊢;simp only[e];exact a
theorem dA.ah{w x v d}(b:dA w k v d)(c:Bl w x):dA x k v d:=by
 obtain⟨f,cap,g,j,l⟩:=b;refine⟨f,cap,g,j, ?_⟩;rcases l with b|⟨e,m,n,o⟩
 ·exact Ψ b
 refine A7 ⟨e,m,cz c.size,λi r q=>?_⟩;obtain⟨s,a,t⟩:=o i r q;exact⟨s,a.ah λu=>c.cell (p:=(M e u J)) n,t.ah c⟩
theorem RP{cap}:dA a k (E J 0 cap) []:=⟨J,cap,Y,ak,Ψ Y⟩
def dS(ts:σ (aJ×Ex))(l:Bs):Option B1:=ts.findIdx? (λte=>te.1.name==l)
theorem yX{b}(d:a.heap[c]? =G (δ #[f,l,q,s,u,v,x,y,z,B,C,F,K,L,N,O,P] b (0,0))):
  (Z a (M c 0 J)=G f/\Z a (M c 1 J)=G l/\Z a (M c 2 J)=G q/\Z a (M c 3 J)=G s/\Z a (M c 4 J)=G u/\Z a (M c 5 J)=G v/\Z a (M c 6 J)=G x/\Z a (M c 7 J)=G y/\Z a (M c 8 J)=G z/\Z a (M c 9 J)=G B/\Z a (M c 10 J)=G C/\Z a (M c 11 J)=G F/\Z a (M c 12 J)=G K/\Z a (M c 13 J)=G L/\Z a (M c 14 J)=G N/\Z a (M c 15 J)=G O/\Z a (M c 16 J)=G P)/\(γ a (M c 0 J)=Q/\γ a (M c 1 J)=Q/\γ a (M c 2 J)=Q/\γ a (M c 3 J)=Q/\γ a (M c 4 J)=Q/\γ a (M c 5 J)=Q/\γ a (M c 6 J)=Q/\γ a (M c 7 J)=Q/\γ a (M c 8 J)=Q/\γ a (M c 9 J)=Q/\γ a (M c 10 J)=Q/\γ a (M c 11 J)=Q/\γ a (M c 12 J)=Q/\γ a (M c 13 J)=Q/\γ a (M c 14 J)=Q/\γ a (M c 15 J)=Q/\γ a (M c 16 J)=Q):=by
 simp[Z,γ,d]
theorem Cm{b}(x:B3 c a R)(d:c<=b)(f g p q r s t u v w i j k l m n o):B3 c a (((((((((((((((((R.setCell (M b 0 J) f).setCell (M b 1 J) g).setCell (M b 2 J) p).setCell (M b 3 J) q).setCell (M b 4 J) r).setCell (M b 5 J) s).setCell (M b 6 J) t).setCell (M b 7 J) u).setCell (M b 8 J) v).setCell (M b 9 J) w).setCell (M b 10 J) i).setCell (M b 11 J) j).setCell (M b 12 J) k).setCell (M b 13 J) l).setCell (M b 14 J) m).setCell (M b 15 J) n).setCell (M b 16 J) o):=
 (((((((((((((((((x.setCell (p:=(M b 0 J)) d _).setCell (p:=(M b 1 J)) d _).setCell (p:=(M b 2 J)) d _).setCell (p:=(M b 3 J)) d _).setCell (p:=(M b 4 J)) d _).setCell (p:=(M b 5 J)) d _).setCell (p:=(M b 6 J)) d _).setCell (p:=(M b 7 J)) d _).setCell (p:=(M b 8 J)) d _).setCell (p:=(M b 9 J)) d _).setCell (p:=(M b 10 J)) d _).setCell (p:=(M b 11 J)) d _).setCell (p:=(M b 12 J)) d _).setCell (p:=(M b 13 J)) d _).setCell (p:=(M b 14 J)) d _).setCell (p:=(M b 15 J)) d _).setCell (p:=(M b 16 J)) d _)
theorem RO(b:dK)(i:c<β (α a))(g:Z a (M c 0 J)=G (D (I d))):
  ψ Γ 133 #[A2 #[D (I b.name),E b.co b.cn b.cc,E b.ro b.rn b.rc,U V b.count,D (I b.aR),E b.uo b.un b.uc,U V b.sort,U V b.ty,U V b.size,ξ b.quiet,U V b.vk,U V b.vn,D (I b.vs),U V b.place,D (I b.head),μ b.fp,E b.xo b.xn b.xc],μ (G (M c 0 J))] a (RB (ξ (b.name==d)) a):=by
 have f:H ((b.name==d)=((I b.name).toList==(I d).toList)):=by rw[H,ay,ay]
 have e:=ai a (δ #[D (I b.name),E b.co b.cn b.cc,E b.ro b.rn b.rc,U V b.count,D (I b.aR),E b.uo b.un b.uc,U V b.sort,U V b.ty,U V b.size,ξ b.quiet,U V b.vk,U V b.vn,D (I b.vs),U V b.place,D (I b.head),μ b.fp,E b.xo b.xn b.xc] 235);have:=cK e i g;go_enter func133,ntmps133;go_upto_region 1 with fail
 first
  |(go_region;go_wp2;go_ret;exact⟨by rw[f.out];rfl,e.drew⟩)
  |(go_wp2;go_ret;exact⟨by rw[f.out];rfl,e⟩)
theorem rC{e}(o:dA a k f e)(z:c<β (α a))(y:Z a (M c 0 J)=G (D (I d))):
  ψ Γ 132 #[f,.func (Fn.func 133) #[] #[μ (G (M c 0 J))]] a λw B=>(∃p:A3,w=.returned (U V p)/\((dS e d=J/\p= -1)\/∃b:B1,dS e d=G b/\p=b/\b<A e))/\Bl a B:=by
 obtain⟨_,cap,rfl,_,q⟩:=o;go_enter func132,ntmps132;go_wp2_with fail;go_loopw [8] (λg j=>∃b:B1,b<=A e/\g=U V b/\Bl a j/\H (dS e d=((e.drop b).findIdx? (λi=>i.1.name==d)).map (· +b))) (λg _=>A e-(Δ g).toNat)
 ·exact⟨0,ρ _,Y,κ _ _,by rw[H];simp[dS]⟩
 obtain⟨b,_,rfl,g,m⟩:=hrel;by_cases n:b<A e
 ·rcases(id q)with o|⟨C,rfl,F,l⟩
  ·subst o;simp at n
  obtain⟨r,t,u⟩:=l b e[b] (ε n);obtain⟨_,_,_,_,_,_,_,_,_,_,_,_,_,_,_,_,_⟩:=t.ah λK=>g.cell (p:=(M C K J)) F;have L:=cK g z y;have v:e.drop b=e[b]::e.drop (b+1):=ζ n;have j:H (dS e d=if(r.name==d)then G b else((e.drop (b+1)).findIdx? (λi=>i.1.name==d)).map (· +(b+1))):=by
   rw[H,m.out,v,List.findIdx?_cons,u.name]
   cases(e[b].1.name==d)
   ·simp only[Bool.false_eq_true,if_false,Option.map_map];congr 1;funext x;simp;omega
   simp
  have N:c<β (α wr):=cz g.size;have s:=RO r N L;clear l v q m u t;obtain⟨u,l⟩:=au (r.name==d);rw[<-l]at s j;clear l
  cases u with
  |true=>
   have l:H (dS e d=G b):=by rw[H,j.out,if_pos Y]
   clear j;go_wp2_with(go_at_call 133;refine cB s ?_;rintro v t);go_ret;exact⟨⟨_,Y,A7 ⟨b,l,Y,n⟩⟩,bT g t⟩
  |false=>
   have l:H (dS e d=((e.drop (b+1)).findIdx? (λi=>i.1.name==d)).map (· +(b+1))):=by rw[H,j.out,if_neg Bool.false_ne_true]
   clear j;go_wp2_with(go_at_call 133;refine cB s ?_;rintro v t);go_roundw
   ·exact⟨b+1,aa,aP,bT g t,l⟩
   simp[Δ];omega
 have l:H (dS e d=J):=by rw[H,m.out,θ aa];rfl
 clear m q
 go_wp2
 go_ret;exact⟨⟨_,Y,Ψ ⟨l,Y⟩⟩,g⟩
theorem OD{b}(a0:a.heap[c]? =G (δ #[f,l,q,s,u,v,x,y,z,B,C,F,K,L,N,O,P] b p))(d e r t w R S T W X g i j k m n o):(((((((((((((((((a.setCell (M c 0 J) d).setCell (M c 1 J) e).setCell (M c 2 J) r).setCell (M c 3 J) t).setCell (M c 4 J) w).setCell (M c 5 J) R).setCell (M c 6 J) S).setCell (M c 7 J) T).setCell (M c 8 J) W).setCell (M c 9 J) X).setCell (M c 10 J) g).setCell (M c 11 J) i).setCell (M c 12 J) j).setCell (M c 13 J) k).setCell (M c 14 J) m).setCell (M c 15 J) n).setCell (M c 16 J) o).heap[c]? =G (δ #[d,e,r,t,w,R,S,T,W,X,g,i,j,k,m,n,o] b p):=by
 simp[World.setCell,Array.getElem?_modify,a0]
theorem vJ{e}(l j g){aS}(n:dA a k (E aS i c) e)(t:dS e d=J):
  ψ Γ 75 #[A2 #[E l j g,E aS i c],D (I d)] a λm q=>Bl a q/\((dS e d=J/\m=.returned (B2 #[A2 #[D ⟨#[]⟩,E J 0 0,E J 0 0,U V 0,D ⟨#[]⟩,E J 0 0,U V 0,U V 0,U V 0,ξ Q,U V 0,U V 0,D ⟨#[]⟩,U V 0,D ⟨#[]⟩,μ J,E J 0 0],U V 2]))\/∃(o:B1) (p:aJ×Ex) (b:dK),dS e d=G o/\e[o]? =G p/\m=.returned (B2 #[A2 #[D (I b.name),E b.co b.cn b.cc,E b.ro b.rn b.rc,U V b.count,D (I b.aR),E b.uo b.un b.uc,U V b.sort,U V b.ty,U V b.size,ξ b.quiet,U V b.vk,U V b.vn,D (I b.vs),U V b.place,D (I b.head),μ b.fp,E b.xo b.xn b.xc],U V 0])/\mY q k b p.1 p.2):=by
 have u:Bl a (((a.alloc (δ #[E l j g,E aS i c] 194)).alloc (δ #[D (I d)] 9)).alloc (δ #[D ⟨#[]⟩,E J 0 0,E J 0 0,U V 0,D ⟨#[]⟩,E J 0 0,U V 0,U V 0,U V 0,ξ Q,U V 0,U V 0,D ⟨#[]⟩,U V 0,D ⟨#[]⟩,μ J,E J 0 0] 235)):=(tY (κ _ _)).1;have f:Z (((a.alloc (δ #[E l j g,E aS i c] 194)).alloc (δ #[D (I d)] 9)).alloc (δ #[D ⟨#[]⟩,E J 0 0,E J 0 0,U V 0,D ⟨#[]⟩,E J 0 0,U V 0,U V 0,U V 0,ξ Q,U V 0,U V 0,D ⟨#[]⟩,U V 0,D ⟨#[]⟩,μ J,E J 0 0] 235)) ⟨β (α a)+1,0,J⟩=G (D (I d)):=by
  have:=ν (a.alloc (δ #[E l j g,E aS i c] 194)) (δ #[D (I d)] 9);rw[ο]at this;exact(aI ((Ω _ _ _ gL).trans this)).trans Y
 have r:=rC (n.ah u) gL f;have v:=n;obtain⟨_,cap,w,_,x⟩:=n
 cases w;go_enter func75,ntmps75;go_wp2_with(go_at_call 132;refine r.mono ?_);clear r f;rintro m _ ⟨⟨_,rfl,⟨f,rfl⟩|⟨o,f,rfl,_⟩⟩,r⟩
 ·have y:H (dS e d=J):=f;obtain⟨z,⟨_,s⟩,_,l2⟩:=tY r;obtain⟨⟨B,C,F,K,L,N,O,P,R,S,T,W,X,a0,a1,a2,a3⟩,_,_,_,_,_,_,_,_,_,_,_,_,_,_,_,g15,g16⟩:=yX s;clear f r x s v;go_wp2_with fail;refine bodyPost_ret (v:=B2 #[A2 #[D ⟨#[]⟩,E J 0 0,E J 0 0,U V 0,D ⟨#[]⟩,E J 0 0,U V 0,U V 0,U V 0,ξ Q,U V 0,U V 0,D ⟨#[]⟩,U V 0,D ⟨#[]⟩,μ J,E J 0 0],U V 2]) (by simp[results,results75,go_sem,B,C,F,K,L,N,O,P,R,S,T,W,X,a0,a1,a2,a3]) Y ⟨?_,Ψ ⟨y,Y⟩⟩;exact Cm z aa _ _ _ _ _ _ _ _ _ _ _ _ _ _ _ _ _
 rw[t]at f;cases f
end Go.Proofs.YthkeffolmbnkaaaGreatDoor

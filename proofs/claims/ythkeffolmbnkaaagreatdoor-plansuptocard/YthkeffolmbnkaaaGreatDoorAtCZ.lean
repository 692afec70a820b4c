import Derived.Test.YthkeffolmbnkaaaGreatDoorBaCZ
import Derived.Deep.RegionHeld2
set_option linter.unusedVariables false
set_option linter.unusedSimpArgs false
set_option maxRecDepth 100000
set_option maxHeartbeats 0
open Array renaming size->Q,getElem?_modify->A0
open Bool renaming true->Z,false->η,and_eq_true->ψ
open ByteArray renaming mk->A3
open Go renaming heap_alloc_new->θ,store->ρ,World->χ,Calls->Ψ,Value->B0,Program->C1,maxLen->C4,Addr->D2,bodyPost_ret->D5
open Go.Addr renaming mk->E
open Go.Ending renaming returned->ξ
open Go.IntKind renaming i64->V
open Go.Obj renaming cells->ε
open Go.Proofs.Tryz renaming prog->τ,ntmps187->A6,func187->A8,ntmps242->B3,func242->B6,results75->C3,ntmps334->C5,ntmps243->C6,ntmps75->C7,func334->C8,func243->C9,func75->D0,f110->D1
open Go.Proofs.YthkeffolmbnkaaaGreatDoor renaming ae->G
open Go.RowKit renaming Hid->Y,Below->Δ,intOf->B2
open Go.RowKit.Below renaming refl->ι,heap_alloc->Φ,heap_setCell->A5
open Go.Value renaming int->U,slice->M,string->D,pointer->γ,bool->ν,agg->Ξ,tuple->A1
open Go.World renaming heap->α,cell?->β,frozen?->δ,size_alloc->σ,setCell->A4,cell?_of_block->B7
open List renaming length->A,getElem?_eq_getElem->ζ,getElem?_append_right->κ,drop_eq_getElem_cons->μ,drop_of_length_le->υ,getElem?_eq_some_iff->ω,getElem?_append_left->Θ,take_succ_eq_append_getElem->A7,length_eq_zero_iff->B4,flatMap_cons->C0,length_map->C2
open Nat renaming zero_le->A2
open Option renaming none->J,some->I
open Or renaming inr->B1,inl->B5
open _root_ renaming rfl->H,decide_eq_false->ο,decide_eq_true->φ,List->Γ,Nat->Ω,Option->A9,Int->B8,decide_eq_false_iff_not->B9,Except->D3,True->D4,Bool->D6
namespace Go.Proofs.YthkeffolmbnkaaaGreatDoor
open Go.Proofs.Tryz
open Go.RowKit
variable{F:Array Value}{d:Bs}{L:Ex}{j:List Nat}{b:List gB}{n:List gq}{c i m s K a0 a1:Nat}{a2:Nat×Nat}{x:Obj}{l P:Option Addr}{f k o p q u v y z B C R S T W N O a3 a4 a5 a6 a7 a8 a9 b0 b1 b2 b3 b4 b5 b6 b7 b8 b9 c0 c1 c2 c3 c4 c5 c6 c7 c8 c9 e0 e1 e2 e3 e4 e5 e6 e7 e8 e9 g0 g1 g2 g3 g4 g5 g6 g7 g8 g9 h0 h1 h2 h3 h4 h5 h6 h7 h8 h9:Value}{a g X:World}
theorem Ut:kF a [] (M J 0 0) []:=⟨J,0,H,H,ak,B5 H,λ_ _ _ b=>by simp at b⟩
theorem ik.ah{w x v e}(c:ik w v e)(b:Bl w x):ik x v e:=by
 obtain⟨f,cap,g,j,k⟩:=c;refine⟨f,cap,g,j, ?_⟩;rcases k with c|⟨l,m,n,d,o⟩
 ·exact B5 c
 refine B1 ⟨l,m,n,cz b.size,λi p q=>?_⟩;obtain⟨⟨a,r,s⟩,t⟩:=o i p q;exact⟨⟨cK b d a,cK b d r,cK b d s⟩,t⟩
theorem kF.other{x:χ}{fns}(e:kF a j f fns)(o:a.heap[c]? =I (ε #[M l s i,M P K m] 194 a2))(S:Q (α a)<=Q (α x))(p:∀g,g≠c->x.heap[g]? =a.heap[g]?):kF x j f fns:=by
 obtain⟨u,cap,v,w,y,z,B⟩:=e;refine⟨u,cap,v,w,y, ?_,λb d L C F=>(B b d L C F).grow λg _ _ _ q N=>p g λk=>?_⟩
 ·rcases z with e|⟨n,k,_,r⟩
  ·exact B5 e
  refine B1 ⟨n,k,aa,λb d t=>?_⟩;have O:n≠c:=λR=>by
   subst R;have:=r b d t;rw[aI o]at this
   match b,this with
   |0,this=>simp at this
   |1,this=>simp at this
   |(b+2),this=>simp at this
  rw[B7 (w:=a) (p n O)];exact r b d t
 subst k;rw[o]at q;cases q;revert N;decide
def dL(prev:Γ gB):Γ gB->D6
 | []=>Z
 |c::r=>mG c&& !kL c.1 prev&&dL (prev++ [c]) r
def bZ(cs:Γ gB):D6:= !(decide (A cs<1)||decide (4<A cs))&&dL [] cs
theorem dC.take{cap}(e:dC a (M l c cap) b)(d)(s:d<=A b):dC a (M l d cap) (b.take d):=by
 obtain⟨_,_,f,_,_,j⟩:=e
 cases f;have k:A (b.take d)=d:=PS;refine⟨l,cap,by rw[k],aa,aa, ?_⟩;rcases j with e|⟨m,n,f,o,p⟩
 ·subst e;exact B5 ak
 exact B1 ⟨m,n,f,o,λi q g=>p i q (by
  have r:i<d:=cz ((ω.mp g).1);rw[List.getElem?_take_of_lt r]at g;exact g)⟩
theorem DD(o:dC a f b):
  Ψ τ 242 #[f] a (RB (ν (bZ b)) a):=by
 have t:=o;obtain⟨_,cap,rfl,_,P,u⟩:=o;unfold C4 at P;by_cases v:A b<1
 ·have k:Y (bZ b=η):=by rw[Y,bZ,φ v];rfl
  have R:decide ((A b:B8)<1)=Z:=φ aa;clear u t;go_enter B6,B3
  go_wp2
  go_ret;exact⟨by rw[k.out];rfl,ι _ _⟩
 have R:decide ((A b:B8)<1)=η:=ο aa;by_cases K:4<A b
 ·have k:Y (bZ b=η):=by rw[Y,bZ,φ K];simp
  have S:decide ((4:B8)<(A b:B8))=Z:=φ aa;clear u t;go_enter B6,B3
  go_wp2
  go_ret;exact⟨by rw[k.out];rfl,ι _ _⟩
 have S:decide ((4:B8)<(A b:B8))=η:=ο aa;have k:Y (bZ b=dL (b.take 0) (b.drop 0)):=by rw[Y,bZ,ο v,ο K];simp
 rcases(id u)with o|⟨L,T,rfl,w,x⟩
 ·subst o;simp at v
 go_enter B6,B3;go_wp2_with fail;go_loopw [16] (λd e=>∃c:Ω,c<=A b/\d=U V c/\Bl a e/\Y (bZ b=dL (b.take c) (b.drop c))) (λd _=>A b-(B2 d).toNat)
 ·exact⟨0,A2 _,H,ι _ _,k⟩
 obtain⟨c,_,rfl,e,p⟩:=hrel;have q:=e.size;by_cases y:c<A b
 ·obtain⟨⟨i,l,s⟩,N,_⟩:=x c b[c] (ζ y);have W:=cK e w i;have X:=cK e w l;have a0:=cK e w s;have g:Y (bZ b=(mG b[c]&& !kL b[c].1 (b.take c)&&dL (b.take (c+1)) (b.drop (c+1)))):=by
   rw[Y,p.out,μ y,dL,A7 y]
  obtain⟨d,B⟩:=au (b[c]);rw[<-B]at W X a0 g N;have:L<Q (α wr):=aa;have r:=ai wr (ε #[D (G d.1),D (G d.2.1),U V d.2.2] 50);have a1:=θ wr (ε #[D (G d.1),D (G d.2.1),U V d.2.2] 50);have m:=Gm (wr.alloc (ε #[D (G d.1),D (G d.2.1),U V d.2.2] 50)) N;have z:=λ(j:World) (n:Bl a j)=>(t.ah n).take c aa;clear x p i l s B k
  cases s:mG d with
  |false=>
   have l:Y (bZ b=η):=by rw[Y,g.out,s];rfl
   rw[s]at m;clear g z;go_wp2_with(go_at_call 292;refine cB m ?_;rintro O i);go_ret;exact⟨by rw[l.out];rfl,(e.trans (r.mono q)).trans (i.mono FK)⟩
  |true=>
   rw[s]at m g;have B:∀j:χ,Δ (Q (α (wr.alloc (ε #[D (G d.1),D (G d.2.1),U V d.2.2] 50)))) (wr.alloc (ε #[D (G d.1),D (G d.2.1),U V d.2.2] 50)) j->Ψ τ 293 #[M (I (E L T J)) c cap,.func (Fn.func 291) #[] #[γ (I (E (Q (α wr)) 0 J))]] j (RB (ν (kL d.1 (b.take c))) j):=by
    intro j n;have C:Bl a j:=(e.trans (r.mono q)).trans (n.mono FK);have F:=n.size;rw[σ]at F;exact vM (Q (α wr)) d.1 (z j C) aa ((aI ((n.block (Q (α wr)) FK).trans a1)).trans H)
   obtain⟨a2,C⟩:=au (kL d.1 (b.take c));rw[<-C]at g;simp only[<-C]at B;clear C z s
   cases a2 with
   |true=>
    have l:Y (bZ b=η):=by rw[Y,g.out];rfl
    clear g;go_wp2_with(first
     |(go_at_call 292;refine cB m ?_;rintro O i)
     |(go_at_call 293;refine cB (B _ i) ?_;rintro a3 C))
    go_ret;have F:=i.size;rw[σ]at F;exact⟨by rw[l.out];rfl,((e.trans (r.mono q)).trans (i.mono FK)).trans (C.mono aa)⟩
   |false=>
    have l:Y (bZ b=dL (b.take (c+1)) (b.drop (c+1))):=by rw[Y,g.out];rfl
    clear g;go_wp2_with(first
     |(go_at_call 292;refine cB m ?_;rintro O i)
     |(go_at_call 293;refine cB (B _ i) ?_;rintro a3 C))
    have F:=i.size;rw[σ]at F;go_roundw
    ·exact⟨c+1,aa,aP,((e.trans (r.mono q)).trans (i.mono FK)).trans (C.mono aa),l⟩
    simp[B2];omega
 have l:Y (bZ b=Z):=by rw[Y,p.out,υ aa];rfl
 clear p x k
 go_wp2
 go_ret;exact⟨by rw[l.out];rfl,e⟩
theorem Rl(c a b):
  Ψ τ 333 #[Ξ #[U V c.1,U V c.2.1,D (G c.2.2)],Ξ #[D (G a.1),D (G a.2.1),U V a.2.2]] b (RB (ν (dZ c (iF a))) b):=by
 obtain⟨d,e,f⟩:=c;have j:=λi:World=>qG a i;obtain⟨k,g⟩:=au (iF a);simp only[<-g]at j ⊢;clear g;have l:=λi:World=>XF d e f k i;obtain⟨_,g⟩:=au (dZ (d,e,f) k);simp only[<-g]at l ⊢;clear g;have m:=aV b (ε #[U V d,U V e,D (G f)] 56) (ε #[D (G a.1),D (G a.2.1),U V a.2.2] 50);have n:((b.alloc (ε #[U V d,U V e,D (G f)] 56)).alloc (ε #[D (G a.1),D (G a.2.1),U V a.2.2] 50)).heap[Q (α b)]? =I (ε #[U V d,U V e,D (G f)] 56):=(Φ _ _ _ ek).trans (θ b _);go_enter func333,ntmps333;go_upto_region 1 with fail
 go_region_with(first
  |(go_at_call 244;refine cB (j _) ?_;rintro _ g;replace g:=jy g;have o:=bT m g;obtain⟨⟨_,_,_⟩,_⟩:=tX ((g.block _ vK).trans n))
  |(go_at_call 124;refine cB (l _) ?_;rintro _ p))
 all_goals(go_wp2;go_ret)
 all_goals exact⟨H,bT o p⟩
def jI:Γ gq->Γ gB->D6
 | [],[]=>Z
 |c::cs,d::ds=>dZ c (iF d)&&jI cs ds
 |_,_=>η
theorem EN:∀(a:Γ gq) (b:Γ gB),A a≠A b->jI a b=η
 | [],[],h=>absurd H h
 | [],_::_,_=>rfl
 |_::_,[],_=>rfl
 |c::a,d::b,h=>by rw[jI,EN a b (by simpa using h)];simp
theorem Bg(W:oD a f n)(X:dC a k b):
  Ψ τ 334 #[f,k,.func (Fn.func 333) #[] #[]] a (RB (ν (jI n b)) a):=by
 obtain⟨_,_,rfl,w,l⟩:=W;obtain⟨_,_,rfl,_,l2,m⟩:=X;unfold C4 at w l2;by_cases o:A n=A b
 ·obtain⟨j,c⟩:=au (A n);have x:Y (A n=j):=c.symm;have y:Y (A b=j):=by rw[Y,<-o,c]
  rw[<-o,<-c];rw[<-c]at w;clear o c l2;go_enter C8,C5;go_wp2_with fail;go_loopw [17] (λd e=>∃c:Ω,c<=j/\d=U V c/\Bl a e/\Y (jI n b=jI (n.drop c) (b.drop c))) (λd _=>j-(B2 d).toNat)
  ·exact⟨0,A2 _,H,ι _ _,H⟩
  obtain⟨c,_,rfl,d,p⟩:=hrel;have z:=d.size;by_cases b0:c<j
  ·have g:c<A n:=by have:=x.out;omega
   have i:c<A b:=cz y.out;rcases(id l)with q|⟨a0,_,rfl,r,v⟩
   ·subst q;simp at g
   rcases(id m)with q|⟨a1,_,rfl,s,B⟩
   ·subst q;simp at i
   obtain⟨C,F,K⟩:=v c n[c] (ζ g);obtain⟨⟨L,N,O⟩, -⟩:=B c b[c] (ζ i);have a2:=cK d r C;have a3:=cK d r F;have a4:=cK d r K;have a5:=cK d s L;have a6:=cK d s N;have a7:=cK d s O;have e:Y (jI n b=(dZ n[c] (iF b[c])&&jI (n.drop (c+1)) (b.drop (c+1)))):=by
    rw[Y,p.out,μ g,μ i,jI]
   obtain⟨P,R⟩:=au (n[c]);obtain⟨S,T⟩:=au (b[c]);rw[<-R]at a2 a3 a4 e;rw[<-T]at a5 a6 a7 e;have t:=λa8:World=>Rl P S a8;obtain⟨a9,u⟩:=au (dZ P (iF S));rw[<-u]at e;simp only[<-u]at t;have:a0<Q (α wr):=aa;have:a1<Q (α wr):=aa;clear p v B l m C F K L N O R T u g i
   cases a9
   ·have g:Y (jI n b=η):=by rw[Y,e.out];rfl
    clear e;go_wp2_with(go_at_call 333;refine cB (t _) ?_;rintro u i);go_ret;have v:Bl wr u:=by
     first|exact(aV wr _ _).trans (i.mono vK)|exact(ai wr _).trans (i.mono ek)|exact i
    exact⟨aG g.symm,d.trans (v.mono z)⟩
   have g:Y (jI n b=jI (n.drop (c+1)) (b.drop (c+1))):=by rw[Y,e.out];rfl
   clear e;go_wp2_with(go_at_call 333;refine cB (t _) ?_;rintro u i);have v:Bl wr u:=by
    first|exact(aV wr _ _).trans (i.mono vK)|exact(ai wr _).trans (i.mono ek)|exact i
   go_roundw
   ·exact⟨c+1,aa,aP,d.trans (v.mono z),g⟩
   simp[B2];omega
  have g:Y (jI n b=Z):=by rw[Y,p.out,υ (by have:=x.out;omega),υ (by have:=y.out;omega)];rfl
  clear p l m
  go_wp2
  go_ret;exact⟨aG g.symm,d⟩
 have:((A n:B8)==(A b:B8))=η:=aN;have g:Y (jI n b=η):=EN n b o;clear l m;go_enter C8,C5
 go_wp2
 go_ret;exact⟨aG g.symm,ι _ _⟩
theorem UH(c:oD a f n)(d:dC a k b):
  Ψ τ 294 #[f,k] a (RB (ν (jI n b)) a):=by
 have e:=Bg c d;obtain⟨_,_,rfl,_,_⟩:=c;obtain⟨_,_,rfl,_,_,_⟩:=d;go_enter func294,ntmps294;go_wp2_with(go_at_call 334;refine cB e ?_;rintro _ g);go_ret;exact⟨H,g⟩
def RowsIn(w:χ)(v:B0)(rs:Γ (Γ gq)):Prop:=∃ao cap,v=M ao (A rs) cap/\A rs<=C4/\(rs= []\/∃b off,ao=I ⟨b,off,J⟩/\b<Q (α w)/\∀(i:Ω) (r:Γ gq),rs[i]? =I r->∃ro rn rc,β w ⟨b,off+i,J⟩=I (M ro rn rc)/\oD w (M ro rn rc) r)
theorem RowsIn.ah{w x v rs}(b:RowsIn w v rs)(c:Bl w x):RowsIn x v rs:=by
 obtain⟨d,cap,e,f,g⟩:=b;refine⟨d,cap,e,f, ?_⟩;rcases g with b|⟨j,k,l,m,n⟩
 ·exact B5 b
 refine B1 ⟨j,k,l,cz c.size,λi p o=>?_⟩;obtain⟨q,r,s,a,t⟩:=n i p o;exact⟨q,r,s,cK c m a,t.ah c⟩
def iE(rs:Γ (Γ gq))(ds:Γ gB):D6:= !decide (10<A rs)&&rs.all λr=>jI r ds
theorem LC{d}(z:RowsIn a f d)(n:dC a (M l i c) b):
  Ψ τ 243 #[f,M l i c] a (RB (ν (iE d b)) a):=by
 obtain⟨_,cap,rfl,B,o⟩:=z;unfold C4 at B;by_cases u:10<A d
 ·have C:decide ((10:B8)<(A d:B8))=Z:=φ aa;have g:Y (iE d b=η):=by rw[Y,iE,φ u];rfl
  clear o n;go_enter C9,C6
  go_wp2
  go_ret;exact⟨by rw[g.out];rfl,ι _ _⟩
 have C:decide ((10:B8)<(A d:B8))=η:=ο aa;have q:Y (iE d b=(d.drop 0).all λj=>jI j b):=by rw[Y,iE,ο u];simp
 go_enter C9,C6;go_wp2_with fail;go_loopw [12] (λk m=>∃e:Ω,e<=A d/\k=U V e/\Bl a m/\Y (iE d b=(d.drop e).all λj=>jI j b)) (λk _=>A d-(B2 k).toNat)
 ·exact⟨0,A2 _,H,ι _ _,q⟩
 obtain⟨e,_,rfl,k,p⟩:=hrel;have v:=k.size;by_cases r:e<A d
 ·rcases(id o)with F|⟨K,_,rfl,L,t⟩
  ·subst F;simp at r
  obtain⟨_,_,_,w,x⟩:=t e d[e] (ζ r);have:=cK k L w;have m:Y (iE d b=(jI d[e] b&&(d.drop (e+1)).all λj=>jI j b)):=by rw[Y,p.out,μ r];rfl
  have s:=UH (x.ah k) (n.ah k);obtain⟨N,y⟩:=au (jI d[e] b);rw[<-y]at m s;have:K<Q (α wr):=aa;clear p t o w y x q n
  cases N
  ·have g:Y (iE d b=η):=by rw[Y,m.out];rfl
   clear m;go_wp2_with(go_at_call 294;refine cB s ?_;rintro w t);go_ret;exact⟨by rw[g.out];rfl,k.trans (t.mono v)⟩
  have g:Y (iE d b=(d.drop (e+1)).all λj=>jI j b):=by rw[Y,m.out];rfl
  clear m;go_wp2_with(go_at_call 294;refine cB s ?_;rintro w t);go_roundw
  ·exact⟨e+1,aa,aP,k.trans (t.mono v),g⟩
  simp[B2];omega
 have g:Y (iE d b=Z):=by rw[Y,p.out,υ aa];rfl
 clear p o q n
 go_wp2
 go_ret;exact⟨by rw[g.out];rfl,k⟩
structure aJ where
 name:Bs
 aB:List gB
 rows:List (List gq)
 count:Int
 aR:Bs
 gZ:List Bs
def bG(t:aJ):D6:=bZ t.aB&&decide (0<=t.count)&&decide (t.count<=1000000)&&iE t.rows t.aB
theorem Nc{b:aJ}(n k j)(d:dC a (M l i c) b.aB)(g:RowsIn a (M P s m) b.rows):
  Ψ τ 187 #[Ξ #[D (G b.name),M l i c,M P s m,U V b.count,D (G b.aR),M n k j]] a (RB (ν (bG b)) a):=by
 have w:=ai a (ε #[D (G b.name),M l i c,M P s m,U V b.count,D (G b.aR),M n k j] 54);have C:=θ a (ε #[D (G b.name),M l i c,M P s m,U V b.count,D (G b.aR),M n k j] 54);have o:=DD (d.ah w);have x:=λ(F:World) (y:Bl a F)=>LC (g.ah y) (d.ah y);have e:Y (bG b=(bZ b.aB&&decide (0<=b.count)&&decide (b.count<=1000000)&&iE b.rows b.aB)):=H;obtain⟨K,p⟩:=au (bZ b.aB);obtain⟨_,f⟩:=au (iE b.rows b.aB);rw[<-p]at o e;rw[<-f]at e;simp only[<-f]at x;clear p f d g;have p:∀d:χ,Δ (Q (α (a.alloc (ε #[D (G b.name),M l i c,M P s m,U V b.count,D (G b.aR),M n k j] 54)))) (a.alloc (ε #[D (G b.name),M l i c,M P s m,U V b.count,D (G b.aR),M n k j] 54)) d->(β d (E (Q (α a)) 1 J)=I (M l i c)/\β d (E (Q (α a)) 2 J)=I (M P s m)/\β d (E (Q (α a)) 3 J)=I (U V b.count))/\Bl a d:=by
  intro d g;have f:=(g.block (Q (α a)) ek).trans C;exact⟨⟨aC f,aC f,aC f⟩,bT w g⟩
 cases K
 ·go_enter A8,A6;go_wp2_with(go_at_call 242;refine cB o ?_;rintro d g;obtain⟨⟨r,t,u⟩,f⟩:=p d g);go_ret;exact⟨by rw[e.out];rfl,f⟩
 by_cases z:0<=b.count
 ·have q:decide (0<=b.count)=Z:=φ z;by_cases B:b.count<=1000000
  ·have v:decide (b.count<=1000000)=Z:=φ B;rw[q,v]at e;go_enter A8,A6;go_wp2_with(first
    |(go_at_call 242;refine cB o ?_;rintro d g;obtain⟨⟨r,t,u⟩,f⟩:=p d g)
    |(go_at_call 243;refine cB (x _ f) ?_;rintro _ L))
   go_ret;exact⟨by rw[e.out];rfl,bT f L⟩
  have v:decide (b.count<=1000000)=η:=ο B;rw[q,v]at e;go_enter A8,A6;go_wp2_with(go_at_call 242;refine cB o ?_;rintro d g;obtain⟨⟨r,t,u⟩,f⟩:=p d g);go_ret;exact⟨by rw[e.out];rfl,f⟩
 have q:decide (0<=b.count)=η:=ο z;rw[q]at e;go_enter A8,A6;go_wp2_with(go_at_call 242;refine cB o ?_;rintro d g;obtain⟨⟨r,t,u⟩,f⟩:=p d g);go_ret;exact⟨by rw[e.out];rfl,f⟩
def bD(tb:Bs)(c:gB):Bs×B8:=(tb++ [46]++c.1,iF c)
def bR(ns:Γ (Bs×B8)):Γ B0:=ns.flatMap λn=>[D (G n.1),U V n.2]
theorem sQ(a b):bR (a++b)=bR a++bR b:=by simp[bR]
theorem rP:∀(a:Γ (Bs×B8)) (c:Ω) (b:Bs×B8),a[c]? =I b->(bR a)[c*2]? =I (D (G b.1))/\(bR a)[c*2+1]? =I (U V b.2)
 | [],c,b,h=>by simp at h
 |d::a,0,b,h=>by simp at h;subst h;simp[bR]
 |d::a,c+1,b,h=>by
  have:=rP a c b (by simpa using h);have e:bR (d::a)= [D (G d.1),U V d.2]++bR a:=by simp[bR]
  rw[e];refine⟨?_, ?_⟩
  ·rw[κ aN,<-this.1];congr 1;simp;omega
  rw[κ aN,<-this.2];congr 1;simp;omega
theorem BR{b}(e:a.ownsRow c 380 2 f (A b) (bR b))(k:A b<=1000):gN a f b:=by
 rcases e.2 with⟨rfl,l⟩|⟨d,cap,_,rfl,_⟩
 ·have:b= []:=B4.mp l;subst this;exact⟨_,_,H,ak,B5 H⟩
 refine⟨_,_,H,k,B1 ⟨d,H,(e.lt d H).2,λg n m=>?_⟩⟩;obtain⟨o,p⟩:=rP b g n m;have i:=e.cells (g:=d) H (g*2) _ o;have j:=e.cells (g:=d) H (g*2+1) _ p;rw[Addr.add_lit]at i j;exact⟨by simpa using i,by simpa using j⟩
theorem MQ:(τ.info? 380).map (λa=>(a.zero,a.size,a.bytes))=I (I (Ξ #[D ⟨#[]⟩,U V 0]),2,24):=aF
theorem nO(a:χ):(a.alloc x).drew.heap[Q (α a)]? =I x:=θ a x
theorem Qf(a b):(G a++A3 #[46])++G b=G (a++ [46]++b):=by
 have c:=rX a [46];have d:=rX (a++ [46]) b;have e:A3 #[46]=G [46]:=H;rw[e,c,d]
theorem Ie(a0:A d<=1000)(r:dC a f b)(X:A b<=1000)(s:∀e∈b,A e.1<=1000):
  Ψ τ 188 #[D (G d),f] a λW w=>∃v u t,W=ξ (M v u t)/\(gN w (M v u t) (b.map (bD d))/\w.ownsRow (Q (α a)) 380 2 (M v u t) (A b) (bR (b.map (bD d))))/\Bl a w:=by
 obtain⟨a1,a2,a3,a4,a5⟩:=info_parts MQ;obtain⟨_,cap,rfl,_,_,x⟩:=r;have:(G d).size<=1000:=by rw[aX];exact a0
 have:(A3 #[46]).size=1:=H;go_enter func188,ntmps188;go_wp2_with fail;go_loopw [5,10] (λi g wr=>∃(c j k:Ω) (l:A9 D2),c<=A b/\i=M l j k/\g=U V c/\wr.ownsRow (Q (α a)) 380 2 (M l j k) c (bR ((b.take c).map (bD d)))/\Bl a wr) (λ_ g _=>A b-(B2 g).toNat)
 ·exact⟨0,0,0,J,A2 _,H,H,World.ownsRow_nil _ _ _ _,ι _ _⟩
 obtain⟨c,j,k,l,_,rfl,rfl,g,n⟩:=hrel;have a6:=n.size;by_cases o:c<A b
 ·rcases(id x)with r|⟨a7,_,rfl,y,i⟩
  ·subst r;simp at o
  obtain⟨⟨m,p,q⟩, -⟩:=i c b[c] (ζ o);have a8:=cK n y m;have a9:=cK n y p;have b0:=cK n y q;have N:=s b[c] (List.getElem_mem o);have z:Y ((b.take (c+1)).map (bD d)=(b.take c).map (bD d)++ [bD d b[c]]):=by rw[Y,A7 o,List.map_append];rfl
  obtain⟨e,F⟩:=au (b[c]);rw[<-F]at a8 a9 b0 N z;have:a7<Q (α wr):=aa;have O:=λb1:World=>qG e b1;have B:Y (bD d e=(d++ [46]++e.1,iF e)):=H;obtain⟨b2,K⟩:=au (iF e);simp only[<-K]at O B;have:(G e.1).size<=1000:=by rw[aX];exact N
  have C:=Qf d e.1;have P:G d++A3 #[46]=G (d++ [46]):=rX d [46];have b3:(G (d++ [46])).size<=1001:=by rw[aX];simp;omega
  rw[P]at C;have:¬9223372036854775807<(G d).size+1:=aa;have b4:¬9223372036854775807<(G (d++ [46])).size+(G e.1).size:=aa;obtain⟨b5,L⟩:=au (d++ [46]++e.1);obtain⟨_,R⟩:=au (d++ [46]);rw[<-L]at C B;rw[<-R]at C P b3 b4;clear i x m p q F K s L R;go_upto_region 5 with fail
  have F:=ai wr (ε #[D (G e.1),D (G e.2.1),U V e.2.2] 50);obtain⟨K,p⟩:=au (wr.alloc (ε #[D (G e.1),D (G e.2.1),U V e.2.2] 50));rw[<-p]at F ⊢;have R:K.heap[Q (α wr)]? =I (ε #[D (G e.1),D (G e.2.1),U V e.2.2] 50):=by rw[p];exact θ wr _
  obtain⟨⟨_,_,_⟩,_⟩:=tX R;have:Q (α K)=Q (α wr)+1:=by rw[p];simp
  have b6:∀(m:χ),Bl K m->∀L:Obj,(m.alloc L).drew.ownsRow (Q (α a)) 380 2 (M l j k) c (bR ((b.take c).map (bD d))):=λm i L=>
   World.ownsRow.drew (World.ownsRow.alloc (aD g λq S=>(i.block q (by have:=(g.lt q S).2;omega)).trans (F.block q (g.lt q S).2)) L)
  clear p
  go_region_law (first
   |(refine step_append_lies _ H (.tmp 14) (.tmp 23) 329 H (Q (α a)) 380 a1 _ 2 24 underlying329 a2 a3 a4 a5 H ag (M l j k) _ (bR ((b.take c).map (bD d))) jl (b6 _ i _) (E (Q (α m)) 0 J) 1 1 [D (G b5),U V b2] jl H (World.news_of_block (nO m)) (by intro _ S;simp at S;rcases S with rfl|rfl<;>rfl) ag fD aa aN (Q (α m)+1) ak ?_;intro b9 b8 T q p c0 _)
   |(go_simp;go_at_call 244;refine cB (O _) ?_;rintro m i;replace i:=jy i;have:=i.size;obtain⟨⟨_,_,_⟩,_⟩:=tX ((i.block _ aa).trans R)))
  all_goals
   have b7:T.ownsRow (Q (α a)) 380 2 (M (I (E b9 0 J)) (c+1) b8) (c+1) (bR ((b.take (c+1)).map (bD d))):=by
    rw[z.out,sQ,B.out];exact q
   have RB:Bl a T:=(((n.trans (F.mono a6)).trans (i.mono aa)).alloc aa _).grown p FK (λc2 c1=>(g.lt c2 c1).1);clear q p g z c0
   go_wp2
   go_roundw
   ·exact⟨c+1,_,_,_,aa,H,aP,b7,RB⟩
   simp[B2];omega
 have i:c=A b:=aa;have m:Y (gN wr (M l j k) (b.map (bD d))/\wr.ownsRow (Q (α a)) 380 2 (M l j k) (A b) (bR (b.map (bD d)))):=by
  rw[i,List.take_length]at g;exact⟨BR (by rw[C2];exact g) (by rw[C2];exact X),g⟩
 clear g x s
 go_wp2
 go_ret;exact⟨_,_,_,H,m,n⟩
theorem Vb(g:Bs)(o:A g<=1000)(l:dC a f b)(m:A b<=1000)(n:∀j∈b,A j.1<=1000):
  Ψ τ 188 #[D (G g),f] a λk i=>∃e d c,k=ξ (M e d c)/\gN i (M e d c) (b.map (bD g))/\Bl a i:=
 (Ie o l m n).mono λ_ _ ⟨e,d,c,he,hi,hb⟩=>⟨e,d,c,he,hi.1,hb⟩
structure dK where
 name:Bs
 co:Option Addr
 cn:Nat
 cc:Nat
 ro:Option Addr
 rn:Nat
 rc:Nat
 count:Int
 aR:Bs
 uo:Option Addr
 un:Nat
 uc:Nat
 sort:Int
 ty:Int
 size:Int
 quiet:Bool
 vk:Int
 vn:Int
 vs:Bs
 place:Int
 head:Bs
 fp:Option Addr
 xo:Option Addr
 xn:Nat
 xc:Nat
abbrev dK.arr(r:dK):Array B0:= #[D (G r.name),M r.co r.cn r.cc,M r.ro r.rn r.rc,U V r.count,D (G r.aR),M r.uo r.un r.uc,U V r.sort,U V r.ty,U V r.size,ν r.quiet,U V r.vk,U V r.vn,D (G r.vs),U V r.place,D (G r.head),γ r.fp,M r.xo r.xn r.xc]
abbrev dK.ex(r:dK):Γ B0:=[U V r.sort,U V r.ty,U V r.size,ν r.quiet,U V r.vk,U V r.vn,D (G r.vs),U V r.place,D (G r.head),γ r.fp,M r.xo r.xn r.xc]
def gD(w:χ)(v:B0)(ls:Γ Bs):Prop:=∃ao cap,v=M ao (A ls) cap/\A ls<=C4/\(ls= []\/∃b off,ao=I ⟨b,off,J⟩/\b<Q (α w)/\∀(i:Ω) (l:Bs),ls[i]? =I l->β w ⟨b,off+i,J⟩=I (D (G l)))
theorem gD.ah{w x v c}(a:gD w v c)(b:Bl w x):gD x v c:=by
 obtain⟨d,cap,e,f,g⟩:=a;refine⟨d,cap,e,f, ?_⟩;rcases g with a|⟨j,k,m,n,o⟩
 ·exact B5 a
 exact B1 ⟨j,k,m,cz b.size,λi l p=>cK b n (o i l p)⟩
structure mY(w:World)(FB:List Nat)(r:dK)(t:aJ)(e:Ex):Prop where
 name:r.name=t.name
 count:r.count=t.count
 aR:r.aR=t.aR
 aB:dC w (.slice r.co r.cn r.cc) t.aB
 rows:RowsIn w (.slice r.ro r.rn r.rc) t.rows
 gZ:gD w (.slice r.uo r.un r.uc) t.gZ
 ex:dF w FB (λ_=>True) r.ex e
theorem mY.ah{w x c d}(a:mY w j c d L)(b:Bl w x):mY x j c d L:=
 ⟨a.name,a.count,a.aR,a.aB.ah b,a.rows.ah b,a.gZ.ah b,a.ex.ah b⟩
def yQ(x:χ)(b i:Ω)(r:dK):Prop:=β x ⟨b,i*17,J⟩=I (D (G r.name))/\β x ⟨b,i*17+1,J⟩=I (M r.co r.cn r.cc)/\β x ⟨b,i*17+2,J⟩=I (M r.ro r.rn r.rc)/\β x ⟨b,i*17+3,J⟩=I (U V r.count)/\β x ⟨b,i*17+4,J⟩=I (D (G r.aR))/\β x ⟨b,i*17+5,J⟩=I (M r.uo r.un r.uc)/\β x ⟨b,i*17+6,J⟩=I (U V r.sort)/\β x ⟨b,i*17+7,J⟩=I (U V r.ty)/\β x ⟨b,i*17+8,J⟩=I (U V r.size)/\β x ⟨b,i*17+9,J⟩=I (ν r.quiet)/\β x ⟨b,i*17+10,J⟩=I (U V r.vk)/\β x ⟨b,i*17+11,J⟩=I (U V r.vn)/\β x ⟨b,i*17+12,J⟩=I (D (G r.vs))/\β x ⟨b,i*17+13,J⟩=I (U V r.place)/\β x ⟨b,i*17+14,J⟩=I (D (G r.head))/\β x ⟨b,i*17+15,J⟩=I (γ r.fp)/\β x ⟨b,i*17+16,J⟩=I (M r.xo r.xn r.xc)
def dA(w:χ)(FB:Γ Ω)(v:B0)(ts:Γ (aJ×Ex)):Prop:=∃ao cap,v=M ao (A ts) cap/\A ts<=1000/\(ts= []\/∃b,ao=I ⟨b,0,J⟩/\b<Q (α w)/\∀(i:Ω) (te:aJ×Ex),ts[i]? =I te->∃r:dK,yQ w b i r/\mY w FB r te.1 te.2)
theorem yQ.ah{w x i d}(a:yQ w c i d)(e:∀b,β x (E c b J)=β w (E c b J)):yQ x c i d:=by
 unfold yQ at a ⊢;simp only[e];exact a
theorem dA.ah{w x v d}(b:dA w j v d)(c:Bl w x):dA x j v d:=by
 obtain⟨f,cap,g,k,l⟩:=b;refine⟨f,cap,g,k, ?_⟩;rcases l with b|⟨e,m,n,o⟩
 ·exact B5 b
 refine B1 ⟨e,m,cz c.size,λi r q=>?_⟩;obtain⟨s,a,t⟩:=o i r q;exact⟨s,a.ah λu=>c.cell (p:=(E e u J)) n,t.ah c⟩
theorem RP{cap}:dA a j (M J 0 cap) []:=⟨J,cap,H,ak,B5 H⟩
def dS(ts:Γ (aJ×Ex))(l:Bs):A9 Ω:=ts.findIdx? (λte=>te.1.name==l)
theorem yX{b}(d:a.heap[c]? =I (ε #[f,k,o,p,q,u,v,y,z,B,C,R,S,T,W,N,O] b (0,0))):
  (β a (E c 0 J)=I f/\β a (E c 1 J)=I k/\β a (E c 2 J)=I o/\β a (E c 3 J)=I p/\β a (E c 4 J)=I q/\β a (E c 5 J)=I u/\β a (E c 6 J)=I v/\β a (E c 7 J)=I y/\β a (E c 8 J)=I z/\β a (E c 9 J)=I B/\β a (E c 10 J)=I C/\β a (E c 11 J)=I R/\β a (E c 12 J)=I S/\β a (E c 13 J)=I T/\β a (E c 14 J)=I W/\β a (E c 15 J)=I N/\β a (E c 16 J)=I O)/\(δ a (E c 0 J)=η/\δ a (E c 1 J)=η/\δ a (E c 2 J)=η/\δ a (E c 3 J)=η/\δ a (E c 4 J)=η/\δ a (E c 5 J)=η/\δ a (E c 6 J)=η/\δ a (E c 7 J)=η/\δ a (E c 8 J)=η/\δ a (E c 9 J)=η/\δ a (E c 10 J)=η/\δ a (E c 11 J)=η/\δ a (E c 12 J)=η/\δ a (E c 13 J)=η/\δ a (E c 14 J)=η/\δ a (E c 15 J)=η/\δ a (E c 16 J)=η):=by
 simp[β,δ,d]
theorem Cm{b}(y:Δ c a g)(d:c<=b)(f i q r s t u v w x j k l m n o p):Δ c a (((((((((((((((((g.setCell (E b 0 J) f).setCell (E b 1 J) i).setCell (E b 2 J) q).setCell (E b 3 J) r).setCell (E b 4 J) s).setCell (E b 5 J) t).setCell (E b 6 J) u).setCell (E b 7 J) v).setCell (E b 8 J) w).setCell (E b 9 J) x).setCell (E b 10 J) j).setCell (E b 11 J) k).setCell (E b 12 J) l).setCell (E b 13 J) m).setCell (E b 14 J) n).setCell (E b 15 J) o).setCell (E b 16 J) p):=
 (((((((((((((((((y.setCell (p:=(E b 0 J)) d _).setCell (p:=(E b 1 J)) d _).setCell (p:=(E b 2 J)) d _).setCell (p:=(E b 3 J)) d _).setCell (p:=(E b 4 J)) d _).setCell (p:=(E b 5 J)) d _).setCell (p:=(E b 6 J)) d _).setCell (p:=(E b 7 J)) d _).setCell (p:=(E b 8 J)) d _).setCell (p:=(E b 9 J)) d _).setCell (p:=(E b 10 J)) d _).setCell (p:=(E b 11 J)) d _).setCell (p:=(E b 12 J)) d _).setCell (p:=(E b 13 J)) d _).setCell (p:=(E b 14 J)) d _).setCell (p:=(E b 15 J)) d _).setCell (p:=(E b 16 J)) d _)
theorem RO(b:dK)(i:c<Q (α a))(g:β a (E c 0 J)=I (D (G d))):
  Ψ τ 133 #[Ξ #[D (G b.name),M b.co b.cn b.cc,M b.ro b.rn b.rc,U V b.count,D (G b.aR),M b.uo b.un b.uc,U V b.sort,U V b.ty,U V b.size,ν b.quiet,U V b.vk,U V b.vn,D (G b.vs),U V b.place,D (G b.head),γ b.fp,M b.xo b.xn b.xc],γ (I (E c 0 J))] a (RB (ν (b.name==d)) a):=by
 have f:Y ((b.name==d)=((G b.name).toList==(G d).toList)):=by rw[Y,ay,ay]
 have e:=ai a (ε #[D (G b.name),M b.co b.cn b.cc,M b.ro b.rn b.rc,U V b.count,D (G b.aR),M b.uo b.un b.uc,U V b.sort,U V b.ty,U V b.size,ν b.quiet,U V b.vk,U V b.vn,D (G b.vs),U V b.place,D (G b.head),γ b.fp,M b.xo b.xn b.xc] 235);have:=cK e i g;go_enter func133,ntmps133;go_upto_region 1 with fail
 first
  |(go_region;go_wp2;go_ret;exact⟨by rw[f.out];rfl,e.drew⟩)
  |(go_wp2;go_ret;exact⟨by rw[f.out];rfl,e⟩)
theorem rC{e}(o:dA a j f e)(z:c<Q (α a))(y:β a (E c 0 J)=I (D (G d))):
  Ψ τ 132 #[f,.func (Fn.func 133) #[] #[γ (I (E c 0 J))]] a λw B=>(∃p:B8,w=ξ (U V p)/\((dS e d=J/\p= -1)\/∃b:Ω,dS e d=I b/\p=b/\b<A e))/\Bl a B:=by
 obtain⟨_,cap,rfl,_,q⟩:=o;go_enter func132,ntmps132;go_wp2_with fail;go_loopw [8] (λg k=>∃b:Ω,b<=A e/\g=U V b/\Bl a k/\Y (dS e d=((e.drop b).findIdx? (λi=>i.1.name==d)).map (· +b))) (λg _=>A e-(B2 g).toNat)
 ·exact⟨0,A2 _,H,ι _ _,by rw[Y];simp[dS]⟩
 obtain⟨b,_,rfl,g,m⟩:=hrel;by_cases n:b<A e
 ·rcases(id q)with o|⟨C,rfl,F,l⟩
  ·subst o;simp at n
  obtain⟨r,t,u⟩:=l b e[b] (ζ n);obtain⟨_,_,_,_,_,_,_,_,_,_,_,_,_,_,_,_,_⟩:=t.ah λK=>g.cell (p:=(E C K J)) F;have L:=cK g z y;have v:e.drop b=e[b]::e.drop (b+1):=μ n;have k:Y (dS e d=if(r.name==d)then I b else((e.drop (b+1)).findIdx? (λi=>i.1.name==d)).map (· +(b+1))):=by
   rw[Y,m.out,v,List.findIdx?_cons,u.name]
   cases(e[b].1.name==d)
   ·simp only[Bool.false_eq_true,if_false,Option.map_map];congr 1;funext x;simp;omega
   simp
  have N:c<Q (α wr):=cz g.size;have s:=RO r N L;clear l v q m u t;obtain⟨u,l⟩:=au (r.name==d);rw[<-l]at s k;clear l
  cases u with
  |true=>
   have l:Y (dS e d=I b):=by rw[Y,k.out,if_pos H]
   clear k;go_wp2_with(go_at_call 133;refine cB s ?_;rintro v t);go_ret;exact⟨⟨_,H,B1 ⟨b,l,H,n⟩⟩,bT g t⟩
  |false=>
   have l:Y (dS e d=((e.drop (b+1)).findIdx? (λi=>i.1.name==d)).map (· +(b+1))):=by rw[Y,k.out,if_neg Bool.false_ne_true]
   clear k;go_wp2_with(go_at_call 133;refine cB s ?_;rintro v t);go_roundw
   ·exact⟨b+1,aa,aP,bT g t,l⟩
   simp[B2];omega
 have l:Y (dS e d=J):=by rw[Y,m.out,υ aa];rfl
 clear m q
 go_wp2
 go_ret;exact⟨⟨_,H,B5 ⟨l,H⟩⟩,g⟩
theorem OD{b}(X:a.heap[c]? =I (ε #[f,k,o,p,q,u,v,y,z,B,C,R,S,T,W,N,O] b a2))(d e s t w x F K L P g i j l m n r):(((((((((((((((((a.setCell (E c 0 J) d).setCell (E c 1 J) e).setCell (E c 2 J) s).setCell (E c 3 J) t).setCell (E c 4 J) w).setCell (E c 5 J) x).setCell (E c 6 J) F).setCell (E c 7 J) K).setCell (E c 8 J) L).setCell (E c 9 J) P).setCell (E c 10 J) g).setCell (E c 11 J) i).setCell (E c 12 J) j).setCell (E c 13 J) l).setCell (E c 14 J) m).setCell (E c 15 J) n).setCell (E c 16 J) r).heap[c]? =I (ε #[d,e,s,t,w,x,F,K,L,P,g,i,j,l,m,n,r] b a2):=by
 simp[A4,A0,X]
theorem vJ{e}(l k g){aS}(n:dA a j (M aS i c) e)(t:dS e d=J):
  Ψ τ 75 #[Ξ #[M l k g,M aS i c],D (G d)] a λm q=>Bl a q/\((dS e d=J/\m=ξ (A1 #[Ξ #[D ⟨#[]⟩,M J 0 0,M J 0 0,U V 0,D ⟨#[]⟩,M J 0 0,U V 0,U V 0,U V 0,ν η,U V 0,U V 0,D ⟨#[]⟩,U V 0,D ⟨#[]⟩,γ J,M J 0 0],U V 2]))\/∃(o:Ω) (p:aJ×Ex) (b:dK),dS e d=I o/\e[o]? =I p/\m=ξ (A1 #[Ξ #[D (G b.name),M b.co b.cn b.cc,M b.ro b.rn b.rc,U V b.count,D (G b.aR),M b.uo b.un b.uc,U V b.sort,U V b.ty,U V b.size,ν b.quiet,U V b.vk,U V b.vn,D (G b.vs),U V b.place,D (G b.head),γ b.fp,M b.xo b.xn b.xc],U V 0])/\mY q j b p.1 p.2):=by
 have u:Bl a (((a.alloc (ε #[M l k g,M aS i c] 194)).alloc (ε #[D (G d)] 9)).alloc (ε #[D ⟨#[]⟩,M J 0 0,M J 0 0,U V 0,D ⟨#[]⟩,M J 0 0,U V 0,U V 0,U V 0,ν η,U V 0,U V 0,D ⟨#[]⟩,U V 0,D ⟨#[]⟩,γ J,M J 0 0] 235)):=(tY (ι _ _)).1;have f:β (((a.alloc (ε #[M l k g,M aS i c] 194)).alloc (ε #[D (G d)] 9)).alloc (ε #[D ⟨#[]⟩,M J 0 0,M J 0 0,U V 0,D ⟨#[]⟩,M J 0 0,U V 0,U V 0,U V 0,ν η,U V 0,U V 0,D ⟨#[]⟩,U V 0,D ⟨#[]⟩,γ J,M J 0 0] 235)) ⟨Q (α a)+1,0,J⟩=I (D (G d)):=by
  have:=θ (a.alloc (ε #[M l k g,M aS i c] 194)) (ε #[D (G d)] 9);rw[σ]at this;exact(aI ((Φ _ _ _ gL).trans this)).trans H
 have r:=rC (n.ah u) gL f;have v:=n;obtain⟨_,cap,w,_,x⟩:=n
 cases w;go_enter D0,C7;go_wp2_with(go_at_call 132;refine r.mono ?_);clear r f;rintro m _ ⟨⟨_,rfl,⟨f,rfl⟩|⟨o,f,rfl,_⟩⟩,r⟩
 ·have y:Y (dS e d=J):=f;obtain⟨z,⟨_,s⟩,_,l2⟩:=tY r;obtain⟨⟨B,C,F,K,L,N,O,P,R,S,T,W,X,a0,a1,a2,a3⟩,_,_,_,_,_,_,_,_,_,_,_,_,_,_,_,g15,g16⟩:=yX s;clear f r x s v;go_wp2_with fail;refine D5 (v:=A1 #[Ξ #[D ⟨#[]⟩,M J 0 0,M J 0 0,U V 0,D ⟨#[]⟩,M J 0 0,U V 0,U V 0,U V 0,ν η,U V 0,U V 0,D ⟨#[]⟩,U V 0,D ⟨#[]⟩,γ J,M J 0 0],U V 2]) (by simp[results,C3,go_sem,B,C,F,K,L,N,O,P,R,S,T,W,X,a0,a1,a2,a3]) H ⟨?_,B5 ⟨y,H⟩⟩;exact Cm z aa _ _ _ _ _ _ _ _ _ _ _ _ _ _ _ _ _
 rw[t]at f;cases f
theorem aQ{P:C1}{b j d}{v:B0}(c:a.heap[b]? =I (ε F d (0,0)))(e:j<F.size)(f:v.oneCell'=Z):(ρ (E b j J) v).run P a=.ok () (a.setCell (E b j J) v)/\(a.setCell (E b j J) v).heap[b]? =I (ε (F.set! j v) d (0,0)):=by
 have g:β a (E b j J)=I F[j]:=by simp[β,c,e]
 have i:δ a (E b j J)=η:=by simp[δ,c]
 refine⟨?_, ?_⟩
 ·rw[run_store _ _ _ _ _ f,g];simp[i]
 simp[A4,A0,c]
def vF(w:χ)(FB:Γ Ω)(aS:A9 D2)(ts:Γ (aJ×Ex))(R:Ω->dK):Prop:=∀(i:Ω) (te:aJ×Ex),ts[i]? =I te->∃b,aS=I ⟨b,0,J⟩/\b<Q (α w)/\yQ w b i (R i)/\mY w FB (R i) te.1 te.2
theorem vF.ah{w x aS c}{b:Ω->dK}(f:vF w j aS c b)(a:Bl w x):vF x j aS c b:=λi k g=>by
 obtain⟨d,l,e,m,n⟩:=f i k g;exact⟨d,l,Nat.lt_of_lt_of_le e a.size,m.ah λo=>a.cell (p:=(E d o J)) e,n.ah a⟩
theorem dA.choose{aS g}(f:dA a j (M aS i c) g):∃o,vF a j aS g o:=by
 obtain⟨_,cap,l, -,p⟩:=f
 cases l;rcases p with f|⟨n,l,q,r⟩
 ·exact⟨λ_=>⟨[],J,0,0,J,0,0,0,[],J,0,0,0,0,0,η,0,0,[],0,[],J,J,0,0⟩,λb d e=>by rw[f]at e;simp at e⟩
 have m:∀b:Ω,∃k:dK,∀d,g[b]? =I d->yQ a n b k/\mY a j k d.1 d.2:=λb=>by
  cases e:g[b]? with
  |none=>exact⟨⟨[],J,0,0,J,0,0,0,[],J,0,0,0,0,0,η,0,0,[],0,[],J,J,0,0⟩,λd f=>by cases f⟩
  |some d=>obtain⟨k,s,t⟩:=r b d e;exact⟨k,λ_ u=>by cases u;exact⟨s,t⟩⟩
 exact⟨λb=>(m b).choose,λb d e=>⟨n,l,q,((m b).choose_spec d e).1,((m b).choose_spec d e).2⟩⟩
theorem uK{m}(R P O){aS}(S:dA a j (M aS i c) m){N:Ω->dK}(g:vF a j aS m N)(h1:dS m d≠J):
  Ψ τ 75 #[Ξ #[M R P O,M aS i c],D (G d)] a λb7 h3=>Bl a h3/\∃(l:Ω) (h2:aJ×Ex),dS m d=I l/\m[l]? =I h2/\b7=ξ (A1 #[Ξ (N l).arr,U V 0]):=by
 have h4:Bl a (((a.alloc (ε #[M R P O,M aS i c] 194)).alloc (ε #[D (G d)] 9)).alloc (ε #[D ⟨#[]⟩,M J 0 0,M J 0 0,U V 0,D ⟨#[]⟩,M J 0 0,U V 0,U V 0,U V 0,ν η,U V 0,U V 0,D ⟨#[]⟩,U V 0,D ⟨#[]⟩,γ J,M J 0 0] 235)):=(tY (ι _ _)).1;have e:β (((a.alloc (ε #[M R P O,M aS i c] 194)).alloc (ε #[D (G d)] 9)).alloc (ε #[D ⟨#[]⟩,M J 0 0,M J 0 0,U V 0,D ⟨#[]⟩,M J 0 0,U V 0,U V 0,U V 0,ν η,U V 0,U V 0,D ⟨#[]⟩,U V 0,D ⟨#[]⟩,γ J,M J 0 0] 235)) ⟨Q (α a)+1,0,J⟩=I (D (G d)):=by
  have:=θ (a.alloc (ε #[M R P O,M aS i c] 194)) (ε #[D (G d)] 9);rw[σ]at this;exact(aI ((Φ _ _ _ gL).trans this)).trans H
 have f:=rC (S.ah h4) gL e;have c2:=S;obtain⟨_,cap,h5,_,c3⟩:=S
 cases h5;go_enter D0,C7;go_wp2_with(go_at_call 132;refine f.mono ?_);clear f e;rintro b7 b8 ⟨⟨_,rfl,⟨k,rfl⟩|⟨l,k,rfl,h6⟩⟩,b5⟩
 ·exact absurd k h1
 have L:=ζ h6;obtain⟨b,rfl,h7,T, -⟩:=g l m[l] L;have c4:D4:=trivial;have c5:D4:=trivial;obtain⟨f,e⟩:=au (N l);have h8:Y (f=N l):=e;rw[<-e]at T;clear e g;have b9:Y (dS m d=I l/\m[l]? =I m[l]):=⟨k,L⟩;obtain⟨c0,⟨b6,g⟩,_,l2⟩:=tY b5;obtain⟨h9,i0,i1,i2,i3,i4,i5,i6,i7,i8,i9,j0,j1,j2,j3,j4,j5⟩:=T.ah λj6=>c0.cell (p:=(E b j6 J)) h7;have m1:β b8 (E (Q (α a)) 1 J)=I (M (I (E b 0 J)) (A m) c):=aC b6;obtain⟨⟨_,_,_,_,_,_,_,_,_,_,_,_,_,_,_,_,_⟩,_,_,_,_,_,_,_,_,_,_,_,_,_,_,_,g15,g16⟩:=yX g;have c1:=g;obtain⟨n,W⟩:∃e,Y (e=D (G f.name)):=⟨_,H⟩;rw[<-W.out]at h9;have j7:n.oneCell'=Z:=by rw[W.out];rfl
 obtain⟨o,X⟩:∃e,Y (e=M f.co f.cn f.cc):=⟨_,H⟩;rw[<-X.out]at i0;have j8:o.oneCell'=Z:=by rw[X.out];rfl
 obtain⟨p,a0⟩:∃e,Y (e=M f.ro f.rn f.rc):=⟨_,H⟩;rw[<-a0.out]at i1;have j9:p.oneCell'=Z:=by rw[a0.out];rfl
 obtain⟨q,a1⟩:∃e,Y (e=U V f.count):=⟨_,H⟩;rw[<-a1.out]at i2;have k0:q.oneCell'=Z:=by rw[a1.out];rfl
 obtain⟨r,a2⟩:∃e,Y (e=D (G f.aR)):=⟨_,H⟩;rw[<-a2.out]at i3;have k1:r.oneCell'=Z:=by rw[a2.out];rfl
 obtain⟨s,a3⟩:∃e,Y (e=M f.uo f.un f.uc):=⟨_,H⟩;rw[<-a3.out]at i4;have k2:s.oneCell'=Z:=by rw[a3.out];rfl
 obtain⟨t,a4⟩:∃e,Y (e=U V f.sort):=⟨_,H⟩;rw[<-a4.out]at i5;have k3:t.oneCell'=Z:=by rw[a4.out];rfl
 obtain⟨u,a5⟩:∃e,Y (e=U V f.ty):=⟨_,H⟩;rw[<-a5.out]at i6;have k4:u.oneCell'=Z:=by rw[a5.out];rfl
 obtain⟨v,a6⟩:∃e,Y (e=U V f.size):=⟨_,H⟩;rw[<-a6.out]at i7;have k5:v.oneCell'=Z:=by rw[a6.out];rfl
 obtain⟨w,a7⟩:∃e,Y (e=ν f.quiet):=⟨_,H⟩;rw[<-a7.out]at i8;have k6:w.oneCell'=Z:=by rw[a7.out];rfl
 obtain⟨x,a8⟩:∃e,Y (e=U V f.vk):=⟨_,H⟩;rw[<-a8.out]at i9;have k7:x.oneCell'=Z:=by rw[a8.out];rfl
 obtain⟨y,a9⟩:∃e,Y (e=U V f.vn):=⟨_,H⟩;rw[<-a9.out]at j0;have k8:y.oneCell'=Z:=by rw[a9.out];rfl
 obtain⟨z,b0⟩:∃e,Y (e=D (G f.vs)):=⟨_,H⟩;rw[<-b0.out]at j1;have k9:z.oneCell'=Z:=by rw[b0.out];rfl
 obtain⟨B,b1⟩:∃e,Y (e=U V f.place):=⟨_,H⟩;rw[<-b1.out]at j2;have l0:B.oneCell'=Z:=by rw[b1.out];rfl
 obtain⟨C,b2⟩:∃e,Y (e=D (G f.head)):=⟨_,H⟩;rw[<-b2.out]at j3;have l1:C.oneCell'=Z:=by rw[b2.out];rfl
 obtain⟨F,b3⟩:∃e,Y (e=γ f.fp):=⟨_,H⟩;rw[<-b3.out]at j4;have l4:F.oneCell'=Z:=by rw[b3.out];rfl
 obtain⟨K,b4⟩:∃e,Y (e=M f.xo f.xn f.xc):=⟨_,H⟩;rw[<-b4.out]at j5;have l7:K.oneCell'=Z:=by rw[b4.out];rfl
 clear k b5 c3 g b6 c4 L c5 T c2;go_wp2_with fail;have l8:b8.heap[Q (α a)+1+1]? =_:=c1;obtain⟨L,T⟩:=aQ (P:=τ) (j:=0) l8 ak j7;obtain⟨b5,b6⟩:=aQ (P:=τ) (j:=1) T ak j8;obtain⟨c2,c3⟩:=aQ (P:=τ) (j:=2) b6 ak j9;obtain⟨c4,c5⟩:=aQ (P:=τ) (j:=3) c3 ak k0;obtain⟨c6,c7⟩:=aQ (P:=τ) (j:=4) c5 ak k1;obtain⟨c8,c9⟩:=aQ (P:=τ) (j:=5) c7 ak k2;obtain⟨e0,e1⟩:=aQ (P:=τ) (j:=6) c9 ak k3;obtain⟨e2,e3⟩:=aQ (P:=τ) (j:=7) e1 ak k4;obtain⟨e4,e5⟩:=aQ (P:=τ) (j:=8) e3 ak k5;obtain⟨e6,e7⟩:=aQ (P:=τ) (j:=9) e5 ak k6;obtain⟨e8,e9⟩:=aQ (P:=τ) (j:=10) e7 ak k7;obtain⟨g0,g1⟩:=aQ (P:=τ) (j:=11) e9 ak k8;obtain⟨g2,g3⟩:=aQ (P:=τ) (j:=12) g1 ak k9;obtain⟨g4,g5⟩:=aQ (P:=τ) (j:=13) g3 ak l0;obtain⟨g6,g7⟩:=aQ (P:=τ) (j:=14) g5 ak l1;obtain⟨g8,g9⟩:=aQ (P:=τ) (j:=15) g7 ak l4;obtain⟨h0,l9⟩:=aQ (P:=τ) (j:=16) g9 ak l7;clear T b6 c3 c5 c7 c9 e1 e3 e5 e7 e9 g1 g3 g5 g7 g9 l9;simp only[L,b5,c2,c4,c6,c8,e0,e2,e4,e6,e8,g0,g2,g4,g6,g8,h0,Result.andThen];clear L b5 c2 c4 c6 c8 e0 e2 e4 e6 e8 g0 g2 g4 g6 g8 h0;go_wp2_with fail;have T:=Cm c0 (b:=Q (α a)+2) aa n o p q r s t u v w x y z B C F K;have b5:=OD c1 n o p q r s t u v w x y z B C F K;refine(show∀L:χ,L=_->bodyPost τ f75 _ Exit.ret _ L from λL b6=>?_) _ H;replace T:Bl a L:=by rw[b6];exact T
 replace b5:L.heap[Q (α a)+2]? =I (ε #[n,o,p,q,r,s,t,u,v,w,x,y,z,B,C,F,K] 235 (0,0)):=by rw[b6];exact b5
 clear b6;obtain⟨⟨b6,c2,c3,c4,c5,c6,c7,c8,c9,e0,e1,e2,e3,e4,e5,e6,e7⟩,_⟩:=yX b5;refine D5 (v:=A1 #[Ξ #[n,o,p,q,r,s,t,u,v,w,x,y,z,B,C,F,K],U V 0]) (by simp[results,C3,go_sem,b6,c2,c3,c4,c5,c6,c7,c8,c9,e0,e1,e2,e3,e4,e5,e6,e7]) H ?_;exact⟨T,l,m[l],b9.1,b9.2,by rw[<-h8.out,W.out,X.out,a0.out,a1.out,a2.out,a3.out,a4.out,a5.out,a6.out,a7.out,a8.out,a9.out,b0.out,b1.out,b2.out,b3.out,b4.out]⟩
theorem DJ{g}(o n m){aS}(p:dA a j (M aS i c) g)(t:dS g d≠J):
  Ψ τ 75 #[Ξ #[M o n m,M aS i c],D (G d)] a λk l=>Bl a l/\((dS g d=J/\k=ξ (A1 #[Ξ #[D ⟨#[]⟩,M J 0 0,M J 0 0,U V 0,D ⟨#[]⟩,M J 0 0,U V 0,U V 0,U V 0,ν η,U V 0,U V 0,D ⟨#[]⟩,U V 0,D ⟨#[]⟩,γ J,M J 0 0],U V 2]))\/∃(e:Ω) (f:aJ×Ex) (b:dK),dS g d=I e/\g[e]? =I f/\k=ξ (A1 #[Ξ #[D (G b.name),M b.co b.cn b.cc,M b.ro b.rn b.rc,U V b.count,D (G b.aR),M b.uo b.un b.uc,U V b.sort,U V b.ty,U V b.size,ν b.quiet,U V b.vk,U V b.vn,D (G b.vs),U V b.place,D (G b.head),γ b.fp,M b.xo b.xn b.xc],U V 0])/\mY l j b f.1 f.2):=by
 obtain⟨u,q⟩:=p.choose;refine(uK o n m p q t).mono ?_;rintro k l ⟨r,e,f,v,s,rfl⟩;obtain⟨_,_,_,_,w⟩:=q e f s;exact⟨r,B1 ⟨e,f,u e,v,s,H,w.ah r⟩⟩
theorem FH{d}(k g f){aS}(n:dA a j (M aS i c) d)(e):
  Ψ τ 75 #[Ξ #[M k g f,M aS i c],D (G e)] a λm p=>Bl a p/\((dS d e=J/\m=ξ (A1 #[Ξ #[D ⟨#[]⟩,M J 0 0,M J 0 0,U V 0,D ⟨#[]⟩,M J 0 0,U V 0,U V 0,U V 0,ν η,U V 0,U V 0,D ⟨#[]⟩,U V 0,D ⟨#[]⟩,γ J,M J 0 0],U V 2]))\/∃(o:Ω) (l:aJ×Ex) (b:dK),dS d e=I o/\d[o]? =I l/\m=ξ (A1 #[Ξ #[D (G b.name),M b.co b.cn b.cc,M b.ro b.rn b.rc,U V b.count,D (G b.aR),M b.uo b.un b.uc,U V b.sort,U V b.ty,U V b.size,ν b.quiet,U V b.vk,U V b.vn,D (G b.vs),U V b.place,D (G b.head),γ b.fp,M b.xo b.xn b.xc],U V 0])/\mY p j b l.1 l.2):=by
 by_cases q:dS d e=J
 ·exact vJ k g f n q
 exact DJ k g f n q
def uH(ts:Γ (aJ×Ex))(l:Bs):B8:=fT (dS ts l).isNone 2
def nJ(a0 a1 a2 a3 a4 a5 a6 a7 a8 a9 a10 a11 a12 a13 a14 a15 a16:B0):Prop:=a0.oneCell'=Z/\a1.oneCell'=Z/\a2.oneCell'=Z/\a3.oneCell'=Z/\a4.oneCell'=Z/\a5.oneCell'=Z/\a6.oneCell'=Z/\a7.oneCell'=Z/\a8.oneCell'=Z/\a9.oneCell'=Z/\a10.oneCell'=Z/\a11.oneCell'=Z/\a12.oneCell'=Z/\a13.oneCell'=Z/\a14.oneCell'=Z/\a15.oneCell'=Z/\a16.oneCell'=Z
theorem Jh{C}(B z y){aS}(L:dA a j (M aS i c) C)(b):
  Ψ τ 75 #[Ξ #[M B z y,M aS i c],D (G b)] a λx F=>Bl a F/\∃d e p q r s t u v w f g k l m n o,nJ d e p q r s t u v w f g k l m n o/\x=ξ (A1 #[Ξ #[d,e,p,q,r,s,t,u,v,w,f,g,k,l,m,n,o],U V (uH C b)]):=by
 refine(FH B z y L b).mono ?_;rintro x F ⟨N,⟨K,rfl⟩|⟨_,_,_,K,_,rfl,_⟩⟩
 iterate 2
  ·exact⟨N,_,_,_,_,_,_,_,_,_,_,_,_,_,_,_,_,_,⟨H,H,H,H,H,H,H,H,H,H,H,H,H,H,H,H,H⟩,by rw[uH,K];rfl⟩
theorem acp(b:Δ (a.alloc x).drew.heap.size (a.alloc x).drew g)(d:Q (α a)=c):g.heap[c]? =I x:=by
 subst d;exact(b.block (Q (α a)) ek).trans (θ a _)
theorem gK{P:C1}{j g}(i:a.heap[c]? =I (ε F g (0,0)))(k:j<F.size)(l:f.oneCell'=Z):∃d:χ,(ρ (E c j J) f).run P a=.ok () d/\d.heap[c]? =I (ε (F.set! j f) g (0,0))/\∀(b:Ω) (e:χ),b<=c->Δ b e a->Δ b e d:=by
 obtain⟨m,n⟩:=aQ (P:=P) i k l;exact⟨_,m,n,λb e o p=>p.setCell (p:=(E c j J)) o _⟩
theorem VU{P:C1}(a3:a.heap[c]? =I (ε #[D ⟨#[]⟩,M J 0 0,M J 0 0,U V 0,D ⟨#[]⟩,M J 0 0,U V 0,U V 0,U V 0,ν η,U V 0,U V 0,D ⟨#[]⟩,U V 0,D ⟨#[]⟩,γ J,M J 0 0] 235))(a4:f.oneCell'=Z)(a5:k.oneCell'=Z)(b3:o.oneCell'=Z)(b4:p.oneCell'=Z)(b5:q.oneCell'=Z)(b6:u.oneCell'=Z)(b7:v.oneCell'=Z)(b8:y.oneCell'=Z)(b9:z.oneCell'=Z)(c0:B.oneCell'=Z)(a6:C.oneCell'=Z)(a7:R.oneCell'=Z)(a8:S.oneCell'=Z)(a9:T.oneCell'=Z)(b0:W.oneCell'=Z)(b1:N.oneCell'=Z)(b2:O.oneCell'=Z):
  ∃i x F K L X a0 a1 a2 j l m n r s t w:χ,(ρ (E c 0 J) f).run P a=.ok () i/\(ρ (E c 1 J) k).run P i=.ok () x/\(ρ (E c 2 J) o).run P x=.ok () F/\(ρ (E c 3 J) p).run P F=.ok () K/\(ρ (E c 4 J) q).run P K=.ok () L/\(ρ (E c 5 J) u).run P L=.ok () X/\(ρ (E c 6 J) v).run P X=.ok () a0/\(ρ (E c 7 J) y).run P a0=.ok () a1/\(ρ (E c 8 J) z).run P a1=.ok () a2/\(ρ (E c 9 J) B).run P a2=.ok () j/\(ρ (E c 10 J) C).run P j=.ok () l/\(ρ (E c 11 J) R).run P l=.ok () m/\(ρ (E c 12 J) S).run P m=.ok () n/\(ρ (E c 13 J) T).run P n=.ok () r/\(ρ (E c 14 J) W).run P r=.ok () s/\(ρ (E c 15 J) N).run P s=.ok () t/\(ρ (E c 16 J) O).run P t=.ok () w/\∀(b:Ω) (d:χ),b<=c->Δ b d a->Δ b d w:=by
 obtain⟨i,c1,c2,c3⟩:=gK (P:=P) (j:=0) a3 ak a4;obtain⟨x,c4,c5,c6⟩:=gK (P:=P) (j:=1) c2 ak a5;obtain⟨F,c7,c8,c9⟩:=gK (P:=P) (j:=2) c5 ak b3;obtain⟨K,e0,e1,e2⟩:=gK (P:=P) (j:=3) c8 ak b4;obtain⟨L,e3,e4,e5⟩:=gK (P:=P) (j:=4) e1 ak b5;obtain⟨X,e6,e7,e8⟩:=gK (P:=P) (j:=5) e4 ak b6;obtain⟨a0,e9,g0,g1⟩:=gK (P:=P) (j:=6) e7 ak b7;obtain⟨a1,g2,g3,g4⟩:=gK (P:=P) (j:=7) g0 ak b8;obtain⟨a2,g5,g6,g7⟩:=gK (P:=P) (j:=8) g3 ak b9;obtain⟨j,g8,g9,h0⟩:=gK (P:=P) (j:=9) g6 ak c0;obtain⟨l,h1,h2,h3⟩:=gK (P:=P) (j:=10) g9 ak a6;obtain⟨m,h4,h5,h6⟩:=gK (P:=P) (j:=11) h2 ak a7;obtain⟨n,h7,h8,h9⟩:=gK (P:=P) (j:=12) h5 ak a8;obtain⟨r,i0,i1,i2⟩:=gK (P:=P) (j:=13) h8 ak a9;obtain⟨s,i3,i4,i5⟩:=gK (P:=P) (j:=14) i1 ak b0;obtain⟨t,i6,i7,i8⟩:=gK (P:=P) (j:=15) i4 ak b1;obtain⟨w,i9,m17,j0⟩:=gK (P:=P) (j:=16) i7 ak b2;exact⟨i,x,F,K,L,X,a0,a1,a2,j,l,m,n,r,s,t,w,c1,c4,c7,e0,e3,e6,e9,g2,g5,g8,h1,h4,h7,i0,i3,i6,i9,λb d e j1=>j0 b d e (i8 b d e (i5 b d e (i2 b d e (h9 b d e (h6 b d e (h3 b d e (h0 b d e (g7 b d e (g4 b d e (g1 b d e (e8 b d e (e5 b d e (e2 b d e (c9 b d e (c6 b d e (c3 b d e (j1)))))))))))))))))⟩
theorem jZ:∀(c e:Γ gB),dL e c=Z->∀b∈c,mG b=Z
 | [],_,_,b,a=>by simp at a
 |d::r,e,h,b,a=>by
  rw[dL,ψ,ψ]at h;rcases List.mem_cons.mp a with rfl|a
  ·exact h.1.1
  exact jZ r _ h.2 b a
theorem qK{b:aJ}(a:bG b=Z):bZ b.aB=Z:=by
 unfold bG at a;simp only[ψ]at a;exact a.1.1.1
theorem wQ(a:aW d=Z):A d<=12:=by
 unfold aW at a;simp only[ψ,decide_eq_true_eq]at a;exact a.1.1.2
theorem xX(c:bZ b=Z):A b<=1000/\∀a∈b,A a.1<=1000:=by
 unfold bZ at c;rw[ψ,Bool.not_eq_true',Bool.or_eq_false_iff,B9,B9]at c;refine⟨aa,λa d=>?_⟩;have:=jZ b [] c.2 a d;unfold mG at this;simp only[ψ]at this;have:=wQ this.1.1.1;omega
theorem acK(b:Δ (a.alloc x).drew.heap.size (a.alloc x).drew g)(c:Bl g X):X.heap[Q (α a)]? =I x/\Q (α a)<Q (α g):=by
 have d:=b.size;have:Q (α a)+1<=Q (α g):=by simpa[σ]using d
 exact⟨(c.block _ aa).trans ((b.block (Q (α a)) ek).trans (θ a _)),aa⟩
theorem acL(b:Δ (Q (α (a.alloc x))) (a.alloc x) g):g.heap[Q (α a)]? =I x:=(b.block (Q (α a)) ek).trans (θ a _)
theorem Xv{e}(f:dF a j (λb=>c<=b) e L)(k:∀b,c<=b->b<Q (α a)->g.heap[b]? =a.heap[b]?)(l:i<=c):dF g j (λb=>i<=b) e L:=
 f.bounded.move (λb d=>k b d.1 d.2) (λb d=>cz d.1)
theorem aM{P:C1}(e k){j}(l:a.heap[c]? =I (ε F j (0,0)))(n:e<F.size)(o:f.oneCell'=Z)(m:F.set! e f=k):∃g:χ,(ρ (E c e J) f).run P a=.ok () g/\g.heap[c]? =I (ε k j (0,0))/\(∀d,d≠c->g.heap[d]? =a.heap[d]?)/\∀(b:Ω) (i:χ),b<=c->Δ b i a->Δ b i g:=by
 obtain⟨p,q⟩:=aQ (P:=P) l n o;subst m;exact⟨_,p,q,λd r=>A5 _ _ _ _ r,λb i s t=>t.setCell (p:=(E c e J)) s _⟩
theorem wG{P:C1}(L:a.heap[c]? =I Mw)(N:f.oneCell'=Z)(O:k.oneCell'=Z)(S:o.oneCell'=Z)(T:p.oneCell'=Z)(W:q.oneCell'=Z)(X:u.oneCell'=Z)(a0:v.oneCell'=Z)(a1:y.oneCell'=Z)(a2:z.oneCell'=Z)(a3:B.oneCell'=Z)(R:C.oneCell'=Z):
  ∃l n r s t w x F K m j:χ,(ρ (E c 0 J) f).run P a=.ok () l/\(ρ (E c 1 J) k).run P l=.ok () n/\(ρ (E c 2 J) o).run P n=.ok () r/\(ρ (E c 3 J) p).run P r=.ok () s/\(ρ (E c 4 J) q).run P s=.ok () t/\(ρ (E c 5 J) u).run P t=.ok () w/\(ρ (E c 6 J) v).run P w=.ok () x/\(ρ (E c 7 J) y).run P x=.ok () F/\(ρ (E c 8 J) z).run P F=.ok () K/\(ρ (E c 9 J) B).run P K=.ok () m/\(ρ (E c 10 J) C).run P m=.ok () j/\j.heap[c]? =I (ε #[f,k,o,p,q,u,v,y,z,B,C] 210 (0,0))/\(∀d,d≠c->j.heap[d]? =a.heap[d]?)/\∀(b:Ω) (e:χ),b<=c->Δ b e a->Δ b e j:=by
 obtain⟨l,a4,a5,a6,a7⟩:=aM (P:=P) 0 #[f,U V 0,U V 0,ν η,U V 0,U V 0,D ⟨#[]⟩,U V 0,D ⟨#[]⟩,γ J,M J 0 0] L ak N H;obtain⟨n,a8,a9,b0,b1⟩:=aM (P:=P) 1 #[f,k,U V 0,ν η,U V 0,U V 0,D ⟨#[]⟩,U V 0,D ⟨#[]⟩,γ J,M J 0 0] a5 ak O H;obtain⟨r,b2,b3,b4,b5⟩:=aM (P:=P) 2 #[f,k,o,ν η,U V 0,U V 0,D ⟨#[]⟩,U V 0,D ⟨#[]⟩,γ J,M J 0 0] a9 ak S H;obtain⟨s,b6,b7,b8,b9⟩:=aM (P:=P) 3 #[f,k,o,p,U V 0,U V 0,D ⟨#[]⟩,U V 0,D ⟨#[]⟩,γ J,M J 0 0] b3 ak T H;obtain⟨t,c0,c1,c2,c3⟩:=aM (P:=P) 4 #[f,k,o,p,q,U V 0,D ⟨#[]⟩,U V 0,D ⟨#[]⟩,γ J,M J 0 0] b7 ak W H;obtain⟨w,c4,c5,c6,c7⟩:=aM (P:=P) 5 #[f,k,o,p,q,u,D ⟨#[]⟩,U V 0,D ⟨#[]⟩,γ J,M J 0 0] c1 ak X H;obtain⟨x,c8,c9,e0,e1⟩:=aM (P:=P) 6 #[f,k,o,p,q,u,v,U V 0,D ⟨#[]⟩,γ J,M J 0 0] c5 ak a0 H;obtain⟨F,e2,e3,e4,e5⟩:=aM (P:=P) 7 #[f,k,o,p,q,u,v,y,D ⟨#[]⟩,γ J,M J 0 0] c9 ak a1 H;obtain⟨K,e6,e7,e8,e9⟩:=aM (P:=P) 8 #[f,k,o,p,q,u,v,y,z,γ J,M J 0 0] e3 ak a2 H;obtain⟨m,g0,g1,g2,g3⟩:=aM (P:=P) 9 #[f,k,o,p,q,u,v,y,z,B,M J 0 0] e7 ak a3 H;obtain⟨j,g4,g5,g6,g7⟩:=aM (P:=P) 10 #[f,k,o,p,q,u,v,y,z,B,C] g1 ak R H;exact⟨l,n,r,s,t,w,x,F,K,m,j,a4,a8,b2,b6,c0,c4,c8,e2,e6,g0,g4,g5,λd g=>(g6 d g).trans ((g2 d g).trans ((e8 d g).trans ((e4 d g).trans ((e0 d g).trans ((c6 d g).trans ((c2 d g).trans ((b8 d g).trans ((b4 d g).trans ((b0 d g).trans (a6 d g)))))))))),λb e i g8=>g7 b e i (g3 b e i (e9 b e i (e5 b e i (e1 b e i (c7 b e i (c3 b e i (b9 b e i (b5 b e i (b1 b e i (a7 b e i (g8)))))))))))⟩
abbrev VX(t:aJ)(co:A9 D2)(cn cc:Ω)(ro:A9 D2)(rn rc:Ω)(uo:A9 D2)(un uc:Ω):Obj:=ε #[D (G t.name),M co cn cc,M ro rn rc,U V t.count,D (G t.aR),M uo un uc] 54
theorem SI:(τ.info? 235).map (λa=>(a.zero,a.size,a.bytes))=I (I (Ξ #[D ⟨#[]⟩,M J 0 0,M J 0 0,U V 0,D ⟨#[]⟩,M J 0 0,U V 0,U V 0,U V 0,ν η,U V 0,U V 0,D ⟨#[]⟩,U V 0,D ⟨#[]⟩,γ J,M J 0 0]),17,232):=aF
def dz(raws:Γ dK):Γ B0:=raws.flatMap λr=>r.arr.toList
theorem zM(a b):dz (a++b)=dz a++dz b:=by simp[dz]
theorem nC:∀(e:Γ dK) (c:Ω) (d:dK) (b:Ω),e[c]? =I d->b<17->(dz e)[c*17+b]? =d.arr[b]?
 | [],c,d,b,h,_=>by simp at h
 |a::rs,0,d,b,h,hj=>by
  simp at h;subst h;rw[Nat.zero_mul,Nat.zero_add,dz,C0,Θ aN];simp
 |a::rs,c+1,d,b,h,hj=>by
  have:=nC rs c d b (by simpa using h) hj;have f:A a.arr.toList=17:=ak;rw[dz,C0,κ (by rw[f];omega),f,show(c+1)*17+b-17=c*17+b by omega];exact this
structure qU(w:World)(r:dK)(t:aJ):Prop where
 name:r.name=t.name
 count:r.count=t.count
 aR:r.aR=t.aR
 aB:dC w (.slice r.co r.cn r.cc) t.aB
 rows:RowsIn w (.slice r.ro r.rn r.rc) t.rows
 gZ:gD w (.slice r.uo r.un r.uc) t.gZ
theorem qU.full{d:dK}{e}(b:qU g d e)(c:Bl g a)(f:dF a j (λ_=>D4) d.ex L):mY a j d e L:=
 ⟨b.name,b.count,b.aR,b.aB.ah c,b.rows.ah c,b.gZ.ah c,f⟩
def tK(w0 w:χ)(bb:Ω)(FB:Γ Ω)(fns:Γ Fn)(ts:Γ (aJ×Ex)):Prop:=∃(fo:A9 D2) (fnn fc:Ω) (aS:A9 D2) (tn tc:Ω) (raws:Γ dK),
 Q (α w0)<=bb/\Δ (Q (α w0)) w0 w/\w.heap[bb]? =I (ε #[M fo fnn fc,M aS tn tc] 194 (0,0))/\kF w FB (M fo fnn fc) fns/\
 w.ownsRow (bb+1) 235 17 (M aS tn tc) (A ts) (dz raws)/\A raws=A ts/\A ts<=4/\(A ts=0->aS=J)/\
 ∀(i:Ω) (r:dK) (te:aJ×Ex),raws[i]? =I r->ts[i]? =I te->qU w0 r te.1/\dF w FB (λ_=>D4) r.ex te.2
theorem abY{k aS e}(u:Bl g a)(n:a.ownsRow (m+1) 235 17 (M aS i c) (A k) (dz e))(B:A e=A k)(z:A k<=4)(v:∀(d:Ω) (o:dK) (f:aJ×Ex),e[d]? =I o->k[d]? =I f->qU g o f.1/\dF a j (λ_=>D4) o.ex f.2):dA a j (M aS i c) k:=by
 rcases n.2 with⟨p,r⟩|⟨q,cap,_,p,_,_,_⟩
 ·cases p;exact⟨J,0,by rw[r],aa,B5 (B4.mp r)⟩
 cases p;refine⟨_,_,H,aa,B1 ⟨q,H,(n.lt q H).2,λd f s=>?_⟩⟩;have:=(ω.mp s).1;have t:e[d]? =I e[d]:=ζ aa;obtain⟨w,x⟩:=v d _ f t s;have b:∀l,l<17->β a ⟨q,d*17+l,J⟩=e[d].arr[l]? :=λl y=>(n.cellAt _ aa).trans (nC e d _ l t y);exact⟨e[d],⟨b 0 aa,b 1 aa,b 2 aa,b 3 aa,b 4 aa,b 5 aa,b 6 aa,b 7 aa,b 8 aa,b 9 aa,b 10 aa,b 11 aa,b 12 aa,b 13 aa,b 14 aa,b 15 aa,b 16 aa⟩,w.full u x⟩
theorem abX{wc:χ}{fns d aS n}{b1:Ω->Prop}{r:dK}{a5}(a2:Q (α X)<=c)(b2:Bl X g)(g1:c<Q (α g))(t:Bl g wc)(a4:wc.heap[c]? =I (ε #[M l a1 a0,M aS K s] 194 (0,0)))(hF:kF g j (M l a1 a0) fns)(N:wc.ownsRow (c+1) 235 17 (M aS K s) (A d) (dz n))(b3:A n=A d)(a3:A d<=3)(b4:A d=0->aS=J)(P:∀(e:Ω) (r:dK) (B:aJ×Ex),n[e]? =I r->d[e]? =I B->qU X r B.1/\dF g j (λ_=>D4) r.ex B.2)(b6:qU X r a5)(b7:dF wc j b1 r.ex L)(b5:a.ownsRow (c+1) 235 17 (M (I (E m 0 J)) (A d+1) i) (A d+1) (dz n++r.arr.toList))(z:(wc.alloc x).drew.grownBy a (M aS K s).ownBlock)(b8:a.heap[c]? =I (ε #[M l a1 a0,M aS K s] 194 (0,0))):
  tK X (a.setCell (E c 1 J) (M (I (E m 0 J)) (A d+1) i)) c j fns (d++ [(a5,L)])/\Δ c g (a.setCell (E c 1 J) (M (I (E m 0 J)) (A d+1) i)):=by
 have g2:=t.size;have b9:=z.size;simp only[World.size_drew,σ]at b9;have R:∀b,b<Q (α wc)->b≠c->(M aS K s).ownBlock≠I b->(a.setCell (E c 1 J) (M (I (E m 0 J)) (A d+1) i)).heap[b]? =wc.heap[b]? :=by
  intro b k o a3;rw[A5 _ _ _ _ o,z.block b LZ (λf=>a3 f.symm)];exact Φ _ _ _ k
 have S:∀(b:Ω) (u:Array B0) (C:TypeId) (v:Ω×Ω),wc.heap[b]? =I (ε u C v)->C=212\/C=3\/C=210->(a.setCell (E c 1 J) (M (I (E m 0 J)) (A d+1) i)).heap[b]? =wc.heap[b]? :=by
  intro b u C v o p;refine R b (af o) (λf=>?_) (λf=>?_)
  ·subst f;rw[a4]at o;cases o;revert p;decide
  rcases N.2 with⟨k,_⟩|⟨c0,c1,c2,k,_,P,_⟩
  ·rw[k]at f;cases f
  rw[k]at f;cases f;rw[P]at o;cases o;revert p;decide
 have a6:Δ c g (a.setCell (E c 1 J) (M (I (E m 0 J)) (A d+1) i)):=by
  suffices hB:Δ c g a from hB.setCell (p:=(E c 1 J)) (Nat.le_refl _) _
  refine⟨z.os.trans t.os,z.tape.trans t.tape,z.output.trans t.output,aa,λb O=>?_⟩;have:=R b aa aa (λf=>cz ((N.lt _ f).1));rw[A5 _ _ _ _ (by show b≠c;omega)]at this;exact this.trans (t.block b aa)
 refine⟨⟨l,a1,a0,I (E m 0 J),A d+1,i,n++ [r],a2,b2.trans (a6.mono a2),by simp[A4,A0,b8], ?_, ?_,by simp[b3],aN,(λk=>by simp at k),λe c3 B q w=>?_⟩,a6⟩
 ·
  have c4:=hF.ah t;obtain⟨c5,cap,c6,c7,c8,c9,e0⟩:=c4;refine⟨c5,cap,c6,c7,c8, ?_,λe T e3 e1 e2=>(e0 e T e3 e1 e2).grow S⟩;rcases c9 with k|⟨F,f,e4,a7⟩
  ·exact B5 k
  have e5:F<Q (α (a.setCell (E c 1 J) (M (I (E m 0 J)) (A d+1) i))):=by
   simp[A4];omega
  refine B1 ⟨F,f,e5,λe T a8=>?_⟩;have p:=a7 e T a8;have e6:F≠c:=by
   intro y;subst y;rw[aI a4]at p
   match e,p with
   |0,p=>simp at p
   |1,p=>simp at p
   |(e+2),p=>simp at p
  have e7:(M aS K s).ownBlock≠I F:=by
   intro y;rcases N.2 with⟨k,_⟩|⟨c0,c1,c2,k,_,_,_⟩
   ·rw[k]at y;cases y
   rw[k]at y;cases y;obtain⟨W,e8⟩:∃W,j[0]? =I W:=by
    have q:=(ω.mp a8).1;exact⟨j[0],ζ aa⟩
   have a9:=a7 0 W e8
   cases k;rcases Nat.eq_zero_or_pos (A d)with b0|b0
   ·have:=b4 b0;cases this
   have e9:n[0]? =I n[0]:=ζ aa;have g0:=(N.cellAt 0 aa).trans ((nC n 0 _ 0 e9 aa));rw[g0]at a9;simp at a9
  rw[B7 (w:=wc) (R F e4 e6 e7)];exact p
 ·rw[zM,List.length_append];have:dz [r]=r.arr.toList:=by simp[dz]
  rw[this];exact ownsRow_setCell_below b5 (by show c<c+1;omega) _
 rcases Nat.lt_or_ge e (A n)with f|k
 ·rw[Θ f]at q;rw[Θ aa]at w;obtain⟨p,y⟩:=P e c3 B q w;exact⟨p,(y.ah t).typed.move (λb O=>by obtain⟨_,u,v,o⟩:=O;exact S b u _ v o (B1 (B1 H))) (λ_ _=>trivial)⟩
 rw[κ k]at q;rw[κ aa]at w;have p:e-A n=0:=by
  have:=(ω.mp q).1;simp at this;omega
 rw[p]at q;rw[show e-A d=0 by omega]at w;simp at q w;subst q w;exact⟨b6,b7.typed.move (λb O=>by obtain⟨_,u,v,o⟩:=O;exact S b u _ v o (B1 (B1 H))) (λ_ _=>trivial)⟩
def Kk(o:D3 B8 Ex):D3 B8 Ex:=match o with
 | .error n=>.error n
 | .ok x=>if !(x.ty==3)|| !x.quiet then .error 5 else .ok x
def dY(fns:Γ Fn)(ts:Γ (aJ×Ex))(t:aJ):D3 B8 Ex:=
 if aT [fT (!aW t.name||(uH ts t.name==0)) 2,fT (!bG t) 6]≠0 then .error (aT [fT (!aW t.name||(uH ts t.name==0)) 2,fT (!bG t) 6])
 else Kk (dH bL (t.aB.map (bD [114,111,119]),[]) fns t.aR)
def aak(w0 w:χ)(bb:Ω)(FB:Γ Ω)(fns:Γ Fn)(ts:Γ (aJ×Ex))(t:aJ)(o:D3 B8 Ex)(e:Ending)(w':χ):Prop:=
 (∃n:B8,o=.error n/\n≠0/\e=ξ (U V n)/\Δ (Q (α w)) w w')\/
 (∃x:Ex,o=.ok x/\e=ξ (U V 0)/\tK w0 w' bb FB fns (ts++ [(t,x)])/\Δ bb w w')
def fV(n:Ω):Code->A9 Code
 | .region id ops b=>if id=n then I (.region id ops b)else J
 | .seq a b=>match fV n a with
  |some c=>I c
  |none=>fV n b
 | .block _ c=>fV n c
 | .scope c=>fV n c
 | .loop c=>fV n c
 | .cond _ a b=>match fV n a with
  |some c=>I c
  |none=>fV n b
 |_=>J
def acJ(f:Func):Code:=((f.body.bind (fV 1)).getD .skip)
def Xb(f:Func):Code:=((f.body.bind (fV 2)).getD .skip)
theorem Lx{b:aJ}(j2 j1 j0 k0 j9 j8 k3 k2 k1){aS j7}(n:c<Q (α a))(j6:Q (α g)<Q (α a))(k9:Q (α a)=Q (α g)+1)(i8:β a (E c 0 J)=I (M l m i))(i9:β a (E c 1 J)=I (M aS K s))(j3:β a (E (Q (α g)) 0 J)=I (D (G b.name)))(k8:∀d:χ,Bl a d->Ψ τ 75 #[Ξ #[M l m i,M aS K s],D (G b.name)] d λj4 k4=>Bl a k4/\Bl d k4/\∃r t a1 a2 i0 i1 i2 i3 i4 i5 w x F L P X a0,nJ r t a1 a2 i0 i1 i2 i3 i4 i5 w x F L P X a0/\j4=ξ (A1 #[Ξ #[r,t,a1,a2,i0,i1,i2,i3,i4,i5,w,x,F,L,P,X,a0],U V j7])){i6:Act->χ->Prop}{i7:Ending->χ->Prop}(j5:∀(m2 m3 l0 l1 l4 l7 l8 l9 m0 m1:B0) (k5:χ),Bl a k5->i6 ⟨#[γ (I (E c 0 J)),Ξ #[D (G b.name),M j2 j1 j0,M k0 j9 j8,U V b.count,D (G b.aR),M k3 k2 k1],f,γ (I (E (Q (α g)) 0 J)),k,m2,U V j7,q,u,m3,l0,l1,l4,l7,l8,l9,m0,m1,N,O,a3,a4,a5,a6,a7,a8,a9,b0,b1,b2,b3,b4,b5,b6,b7,b8,b9,c0,c1,c2,c3,c4,c5,c6,c7,c8,c9,e0,e1,e2,e3,e4,e5,e6,e7,e8,e9,g0,g1,g2,g3,g4,g5,g6,g7,g8,g9,h0,h1,h2,h3,h4,h5,h6,h7,h8,h9],[]⟩ k5):
  Code.wp τ (acJ D1) (Exit.then i6 (bodyPost τ D1 i7)) ⟨#[γ (I (E c 0 J)),Ξ #[D (G b.name),M j2 j1 j0,M k0 j9 j8,U V b.count,D (G b.aR),M k3 k2 k1],f,γ (I (E (Q (α g)) 0 J)),k,o,p,q,u,v,y,z,B,C,R,S,T,W,N,O,a3,a4,a5,a6,a7,a8,a9,b0,b1,b2,b3,b4,b5,b6,b7,b8,b9,c0,c1,c2,c3,c4,c5,c6,c7,c8,c9,e0,e1,e2,e3,e4,e5,e6,e7,e8,e9,g0,g1,g2,g3,g4,g5,g6,g7,g8,g9,h0,h1,h2,h3,h4,h5,h6,h7,h8,h9],[]⟩ a:=by
 conv=>arg 2;whnf
 change Y _ at j5;go_region_held2 (λd=>β d (E c 0 J)=I (M l m i)/\β d (E c 1 J)=I (M aS K s)/\β d (E (Q (α g)) 0 J)=I (D (G b.name))) (go_keep) (first|(go_at_call 75;refine(k8 _ ?_).mono ?_;(first|exact(ι _ a).drew|exact ι _ a|exact(ai a _).drew|exact ai a _);rintro j4 o2 ⟨e,m4,r,t,a1,a2,i0,i1,i2,i3,i4,i5,w,x,F,L,P,X,a0,⟨m5,m6,n4,n5,n6,n7,n8,n9,o0,o1,m7,m8,m9,n0,n1,n2,n3⟩,rfl⟩;have:=cK e n i8;have:=cK e n i9;have:=cK e j6 j3;(first|(have k7:=acp m4 k9)|(have k7:=θ o2 (ε #[D ⟨#[]⟩,M J 0 0,M J 0 0,U V 0,D ⟨#[]⟩,M J 0 0,U V 0,U V 0,U V 0,ν η,U V 0,U V 0,D ⟨#[]⟩,U V 0,D ⟨#[]⟩,γ J,M J 0 0] 235)));obtain⟨_,_,_,_,_,_,_,_,_,_,_,_,_,_,_,_,o3,_,_,_,_,_,_,_,_,_,_,_,_,_,_,_,_,_,k6⟩:=VU (P:=τ) k7 m5 m6 n4 n5 n6 n7 n8 n9 o0 o1 m7 m8 m9 n0 n1 n2 n3;have j:Bl a o3:=(by first|exact k6 _ _ aa e|exact k6 _ _ e.size (e.alloc e.size _));have:=cK j n i8;have:=cK j n i9;have:=cK j j6 j3));all_goals exact j5 _ _ _ _ _ _ _ _ _ _ _ (by first|exact j|exact j.drew)
end Go.Proofs.YthkeffolmbnkaaaGreatDoor

import Derived.Test.YthkeffolmbnkaaaGreatDoorLbKZ
set_option linter.unusedVariables false
set_option linter.unusedSimpArgs false
set_option maxRecDepth 100000
set_option maxHeartbeats 0
open Array renaming size->Y,getElem?_modify->ε
open Go renaming Value->ν,TypeId->Ψ,heap_alloc_new->Ω,World->A1,info_parts->A2
open Go.Addr renaming mk->γ
open Go.IntKind renaming i64->G
open Go.Obj renaming cells->δ
open Go.Proofs.YthkeffolmbnkaaaGreatDoor renaming aa->D
open Go.RowKit.Below renaming refl->χ,heap_setCell->ψ,heap_alloc->Θ
open Go.Value renaming slice->J,int->I
open Go.World renaming heap->Q,frozen?->α,cell?->η,setCell->ι,ownsRow_nil->μ
open List renaming length->E,mem_of_mem_take->β,getElem?_eq_some_iff->ζ,mem_of_getElem?->θ,length_append->κ,pairwise_iff_getElem->ξ,drop_eq_getElem_cons->ο,getElem?_eq_getElem->ρ,set_append_right->σ,mem_append_right->τ,mem_append_left->υ,getElem_of_mem->φ,set_cons_zero->ω,mem_singleton->Γ,getElem_take->Δ,length_take->Ξ,mem_append->Φ
open Option renaming none->U,some->V
open _root_ renaming rfl->M,Nat->H,Array->A0
namespace Go.Proofs.YthkeffolmbnkaaaGreatDoor
open Go.Proofs.Tryz
open Go.RowKit
def WC(w:A1)(wb:H)(g0 g1 g2:ν)(es ss:List TE)(A Z:H)(w':A1):Prop:=∃(sv:ν) (es' ss':List TE),(E es'<=E es+4/\E ss'<=E ss+1)/\rF w' wb g0 g1 g2 sv es'/\qA w' wb sv ss'/\(∀P:H->Prop,(∀g,A<=g->g<Z->P g)->(∀g,Y (Q w)<=g->P g)->((∀e∈es,∀u∈Ak e,∀g,u.ownBlock=V g->P g)->∀e∈es',∀u∈Ak e,∀g,u.ownBlock=V g->P g)/\((∀e∈ss,∀u∈Ak e,∀g,u.ownBlock=V g->P g)->∀e∈ss',∀u∈Ak e,∀g,u.ownBlock=V g->P g))/\Below wb w w'/\∀(q:H) (cur:A0 ν) (T:Ψ) (fz:H×H),w.heap[q]? =V (δ cur T fz)->T≠85->T≠89->T≠40->(q<A\/Z<=q)->w'.heap[q]? =w.heap[q]?
structure Pv(w wr:World)(wb:Nat)(g0 g1 g2 sv:Value)(es:List TE)(rs:List iP)(i:Nat)(es':List TE):Prop where
 len:List.length es'=List.length es+i
 bk:rF wr wb g0 g1 g2 sv es'
 own:∀e∈es',∀u∈Ak e,∀g,u.ownBlock=some g->(∃e∈es,∃u∈Ak e,u.ownBlock=some g)\/(∃r∈rs.take i,r.2.1.ownBlock=some g)\/Array.size (World.heap w)<=g
 fr:∀(q:Nat) (cur:Array Value) (T:TypeId) (fz:Nat×Nat),w.heap[q]? =some (.cells cur T fz)->T≠85->T≠40->(∀r∈rs.take i,r.2.1.ownBlock≠some q)->wr.heap[q]? =w.heap[q]?
 be:Below wb w wr
section
variable {w wr : World} {wb A Z : Nat} {g0 g1 g2 sv v : Value} {es es' : List TE} {rs : List iP} {i : Nat}
theorem mV.typ{e:iP}(d:mV w A e.2.1 e.2.2){a:H}(b:e.2.1.ownBlock=V a):A<=a/\a<Y (Q w)/\∃c,w.heap[a]? =V (δ c 3 (0,0)):=by
 refine⟨(d.1.lt a b).1,(d.1.lt a b).2, ?_⟩;rcases d.1.2 with⟨f,_⟩|⟨_,cap,c,f,_,g,_⟩
 ·rw[f]at b;cases b
 rw[f]at b;cases b;exact⟨c,g⟩
theorem Pv.row(f:Pv w wr wb g0 g1 g2 sv es rs i es')(b:nN w A v rs):wr.ownsRow A 165 2 v (E rs) (ji rs):=by
 refine aD b.row λ_ a=>?_;rcases b.row.2 with⟨c,_⟩|⟨_,cap,_,c,_,d,_⟩
 ·rw[c]at a;cases a
 rw[c]at a;cases a;refine f.fr _ _ _ _ d ag ag λk j g=>?_;obtain⟨-, -,_,e⟩:=(b.parts k (β j)).typ g;rw[d]at e;cases e
theorem Pv.part(g:Pv w wr wb g0 g1 g2 sv es rs i es')(d:nN w A v rs){a}(c:rs[i]? =V a):mV wr A a.2.1 a.2.2:=by
 have b:=d.parts a (θ c);refine⟨aD b.1 λj e=>?_,b.2⟩;obtain⟨-, -,_,k⟩:=b.typ e;refine g.fr _ _ _ _ k ag ag λ_ l f=>?_;obtain⟨m,rfl⟩:=ζ.mp c;obtain⟨n,o,rfl⟩:=φ l;simp only[Ξ]at o;rw[Δ]at f;exact(ξ.mp d.apart n i D m D) j f e
theorem Pv.sep(f:Pv w wr wb g0 g1 g2 sv es rs i es')(k:nN w A v rs)(m:∀b∈rs,∀a,b.2.1.ownBlock=V a->a<Z)(n:∀c∈es,∀d∈Ak c,∀a,d.ownBlock=V a->a<A\/Z<=a){b}(j:rs[i]? =V b):∀c∈es',∀d∈Ak c,∀a,d.ownBlock=V a->b.2.1.ownBlock≠V a:=λc o d q a p g=>by
 have l:=θ j;obtain⟨_,_, -⟩:=(k.parts b l).typ g;have:=m b l a g;rcases f.own c o d q a p with⟨r,s,t,u,e⟩|⟨_,x,e⟩|_
 ·rcases n r s t u a e with f|f<;>omega
 ·obtain⟨y,rfl⟩:=ζ.mp j;obtain⟨B,z,rfl⟩:=φ x;simp only[Ξ]at z;rw[Δ]at e;exact(ξ.mp k.apart B i D y D) a e g
 omega
theorem Pv.next{k}(c:Pv w wr wb g0 g1 g2 sv es rs i es'){b}(x:rs[i]? =V b)(y:Sk wr wb g0 g1 g2 sv es' b.2.1 k):∃v,Pv w k wb g0 g1 g2 sv es rs (i+1) v:=by
 obtain⟨z,B,C,F,K⟩:=y;obtain⟨L,rfl⟩:=ζ.mp x;have l:rs.take (i+1)=rs.take i++ [rs[i]]:=List.take_succ_eq_append_getElem L;refine⟨es'++ [z],by rw[κ,c.len];rfl,B,λe d o f m n=>?_,λu q p r e s t g=>?_,c.be.trans F⟩
 ·rw[l];rcases Φ.mp d with d|d
  ·rcases c.own e d o f m n with a|⟨b,j,N⟩|a
   ·exact .inl a
   ·exact .inr (.inl ⟨b,υ _ j,N⟩)
   exact .inr (.inr a)
  rw[Γ.mp d]at f;rcases C o f m n with a|a
  ·exact .inr (.inl ⟨_,τ _ ak,a⟩)
  exact .inr (.inr (Nat.le_trans c.be.size a))
 rw[l]at g;have a:=c.fr u q p r e s t λb j=>g b (υ _ j);exact(K u q p r (a.trans e) s t (g _ (τ _ ak))).trans a
end
theorem Zq{a b}{c:List ν}{d i}(g:E c=d*2)(f:i<d):((lm a b i++c.drop (i*2)).set (i*2) a).set (i*2+1) b=lm a b (i+1)++c.drop ((i+1)*2):=by
 have e:lm a b (i+1)=lm a b i++ [a,b]:=(EM i 1).symm;rw[σ _ _ (by rw[gJ];omega),gJ,Nat.sub_self,ο D,ω,σ _ _ (by rw[gJ];omega),gJ,show i*2+1-i*2=1 by omega,List.set_cons_succ,ο D,ω,e,List.append_assoc,show(i+1)*2=i*2+1+1 by omega];rfl
theorem VV(rs):E (ji rs)=E rs*2:=by
 induction rs with
 |nil=>rfl
 |cons a rs ih=>simp only[ji,List.flatMap_cons,κ,List.length_cons]at ih ⊢;rw[ih];simp[ZF];omega
theorem Pv.steps{w wr wb A g0 g1 g2 sv v es es' j rs i}(m:Pv w wr wb g0 g1 g2 sv es rs i es')(n:nN w A v rs)(g:qA w wb sv j):qA wr wb sv j:=by
 have k:∀(a:H) (b:A0 ν) (c:Ψ) (d:H×H),w.heap[a]? =V (δ b c d)->c≠85->c≠40->c≠3->wr.heap[a]? =w.heap[a]? :=λa b c d e o p q=>m.fr a b c d e o p λt s r=>by
  obtain⟨-, -,_,f⟩:=(n.parts t (β s)).typ r;rw[e]at f;cases f;exact q M
 exact⟨gm g.own λa b d u=>k a b _ d u ag ag ag,λi e l=>(g.each i e l).move λ_ y _ x=>by
  obtain⟨-, -,b,f⟩:=(g.each i e l).lt y x;exact k _ _ _ _ f ag ag ag⟩
theorem Pv.fin{w p B:A1}{wb A Z}{g0 g1 g2 sv v P:ν}{es es' z rs}(f:Pv w p wb g0 g1 g2 sv es rs (E rs) es')(y:nN w A v rs)(O:∀a,v.ownBlock=V a->a<Z)(N:∀l∈rs,∀a,l.2.1.ownBlock=V a->a<Z)(a1:E rs<=4)(a2:p.heap[wb]? =V (δ #[g0,g1,g2,J U 0 0,J U 0 0,J U 0 0,P,sv] 40 (0,0)))(r:WB p wb g0 g1 g2 P z v B):WC w wb g0 g1 g2 es z A Z B:=by
 obtain⟨g,a3,a4,a5,a6,a7,R⟩:=r;obtain⟨aS,a8,a9,S,b0⟩:=f.bk.row;rw[a2]at S
 cases S;have T:=f.row y;have C:∀a,v.ownBlock=V a->A<=a/\∃d,p.heap[a]? =V (δ d 165 (0,0)):=λa e=>by
  refine⟨(T.lt a e).1, ?_⟩;rcases T.2 with⟨b,_⟩|⟨_,cap,d,b,_,m,_⟩
  ·rw[b]at e;cases e
  rw[b]at e;cases e;exact⟨d,m⟩
 have r:∀(c:H) (d:A0 ν) (j:Ψ) (k:H×H),p.heap[c]? =V (δ d j k)->j≠89->j≠40->j≠165->B.heap[c]? =p.heap[c]? :=λc d j k b F K s=>R c d j k b F K λg=>by
  obtain⟨-,_,q⟩:=C c g;rw[b]at q;cases q;exact s M
 refine⟨a3,es',z++ [g],⟨by rw[f.len];omega,ak⟩,⟨⟨aS,a8,a9,a4,gm b0 λc d k b=>r c d _ k b ag ag ag⟩,λi b W=>(f.bk.each i b W).move λ_ n a e=>?_⟩,a5,λ_ X a0=>⟨λL b o t n a e=>?_,λL b o t n a e=>?_⟩,f.be.trans a7,λc d j k b F K s a1=>?_⟩
 ·obtain⟨-, -,d,q⟩:=(f.bk.each i b W).lt n e;exact r _ _ _ _ q ag ag ag
 ·rcases f.own b o t n a e with⟨u,b1,b2,b3,x⟩|⟨l,m,x⟩|q
  ·exact L u b1 b2 b3 a x
  ·exact X a ((y.parts l (β m)).typ x).1 (N l (β m) a x)
  exact a0 a q
 ·rcases Φ.mp o with o|o
  ·exact L b o t n a e
  rw[Γ.mp o]at n;rcases a6 t n a e with q|q
  ·exact X a (C a q).1 (O a q)
  exact a0 a (Nat.le_trans f.be.size q)
 have u:=f.fr c d j k b F s λl m g=>by
  have:=((y.parts l (β m)).typ g).1;have:=N l (β m) c g;omega
 exact(R c d j k (u.trans b) K s λg=>by
  have:=(C c g).1;have:=O c g;omega).trans u
theorem xM{w wb g0 g1 g2 sv es e}(S:rF w wb g0 g1 g2 sv es)(o:qA w wb sv e)(o4:E es<=12000000)(o5:E e<=3000000){A Z}(T:wb<A){d b6 f rs}(u:nN w A (J d b6 f) rs)(k3:E rs<=4)(e3:∀t∈rs,E t.2.2<=1000)(o3:Z<=Y (Q w))(b5:∀a,(J d b6 f).ownBlock=V a->a<Z)(b4:∀t∈rs,∀a,t.2.1.ownBlock=V a->a<Z)(e4:∀c∈es,∀x∈Ak c,∀a,x.ownBlock=V a->a<A\/Z<=a)(i1:∀c∈e,∀x∈Ak c,∀a,x.ownBlock=V a->a<A\/Z<=a):
  Calls prog 46 #[.pointer (V (γ wb 3 U)),J d b6 f] w λc C=>c=.returned (.tuple #[])/\WC w wb g0 g1 g2 es e A Z C:=by
 have k4:b6=E rs:=by
  rcases u.row.2 with⟨c,k⟩|⟨a,cap,p,c,_,q,_⟩
  ·cases c;exact k.symm
  cases c;rfl
 subst k4;change Hid _ at u;have i2:Hid _:=o;change Hid _ at e3;change Hid _ at b4;change Hid _ at e4;have g:Pv w w wb g0 g1 g2 sv es rs 0 es:=⟨M,S,λc e5 x W a b=>.inl ⟨c,e5,x,W,b⟩,λ_ _ _ _ _ _ _ _=>rfl,χ _ _⟩;clear S o;go_enter func46,ntmps46;go_wp2_with fail;go_loopg [4] (E rs) (λgk a4 wr=>∃(i:H) (es':List TE),gk=E rs-i/\i<=E rs/\a4=I G i/\Hid (Pv w wr wb g0 g1 g2 sv es rs i es'))
 ·exact⟨0,es,M,Nat.zero_le _,M,g⟩
 clear g;obtain⟨i,es',a5,k5,rfl,r⟩:=hrel;subst a5;generalize m:wr=wo at*;clear m;by_cases b7:i<E rs
 ·obtain⟨t,q⟩:∃t,rs[i]? =V t:=⟨_,ρ b7⟩;have j:=r.out.row u;obtain⟨g,rfl,_,n⟩:∃g,d=V (γ g 0 U)/\g<Y (Q wo)/\η wo ⟨g,i*2+1,U⟩=V t.2.1:=by
   obtain⟨-,i3, -⟩:=Bh rs i t q;rcases j.2 with⟨c,k⟩|⟨a,cap,p,c,_,b,_⟩
   ·omega
   cases c;exact⟨a,M,af b,(j.cellAt _ D).trans i3⟩
  have k:=r.out.part u q;obtain⟨F,K,L,l⟩:=k.2;have O:Hid (∀C,Sk wo wb g0 g1 g2 sv es' t.2.1 C->∃s,Pv w C wb g0 g1 g2 sv es rs (i+1) s):=λC e6=>r.out.next q e6;have y:=r.out.sep u b4 e4 q;have B:=JN r.bk (by rw[r.out.len];omega) F K L (zs t.2.2) (by
   rw[dW,<-l];exact bY k.1 λa b=>cz ((k.1.lt a b).1)) (by rw[dW];exact e3 t (θ q)) (by rw[<-l];exact y)
  rw[l]at n O;clear k y j r q l;go_wp2_with(go_at_call 37;refine B.mono ?_;clear B;rintro c X ⟨rfl,l⟩;obtain⟨s,k⟩:=O.out X l;have y:Hid _:=k;clear k l)
  go_roundg (E rs-(i+1))
  all_goals first
   |omega
   |exact⟨i+1,s,M,D,aP,y⟩
 obtain rfl:i=E rs:=D;have o:=r.out.steps u i2;have j:=r.out.row u;obtain⟨a0,a1,rfl, -⟩:=o.sl;obtain⟨aS,k6,k7,P, -⟩:=r.out.bk.row;have k8:η wo (γ wb 7 U)=V (J a0 (E e) a1):=aC P;have i4:=af P;change Hid _ at P;have e7:Hid _:=o;have i5:=JX (E e) D wo;generalize s:(-1-(E e:Int))=z at*;have k9:Hid _:=s.symm;have a2:∀a,(J d (E rs) f).ownBlock=V a->A<=a/\a<Y (Q w):=λa b=>⟨(j.lt a b).1,cz (b5 a b)⟩;have:=r.out.be.size;have g:wo.ownsRow (wb+1) 165 2 (J d (E rs) f) (E rs) (ji rs):=bY j λa b=>cz ((j.lt a b).1);obtain⟨l,k⟩:=au (E rs);have O:Hid (l=E rs):=k;have e8:E (ji rs)=l*2:=by rw[k];exact VV rs
 have:l<=4:=D;rw[<-k]at g a2 ⊢;generalize y:ji rs=cs at*;clear s o j k y;go_wp2_with(go_at_call 91;refine i5.mono ?_;clear i5;rintro c X ⟨rfl,k⟩);have a6:=k.trans ((ai X (δ #[I G z,J U 0 0] 165)).mono k.size);have e9:=Ω X (δ #[I G z,J U 0 0] 165);generalize s:X.alloc (δ #[I G z,J U 0 0] 165)=y at*;have i6:y.ownsRow (wb+1) 165 2 (J d l f) l cs:=aD g λa b=>a6.block a (g.lt a b).2;have l0:=af e9;have l1:=k.size;generalize B:Y (Q X)=mx at*;clear g s k B;go_loopg [7] l (λgk a4 wr=>∃i:H,gk=l-i/\i<=l/\a4=I G i/\wr.ownsRow (wb+1) 165 2 (J d l f) l (lm (I G z) (J U 0 0) i++cs.drop (i*2))/\(∀a,(J d l f).ownBlock≠V a->wr.heap[a]? =y.heap[a]?)/\Below (wb+1) y wr/\Y (Q wr)=Y (Q y))
 ·exact⟨0,M,Nat.zero_le _,M,by simpa[lm]using i6,λ_ _=>rfl,χ _ _,M⟩
 obtain⟨i,a5,k5,rfl,j,b8,g3,i7⟩:=hrel;subst a5;have a7:wr.heap[mx]? =V (δ #[I G z,J U 0 0] 165 (0,0)):=(b8 mx λc=>cz ((a2 mx c).2)).trans e9;have b9:η wr (γ mx 0 U)=V (I G z):=aC a7;have c0:η wr (γ mx 1 U)=V (J U 0 0):=aC a7;have l4:=af a7;by_cases b7:i<l
 ·obtain⟨a,cap,c,g,_⟩:=j.form D
  cases c;have k:E (lm (I G z) (J U 0 0) i++cs.drop (i*2))=l*2:=by rw[κ,gJ,List.length_drop,e8];omega
  have s:=j.cellAt (i*2) D;have n:=j.cellAt (i*2+1) D;rw[ρ D]at s n;have:=j.frozenAt (i*2);have:=j.frozenAt (i*2+1);have R:=((j.stored (i*2) (I G z)).1.stored (i*2+1) (J U 0 0)).1;rw[Zq e8 b7]at R;have B:Hid _:=R;generalize (lm (I G z) (J U 0 0) i++cs.drop (i*2))[i*2]' D=l7 at*;generalize (lm (I G z) (J U 0 0) i++cs.drop (i*2))[i*2+1]' D=l8 at*;clear R j k
  go_wp2
  go_roundg (l-(i+1))
  case measure=>omega
  refine⟨i+1,M,D,aP,B,λc1 a8=>?_,(g3.setCell (p:=⟨a,i*2,U⟩) g _).setCell (p:=⟨a,i*2+1,U⟩) g _,by simpa using i7⟩;have k:c1≠a:=λc=>a8 (by rw[c];rfl);rw[ψ _ _ _ _ k,ψ _ _ _ _ k];exact b8 c1 a8
 obtain rfl:i=l:=D;rw[List.drop_of_length_le D,List.append_nil]at j;generalize m:wr=wv at*;clear m;have a9:∀a,(J d i f).ownBlock=V a->wb<a/\a<Y (Q wo)/\∃p,wo.heap[a]? =V (δ p 165 (0,0)):=λa b=>by
  have l9:=a2 a b;refine⟨D,D, ?_⟩;have q:=r.out.row u;rw[<-O.out]at q;rcases q.2 with⟨c,_⟩|⟨_,cap,p,c,_,q,_⟩
  ·rw[c]at b;cases b
  rw[c]at b;cases b;exact⟨p,q⟩
 have m0:Hid (∀C,WB wo wb g0 g1 g2 (J aS k6 k7) e (J d i f) C->WC w wb g0 g1 g2 es e A Z C):=λC e6=>r.out.fin u b5 b4 k3 P (by rw[<-O.out];exact e6);have c2:∀a,a<Y (Q wo)->(J d i f).ownBlock≠V a->wv.heap[a]? =wo.heap[a]? :=λa b m1=>(b8 a m1).trans (a6.block a b);have m4:=a6.size;have g4:Below (wb+1) wo wv:=(a6.mono D).trans g3;have g5:∀c∈e,∀x∈Ak c,∀a,x.ownBlock=V a->(J d i f).ownBlock≠V a:=λc e5 x W a b i8=>by
  have l9:=a2 a i8;have i3:=b5 a (by rw[<-O.out];exact i8);rcases i1 c e5 x W a b with S|S<;>omega
 have g6:Fy wv wb (E e) (I G z) (J U 0 0) (J d i f) (J U 0 0) (J U 0 0) (J U 0 0) i 0 0 0 (wv.alloc (δ #[J d i f,J U 0 0,J U 0 0,J U 0 0,I G (E e:Int)] 89)):=
  ⟨Ω wv _,D,λa b=>cz (a9 a b),World.ownsRow.alloc j _,μ _ _ _ _,μ _ _ _ _,μ _ _ _ _,(χ _ _).alloc D _,λa b _=>Θ _ _ _ b,λa b=>(by cases b),λa b=>(by cases b),λa b=>(by cases b)⟩
 have c3:Hid (∀ {o1 o2 c6:ν} {n6 n7 n8:H} {k2:A1},Fy wv wb (E e) (I G z) (J U 0 0) (J d i f) o1 o2 c6 i n6 n7 n8 k2->k2.heap[mx]? =V (δ #[I G z,J U 0 0] 165 (0,0))):=λS=>(S.FX mx l4 λc=>cz ((a2 mx c).2)).trans a7;have j9:Y (Q wo)<=Y (Q wv):=D;have:wb+1<=Y (Q wv):=D;change Hid _ at a9;change Hid _ at c2;change Hid _ at g4;change Hid _ at g5;obtain⟨_,h1,h3,h4,h5⟩:=A2 Ed;obtain⟨n5,m7,m8,m9,n0⟩:=A2 adf;have:wb<Y (Q wo):=i4;clear j b8 g3 i7 i6 e9 a7 a2 b5 i1 r u i2 e3 b4 e4 k8 b9 c0 m4 a6 l0 l1 i4 O e8;go_upto_region 11 with fail
 go_cut [46] (λn9 h9=>Fy wv wb (E e) (I G z) (J U 0 0) (J d i f) n9 (J U 0 0) (J U 0 0) i (i+1) 0 0 h9)
 ·have s:=c3.out g6;have b9:=(aI (j:=0) s).trans M;have c0:=(aI (j:=1) s).trans M;have k1:=af s;have m:=g6.ah (ai _ (δ #[I G z,J U 0 0] 165));clear s;go_wp2_with(at_builtin;refine lD _ M (.tmp 43) (.tmp 45) M (wb+1) h1 h3 h4 h5 M (wX z) M (J d i f) i M m.m0 ⟨Y (Q wv)+1,0,U⟩ 1 1 M ag (Te ak) D aN ?_;intro N y L b2 b1 b3;have g:=m.Fv m.m0 (λa b=>.inl b) b2 b3;have hF:=m.far (v:=J d i f) (v':=N) (λa b=>.inl b) b1;obtain⟨j3,j6,rfl⟩:=L.sl;have n:=g.box;have k0:=af n;obtain⟨c7,c8,c9,e0,e1⟩:=iI n;have e2:α y (γ (Y (Q wv)) 1 U)=false:=by simp[α,n]);go_meet;exact g.set 1 _ (by simp[ι,ε,n]) L g.m2 g.m3 hF g.s2 g.s3
 generalize n3:wc=h9 at*;clear n3 g6;have T:=hcut;clear hcut;obtain⟨g8,g7,rfl⟩:=T.m1.sl;go_upto_region 12 with fail
 go_cut [52] (λo0 i0=>Fy wv wb (E e) (I G z) (J U 0 0) (J d i f) (J g8 (i+1) g7) o0 (J U 0 0) i (i+1) (i+2) 0 i0)
 ·have:=T.size;have s:=c3.out T;have b9:=(aI (j:=0) s).trans M;have c0:=(aI (j:=1) s).trans M;have k1:=af s;have m:=T.ah (ai _ (δ #[I G z,J U 0 0,I G z,J U 0 0] 165));clear s;go_wp2_with(at_builtin;refine lD _ M (.tmp 48) (.tmp 51) M (wb+1) h1 h3 h4 h5 M (wX z) M (J d i f) i M m.m0 (γ (Y (Q h9)) 0 U) 2 2 M ag (abr M) D aN ?_;intro N y L b2 b1 b3;have g:=m.Fv m.m0 (λa b=>.inl b) b2 b3;have hF:=m.far (v:=J d i f) (v':=N) (λa b=>.inl b) b1;obtain⟨j3,j6,rfl⟩:=L.sl;have n:=g.box;have k0:=af n;obtain⟨c7,c8,c9,e0,e1⟩:=iI n;have e2:α y (γ (Y (Q wv)) 2 U)=false:=by simp[α,n]);go_meet;exact g.set 2 _ (by simp[ι,ε,n]) g.m1 L g.m3 g.s1 hF g.s3
 generalize n4:wc=i0 at*;clear n4 T;have B:=hcut;clear hcut;have:=B.size;obtain⟨j4,j1,rfl⟩:=B.m2.sl;have n:=B.box;obtain⟨c7,c8,c9,e0,e1⟩:=iI n;have e2:α i0 (γ (Y (Q wv)) 3 U)=false:=by simp[α,n]
 have j7:=B.set 3 (J d i f) (by simp[ι,ε,n]) B.m1 B.m2 B.m0 B.s1 B.s2 (λa b=>.inl b);clear B n;go_wp2_with fail;go_loopg [9] 64 (λgk a4 wr=>∃(k:H) (c6:ν),gk=64-k/\k<=64/\a4=I G k/\Fy wv wb (E e) (I G z) (J U 0 0) (J d i f) (J g8 (i+1) g7) (J j4 (i+2) j1) c6 i (i+1) (i+2) (i+k) wr)
 ·exact⟨0,_,M,D,M,j7⟩
 clear j7 c7 c8 c9 e0 e1 e2;obtain⟨k,c6,a5,_,rfl,o⟩:=hrel;subst a5;generalize h2:wr=wq at*;clear h2;have a8:=o.size;obtain⟨j5,j2,rfl⟩:=o.m3.sl;have n:=o.box;obtain⟨c7,c8,c9,e0,e1⟩:=iI n;by_cases b7:k<64
 ·have s:=c3.out o;have b9:=(aI (j:=0) s).trans M;have c0:=(aI (j:=1) s).trans M;have k1:=af s;have m:=o.ah (ai _ (δ #[I G z,J U 0 0] 165));clear s;go_wp2_with(at_builtin;refine lD _ M (.tmp 61) (.tmp 63) M (wb+1) h1 h3 h4 h5 M (wX z) M (J j5 (i+k) j2) (i+k) M m.m3 (γ (Y (Q wq)) 0 U) 1 1 M ag (Te M) D aN ?_;intro N y L b2 b1 b3;have g:=m.Fv m.m3 m.s3 b2 b3;have hF:=m.far (v':=N) m.s3 b1;obtain⟨j3,j6,rfl⟩:=L.sl;have c5:=g.box;have k0:=af c5;obtain⟨l7,l8,_,_,_⟩:=iI c5;have e2:α y (γ (Y (Q wv)) 3 U)=false:=by simp[α,c5])
  go_roundg (64-(k+1))
  case measure=>omega
  exact⟨k+1,_,M,D,aP,g.set 3 _ (by simp[ι,ε,c5]) g.m1 g.m2 L g.s1 g.s2 hF⟩
 obtain rfl:k=64:=D;have h7:∀(a:H) (p:A0 ν) (F:Ψ) (K:H×H),wo.heap[a]? =V (δ p F K)->F≠165->(J d i f).ownBlock≠V a:=λa p F K b c4 c=>by
  obtain⟨_,_,_,q⟩:=a9.out a c;rw[q]at b;cases b;exact c4 M
 have R:∀(a:H) (p:A0 ν) (F:Ψ) (K:H×H),wo.heap[a]? =V (δ p F K)->F≠165->wq.heap[a]? =wo.heap[a]? :=λa p F K b c4=>
  (o.FX a (Nat.lt_of_lt_of_le (af b) j9) (h7 a p F K b c4)).trans (c2 a (af b) (h7 a p F K b c4))
 have b0:=(R _ _ _ _ P ag).trans P;have own:=gm e7.own λc1 p K a8=>R c1 p _ K a8 ag;have:η wq (γ wb 7 U)=V (J a0 (E e) a1):=aC b0;have h2:=af b0;change Hid _ at b0;have m6:∀h8:Obj,(wq.alloc h8).drew.ownsRow (wb+1) 89 5 (J a0 (E e) a1) (E e) (jd e):=λh8=>World.ownsRow.drew (World.ownsRow.alloc own h8);have n2:(J a0 (E e) a1).ownBlock≠V wb:=λc=>cz ((own.lt _ c).1);have i9:=fun {a3:World} {h0 g9:Nat} (j0:Obj)=>UL (w10:=a3) (g7:=h0) (cap7:=g9) (n:=i+64) (W1:=(wq.alloc j0).drew) D D D D D M k9 e7 a9 c2 j9 g4 g5 o b0 own (ai wq j0).drew;have m5:Hid _:= @i9;clear i9 own R h7 P o c3 a9 c2 e7 g5 g4;go_upto_region 18 with fail
 go_region_law (refine step_append_lies _ M (.tmp 70) (.tmp 72) 36 M (wb+1) 89 n5 _ 5 104 underlying36 m7 m8 m9 n0 M ag (J a0 (E e) a1) (E e) (jd e) jl (m6 _) (γ (Y (Q wq)) 0 U) 1 1 [J d i f,J g8 (i+1) g7,J j4 (i+2) j1,J j5 (i+64) j2,I G (E e:Int)] jl M (World.news_of_block (LK wq)) (by intro x W;simp only[List.mem_cons,List.not_mem_nil,or_false]at W;rcases W with rfl|rfl|rfl|rfl|rfl<;>rfl) ag fD D aN (Y (Q wq)+1) ak ?_;intro h0 g9 a3 n1 j8 _ _;have h6:a3.heap[wb]? =_:=(j8.block wb aN n2.symm).trans ((Θ _ _ _ h2).trans b0);have:=af h6;have:η a3 (γ wb 7 U)=V (J a0 (E e) a1):=aC h6;have:α a3 (γ wb 7 U)=false:=by simp[α,h6])
 all_goals(go_wp2_with fail)
 all_goals
  go_end0
  exact⟨M,m0 _ (m5 _ j8 n1)⟩
end Go.Proofs.YthkeffolmbnkaaaGreatDoor

import Derived.Test.YtdifpeaklamhnaaGreatDoorLbKZ
import Derived.Test.YtdifpeaklamhnaaGreatDoorBkDZ
import Derived.Test.YtdifpeaklamhnaaGreatDoorRwA
set_option linter.unusedVariables false
set_option linter.unusedSimpArgs false
set_option maxRecDepth 100000
set_option maxHeartbeats 0
namespace Go.Proofs.YtdifpeaklamhnaaGreatDoor
open Go.Proofs.Tryz
open Go.RowKit
open Below (refl)
open List (getElem?_of_mem length_append)
open Nat (le_of_lt le_refl)
theorem Qm.mono{w0:World}{C a:List Ln}{l:Ln}(h:Qm w0 C l)(d:∀l∈C,l∈a):Qm w0 a l:=by
 obtain⟨rows,b,c⟩:=h;exact⟨rows,b,c.mono d⟩
theorem Fz{w0 w:World}{lo:Nat}{C:List Ln}{r:eX}{l:List au}{xo:Option Addr}{xn xc:Nat}(v:∀x∈C,pF (rO Hq w0 3) w 56 3 nV lo x)(h:dF C r (.slice xo xn xc))(m:r.cs=bZ l)(s:r.rn=l.length)(B:r.rn<=1048576):dU w (.slice xo xn xc) l:=by
 rcases h with⟨G,e⟩|⟨g,e,A⟩
 ·cases e;have:l= []:=List.eq_nil_of_length_eq_zero (by omega);subst this;exact⟨⟨none,0,rfl,by simp,.inl rfl⟩,λ_ _ _ e _ _ k=>by cases e;cases k⟩
 ·cases e;have q:=v _ A;have a:=q.row;have d:=a;obtain⟨t,hb,_,_⟩:=d;refine⟨⟨some ⟨g,0,none⟩,r.rn+3,by rw[s],by rw[<-s];unfold maxLen;omega,.inr ⟨g,0,rfl,a.lt,λi c y=> ?_⟩⟩,λF n cap e b o k=> ?_⟩
  ·have p:∀(j:Nat) (u:Value),j<3->([Value.int .i64 c.1,.int .i64 c.2.1,.string (aa c.2.2)]:List Value)[j]? =some u->w.cell? ⟨g,0+i*3+j,none⟩=some u:=λj u z D=>by
    have E:=jZ (λf:au=>[Value.int .i64 f.1,.int .i64 f.2.1,.string (aa f.2.2)]) (λ_=>rfl) l i j c y z;rw[Nat.zero_add];exact mV q (j:=i*3+j) (by show r.cs[i*3+j]? =some u;rw[m];exact E.trans D)
   exact⟨p 0 _ (by omega) rfl,p 1 _ (by omega) rfl,p 2 _ (by omega) rfl⟩
  ·cases e;cases k;exact⟨_,_,hb⟩
theorem LW(w0 w:World)(b:Nat)(C R X K B F:List Ln)(j:bG w0 w b C R X K B F)(p:Below w0.heap.size w0 w)(k:eX)(c:qC w0 k)(z:C.length<=1099520000000):
  Calls prog 31 #[.pointer (some ⟨b,0,none⟩),.slice k.ro k.rn k.rc] w λe w'=>∃(xo:Option Addr) (xn xc:Nat) (d:List Ln),e=.returned (.slice xo xn xc)/\d.length<=1/\bG w0 w' b (C++d) R X K B F/\dF (C++d) k (.slice xo xn xc)/\Below b w w'/\bR w w' lT:=by
 obtain⟨ro,rn,rc,cs⟩:=k
 cases ro with
 |none=>
  obtain⟨f,i⟩:=c.nil rfl;dsimp only at f i;subst f i;refine(wI w b).mono ?_;rintro e w' ⟨rfl,rfl⟩;exact⟨none,0,0,[],rfl,by simp,by rw[List.append_nil];exact j,.inl ⟨rfl,rfl⟩,refl _ _,bR.refl _ _⟩
 |some m=>
  obtain⟨L,I,J,vk,vb,H,⟨s1,s2,s3,D,E,G⟩,t,r,u,y,s,q,hF⟩:=j;obtain⟨a,o,n,rfl⟩:=s1;refine(wH w0 w b a o n _ C t rfl r z p m rn rc cs c.small c.want c.one c.ty).mono ?_;rintro e w' ⟨g,v,rfl,hO',hC',hv,hBl,hKp⟩;refine⟨some ⟨g,0,none⟩,rn,rn+3,[⟨g,rn,some m,rc,cs⟩],rfl,by simp,⟨v,I,J,vk,vb,H,⟨hv,s2,s3,D,E,G⟩,hO',hC',(u.typed hKp (by decide) (by decide) (by decide) (by decide)).mono λl _ h=>h.mono λx A=>List.mem_append_left _ A,y.typed hKp (by decide) (by decide) (by decide) (by decide),s.typed hKp (by decide) (by decide) (by decide) (by decide),q.typed hKp (by decide) (by decide) (by decide) (by decide),hF.typed hKp (by decide) (by decide) (by decide) (by decide)⟩,.inr ⟨g,rfl,List.mem_append_right _ (by simp)⟩,hBl,hKp.l (by decide) (by decide)⟩
def lM(w:World)(b off n:Nat):Prop:=∀i,i<n->∃(r:eX) (l:List au),w.cell? ⟨b,off+i,none⟩=some (.slice r.ro r.rn r.rc)/\qC w r/\r.cs=bZ l/\r.rn=l.length/\aR w (.slice r.ro r.rn r.rc) l
theorem lM.ah{w x:World}{b a n:Nat}(h:lM w b a n)(hb:Below w.heap.size w x)(k:b<w.heap.size):lM x b a n:=by
 intro i j;obtain⟨r,l,c,d,e,f,g⟩:=h i j;exact⟨r,l,(hb.cell (p:=⟨b,_,none⟩) k).trans c,d.ah hb,e,f,g.ah hb⟩
structure jM(w0 w:World)(wb:Nat)(a0:Option Addr)(l0 c0:Nat)(g1:Value)(a2:Option Addr)(l2 c2:Nat)(es:List TE):Prop where
 lo:w0.heap.size<=wb
 ng:Below w0.heap.size w0 w
 Uy:sJ w0
 bk:nQ w wb (.slice a0 l0 c0) g1 (.slice a2 l2 c2) es
 small:l0<=1048576
 PP:l2<=1048576
 Sm:l0=0\/∃b off,a0=some ⟨b,off,none⟩/\b<w0.heap.size/\iJ w0 b off l0
 args:l2=0\/∃b off,a2=some ⟨b,off,none⟩/\b<w0.heap.size/\lM w0 b off l2
def wD(w:World)(wb:Nat)(g0 g1 g2:Value)(es:List TE)(e:Ending)(w':World):Prop:=e=.returned (.bool true)/\Below wb w w'/\iU w w' 82 40/\∃es':List TE,es'.length<=es.length+2/\nQ w' wb g0 g1 g2 es'
theorem jM.next{w0 w w':World}{wb:Nat}{a0:Option Addr}{d b:Nat}{g1:Value}{a2:Option Addr}{l2 c:Nat}{es a:List TE}(h:jM w0 w wb a0 d b g1 a2 l2 c es)(hb:Below wb w w')(e:nQ w' wb (.slice a0 d b) g1 (.slice a2 l2 c) a):jM w0 w' wb a0 d b g1 a2 l2 c a:=
 ⟨h.lo,h.ng.trans (hb.mono h.lo),h.Uy,e,h.small,h.PP,h.Sm,h.args⟩
theorem jM.ah{w0 w w':World}{wb:Nat}{a0:Option Addr}{c a:Nat}{g1:Value}{a2:Option Addr}{l2 b:Nat}{es:List TE}(h:jM w0 w wb a0 c a g1 a2 l2 b es)(hb:Below w.heap.size w w'):jM w0 w' wb a0 c a g1 a2 l2 b es:=
 h.next (hb.mono (by obtain⟨_,_,_,d,_⟩:=h.bk.row;exact le_of_lt (af d))) (h.bk.ah hb)
structure BF(wS bb ib:Nat)(oc:Array Value)(v0 v1 x0 x1:Value)(v:World):Prop where
 op:v.heap[wS]? =some (.cells oc 44 (0,0))
 b:v.heap[bb]? =some (.cells #[v0,v1] 67 (0,0))
 i:v.heap[ib]? =some (.cells #[x0,x1] 67 (0,0))
theorem BF.ah{f a c:Nat}{d:Array Value}{v0 e g j:Value}{v v':World}(h:BF f a c d v0 e g j v)(hb:Below v.heap.size v v'):BF f a c d v0 e g j v':=⟨fe hb h.op,fe hb h.b,fe hb h.i⟩
theorem BF.Ub{g c d:Nat}{e:Array Value}{v0 f j k:Value}{v v':World}(h:BF g c d e v0 f j k v)(a:bR v v' lT):BF g c d e v0 f j k v':=⟨(a _ _ _ _ h.op (by decide)).trans h.op,(a _ _ _ _ h.b (by decide)).trans h.b,(a _ _ _ _ h.i (by decide)).trans h.i⟩
structure JF(w0 w:World)(wb wS bb ib mb:Nat)(oc:Array Value)(v0 v1 x0 x1:Value)(C R X K B F:List Ln)(v:World):Prop where
 low:Below w.heap.size w v
 bf:BF wS bb ib oc v0 v1 x0 x1 v
 lo:bG w0 v mb C R X K B F
theorem JF.ah{w0 w:World}{wb f a b c:Nat}{d:Array Value}{v0 e g i:Value}{C R X K B F:List Ln}{v v':World}(h:JF w0 w wb f a b c d v0 e g i C R X K B F v)(hb:Below v.heap.size v v'):JF w0 w wb f a b c d v0 e g i C R X K B F v':=⟨h.low.trans (hb.mono h.low.size),h.bf.ah hb,h.lo.ah hb⟩
theorem uP{w:World}{a:Nat}{v:Value}{b:List Bs}(h:w.ownsRow a 9 1 v b.length (bD b))(e:b.length<=maxLen):iX w v b:=by
 have j:=h;rcases h.2 with⟨rfl,c⟩|⟨g,cap,f,rfl,_,m,_⟩
 ·exact⟨none,0,by rw[c],e,.inl (List.eq_nil_of_length_eq_zero c)⟩
 ·refine⟨_,cap,rfl,e,.inr ⟨g,0,rfl,af m,λi l d=> ?_⟩⟩;have k:=(List.getElem?_eq_some_iff.mp d).1;have:=World.ownsRow.cellAt j i (by omega);rw[Nat.zero_add,this,bD,List.getElem?_map,d];rfl
theorem Le{c:List nk}{h:List aT}{a name:Bs}{args:List au} :(lW c h a name args).2.1.length<=300:=by
 unfold lW;split
 ·simp[oF]
 split
 ·simp[oF]
 next p e=>
 split
 ·simp[oF]
 split
 ·simp[oF]
 next fn b=>
 split
 ·next g=>
  obtain⟨r,f,_,d,_⟩:=yF (user:=a) e b g (by omega);rw[f];exact d
 ·simp[oF]
structure Made(A:Nat)(r:oh)(q:Nat)(no:Option Addr)(nn nc:Nat)(v:World):Prop where
 box:v.heap[q]? =some (jY r.1)
 row:v.ownsRow A 9 1 (.slice no nn nc) r.2.1.length (bD r.2.1)
theorem Made.ah{A:Nat}{r:oh}{q:Nat}{c:Option Addr}{b a:Nat}{v v':World}(h:Made A r q c b a v)(hb:Below v.heap.size v v'):Made A r q c b a v':=⟨fe hb h.box,aA h.row λg d=>hb.block g (World.ownsRow.lt h.row g d).2⟩
theorem Made.Ub{A:Nat}{r:oh}{q:Nat}{e:Option Addr}{d c:Nat}{v v':World}(h:Made A r q e d c v)(b:bR v v' lT):Made A r q e d c v':=⟨(b _ _ _ _ h.box (by decide)).trans h.box,dK h.row λq a f g=>b q a _ f g (by decide)⟩
theorem bC.far{j:Ln->Prop}{w x:World}{T d:TypeId}{z o q:Nat}{b:Nat->Value}{v:Value}{f:List Ln}(h:bC j w T d z b o v f)(n:∀g,g≠q->x.heap[g]? =w.heap[g]?)(t:∀l∈f,l.g≠q){c:Array Value}{i:TypeId}{k:Nat × Nat}(s:w.heap[q]? =some (.cells c i k))(r:d≠i):bC j x T d z b o v f:=
 ⟨dK h.own λg p k m=>n g λe=>(by subst e;rw[s]at m;cases m;exact r rfl),λl a=>⟨(h.each l a).row.of_block (n _ (t l a)),(h.each l a).len,(h.each l a).lo,(h.each l a).small,(h.each l a).want⟩,h.apart⟩
theorem bG.QM{w0 v x:World}{f q:Nat}{C R X K B F:List Ln}(h:bG w0 v f C R X K B F){a0 a1 a2:Value}(b:v.heap[q]? =some (.cells #[a0,a1,a2] 56 (0,0)))(d:∀g,g≠q->x.heap[g]? =v.heap[g]?):bG w0 x f C R X K B F:=by
 obtain⟨G,I,J,vk,vb,H,y,k,m,n,o,p,r,s⟩:=h;have a:∀ {w:Ln->Prop} {T u:TypeId} {z:Nat} {i:Nat->Value} {v':Value} {t:List Ln},bC w v T u z i f v' t->T≠56->∀l∈t,l.g≠q:=λD A l j e=>by
  obtain⟨c,hb,_⟩:=(D.each l j).row;rw[e,b]at hb;cases hb;exact A rfl
 refine⟨G,I,J,vk,vb,H,y,(d f λe=> ?_).trans k,m.far d (λl j e=> ?_) b (by decide),n.far d (a n (by decide)) b (by decide),o.far d (a o (by decide)) b (by decide),p.far d (a p (by decide)) b (by decide),r.far d (a r (by decide)) b (by decide),s.far d (a s (by decide)) b (by decide)⟩
 ·subst e;rw[k]at b;cases b
 ·obtain⟨c,hb,E,_⟩:=(m.each l j).row;rw[e,b]at hb
  cases hb;simp at E;omega
theorem JF.box{w0 w:World}{wb p j l m q:Nat}{n:Array Value}{v0 o r s:Value}{C R X K B F:List Ln}{v:World}(h:JF w0 w wb p j l m n v0 o r s C R X K B F v){a0 a1 a2:Value}(k:v.heap[q]? =some (.cells #[a0,a1,a2] 56 (0,0)))(u:w.heap.size<=q)(b0 b1 b2:Value):JF w0 w wb p j l m n v0 o r s C R X K B F (((v.setCell ⟨q,0,none⟩ b0).setCell ⟨q,1,none⟩ b1).setCell ⟨q,2,none⟩ b2):=by
 have d:∀g,g≠q->(((v.setCell ⟨q,0,none⟩ b0).setCell ⟨q,1,none⟩ b1).setCell ⟨q,2,none⟩ b2).heap[g]? =v.heap[g]? :=λg a=>bF _ _ _ _ _ _ a;have f:∀ {g:Nat} {c:Array Value} {T:TypeId},v.heap[g]? =some (.cells c T (0,0))->T≠56->g≠q:=λa t e=>by subst e;rw[k]at a;cases a;exact t rfl
 exact⟨aI h.low u _ _ _,⟨(d _ (f h.bf.op (by decide))).trans h.bf.op,(d _ (f h.bf.b (by decide))).trans h.bf.b,(d _ (f h.bf.i (by decide))).trans h.bf.i⟩,h.lo.QM k d⟩
theorem Made.set{A:Nat}{r:oh}{q:Nat}{i:Option Addr}{f d:Nat}{v:World}(h:Made A r q i f d v){p:Nat}{c:Array Value}(k:v.heap[p]? =some (.cells c 56 (0,0)))(a:p≠q)(b0 b1 b2:Value):Made A r q i f d (((v.setCell ⟨p,0,none⟩ b0).setCell ⟨p,1,none⟩ b1).setCell ⟨p,2,none⟩ b2):=
 ⟨(bF _ _ _ _ _ _ (Ne.symm a)).trans h.box,dK h.row λg j l b=>bF _ _ _ _ _ _ λe=>(by subst e;rw[k]at b;cases b)⟩
theorem uB{A:Nat}{r:oh}{q:Nat}{h:Option Addr}{f d:Nat}{v:World}{a0 a1 a2:Value}(c:v.heap[q]? =some (.cells #[a0,a1,a2] 56 (0,0))){a:Nat}(k:v.ownsRow a 9 1 (.slice h f d) r.2.1.length (bD r.2.1))(j:A<=a):Made A r q h f d (((v.setCell ⟨q,0,none⟩ (.int .i64 r.1.1)).setCell ⟨q,1,none⟩ (.int .i64 r.1.2.1)).setCell ⟨q,2,none⟩ (.string (aa r.1.2.2))):=
 ⟨kQ c _ _ _,oV (dK k λg i l b=>bF _ _ _ _ _ _ λe=>(by subst e;rw[c]at b;cases b)) j⟩
theorem zg{A:Nat}{r:oh}{d:Option Addr}{c b:Nat}{v:World}{a:Nat}(f:v.ownsRow a 9 1 (.slice d c b) r.2.1.length (bD r.2.1))(e:A<=a):Made A r v.heap.size d c b (v.alloc (jY r.1)):=⟨heap_alloc_new _ _,oV (World.ownsRow.alloc f _) e⟩
structure Uv(w:World)(wb A1 A2:Nat)(l1 l2:Value)(ns:List Bs)(v:World):Prop where
 r1:v.ownsRow A1 9 1 l1 ns.length (bD ns)
 r2:v.ownsRow A2 9 1 l2 ns.length (bD ns)
 lt:∀g,l1.ownBlock=some g->g<A2
 a1:w.heap.size<=A1
 a2:A1<=A2
 wl:wb<w.heap.size
section
variable {w v v' x : World} {wb A1 A2 : Nat} {l1 l2 : Value} {ns : List Bs} {g0 g1 g2 : Value} {es : List TE}
theorem mW{A:Nat}{l:Value}(h:v.ownsRow A 9 1 l ns.length (bD ns)){g:Nat}(b:l.ownBlock=some g):A<=g/\g<v.heap.size/\∃a,v.heap[g]? =some (.cells a 9 (0,0)):=by
 refine⟨(World.ownsRow.lt h g b).1,(World.ownsRow.lt h g b).2, ?_⟩;rcases h.2 with⟨rfl,_⟩|⟨d,cap,a,rfl,_,c,_⟩
 ·cases b
 ·cases b;exact⟨a,c⟩
theorem Uv.sep(h:Uv w wb A1 A2 l1 l2 ns v)(hb:nQ w wb g0 g1 g2 es):∀e∈es,∀u∈Ku e,∀g,u.ownBlock=some g->l1.ownBlock≠some g:=λe a u f g b d=>by
 obtain⟨i,c⟩:=getElem?_of_mem a;have j:=((hb.each i e c).lt f b).2.1;have k:=(mW h.r1 d).1;have:=h.a1;omega
theorem Uv.next(h:Uv w wb A1 A2 l1 l2 ns v)(hb:nQ w wb g0 g1 g2 es){f:TE}(n:∀u∈Ku f,∀g,u.ownBlock=some g->l1.ownBlock=some g\/v.heap.size<=g)(p:∀(q:Nat) (a:Array Value) (T:TypeId) (j:Nat × Nat),v.heap[q]? =some (.cells a T j)->T≠82->T≠40->l1.ownBlock≠some q->v'.heap[q]? =v.heap[q]?):
  v'.ownsRow A2 9 1 l2 ns.length (bD ns)/\∀e∈es++ [f],∀u∈Ku e,∀g,u.ownBlock=some g->l2.ownBlock≠some g:=by
 refine⟨aA h.r2 λg c=> ?_,λe b u d g c r=> ?_⟩
 ·obtain⟨k,_,a,s⟩:=mW h.r2 c;exact p g a _ _ s (by decide) (by decide) λe=>by have:=h.lt g e;omega
 ·obtain⟨k,t,_⟩:=mW h.r2 r;have l:=h.a1;have m:=h.a2;rcases List.mem_append.mp b with b|b
  ·obtain⟨i,o⟩:=getElem?_of_mem b;have:=((hb.each i e o).lt d c).2.1;omega
  ·rw[List.mem_singleton.mp b]at d;rcases n u d g c with h'|h'
   ·have:=h.lt g h';omega
   ·omega
theorem nQ.move(h:nQ v wb g0 g1 g2 es)(m:x.heap[wb]? =v.heap[wb]?)(k:∀(q:Nat) (a:Array Value) (d:Nat × Nat),v.heap[q]? =some (.cells a 82 d)->x.heap[q]? =v.heap[q]?)(l:∀e∈es,∀u∈Ku e,∀g,u.ownBlock=some g->x.heap[g]? =v.heap[g]?):nQ x wb g0 g1 g2 es:=by
 obtain⟨b,o,n,f,j⟩:=h.row;exact⟨⟨b,o,n,m.trans f,dK j k⟩,λi e c=>(h.each i e c).move (l e (List.mem_of_getElem? c))⟩
end
theorem bC.marks{k:Ln->Prop}{w x:World}{d:TypeId}{z n A:Nat}{f:Nat->Value}{v:Value}{j:List Ln}(h:bC k w 9 d z f n v j)(s:∀l∈j,l.g<A)(m:∀(q:Nat) (a:Array Value) (T:TypeId) (i:Nat × Nat),w.heap[q]? =some (.cells a T i)->T≠82->T≠40->(T=9->q<A)->x.heap[q]? =w.heap[q]?)(o:d≠82)(p:d≠40)(r:d≠9):bC k x 9 d z f n v j:=
 ⟨dK h.own λq a i t=>m q a d i t o p λe=>absurd e r,λl b=>⟨(h.each l b).row.of_block (by obtain⟨c,hb,_⟩:=(h.each l b).row;exact m _ _ _ _ hb (by decide) (by decide) λ_=>s l b),(h.each l b).len,(h.each l b).lo,(h.each l b).small,(h.each l b).want⟩,h.apart⟩
theorem bG.UI{w0 w x:World}{j A:Nat}{C R X K B F:List Ln}(h:bG w0 w j C R X K B F)(t:∀l∈X,l.g<A)(i:∀(q:Nat) (a:Array Value) (T:TypeId) (d:Nat × Nat),w.heap[q]? =some (.cells a T d)->T≠82->T≠40->(T=9->q<A)->x.heap[q]? =w.heap[q]?):bG w0 x j C R X K B F:=by
 have b:bR w x [82,40,9]:=λq a T d u c=>by
  simp only[List.mem_cons,List.not_mem_nil,or_false,not_or]at c;exact i q a T d u c.1 c.2.1 λe=>absurd e c.2.2
 obtain⟨v,z,D,vk,vb,y,k,f,m,n,o,p,r,s⟩:=h;exact⟨v,z,D,vk,vb,y,k,(b _ _ _ _ f (by decide)).trans f,m.eU b (by decide) (by decide),n.eU b (by decide) (by decide),o.marks t i (by decide) (by decide) (by decide),p.eU b (by decide) (by decide),r.eU b (by decide) (by decide),s.eU b (by decide) (by decide)⟩
theorem step_fin{w v C v2 v3:World}{wb B A1 A2:Nat}{l1 l2:Value}{ns:List Bs}{g0 g1 g2:Value}{es:List TE}{X:List Ln}(h:Uv w wb A1 A2 l1 l2 ns v)(hb:nQ w wb g0 g1 g2 es)(H:w.heap.size<=B)(E:∀l∈X,l.g<A1)(r:∀l∈X,B<l.g)(D:A1<=v.heap.size)
  {m n:TE} (s:∀u∈Ku m,∀g,u.ownBlock=some g->l1.ownBlock=some g\/v.heap.size<=g) (t:∀u∈Ku n,∀g,u.ownBlock=some g->l2.ownBlock=some g\/C.heap.size<=g) (K:v.heap.size<=C.heap.size) (d:nQ v2 wb g0 g1 g2 (es++ [m]++ [n]))
  (k:bR v2 v3 KE) (x:∀(q:Nat) (a:Array Value) (o:Nat × Nat),v2.heap[q]? =some (.cells a 9 o)->(∀l∈X,q≠l.g)->v3.heap[q]? =v2.heap[q]?):nQ v3 wb g0 g1 g2 (es++ [m]++ [n]):=by
 obtain⟨O,R,Q,L,_⟩:=d.row;have p:=h.a2;have y:∀g,l1.ownBlock=some g->A1<=g:=λg c=>(mW h.r1 c).1;have z:∀g,l2.ownBlock=some g->A1<=g:=λg c=>Nat.le_trans p (mW h.r2 c).1;refine d.move (k _ _ _ _ L (by decide)) (λq a o I=>k q a _ o I (by decide)) λe b u f g c=> ?_;obtain⟨i,F⟩:=getElem?_of_mem b;obtain⟨_,_,a,J⟩:=(d.each i e F).lt f c;refine x g a _ J λl A P=> ?_;have M:=E l A;have N:=r l A;rcases List.mem_append.mp b with b|b
 ·rcases List.mem_append.mp b with b|b
  ·obtain⟨j,G⟩:=getElem?_of_mem b;have:=((hb.each j e G).lt f c).2.1;omega
  ·rw[List.mem_singleton.mp b]at f;rcases s u f g c with h'|h'
   ·have:=y g h';omega
   ·omega
 ·rw[List.mem_singleton.mp b]at f;rcases t u f g c with h'|h'
  ·have:=z g h';omega
  ·omega
def Sn(n:Nat)(f:Func):Code:=((f.body.bind (iF n)).getD .skip)
theorem KT(ib wS mb:Nat)(f:World)(r8:Option Addr)(r7 r6:Nat)(bo:Option Addr)(bn bc:Nat)(sb tb:Bs)(ro:Option Addr)(rn rc:Nat)(rr:oh)(args:List au)(ST:List Ln->World->Prop)(M:World->Prop)(C:List Ln)(H0:C.length<=1099519000000)(S5:ST C f)(M5:M f)
  (a:∀(h:List Ln) (v v':World),ST h v->Below v.heap.size v v'->ST h v') (k:∀(h:List Ln) (v:World) (q:Nat) (a0 a1 a2:Value),ST h v->v.heap[q]? =some (.cells #[a0,a1,a2] 56 (0,0))->f.heap.size<=q->∀b0 b1 b2:Value,ST h (((v.setCell ⟨q,0,none⟩ b0).setCell ⟨q,1,none⟩ b1).setCell ⟨q,2,none⟩ b2))
  (g:∀v v':World,M v->Below v.heap.size v v'->M v') (s2:∀v v':World,M v->bR v v' lT->M v') (s3:∀(v:World) (q:Nat) (c:Array Value),M v->v.heap[q]? =some (.cells c 56 (0,0))->f.heap.size<=q->∀b0 b1 b2:Value,M (((v.setCell ⟨q,0,none⟩ b0).setCell ⟨q,1,none⟩ b1).setCell ⟨q,2,none⟩ b2))
  (b:∀(h:List Ln) (v:World),ST h v->v.cell? ⟨ib,0,none⟩=some (.slice r8 r7 r6)/\v.cell? ⟨ib,1,none⟩=some (.slice bo bn bc)/\v.cell? ⟨wS,3,none⟩=some (.string (aa sb))/\v.cell? ⟨wS,4,none⟩=some (.string (aa tb)))
  (r9:∀(h:List Ln) (v:World),ST h v->h.length<=1099520000000->Calls prog 31 #[.pointer (some ⟨mb,0,none⟩),.slice ro rn rc] v λe w'=>∃(xo:Option Addr) (xn xc:Nat) (l:List Ln),e=.returned (.slice xo xn xc)/\l.length<=1/\ST (h++l) w'/\dU w' (.slice xo xn xc) args/\bR v w' lT/\v.heap.size<=w'.heap.size)
  (r5:∀(h:List Ln) (v:World) (xo:Option Addr) (xn xc:Nat),ST h v->dU v (.slice xo xn xc) args->Calls prog 30 #[.agg #[.slice r8 r7 r6,.slice bo bn bc],.string (aa sb),.string (aa tb),.slice xo xn xc] v λe w'=>gM v rr e w') (G9:ib<f.heap.size) (G8:wS<f.heap.size)
  (u0 u1 u2 u4 u5 u8 u9 s5 s6 s7 s8 v2 w0 G2 G3 G4 w1 w2 w3 w4 w8 w9 x0 x1 x2 x3 x4 x5 x6 x7 x8 x9 y0 y1 y2 y3 y4 y5 y6 y7 y8 y9 z3 z4 z5 z6 z7 z8 z9 A0 A1 A2 A3 A4 A5 A6 A7 A8 A9 B0 B1 B2 B3 B4 B5 B6 B7 B8 B9 C0 C3 C4 C5 C6 C7 C8 C9 D0 D1 D2 D3 D4 D5 D6 D7 D8 D9 E0 E1 E2 E3 E4 E5 E6 E7 E8 r s t u w x y z A B D E F G H I J L N O Q R S T U V W X Y Z a3 a4 a5 a6 s9 u3 u6 u7 v0 v1 v3 v4 v5 v6 v7 v8 v9 a7 a8 a9 b3 b4 b5 b6 b7 b8 b9 c0 c1 c2 c3 c4 c5 c6 c7 c8 c9 e0 e1 e2 e3 e4 e5 e6 e7 e8 e9 g0 g1 g2 g3 g4 g5 g6 g7 g8 g9 h0 h1 h2 h3 h4 h5 h6 h7 h8 h9 i2 i3 i4 i5 i6 i7 i8 i9 j0 j1 j2 j3 j4 j5 j6 j7 j8 j9 k0 k1 k2 k3 k4 k5 k8 k9 l0 l4 l5 l7 l8 l9 m0 m1 m2 m3 m4 m5 m6 m7 m8 m9 n0 n1 n2 n3 n4 n5 n6 n7 n8 n9 o0 o1 o2 o5 o6 o7 o8 o9 p0 p1 p2 p3 p4 p5 p6 p7 p8 p9 q0 q1 q2 q3 q4 q5 q6 q7 q8 q9 r0 r1 r2 r3 r4:Value) (K K1:Act->World->Prop) (P:Ending->World->Prop)
  (hK:∀(E9 F0 F1 F2 F3 F4 F5 F6 F7 v143 F8 v145 v146:Value) (q:Nat) (p:Option Addr) (o n:Nat) (C1:List Ln) (wx:World),ST C1 wx->C1.length<=C.length+1->Made f.heap.size rr q p o n wx->M wx->f.heap.size<=q->K ⟨#[u0,u1,u2,.pointer (some ⟨wS,0,none⟩),u4,u5,.pointer (some ⟨mb,0,none⟩),.pointer (some ⟨ib,0,none⟩),u8,u9,s5,s6,s7,s8,v2,w0,.slice ro rn rc,.pointer (some ⟨q,0,none⟩),.slice p o n,.int .i64 rr.2.2,w1,w2,w3,w4,w8,w9,x0,x1,x2,x3,x4,x5,x6,x7,x8,x9,y0,y1,y2,y3,y4,y5,y6,y7,y8,y9,z3,z4,z5,z6,z7,z8,z9,A0,A1,A2,A3,A4,A5,A6,A7,A8,A9,B0,B1,B2,B3,B4,B5,B6,B7,B8,B9,C0,C3,C4,C5,C6,C7,C8,C9,D0,D1,D2,D3,D4,D5,D6,D7,D8,D9,E0,E1,E2,E3,E4,E5,E6,E7,E8,r,s,t,u,w,x,y,z,A,B,D,E,F,G,H,I,J,L,N,O,Q,R,S,T,U,V,W,X,Y,Z,a3,a4,a5,a6,E9,F0,F1,F2,F3,F4,F5,F6,F7,v143,F8,v145,v146,a7,a8,a9,b3,b4,b5,b6,b7,b8,b9,c0,c1,c2,c3,c4,c5,c6,c7,c8,c9,e0,e1,e2,e3,e4,e5,e6,e7,e8,e9,g0,g1,g2,g3,g4,g5,g6,g7,g8,g9,h0,h1,h2,h3,h4,h5,h6,h7,h8,h9,i2,i3,i4,i5,i6,i7,i8,i9,j0,j1,j2,j3,j4,j5,j6,j7,j8,j9,k0,k1,k2,k3,k4,k5,k8,k9,l0,l4,l5,l7,l8,l9,m0,m1,m2,m3,m4,m5,m6,m7,m8,m9,n0,n1,n2,n3,n4,n5,n6,n7,n8,n9,o0,o1,o2,o5,o6,o7,o8,o9,p0,p1,p2,p3,p4,p5,p6,p7,p8,p9,q0,q1,q2,q3,q4,q5,q6,q7,q8,q9,r0,r1,r2,r3,r4],[]⟩ wx):
  Code.wp prog (Sn 17 Tryz.f13) (Exit.then K (Exit.inBlock 0 (Exit.then K1 (bodyPost prog Tryz.f13 P)))) ⟨#[u0,u1,u2,.pointer (some ⟨wS,0,none⟩),u4,u5,.pointer (some ⟨mb,0,none⟩),.pointer (some ⟨ib,0,none⟩),u8,u9,s5,s6,s7,s8,v2,w0,.slice ro rn rc,G2,G3,G4,w1,w2,w3,w4,w8,w9,x0,x1,x2,x3,x4,x5,x6,x7,x8,x9,y0,y1,y2,y3,y4,y5,y6,y7,y8,y9,z3,z4,z5,z6,z7,z8,z9,A0,A1,A2,A3,A4,A5,A6,A7,A8,A9,B0,B1,B2,B3,B4,B5,B6,B7,B8,B9,C0,C3,C4,C5,C6,C7,C8,C9,D0,D1,D2,D3,D4,D5,D6,D7,D8,D9,E0,E1,E2,E3,E4,E5,E6,E7,E8,r,s,t,u,w,x,y,z,A,B,D,E,F,G,H,I,J,L,N,O,Q,R,S,T,U,V,W,X,Y,Z,a3,a4,a5,a6,s9,u3,u6,u7,v0,v1,v3,v4,v5,v6,v7,v8,v9,a7,a8,a9,b3,b4,b5,b6,b7,b8,b9,c0,c1,c2,c3,c4,c5,c6,c7,c8,c9,e0,e1,e2,e3,e4,e5,e6,e7,e8,e9,g0,g1,g2,g3,g4,g5,g6,g7,g8,g9,h0,h1,h2,h3,h4,h5,h6,h7,h8,h9,i2,i3,i4,i5,i6,i7,i8,i9,j0,j1,j2,j3,j4,j5,j6,j7,j8,j9,k0,k1,k2,k3,k4,k5,k8,k9,l0,l4,l5,l7,l8,l9,m0,m1,m2,m3,m4,m5,m6,m7,m8,m9,n0,n1,n2,n3,n4,n5,n6,n7,n8,n9,o0,o1,o2,o5,o6,o7,o8,o9,p0,p1,p2,p3,p4,p5,p6,p7,p8,p9,q0,q1,q2,q3,q4,q5,q6,q7,q8,q9,r0,r1,r2,r3,r4],[]⟩ f:=by
 conv=>arg 2;whnf
 have HK:Hid _:=hK;clear hK;have s1:=a _ _ _ S5 (refl _ f).drew;have s0:=a _ _ _ S5 (ae f (aC 0 0 ⟨#[]⟩)).drew;have s4:=heap_alloc_new f (aC 0 0 ⟨#[]⟩);have G0:=g _ _ M5 (refl _ f).drew;have F9:=g _ _ M5 (ae f (aC 0 0 ⟨#[]⟩)).drew;obtain⟨i0,i1,o3,o4⟩:=b _ _ S5
 go_region_held2 (λv=>v.cell? ⟨ib,0,none⟩=some (.slice r8 r7 r6)/\v.cell? ⟨ib,1,none⟩=some (.slice bo bn bc)/\v.cell? ⟨wS,3,none⟩=some (.string (aa sb))/\v.cell? ⟨wS,4,none⟩=some (.string (aa tb))) (first|exact b _ _ S5|exact b _ _ s1|exact b _ _ s0|exact b _ _ S6|exact b _ _ (a _ _ _ S6 (ae i (aC 0 0 ⟨#[]⟩)))|exact b _ _ m|exact b _ _ (a _ _ _ m (ae w7 (aC 0 0 ⟨#[]⟩)))|exact b _ _ (a _ _ _ m (ae w7 (jY rr.1)))|exact b _ _ (k _ _ _ _ _ _ m j (by omega) _ _ _))
  (first
   |(go_at_call 31;refine(r9 C f.drew s1 (by omega)).mono ?_;rintro e i ⟨xo,xn,xc,l,rfl,hC2,S6,hT6,hK6,hs6⟩;have d:f.heap.size<=i.heap.size:=hs6;have M6:=s2 _ _ G0 hK6)
   |(go_at_call 31;refine(r9 C (f.alloc (aC 0 0 ⟨#[]⟩)).drew s0 (by omega)).mono ?_;rintro e i ⟨xo,xn,xc,l,rfl,hC2,S6,hT6,hK6,hs6⟩;have k6:=(hK6 _ _ _ _ s4 (by decide)).trans s4;have d:f.heap.size<=i.heap.size:=le_of_lt (af k6);have M6:=s2 _ _ F9 hK6)
   |(go_at_call 30;have G1:=k6;refine(r5 (C++l) i xo xn xc S6 hT6).mono ?_;rintro e w7 ⟨p,o,n,rfl,hrow7,hb7⟩;have m:=a _ _ _ S6 hb7;have j:=fe hb7 G1;obtain⟨⟨z0,z1,z2⟩,G5,G6,G7⟩:=aJ j;have lz:=af j;have M7:=g _ _ M6 hb7)
   |(go_at_call 30;refine(r5 (C++l) i xo xn xc S6 hT6).mono ?_;rintro e w7 ⟨p,o,n,rfl,hrow7,hb7⟩;have m:=a _ _ _ S6 hb7;have M7:=g _ _ M6 hb7)
   |(go_at_call 30;refine(r5 (C++l) (i.alloc (aC 0 0 ⟨#[]⟩)) xo xn xc (a _ _ _ S6 (ae i (aC 0 0 ⟨#[]⟩))) (hT6.ah (ae i (aC 0 0 ⟨#[]⟩)))).mono ?_;rintro e w7 ⟨p,o,n,rfl,hrow7,hb7⟩;have m:=a _ _ _ (a _ _ _ S6 (ae i (aC 0 0 ⟨#[]⟩))) hb7;have j:=fe hb7 (heap_alloc_new i (aC 0 0 ⟨#[]⟩));obtain⟨⟨z0,z1,z2⟩,G5,G6,G7⟩:=aJ j;have lz:=af j;have M7:=g _ _ (g _ _ M6 (ae i (aC 0 0 ⟨#[]⟩))) hb7))
 all_goals first
  |exact HK.out _ _ _ _ _ _ _ _ _ _ _ _ _ w7.heap.size p o n (C++l) _ (a _ _ _ m (ae w7 (jY rr.1))) (by rw[length_append];omega) (zg hrow7 d) (g _ _ M7 (ae w7 (jY rr.1))) (by have:=hb7.size;omega)
  |exact HK.out _ _ _ _ _ _ _ _ _ _ _ _ _ f.heap.size p o n (C++l) _ (k _ _ _ _ _ _ m j (le_refl _) _ _ _) (by rw[length_append];omega) (uB j hrow7 d) (s3 _ _ _ M7 j (le_refl _) _ _ _) (le_refl _)
  |exact HK.out _ _ _ _ _ _ _ _ _ _ _ _ _ i.heap.size p o n (C++l) _ (k _ _ _ _ _ _ m j d _ _ _) (by rw[length_append];omega) (uB j hrow7 (by rw[World.size_alloc];omega)) (s3 _ _ _ M7 j d _ _ _) d
theorem KU(ib wS mb:Nat)(f:World)(r8:Option Addr)(r7 r6:Nat)(bo:Option Addr)(bn bc:Nat)(sb tb:Bs)(ro:Option Addr)(rn rc:Nat)(rr:oh)(args:List au)(ST:List Ln->World->Prop)(M:World->Prop)(C:List Ln)(H3:C.length<=1099519000000)(S5:ST C f)(M5:M f)
  (a:∀(h:List Ln) (v v':World),ST h v->Below v.heap.size v v'->ST h v') (k:∀(h:List Ln) (v:World) (q:Nat) (a0 a1 a2:Value),ST h v->v.heap[q]? =some (.cells #[a0,a1,a2] 56 (0,0))->f.heap.size<=q->∀b0 b1 b2:Value,ST h (((v.setCell ⟨q,0,none⟩ b0).setCell ⟨q,1,none⟩ b1).setCell ⟨q,2,none⟩ b2))
  (g:∀v v':World,M v->Below v.heap.size v v'->M v') (s2:∀v v':World,M v->bR v v' lT->M v') (s3:∀(v:World) (q:Nat) (c:Array Value),M v->v.heap[q]? =some (.cells c 56 (0,0))->f.heap.size<=q->∀b0 b1 b2:Value,M (((v.setCell ⟨q,0,none⟩ b0).setCell ⟨q,1,none⟩ b1).setCell ⟨q,2,none⟩ b2))
  (b:∀(h:List Ln) (v:World),ST h v->v.cell? ⟨ib,0,none⟩=some (.slice r8 r7 r6)/\v.cell? ⟨ib,1,none⟩=some (.slice bo bn bc)/\v.cell? ⟨wS,3,none⟩=some (.string (aa sb))/\v.cell? ⟨wS,4,none⟩=some (.string (aa tb)))
  (r9:∀(h:List Ln) (v:World),ST h v->h.length<=1099520000000->Calls prog 31 #[.pointer (some ⟨mb,0,none⟩),.slice ro rn rc] v λe w'=>∃(xo:Option Addr) (xn xc:Nat) (l:List Ln),e=.returned (.slice xo xn xc)/\l.length<=1/\ST (h++l) w'/\dU w' (.slice xo xn xc) args/\bR v w' lT/\v.heap.size<=w'.heap.size)
  (r5:∀(h:List Ln) (v:World) (xo:Option Addr) (xn xc:Nat),ST h v->dU v (.slice xo xn xc) args->Calls prog 30 #[.agg #[.slice r8 r7 r6,.slice bo bn bc],.string (aa sb),.string (aa tb),.slice xo xn xc] v λe w'=>gM v rr e w') (H2:ib<f.heap.size) (H1:wS<f.heap.size)
  (u0 u1 u2 u4 u5 u8 u9 s5 s6 s7 s8 s9 v0 w1 w2 w3 G5 G6 G7 w4 w8 w9 x0 x1 x2 x3 x4 x5 x6 x7 x8 x9 y0 y1 y2 y3 y4 y5 y6 y7 y8 y9 z3 z4 z5 z6 z7 z8 z9 A0 A1 A2 A3 A4 A5 A6 A7 A8 A9 B0 B1 B2 B3 B4 B5 B6 B7 B8 B9 C0 C3 C4 C5 C6 C7 C8 C9 D0 D1 D2 D3 D4 D5 D6 D7 D8 D9 E0 E1 E2 E3 E4 E5 E6 E7 E8 r s t u w x y z A B D E F G H I J L N O Q R S T U V W X Y Z a3 a4 a5 a6 a7 a8 a9 b3 b4 b5 b6 b7 b8 b9 c0 c1 c2 u3 u6 u7 v1 v2 v3 v4 v5 v6 v7 v8 v9 w0 c3 c4 c5 c6 c7 c8 c9 e0 e1 e2 e3 e4 e5 e6 e7 e8 e9 g0 g1 g2 g3 g4 g5 g6 g7 g8 g9 h0 h1 h2 h3 h4 h5 h6 h7 h8 h9 i2 i3 i4 i5 i6 i7 i8 i9 j0 j1 j2 j3 j4 j5 j6 j7 j8 j9 k0 k1 k2 k3 k4 k5 k8 k9 l0 l4 l5 l7 l8 l9 m0 m1 m2 m3 m4 m5 m6 m7 m8 m9 n0 n1 n2 n3 n4 n5 n6 n7 n8 n9 o0 o1 o2 o5 o6 o7 o8 o9 p0 p1 p2 p3 p4 p5 p6 p7 p8 p9 q0 q1 q2 q3 q4 q5 q6 q7 q8 q9 r0 r1 r2 r3 r4:Value) (K K1:Act->World->Prop) (P:Ending->World->Prop)
  (hK:∀(E9 F0 F1 F2 F3 F4 F5 F6 F7 F8 F9 G0 G1:Value) (q:Nat) (p:Option Addr) (o n:Nat) (C1:List Ln) (wx:World),ST C1 wx->C1.length<=C.length+1->Made f.heap.size rr q p o n wx->M wx->f.heap.size<=q->K ⟨#[u0,u1,u2,.pointer (some ⟨wS,0,none⟩),u4,u5,.pointer (some ⟨mb,0,none⟩),.pointer (some ⟨ib,0,none⟩),u8,u9,s5,s6,s7,s8,s9,v0,.slice ro rn rc,w1,w2,w3,.pointer (some ⟨q,0,none⟩),.slice p o n,.int .i64 rr.2.2,w4,w8,w9,x0,x1,x2,x3,x4,x5,x6,x7,x8,x9,y0,y1,y2,y3,y4,y5,y6,y7,y8,y9,z3,z4,z5,z6,z7,z8,z9,A0,A1,A2,A3,A4,A5,A6,A7,A8,A9,B0,B1,B2,B3,B4,B5,B6,B7,B8,B9,C0,C3,C4,C5,C6,C7,C8,C9,D0,D1,D2,D3,D4,D5,D6,D7,D8,D9,E0,E1,E2,E3,E4,E5,E6,E7,E8,r,s,t,u,w,x,y,z,A,B,D,E,F,G,H,I,J,L,N,O,Q,R,S,T,U,V,W,X,Y,Z,a3,a4,a5,a6,a7,a8,a9,b3,b4,b5,b6,b7,b8,b9,c0,c1,c2,E9,F0,F1,F2,F3,F4,F5,F6,F7,F8,F9,G0,G1,c3,c4,c5,c6,c7,c8,c9,e0,e1,e2,e3,e4,e5,e6,e7,e8,e9,g0,g1,g2,g3,g4,g5,g6,g7,g8,g9,h0,h1,h2,h3,h4,h5,h6,h7,h8,h9,i2,i3,i4,i5,i6,i7,i8,i9,j0,j1,j2,j3,j4,j5,j6,j7,j8,j9,k0,k1,k2,k3,k4,k5,k8,k9,l0,l4,l5,l7,l8,l9,m0,m1,m2,m3,m4,m5,m6,m7,m8,m9,n0,n1,n2,n3,n4,n5,n6,n7,n8,n9,o0,o1,o2,o5,o6,o7,o8,o9,p0,p1,p2,p3,p4,p5,p6,p7,p8,p9,q0,q1,q2,q3,q4,q5,q6,q7,q8,q9,r0,r1,r2,r3,r4],[]⟩ wx):
  Code.wp prog (Sn 18 Tryz.f13) (Exit.then K (Exit.inBlock 0 (Exit.then K1 (bodyPost prog Tryz.f13 P)))) ⟨#[u0,u1,u2,.pointer (some ⟨wS,0,none⟩),u4,u5,.pointer (some ⟨mb,0,none⟩),.pointer (some ⟨ib,0,none⟩),u8,u9,s5,s6,s7,s8,s9,v0,.slice ro rn rc,w1,w2,w3,G5,G6,G7,w4,w8,w9,x0,x1,x2,x3,x4,x5,x6,x7,x8,x9,y0,y1,y2,y3,y4,y5,y6,y7,y8,y9,z3,z4,z5,z6,z7,z8,z9,A0,A1,A2,A3,A4,A5,A6,A7,A8,A9,B0,B1,B2,B3,B4,B5,B6,B7,B8,B9,C0,C3,C4,C5,C6,C7,C8,C9,D0,D1,D2,D3,D4,D5,D6,D7,D8,D9,E0,E1,E2,E3,E4,E5,E6,E7,E8,r,s,t,u,w,x,y,z,A,B,D,E,F,G,H,I,J,L,N,O,Q,R,S,T,U,V,W,X,Y,Z,a3,a4,a5,a6,a7,a8,a9,b3,b4,b5,b6,b7,b8,b9,c0,c1,c2,u3,u6,u7,v1,v2,v3,v4,v5,v6,v7,v8,v9,w0,c3,c4,c5,c6,c7,c8,c9,e0,e1,e2,e3,e4,e5,e6,e7,e8,e9,g0,g1,g2,g3,g4,g5,g6,g7,g8,g9,h0,h1,h2,h3,h4,h5,h6,h7,h8,h9,i2,i3,i4,i5,i6,i7,i8,i9,j0,j1,j2,j3,j4,j5,j6,j7,j8,j9,k0,k1,k2,k3,k4,k5,k8,k9,l0,l4,l5,l7,l8,l9,m0,m1,m2,m3,m4,m5,m6,m7,m8,m9,n0,n1,n2,n3,n4,n5,n6,n7,n8,n9,o0,o1,o2,o5,o6,o7,o8,o9,p0,p1,p2,p3,p4,p5,p6,p7,p8,p9,q0,q1,q2,q3,q4,q5,q6,q7,q8,q9,r0,r1,r2,r3,r4],[]⟩ f:=by
 conv=>arg 2;whnf
 have HK:Hid _:=hK;clear hK;have s1:=a _ _ _ S5 (refl _ f).drew;have s0:=a _ _ _ S5 (ae f (aC 0 0 ⟨#[]⟩)).drew;have s4:=heap_alloc_new f (aC 0 0 ⟨#[]⟩);have G3:=g _ _ M5 (refl _ f).drew;have G2:=g _ _ M5 (ae f (aC 0 0 ⟨#[]⟩)).drew;obtain⟨i0,i1,o3,o4⟩:=b _ _ S5
 go_region_held2 (λv=>v.cell? ⟨ib,0,none⟩=some (.slice r8 r7 r6)/\v.cell? ⟨ib,1,none⟩=some (.slice bo bn bc)/\v.cell? ⟨wS,3,none⟩=some (.string (aa sb))/\v.cell? ⟨wS,4,none⟩=some (.string (aa tb))) (first|exact b _ _ S5|exact b _ _ s1|exact b _ _ s0|exact b _ _ S6|exact b _ _ (a _ _ _ S6 (ae i (aC 0 0 ⟨#[]⟩)))|exact b _ _ m|exact b _ _ (a _ _ _ m (ae w7 (aC 0 0 ⟨#[]⟩)))|exact b _ _ (a _ _ _ m (ae w7 (jY rr.1)))|exact b _ _ (k _ _ _ _ _ _ m j (by omega) _ _ _))
  (first
   |(go_at_call 31;refine(r9 C f.drew s1 (by omega)).mono ?_;rintro e i ⟨xo,xn,xc,l,rfl,hC2,S6,hT6,hK6,hs6⟩;have d:f.heap.size<=i.heap.size:=hs6;have M6:=s2 _ _ G3 hK6)
   |(go_at_call 31;refine(r9 C (f.alloc (aC 0 0 ⟨#[]⟩)).drew s0 (by omega)).mono ?_;rintro e i ⟨xo,xn,xc,l,rfl,hC2,S6,hT6,hK6,hs6⟩;have k6:=(hK6 _ _ _ _ s4 (by decide)).trans s4;have d:f.heap.size<=i.heap.size:=le_of_lt (af k6);have M6:=s2 _ _ G2 hK6)
   |(go_at_call 30;have G4:=k6;refine(r5 (C++l) i xo xn xc S6 hT6).mono ?_;rintro e w7 ⟨p,o,n,rfl,hrow7,hb7⟩;have m:=a _ _ _ S6 hb7;have j:=fe hb7 G4;obtain⟨⟨z0,z1,z2⟩,G8,G9,H0⟩:=aJ j;have lz:=af j;have M7:=g _ _ M6 hb7)
   |(go_at_call 30;refine(r5 (C++l) i xo xn xc S6 hT6).mono ?_;rintro e w7 ⟨p,o,n,rfl,hrow7,hb7⟩;have m:=a _ _ _ S6 hb7;have M7:=g _ _ M6 hb7)
   |(go_at_call 30;refine(r5 (C++l) (i.alloc (aC 0 0 ⟨#[]⟩)) xo xn xc (a _ _ _ S6 (ae i (aC 0 0 ⟨#[]⟩))) (hT6.ah (ae i (aC 0 0 ⟨#[]⟩)))).mono ?_;rintro e w7 ⟨p,o,n,rfl,hrow7,hb7⟩;have m:=a _ _ _ (a _ _ _ S6 (ae i (aC 0 0 ⟨#[]⟩))) hb7;have j:=fe hb7 (heap_alloc_new i (aC 0 0 ⟨#[]⟩));obtain⟨⟨z0,z1,z2⟩,G8,G9,H0⟩:=aJ j;have lz:=af j;have M7:=g _ _ (g _ _ M6 (ae i (aC 0 0 ⟨#[]⟩))) hb7))
 all_goals first
  |exact HK.out _ _ _ _ _ _ _ _ _ _ _ _ _ w7.heap.size p o n (C++l) _ (a _ _ _ m (ae w7 (jY rr.1))) (by rw[length_append];omega) (zg hrow7 d) (g _ _ M7 (ae w7 (jY rr.1))) (by have:=hb7.size;omega)
  |exact HK.out _ _ _ _ _ _ _ _ _ _ _ _ _ f.heap.size p o n (C++l) _ (k _ _ _ _ _ _ m j (le_refl _) _ _ _) (by rw[length_append];omega) (uB j hrow7 d) (s3 _ _ _ M7 j (le_refl _) _ _ _) (le_refl _)
  |exact HK.out _ _ _ _ _ _ _ _ _ _ _ _ _ i.heap.size p o n (C++l) _ (k _ _ _ _ _ _ m j d _ _ _) (by rw[length_append];omega) (uB j hrow7 (by rw[World.size_alloc];omega)) (s3 _ _ _ M7 j d _ _ _) d
end Go.Proofs.YtdifpeaklamhnaaGreatDoor

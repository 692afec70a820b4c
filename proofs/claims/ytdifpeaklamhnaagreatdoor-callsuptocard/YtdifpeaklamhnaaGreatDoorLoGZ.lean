import Derived.Test.YtdifpeaklamhnaaGreatDoorLoEZ
import Derived.Deep.DeepCutAuto
set_option linter.unusedVariables false
set_option linter.unusedSimpArgs false
set_option maxRecDepth 100000
set_option maxHeartbeats 0
namespace Go.Proofs.YtdifpeaklamhnaaGreatDoor
open Go.Proofs.Tryz
open Go.RowKit
open Below (refl heap_alloc heap_setCell)
open World (size_alloc setCell frozen?)
open Nat (le_refl)
open List (append_nil mem_append_left length_append)
theorem nJ{wo i w7:World}{b z n:Nat}{T:TypeId}{v:Value}{p:List Value}(own:wo.ownsRow b T z v n p)(l:Below wo.heap.size wo i)(a:i.grownBy w7 v.ownBlock){q:Nat}{c:Array Value}{f:TypeId}{k:Nat × Nat}(d:wo.heap[q]? =some (.cells c f k))(m:f≠T):w7.heap[q]? =some (.cells c f k):=by
 have o:=aB d;refine((a.block q (by have:=l.size;omega) (λe=> ?_)).trans (l.block q o)).trans d;rcases own.2 with⟨h,_⟩|⟨g1,r,j,h,_,g,_⟩
 ·rw[h]at e;cases e
 ·rw[h]at e;cases e;rw[g]at d;cases d;exact m rfl
structure lm where
 name:ByteArray
 k:eX
 ro:Option Addr
 rn:Nat
 rc:Nat
 rows:List eX
 count:Int
 aG:ByteArray
 u:eX
structure yt(w0:World)(s:lm):Prop where
 k:nC KJ w0 3 s.k
 u:nC KL w0 1 s.u
 small:s.rn<=1048576
 nil:s.ro=none->s.rn=0/\s.rc=0
 rows:lY w0 s.ro s.rn s.rows
 each:∀r∈s.rows,qC w0 r
def pI(w0:World)(wo:Option Addr)(n:Nat)(dL:List lm):Prop:=dL.length=n/\(n=0\/∃b off,wo=some ⟨b,off,none⟩/\b<w0.heap.size/\∀(i:Nat) (s:lm),dL[i]? =some s->
 w0.cell? ⟨b,off+i*6,none⟩=some (.string s.name)/\w0.cell? ⟨b,off+i*6+1,none⟩=some (.slice s.k.ro s.k.rn s.k.rc)/\w0.cell? ⟨b,off+i*6+2,none⟩=some (.slice s.ro s.rn s.rc)/\w0.cell? ⟨b,off+i*6+3,none⟩=some (.int .i64 s.count)/\
 w0.cell? ⟨b,off+i*6+4,none⟩=some (.string s.aG)/\w0.cell? ⟨b,off+i*6+5,none⟩=some (.slice s.u.ro s.u.rn s.u.rc))
def qj(R:List Ln)(ro:Option Addr)(rn rc:Nat)(v:Value):Prop:=(rn=0/\v=.slice none 0 0)\/∃g es,v=.slice (some ⟨g,0,none⟩) rn (rn+3)/\(⟨g,rn,ro,rc,es⟩:Ln)∈R
theorem qj.mono{R a:List Ln}{ro:Option Addr}{rn rc:Nat}{v:Value}(h:qj R ro rn rc v)(b:∀l∈R,l∈a):qj a ro rn rc v:=by
 rcases h with h|⟨g,es,h1,h2⟩
 ·exact .inl h
 ·exact .inr ⟨g,es,h1,b _ h2⟩
def qU(s:lm)(kv rv xv:Value):List Value:=[.string s.name,kv,rv,.int .i64 s.count,.string s.aG,xv]
def lq(K R X:List Ln)(dL:List lm)(es:List Value):Prop:=es.length=dL.length*6/\∀(i:Nat) (s:lm),dL[i]? =some s->∃kv rv xv,(∀j,j<6->es[i*6+j]? =(qU s kv rv xv)[j]?)/\dF K s.k kv/\qj R s.ro s.rn s.rc rv/\dF X s.u xv
theorem lq.mono{K R X a b c:List Ln}{dL:List lm}{d:List Value}(h:lq K R X dL d)(k:∀l∈K,l∈a)(m:∀l∈R,l∈b)(n:∀l∈X,l∈c):lq a b c dL d:=
 ⟨h.1,λi s o=>by
  obtain⟨p,q,r,e,f,g,j⟩:=h.2 i s o;exact⟨p,q,r,e,f.mono k,g.mono m,j.mono n⟩⟩
theorem lq.snoc{K R X:List Ln}{dL:List lm}{q:List Value}{s:lm}{g m o:Value}(h:lq K R X dL q)(v:dF K s.k g)(w:qj R s.ro s.rn s.rc m)(x:dF X s.u o):lq K R X (dL++ [s]) (q++qU s g m o):=by
 have t:=h.1;refine⟨by simp[t,qU];omega,λi z e=> ?_⟩;by_cases f:i<dL.length
 ·rw[List.getElem?_append_left f]at e;obtain⟨l,n,p,a,b,c,d⟩:=h.2 i z e;exact⟨l,n,p,λj r=>by rw[List.getElem?_append_left (by omega)];exact a j r,b,c,d⟩
 ·rw[List.getElem?_append_right (by omega)]at e;have y:i- dL.length=0:=by
   have:=(List.getElem?_eq_some_iff.mp e).1;simp at this;omega
  rw[y]at e;cases e;obtain rfl:i=dL.length:=by omega
  exact⟨g,m,o,λj r=>by rw[List.getElem?_append_right (by omega),t,Nat.add_sub_cancel_left],v,w,x⟩
def SI(w0:World)(K R X:List Ln)(l:Ln):Prop:=∃dL,pI w0 l.wo l.n dL/\lq K R X dL l.cs
def KH(j:Nat):Value:=if j=0 then .string ⟨#[]⟩else if j=3 then .int .i64 0 else if j=4 then .string ⟨#[]⟩else .slice none 0 0
def yN(j:Nat):Value:=if j=0 then .string ⟨#[98,101,121,111,110,100]⟩else KH j
def yM(j:Nat):Value:=if j=0 then .string ⟨#[98,101,121,111,110,100]⟩else .string ⟨#[]⟩
def DW(v:Value):Prop:=∃a n c,v=.slice a n c
def UD(C R X K B F:List Ln):Prop:=C.length<=2199023255552/\R.length<=2199023255552/\X.length<=2199023255552/\K.length<=2199023255552/\B.length<=2199023255552/\F.length<=2199023255552
def bG(w0 w:World)(mb:Nat)(C R X K B F:List Ln):Prop:=∃vc vr vx vk vb vf:Value,(DW vc/\DW vr/\DW vx/\DW vk/\DW vb/\DW vf)/\
 w.heap[mb]? =some (.cells #[vc,vr,vx,.slice none 0 0,vk,vb,vf,.slice none 0 0,.slice none 0 0] 118 (0,0))/\
 bC (rO Hq w0 3) w 56 227 3 nV mb vc C/\bC (Qm w0 C) w 57 292 1 uw mb vr R/\bC (rO KL w0 1) w 9 294 1 rQ mb vx X/\
 bC (rO KJ w0 3) w 50 290 3 rP mb vk K/\bC (SI w0 K R X) w 54 190 6 yN mb vb B/\bC (rO Sl w0 3) w 48 185 3 yM mb vf F
theorem bG.ah{w0 w x:World}{a:Nat}{C R X K B F:List Ln}(h:bG w0 w a C R X K B F)(hb:Below w.heap.size w x):bG w0 x a C R X K B F:=by
 obtain⟨k,m,n,vk,vb,l,c,b,d,e,f,g,i,j⟩:=h;exact⟨k,m,n,vk,vb,l,c,(hb.block a (aB b)).trans b,d.ah hb,e.ah hb,f.ah hb,g.ah hb,i.ah hb,j.ah hb⟩
theorem bG.other{w0 w x:World}{f g:Nat}{T':TypeId}{C R X K B F:List Ln}(h:bG w0 w f C R X K B F)(b:∀q,q≠g->x.heap[q]? =w.heap[q]?)(a:∃c,w.heap[g]? =some (.cells c T' (0,0)))(i:T'∉ [56,227,57,292,9,294,50,290,54,190,48,185,118]):bG w0 x f C R X K B F:=by
 obtain⟨s,u,v,vk,vb,t,j,d,k,l,m,n,o,p⟩:=h;simp only[List.mem_cons,List.not_mem_nil,or_false,not_or]at i;obtain⟨t0,t1,t2,t3,t4,t5,t6,t7,t8,t9,t10,t11,t12⟩:=i;refine⟨s,u,v,vk,vb,t,j,(b f λe=> ?_).trans d,k.other b a (Ne.symm t0) (Ne.symm t1),l.other b a (Ne.symm t2) (Ne.symm t3),m.other b a (Ne.symm t4) (Ne.symm t5),n.other b a (Ne.symm t6) (Ne.symm t7),o.other b a (Ne.symm t8) (Ne.symm t9),p.other b a (Ne.symm t10) (Ne.symm t11)⟩;subst e;obtain⟨c,r⟩:=a;rw[r]at d;cases d;exact t12 rfl
theorem bG.CZ{w0 w x:World}{i g:Nat}{C R X K F:List Ln}(h:bG w0 w i C R X K [] F)(b:∀q,q≠g->x.heap[q]? =w.heap[q]?)(a:∃c,w.heap[g]? =some (.cells c 54 (0,0))):bG w0 x i C R X K [] F:=by
 obtain⟨v,z,A,vk,vb,y,m,d,n,o,p,r,s,t⟩:=h;refine⟨v,z,A,vk,vb,y,m,(b i λe=> ?_).trans d,n.other b a (by decide) (by decide),o.other b a (by decide) (by decide),p.other b a (by decide) (by decide),r.other b a (by decide) (by decide),⟨dK s.own λq k B j=>b q λe=> ?_,λl u=>by simp at u,List.Pairwise.nil⟩,t.other b a (by decide) (by decide)⟩
 ·subst e;obtain⟨c,f⟩:=a;rw[f]at d;cases d
 ·subst e;obtain⟨c,f⟩:=a;rw[f]at j;cases j
theorem za{w0 w:World}{d:Nat}(h:w.heap[d]? =some (.cells #[.slice none 0 0,.slice none 0 0,.slice none 0 0,.slice none 0 0,.slice none 0 0,.slice none 0 0,.slice none 0 0,.slice none 0 0,.slice none 0 0] 118 (0,0))):bG w0 w d [] [] [] [] [] []:=by
 have b:DW (.slice none 0 0):=⟨_,_,_,rfl⟩;have a:∀(f:Ln->Prop) (T e:TypeId) (z:Nat) (c:Nat->Value),bC f w T e z c d (.slice none 0 0) []:=λf T e z c=>⟨World.ownsRow_nil _ _ _ _,λl a=>by simp at a,List.Pairwise.nil⟩;exact⟨_,_,_,_,_,_,⟨b,b,b,b,b,b⟩,h,a _ _ _ _ _,a _ _ _ _ _,a _ _ _ _ _,a _ _ _ _ _,a _ _ _ _ _,a _ _ _ _ _⟩
theorem LJ:(Tryz.prog.info? 48).map (λi=>(i.zero,i.size,i.bytes))=some (some (.agg #[.string ⟨#[]⟩,.string ⟨#[]⟩,.string ⟨#[]⟩]),3,48):=by kernel_rfl
theorem CG:(Tryz.prog.info? 185).map (λi=>(i.zero,i.size,i.bytes))=some (some (.agg #[.slice none 0 0,.slice none 0 0]),2,48):=by kernel_rfl
theorem OD:(Tryz.prog.info? 54).map (λi=>(i.zero,i.size,i.bytes))=some (some (.agg #[.string ⟨#[]⟩,.slice none 0 0,.slice none 0 0,.int .i64 0,.string ⟨#[]⟩,.slice none 0 0]),6,112):=by kernel_rfl
theorem ET:(Tryz.prog.info? 190).map (λi=>(i.zero,i.size,i.bytes))=some (some (.agg #[.slice none 0 0,.slice none 0 0]),2,48):=by kernel_rfl
abbrev lT:List TypeId:=[227,292,294,290,118]
theorem SI.mono{w0:World}{K R X a b c:List Ln}{l:Ln}(h:SI w0 K R X l)(f:∀l∈K,l∈a)(g:∀l∈R,l∈b)(i:∀l∈X,l∈c):SI w0 a b c l:=by
 obtain⟨dL,d,e⟩:=h;exact⟨dL,d,e.mono f g i⟩
theorem OO(w0 w:World)(b:Nat)(C R X K B F:List Ln)(m:bG w0 w b C R X K B F)(q:Below w0.heap.size w0 w)(k:eX)(c:nC KJ w0 3 k)(A:K.length<=1099511627776):
  Calls prog 59 #[.pointer (some ⟨b,0,none⟩),.slice k.ro k.rn k.rc] w λe w'=>∃(xo:Option Addr) (xn xc:Nat) (f:List Ln),e=.returned (.slice xo xn xc)/\f.length<=1/\bG w0 w' b C R X (K++f) B F/\dF (K++f) k (.slice xo xn xc)/\Below b w w'/\bR w w' lT:=by
 obtain⟨ro,rn,rc,cs⟩:=k
 cases ro with
 |none=>
  obtain⟨i,j⟩:=c.nil rfl;dsimp only at i j;subst i j;refine(Io w b).mono ?_;rintro e w' ⟨rfl,rfl⟩;exact⟨none,0,0,[],rfl,by simp,by rw[append_nil];exact m,.inl ⟨rfl,rfl⟩,refl _ _,bR.refl _ _⟩
 |some n=>
  obtain⟨H,J,L,vk,vb,I,⟨s1,s2,s3,D,E,G⟩,u,s,y,z,t,r,hF⟩:=m;obtain⟨a,p,o,rfl⟩:=D;refine(Im w0 w b a p o _ K u rfl t A q n rn rc cs c.small c.want c.one c.ty).mono ?_;rintro e w' ⟨g,v,rfl,hO',hK',hv,hBl,hKp⟩;refine⟨some ⟨g,0,none⟩,rn,rn+3,[⟨g,rn,some n,rc,cs⟩],rfl,by simp,⟨H,J,L,v,vb,I,⟨s1,s2,s3,hv,E,G⟩,hO',s.typed hKp (by decide) (by decide) (by decide) (by decide),y.typed hKp (by decide) (by decide) (by decide) (by decide),z.typed hKp (by decide) (by decide) (by decide) (by decide),hK',(r.typed hKp (by decide) (by decide) (by decide) (by decide)).mono λl _ h=>h.mono (λx d=>mem_append_left _ d) (λx d=>d) (λx d=>d),hF.typed hKp (by decide) (by decide) (by decide) (by decide)⟩,.inr ⟨g,rfl,List.mem_append_right _ (by simp)⟩,hBl,hKp.l (by decide) (by decide)⟩
theorem LX(w0 w:World)(b:Nat)(C R X K B F:List Ln)(m:bG w0 w b C R X K B F)(q:Below w0.heap.size w0 w)(k:eX)(c:nC KL w0 1 k)(A:X.length<=1099511627776):
  Calls prog 61 #[.pointer (some ⟨b,0,none⟩),.slice k.ro k.rn k.rc] w λe w'=>∃(xo:Option Addr) (xn xc:Nat) (f:List Ln),e=.returned (.slice xo xn xc)/\f.length<=1/\bG w0 w' b C R (X++f) K B F/\dF (X++f) k (.slice xo xn xc)/\Below b w w'/\bR w w' lT:=by
 obtain⟨ro,rn,rc,cs⟩:=k
 cases ro with
 |none=>
  obtain⟨i,j⟩:=c.nil rfl;dsimp only at i j;subst i j;refine(GM w b).mono ?_;rintro e w' ⟨rfl,rfl⟩;exact⟨none,0,0,[],rfl,by simp,by rw[append_nil];exact m,.inl ⟨rfl,rfl⟩,refl _ _,bR.refl _ _⟩
 |some n=>
  obtain⟨H,J,L,vk,vb,I,⟨s1,s2,s3,D,E,G⟩,u,s,y,z,t,r,hF⟩:=m;obtain⟨a,p,o,rfl⟩:=s3;refine(GL w0 w b a p o _ X u rfl z A q n rn rc cs c.small c.want c.one c.ty).mono ?_;rintro e w' ⟨g,v,rfl,hO',hX',hv,hBl,hKp⟩;refine⟨some ⟨g,0,none⟩,rn,rn+3,[⟨g,rn,some n,rc,cs⟩],rfl,by simp,⟨H,J,v,vk,vb,I,⟨s1,s2,hv,D,E,G⟩,hO',s.typed hKp (by decide) (by decide) (by decide) (by decide),y.typed hKp (by decide) (by decide) (by decide) (by decide),hX',t.typed hKp (by decide) (by decide) (by decide) (by decide),(r.typed hKp (by decide) (by decide) (by decide) (by decide)).mono λl _ h=>h.mono (λx d=>d) (λx d=>d) (λx d=>mem_append_left _ d),hF.typed hKp (by decide) (by decide) (by decide) (by decide)⟩,.inr ⟨g,rfl,List.mem_append_right _ (by simp)⟩,hBl,hKp.l (by decide) (by decide)⟩
theorem OP(w0 w:World)(c:Nat)(C R X K B F:List Ln)(p:bG w0 w c C R X K B F)(y:Below w0.heap.size w0 w)(k:w0.heap.size<=c)(ro:Option Addr)(rn rc:Nat)(rows:List eX)(o:rn<=1048576)(d:ro=none->rn=0/\rc=0)(J:lY w0 ro rn rows)(n:∀r∈rows,qC w0 r)(I:C.length+rn<=1099511627776)(m:R.length<=1099511627776):
  Calls prog 60 #[.pointer (some ⟨c,0,none⟩),.slice ro rn rc] w λe w'=>∃(xo:Option Addr) (xn xc:Nat) (i j:List Ln),e=.returned (.slice xo xn xc)/\i.length<=rn/\j.length<=1/\bG w0 w' c (C++i) (R++j) X K B F/\qj (R++j) ro rn rc (.slice xo xn xc)/\Below c w w'/\bR w w' lT:=by
 cases ro with
 |none=>
  obtain⟨rfl,rfl⟩:=d rfl;refine(Jf w c).mono ?_;rintro e w' ⟨rfl,rfl⟩;exact⟨none,0,0,[],[],rfl,by simp,by simp,by rw[append_nil,append_nil];exact p,.inl ⟨rfl,rfl⟩,refl _ _,bR.refl _ _⟩
 |some q=>
  obtain⟨Q,S,P,vk,vb,O,⟨s1,s2,s3,L,M,N⟩,E,A,G,H,D,z,hF⟩:=p;obtain⟨a,t,s,rfl⟩:=s1;obtain⟨b,v,u,rfl⟩:=s2;refine(Je w0 w c a t s b v u _ C R E rfl rfl A G rn I m y k q rc rows o J n).mono ?_;rintro e w' ⟨g,a',an',ac',b',bn',bc',i,es,rfl,hO',hC',hC2,hR',hlent,hBl,hKp⟩;refine⟨some ⟨g,0,none⟩,rn,rn+3,i,[⟨g,rn,some q,rc,es⟩],rfl,hC2,by simp,⟨.slice a' an' ac',.slice b' bn' bc',P,vk,vb,O,⟨⟨_,_,_,rfl⟩,⟨_,_,_,rfl⟩,s3,L,M,N⟩,hO',hC',hR',H.eU hKp (by decide) (by decide),D.eU hKp (by decide) (by decide),(z.eU hKp (by decide) (by decide)).mono λl _ h=>h.mono (λx f=>f) (λx f=>mem_append_left _ f) (λx f=>f),hF.eU hKp (by decide) (by decide)⟩,.inr ⟨g,es,rfl,List.mem_append_right _ (by simp)⟩,hBl,hKp.mono (by decide)⟩
theorem La(w:World)(a b c:Obj):((((w.alloc a).alloc b).alloc c).heap[w.heap.size]? =some a/\(((w.alloc a).alloc b).alloc c).heap[w.heap.size+1]? =some b/\(((w.alloc a).alloc b).alloc c).heap[w.heap.size+2]? =some c)/\Below w.heap.size w (((w.alloc a).alloc b).alloc c)/\(((w.alloc a).alloc b).alloc c).heap.size=w.heap.size+3:=by
 have s1:(w.alloc a).heap.size=w.heap.size+1:=by simp[size_alloc]
 have s2:((w.alloc a).alloc b).heap.size=w.heap.size+2:=by simp[size_alloc]
 refine⟨⟨?_, ?_, ?_⟩,(((refl _ w).alloc (le_refl _) _).alloc (by rw[s1];omega) _).alloc (by rw[s2];omega) _,by simp[size_alloc]⟩
 ·rw[heap_alloc _ _ _ (by rw[s2];omega),heap_alloc _ _ _ (by rw[s1];omega)];exact heap_alloc_new w _
 ·rw[heap_alloc _ _ _ (by rw[s2];omega),<-s1];exact heap_alloc_new _ _
 ·rw[<-s2];exact heap_alloc_new _ _
def Si(C R X K B F:List Ln):Prop:=C.length<=1099514773504/\UD C R X K B F
def Qt(w0 w:World)(mb:Nat)(fu:eX)(tv:Value)(wx:World):Prop:=∃(fv:Value) (F:List Ln),(wx.heap[w.heap.size]? =some (.cells #[.slice fu.ro fu.rn fu.rc,tv] 67 (0,0))/\wx.heap[w.heap.size+1]? =some (.cells #[.slice none 0 0,.slice none 0 0] 67 (0,0))/\wx.heap[w.heap.size+2]? =some (.cells #[fv,.slice none 0 0] 67 (0,0)))/\
 DW fv/\bG w0 wx mb [] [] [] [] [] F/\dF F fu fv/\F.length<=1/\Below mb w wx
def Qr(w0 w:World)(mb:Nat)(fu:eX)(to':Option Addr)(tn tc:Nat)(wx:World):Prop:=∃(fo:Option Addr) (fn fc:Nat) (bo:Option Addr) (bn bc:Nat) (C R X K B F:List Ln),(wx.heap[w.heap.size+1]? =some (.cells #[.slice none 0 0,.slice none 0 0] 67 (0,0))/\wx.heap[w.heap.size+2]? =some (.cells #[.slice fo fn fc,.slice bo bn bc] 67 (0,0)))/\
 (Si C R X K B F/\bG w0 wx mb C R X K B F)/\dF F fu (.slice fo fn fc)/\qj B to' tn tc (.slice bo bn bc)/\Below mb w wx
def Nj(w0 w:World)(mb:Nat)(fu:eX)(to':Option Addr)(tn tc:Nat)(e:Ending)(w':World):Prop:=
 ∃(fo:Option Addr) (fn fc:Nat) (bo:Option Addr) (bn bc:Nat) (C R X K B F:List Ln),e=.returned (.agg #[.slice fo fn fc,.slice bo bn bc])/\(Si C R X K B F/\bG w0 w' mb C R X K B F)/\dF F fu (.slice fo fn fc)/\qj B to' tn tc (.slice bo bn bc)/\Below mb w w'
def zT(i j:Nat):Value:=if j<i*6/\j % 6=0 then .string ⟨#[98,101,121,111,110,100]⟩else KH (j % 6)
theorem Sd(j:Nat):zT 0 j=KH (j % 6):=by unfold zT;rw[if_neg (by omega)]
theorem KG{w:World}{g N i:Nat}{T:TypeId}{a:List Value}(h:w.rowIs g T N (rX a (zT i)))(d:a.length<=i*6):(w.setCell ⟨g,i*6,none⟩ (.string ⟨#[98,101,121,111,110,100]⟩)).rowIs g T N (rX a (zT (i+1))):=by
 refine(h.set (i*6) _).congr λj f=> ?_;unfold rX zT;by_cases e:j=i*6
 ·subst e;rw[if_pos rfl,dif_neg (by omega),if_pos (by omega)]
 ·rw[if_neg e];by_cases b:j<a.length
  ·rw[dif_pos b,dif_pos b]
  ·rw[dif_neg b,dif_neg b];by_cases c:j<i*6/\j % 6=0
   ·rw[if_pos c,if_pos (by omega)]
   ·rw[if_neg c,if_neg (by omega)]
theorem PS{w:World}{g N i:Nat}{T:TypeId}{b:List Value}{f:Nat->Value}(h:w.rowIs g T N (rX b f))(a:b.length=i*6)(a0 a1 a2 a3 a4 a5:Value):
  ((((((w.setCell ⟨g,i*6,none⟩ a0).setCell ⟨g,i*6+1,none⟩ a1).setCell ⟨g,i*6+2,none⟩ a2).setCell ⟨g,i*6+3,none⟩ a3).setCell ⟨g,i*6+4,none⟩ a4).setCell ⟨g,i*6+5,none⟩ a5).rowIs g T N (rX (b++ [a0,a1,a2,a3,a4,a5]) f):=by
 have c:=nI h a a0;have d:=nI c (i:=i*6+1) (by simp[a]) a1;have e:=nI d (i:=i*6+2) (by simp[a]) a2;have j:=nI e (i:=i*6+3) (by simp[a]) a3;have k:=nI j (i:=i*6+4) (by simp[a]) a4;have l:=nI k (i:=i*6+5) (by simp[a]) a5;simpa using l
theorem Uu{n j:Nat}{b:List Value}(d:j<(n+3)*6):rX b (zT (n+3)) j=jf 6 b yN j:=by
 unfold rX jf zT yN;by_cases h:j<b.length
 ·rw[dif_pos h,dif_pos h]
 ·rw[dif_neg h,dif_neg h];by_cases a:j % 6=0
  ·rw[if_pos ⟨d,a⟩,if_pos a]
  ·rw[if_neg (λc=>a c.2),if_neg a]
theorem PO(w:World)(g o:Nat)(a0 a1 a2 a3 a4 a5:Value)(q:Nat)(a:q≠g):((((((w.setCell ⟨g,o,none⟩ a0).setCell ⟨g,o+1,none⟩ a1).setCell ⟨g,o+2,none⟩ a2).setCell ⟨g,o+3,none⟩ a3).setCell ⟨g,o+4,none⟩ a4).setCell ⟨g,o+5,none⟩ a5).heap[q]? =w.heap[q]? :=by
 rw[heap_setCell _ _ _ _ a,heap_setCell _ _ _ _ a,heap_setCell _ _ _ _ a,heap_setCell _ _ _ _ a,heap_setCell _ _ _ _ a,heap_setCell _ _ _ _ a]
theorem PN{B:Nat}{y w:World}(h:Below B y w)(g o:Nat)(a:B<=g)(a0 a1 a2 a3 a4 a5:Value):Below B y ((((((w.setCell ⟨g,o,none⟩ a0).setCell ⟨g,o+1,none⟩ a1).setCell ⟨g,o+2,none⟩ a2).setCell ⟨g,o+3,none⟩ a3).setCell ⟨g,o+4,none⟩ a4).setCell ⟨g,o+5,none⟩ a5):=
 (((((h.setCell (p:=⟨g,_,none⟩) a _).setCell (p:=⟨g,_,none⟩) a _).setCell (p:=⟨g,_,none⟩) a _).setCell (p:=⟨g,_,none⟩) a _).setCell (p:=⟨g,_,none⟩) a _).setCell (p:=⟨g,_,none⟩) a _
structure sI(w0 w:World)(mb nb g:Nat)(C R X K F:List Ln)(f:Nat->Value)(N:Nat)(v3 v5:Value)(fu:Value)(arr:Array Value)(x:World):Prop where
 bx:x.heap[nb]? =some (.cells arr 54 (0,0))
 l:bG w0 x mb C R X K [] F
 b:Below mb w x
 out:x.rowIs g 54 N f
 b3:x.heap[w.heap.size]? =some (.cells #[fu,v3] 67 (0,0))
 b4:x.heap[w.heap.size+1]? =some (.cells #[.slice none 0 0,.slice none 0 0] 67 (0,0))
 b5:x.heap[w.heap.size+2]? =some (.cells #[v5,.slice none 0 0] 67 (0,0))
theorem sI.call{w0 w:World}{d m g:Nat}{C R X K F e j k i:List Ln}{f:Nat->Value}{N:Nat}{v3 v5 l:Value}{a:Array Value}{x y:World}(h:sI w0 w d m g C R X K F f N v3 v5 l a x)(n:bG w0 y d e j k i [] F)(hb:Below d x y)(c:bR x y lT):sI w0 w d m g e j k i F f N v3 v5 l a y:=
 ⟨(c _ _ _ _ h.bx (by decide)).trans h.bx,n,h.b.trans hb,iP h.out c (by decide),(c _ _ _ _ h.b3 (by decide)).trans h.b3,(c _ _ _ _ h.b4 (by decide)).trans h.b4,(c _ _ _ _ h.b5 (by decide)).trans h.b5⟩
theorem sI.put{w0 w:World}{i c g:Nat}{C R X K F:List Ln}{f:Nat->Value}{N:Nat}{v3 v5 j:Value}{d:Array Value}{x:World}(h:sI w0 w i c g C R X K F f N v3 v5 j d x)(n:i<=c)(m:g≠c)(r:w.heap.size+3<=c)(k:Nat)(v:Value):sI w0 w i c g C R X K F f N v3 v5 j (d.setIfInBounds k v) (x.setCell ⟨c,k,none⟩ v):=by
 have hb:=h.bx;have e:∀q,q≠c->(x.setCell ⟨c,k,none⟩ v).heap[q]? =x.heap[q]? :=λq o=>heap_setCell _ _ _ _ o;exact⟨by simp[setCell,Array.getElem?_modify,hb],h.l.CZ e ⟨_,hb⟩,h.b.setCell (p:=⟨c,k,none⟩) n _,h.out.setOther (a:=⟨c,k,none⟩) m _,(e _ (by omega)).trans h.b3,(e _ (by omega)).trans h.b4,(e _ (by omega)).trans h.b5⟩
def Nv(w0 w:World)(mb g:Nat)(fu:eX)(bv:Value)(F:List Ln)(fv:Value)(tn:Nat)(dL:List lm)(i:Nat)(wr:World):Prop:=∃(C R X K:List Ln) (es:List Value),(C.length<=i*1048576/\R.length<=i/\X.length<=i/\K.length<=i)/\es.length=(min i tn)*6/\
 (wr.heap[w.heap.size]? =some (.cells #[.slice fu.ro fu.rn fu.rc,bv] 67 (0,0))/\wr.heap[w.heap.size+1]? =some (.cells #[.slice none 0 0,.slice none 0 0] 67 (0,0))/\wr.heap[w.heap.size+2]? =some (.cells #[fv,.slice none 0 0] 67 (0,0)))/\
 bG w0 wr mb C R X K [] F/\lq K R X (dL.take i) es/\wr.rowIs g 54 ((tn+3)*6) (rX es (zT i))/\Below mb w wr
theorem sj(w0 w:World)(n:Nat)(hL:bG w0 w n [] [] [] [] [] [])(h0:Below w0.heap.size w0 w)(n0:w0.heap.size<=n)(fo:Option Addr)(fn fc:Nat)(N:List Value)(hF:nC Sl w0 3 ⟨fo,fn,fc,N⟩)(Z:Option Addr)(G tc:Nat)(dL:List lm)(p7:G<=1048576)(g4:Z=none->G=0/\tc=0)(n6:pI w0 Z G dL)(j2:∀s∈dL,yt w0 s):
  Calls prog 25 #[.pointer (some ⟨n,0,none⟩),.agg #[.slice fo fn fc,.slice Z G tc]] w λe w'=>Nj w0 w n ⟨fo,fn,fc,N⟩ Z G tc e w':=by
 obtain⟨i0,hi,i8,g9,i9⟩:=info_parts LJ;obtain⟨i1,hj,i2,i3,i4⟩:=info_parts CG;have y2:n<w.heap.size:=by obtain⟨_,_,_,_,_,_,_,h1,_⟩:=hL;exact aB h1
 have o9:(Tryz.prog.info? 48).map (·.size)=some 3:=by rw[hi];simp[g9]
 obtain⟨W,hW⟩:∃W,W=((w.alloc (.cells #[.slice fo fn fc,.slice Z G tc] 67)).alloc (.cells #[.slice none 0 0,.slice none 0 0] 67)).alloc (.cells #[.slice none 0 0,.slice none 0 0] 67):=⟨_,rfl⟩;obtain⟨⟨I,z,H⟩,c6,i5⟩:=La w (.cells #[.slice fo fn fc,.slice Z G tc] 67) (.cells #[.slice none 0 0,.slice none 0 0] 67) (.cells #[.slice none 0 0,.slice none 0 0] 67);rw[<-hW]at I z H c6 i5;have j1:Hid (((w.alloc (.cells #[.slice fo fn fc,.slice Z G tc] 67)).alloc (.cells #[.slice none 0 0,.slice none 0 0] 67)).alloc (.cells #[.slice none 0 0,.slice none 0 0] 67)=W):=hW.symm;have h5:=hL.ah c6;have m9:Below w0.heap.size w0 W:=h0.trans (c6.mono h0.size);have a3:=hF.nil;have k1:=hF.small;have g1:=hF.want;have k0:=hF.one;have q7:Hid _:=hF.ty;dsimp only at a3 k1 g1 k0;have m2:Hid _:=g4;have b9:Hid _:=n6;have m4:Hid _:=j2;clear hW hF g4 n6 j2;go_enter Tryz.func25,Tryz.ntmps25
 go_upto_if 15 with fail
 rw[j1.out];clear j1;go_cut [] (λt=>Qt w0 w n ⟨fo,fn,fc,N⟩ (.slice Z G tc) t)
 case first=>
  clear m2 b9 m4 p7
  cases fo with
  |none=>
   obtain⟨rfl,rfl⟩:=a3 rfl
   go_wp2_with fail
   go_meet;exact⟨.slice none 0 0,[],⟨I,z,H⟩,⟨_,_,_,rfl⟩,h5,.inl ⟨rfl,rfl⟩,by simp,c6.mono (by omega)⟩
  |some so=>
   have j6:Hid _:=g1;have i7:=g1.ah m9;have x3:W.cell? ⟨w.heap.size,0,none⟩=some (.slice (some so) fn fc):=(ag I).trans rfl;have u6:w.heap.size<W.heap.size:=by omega
   have m3:Hid _:=i5;have y3:w.heap.size+2<W.heap.size:=by omega
   clear a3 g1 i5
   go_wp2_with(first
    |(at_make;refine ic _ rfl _ _ 64 rfl 48 i0 _ Tryz.underlying64 hi i8 .i64 .i64 (fn+3) _ rfl rfl (by omega) (by rw[i9];omega) (by omega) 3 g9 ?_;intro w2 f2 l5 U g8 m1;have x3:=(U.cell (p:=⟨w.heap.size,0,none⟩) u6).trans x3;have p8:w.heap.size<w2.heap.size:=by omega)
    |(refine lg rfl (.tmp 22) (.tmp 24) 64 64 rfl 48 3 Tryz.underlying64 o9 W.heap.size (fn+3) (fn+3) (some so) fn fc rfl rfl ((fn+3)*3) f2 48 g8 N (by omega) i7.1 (i7.ah U).src (by have:=i7.1;omega) k0 ?_;intro w3 p6 o8 O s8))
   have B3:Below W.heap.size W w3:=O _ _ (le_refl _) U;have o0:w3.rowIs W.heap.size 48 ((fn+3)*3) (vQ 3 yM (rX N f2) (fn*3) ((fn+0)*3)):=o8.congr λj _=>(oU _ _ _ _ _).symm;clear g8 o8 O s8 U l5 p6 x3 p8;go_loopw [8] (λiv wr=>∃m:Nat,m<=3/\iv=.int .i64 ((fn+m:Nat):Int)/\wr.rowIs W.heap.size 48 ((fn+3)*3) (vQ 3 yM (rX N f2) (fn*3) ((fn+m)*3))/\Below W.heap.size W wr) (λiv _=>(fn+3)- (intOf iv).toNat)
   case atStart=>exact⟨0,by omega,by go_num,o0,B3⟩
   case round=>
    obtain⟨m,hm,rfl,hg,hB⟩:=hrel;clear o0 B3;by_cases r8:m<3
    ·have c8:=hg.lt;have c0:=hg.cell (i:=(fn+m)*3) (by omega);have c1:=hg.cell (i:=(fn+m)*3+1) (by omega);have c2:=hg.cell (i:=(fn+m)*3+2) (by omega);have f0:=hg.frozen ((fn+m)*3);have f1:=hg.frozen ((fn+m)*3+1);have f3:=hg.frozen ((fn+m)*3+2)
     go_wp2_with fail
     go_roundw
     case rel=>exact⟨m+1,by omega,by go_num,uH hg (by omega) rfl rfl rfl,((hB.setCell (p:=⟨W.heap.size,_,none⟩) (le_refl _) _).setCell (p:=⟨W.heap.size,_,none⟩) (le_refl _) _).setCell (p:=⟨W.heap.size,_,none⟩) (le_refl _) _⟩
     case measure=>simp[intOf];omega
    ·obtain rfl:m=3:=by omega
     have Y:wr.rowIs W.heap.size 48 ((fn+3)*3) (jf 3 N yM):=hg.congr λj hj=>xZ j6.out.1 j hj;obtain⟨vc,vr,vx,vk,vb,vf,⟨s1,s2,s3,s4,s5,s6⟩,hO,hC,hR,hX,hK,a4,a5⟩:=h5.ah hB;obtain⟨a,an,ac,rfl⟩:=s6;have s0:=aB hO;have a0:wr.cell? ⟨n,6,none⟩=some (.slice a an ac):=(ag hO).trans rfl;have c8:=Y.lt;have V:=(hB.block _ (by omega)).trans I;have P:=(hB.block _ (by have:=m3.out;omega)).trans z;have Q:=(hB.block _ (by have:=m3.out;omega)).trans H;have x3:wr.cell? ⟨w.heap.size,0,none⟩=some (.slice (some so) fn fc):=(ag V).trans rfl;have u7:w.heap.size<wr.heap.size:=aB V;have a9:pF (rO Sl w0 3) wr 48 3 yM (n+1) ⟨W.heap.size,fn,some so,fc,N⟩:=⟨Y,j6.out.1,by show n+1<=W.heap.size;omega,k1,j6.out,q7.out⟩;have k8:∀x∈([]:List Ln),x.g<W.heap.size:=λx hx=>by simp at hx
     have e6:Hid _:=hO;have b0:Hid _:=a5;have j4:Hid _:=a9;have j5:Hid _:=(⟨hC,hR,hX,hK,a4⟩:_/\_/\_/\_/\_);have j0:Hid _:=(⟨V,P,Q⟩:_/\_/\_);have e7:∀o:Obj,(wr.alloc o).drew.ownsRow (n+1) 185 2 (.slice a an ac) 0 []:=λo=>World.ownsRow.drew (World.ownsRow.alloc a5.own o);clear hg i7 hO a5 a9 hC hR hX hK a4 Y V P Q h5 hL I z H;go_upto_region 10 with fail
     have r9:n≠w.heap.size+2:=by omega
     have o4:n≠w.heap.size+1+1:=by omega
     go_region_law (refine step_append_lies _ rfl (.tmp 41) (.tmp 46) 114 rfl (n+1) 185 i1 _ 2 48 Tryz.underlying114 hj i2 i3 i4 rfl (by decide) (.slice a an ac) 0 [] (by simp[Act.eval]) (e7 _) ⟨wr.heap.size,0,none⟩ 1 1 [.slice (some ⟨W.heap.size,0,none⟩) (fn+3) (fn+3),.slice (some so) fn fc] (by simp[Act.eval]) rfl (World.news_of_block (heap_alloc_new wr _)) (by intro u hu;simp at hu;rcases hu with rfl|rfl<;>rfl) (by decide) (by unfold maxLen;omega) (by omega) (by simp[size_alloc];omega) (wr.heap.size+1) (by simp[size_alloc]) ?_;intro g7 T w7 b1 D n7 o2;have kO:=nJ b0.out.own (((refl _ wr).alloc (le_refl _) _).drew) D e6.out (by decide);have k5:=nJ b0.out.own (((refl _ wr).alloc (le_refl _) _).drew) D j0.out.2.2 (by decide);have r1:=aB kO;have q9:=aB k5;have r0:w7.cell? ⟨n,6,none⟩=some (.slice a an ac):=(ag kO).trans rfl;have u9:w7.frozen? ⟨n,6,none⟩=false:=(by simp[frozen?,kO]);have r5:w7.cell? ⟨w.heap.size+2,0,none⟩=some (.slice none 0 0):=(ag k5).trans rfl;have v0:w7.frozen? ⟨w.heap.size+2,0,none⟩=false:=(by simp[frozen?,k5]))
     all_goals go_wp2_with fail
     all_goals go_meet
     all_goals
      obtain⟨_,A1,A2,A3,A4⟩:=je (w:=wr) (k:=6) (l:=⟨W.heap.size,fn,some so,fc,N⟩) e6.out b0.out j4.out k8 (by decide) (by decide) (refl _ _) (iU.refl _ _ _) (((refl _ wr).alloc (le_refl _) _).drew) D b1 (.slice (some ⟨g7,0,none⟩) (0+1) T);obtain⟨hC,hR,hX,hK,a4⟩:=j5.out;obtain⟨V,P,Q⟩:=j0.out;have k3:=(A4 _ _ _ _ V (by decide) (by decide)).trans V;have k4:=(A4 _ _ _ _ P (by decide) (by decide)).trans P;have k5:=(A4 _ _ _ _ Q (by decide) (by decide)).trans Q;have LF:bG w0 (w7.setCell ⟨n,6,none⟩ (.slice (some ⟨g7,0,none⟩) (0+1) T)) n [] [] [] [] [] [⟨W.heap.size,fn,some so,fc,N⟩]:=
       ⟨vc,vr,vx,vk,vb,.slice (some ⟨g7,0,none⟩) (0+1) T,⟨s1,s2,s3,s4,s5,⟨_,_,_,rfl⟩⟩,A1,hC.typed A4 (by decide) (by decide) (by decide) (by decide),hR.typed A4 (by decide) (by decide) (by decide) (by decide),hX.typed A4 (by decide) (by decide) (by decide) (by decide),hK.typed A4 (by decide) (by decide) (by decide) (by decide),a4.typed A4 (by decide) (by decide) (by decide) (by decide),A2⟩
      refine⟨.slice (some ⟨W.heap.size,0,none⟩) fn (fn+3),[⟨W.heap.size,fn,some so,fc,N⟩],⟨(heap_setCell _ _ _ _ (by show w.heap.size≠w.heap.size+2;omega)).trans k3,(heap_setCell _ _ _ _ (by show w.heap.size+1≠w.heap.size+2;omega)).trans k4,by simp[setCell,Array.getElem?_modify]at k5 ⊢;simp[k5]⟩,⟨_,_,_,rfl⟩,LF.other (g:=w.heap.size+2) (T':=67) (λq hq=>heap_setCell _ _ _ _ hq) ⟨_,k5⟩ (by decide),.inr ⟨W.heap.size,rfl,by simp⟩,by simp, ?_⟩;exact(((c6.mono (by omega)).trans (hB.mono (by omega))).trans A3).setCell (p:=⟨w.heap.size+2,0,none⟩) (by show n<=w.heap.size+2;omega) _
 case rest=>
  obtain⟨fv,F,⟨O,a6,a7⟩,⟨g0,e9,e8,rfl⟩,h4,n8,v8,n2⟩:=hcut;clear I z H h5 hL a3 k1 g1 k0 m9 o9 hi i8 g9 i9 hj i2 i3 i4 c6 i5;obtain⟨i0,hi,i8,g9,i9⟩:=info_parts OD;obtain⟨i1,hj,i2,i3,i4⟩:=info_parts ET;generalize u4:wc=t at*;clear u4;have y1:t.cell? ⟨w.heap.size,1,none⟩=some (.slice Z G tc):=(ag O).trans rfl;have u8:=aB O;have p9:=aB a7
  go_upto_if 56 with fail
  go_cut [] (λwy=>Qr w0 w n ⟨fo,fn,fc,N⟩ Z G tc wy)
  case first=>
   cases Z with
   |none=>
    obtain⟨rfl,rfl⟩:=m2.out rfl
    go_wp2_with fail
    go_meet;exact⟨g0,e9,e8,none,0,0,[],[],[],[],[],F,⟨a6,a7⟩,⟨⟨by simp,by simp,by simp,by simp,by simp,by simp,by omega⟩,h4⟩,n8,.inl ⟨rfl,rfl⟩,n2⟩
   |some so=>
    go_wp2_with(at_make;refine ic _ rfl _ _ 65 rfl 54 i0 _ Tryz.underlying65 hi i8 .i64 .i64 (G+3) _ rfl rfl (by omega) (by rw[i9];omega) (by omega) 6 g9 ?_;intro w2 f2 l5 U g8 m1)
    have I0:Nv w0 w n t.heap.size ⟨fo,fn,fc,N⟩ (.slice (some so) G tc) F (.slice g0 e9 e8) G dL 0 w2:=⟨[],[],[],[],[],⟨by simp,by simp,by simp,by simp⟩,by simp,⟨(U.block _ u8).trans O,(U.block _ (aB a6)).trans a6,(U.block _ p9).trans a7⟩,h4.ah U,⟨by simp,λi s h=>by simp at h⟩,g8.congr λj hj=>by
     rw[m1.out];simp only[rX,List.length_nil,Nat.not_lt_zero,dite_false,Sd];have h6:j % 6<6:=Nat.mod_lt _ (by omega);show #[Value.string ⟨#[]⟩,.slice none 0 0,.slice none 0 0,.int .i64 0,.string ⟨#[]⟩,.slice none 0 0][j % 6]! =_;generalize j % 6=m at h6
     match m,h6 with
     |0,_|1,_|2,_|3,_|4,_|5,_=>rfl,n2.trans (U.mono (by omega))⟩
    have y4:w.heap.size+3<=t.heap.size:=by omega
    clear g8 U l5 y1 h4 O a6 a7;go_loopw [11] (λiv wr=>∃i:Nat,i<=G+3/\iv=.int .i64 (i:Int)/\Nv w0 w n t.heap.size ⟨fo,fn,fc,N⟩ (.slice (some so) G tc) F (.slice g0 e9 e8) G dL i wr) (λiv _=>(G+3)- (intOf iv).toNat)
    case atStart=>exact⟨0,Nat.zero_le _,rfl,I0⟩
    case round=>
     clear I0;obtain⟨i,x0,rfl,C,R,X,K,es,⟨r7,x9,y0,x8⟩,k6,⟨I,z,H⟩,h7,c7,A,hB⟩:=hrel;by_cases r8:i<G+3
     ·by_cases o3:i<G
      ·obtain⟨bb,a1,rfl,r2,g2⟩:∃bb a1,so=⟨bb,a1,none⟩/\bb<w0.heap.size/\∀(i:Nat) (s:lm),dL[i]? =some s->w0.cell? ⟨bb,a1+i*6,none⟩=some (.string s.name)/\w0.cell? ⟨bb,a1+i*6+1,none⟩=some (.slice s.k.ro s.k.rn s.k.rc)/\w0.cell? ⟨bb,a1+i*6+2,none⟩=some (.slice s.ro s.rn s.rc)/\w0.cell? ⟨bb,a1+i*6+3,none⟩=some (.int .i64 s.count)/\
         w0.cell? ⟨bb,a1+i*6+4,none⟩=some (.string s.aG)/\w0.cell? ⟨bb,a1+i*6+5,none⟩=some (.slice s.u.ro s.u.rn s.u.rc):=by
        rcases b9.out.2 with h|⟨x,y,h1,h2,h3⟩
        ·omega
        ·exact⟨x,y,Option.some.inj h1,h2,h3⟩
       have r6:i<dL.length:=by rw[b9.out.1];exact o3
       obtain⟨⟨d,r,M,L,J,b2,c,f,E⟩,i6⟩:∃s:lm,dL[i]? =some s:=⟨_,List.getElem?_eq_getElem r6⟩;have S:=m4.out _ (List.mem_of_getElem? i6);obtain⟨p0,p1,p2,p3,p4,p5⟩:=g2 i _ i6;dsimp only at p0 p1 p2 p3 p4 p5;have cl:∀o,wr.cell? ⟨bb,o,none⟩=w0.cell? ⟨bb,o,none⟩:=λo=>(hB.cell (p:=⟨bb,o,none⟩) (by show bb<n;omega)).trans (h0.cell (p:=⟨bb,o,none⟩) r2);have q0:=(cl _).trans p0;have q1:=(cl _).trans p1;have q2:=(cl _).trans p2;have q3:=(cl _).trans p3;have q4:=(cl _).trans p4;have q5:=(cl _).trans p5;have c8:=A.lt;have r4:bb<wr.heap.size:=by have:=hB.size;omega
       have w9:bb≠t.heap.size:=by have:=h0.size;omega
       have y1:wr.cell? ⟨w.heap.size,1,none⟩=some (.slice (some ⟨bb,a1,none⟩) G tc):=(ag I).trans rfl;have q6:=aB I;have u3:w.heap.size≠t.heap.size:=by omega
       have c0:=A.cell (i:=i*6) (by omega);have f0:=A.frozen (i*6);have m5:Hid (dL.take (i+1)=dL.take i++ [⟨d,r,M,L,J,b2,c,f,E⟩]):=by
        rw[Hid,List.take_add_one,i6];rfl
       clear cl p0 p1 p2 p3 p4 p5 g2 i6;go_upto_region 21 with fail
       have a2:es.length=i*6:=by rw[k6,Nat.min_eq_left (by omega)]
       have g6:∃cc,wr.heap[t.heap.size]? =some (.cells cc 54 (0,0)):=by obtain⟨cc,h,_⟩:=A;exact⟨cc,h⟩
       have k2:∀q,q≠t.heap.size->(wr.setCell ⟨t.heap.size,i*6,none⟩ (.string ⟨#[98,101,121,111,110,100]⟩)).heap[q]? =wr.heap[q]? :=λq hq=>heap_setCell _ _ _ _ hq;have h8:∀o:Obj,Below wr.heap.size (wr.setCell ⟨t.heap.size,i*6,none⟩ (.string ⟨#[98,101,121,111,110,100]⟩)) ((wr.setCell ⟨t.heap.size,i*6,none⟩ (.string ⟨#[98,101,121,111,110,100]⟩)).alloc o):=λo=>(refl _ _).alloc (by simp[setCell]) _;have h9:∀(o:Obj) (q:Nat),q<wr.heap.size->q≠t.heap.size->((wr.setCell ⟨t.heap.size,i*6,none⟩ (.string ⟨#[98,101,121,111,110,100]⟩)).alloc o).heap[q]? =wr.heap[q]? :=λo q h1 h2=>((h8 o).block q h1).trans (k2 q h2);have g5:((wr.setCell ⟨t.heap.size,i*6,none⟩ (.string ⟨#[98,101,121,111,110,100]⟩)).alloc (.cells #[.string d,.slice r.ro r.rn r.rc,.slice M L J,.int .i64 c,.string f,.slice E.ro E.rn E.rc] 54)).rowIs t.heap.size 54 ((G+3)*6) (rX es (zT (i+1))):=(KG A (by omega)).alloc _;have n4:bG w0 ((wr.setCell ⟨t.heap.size,i*6,none⟩ (.string ⟨#[98,101,121,111,110,100]⟩)).alloc (.cells #[.string d,.slice r.ro r.rn r.rc,.slice M L J,.int .i64 c,.string f,.slice E.ro E.rn E.rc] 54)) n C R X K [] F:=(h7.CZ k2 g6).ah (by rw[show(wr.setCell ⟨t.heap.size,i*6,none⟩ (.string ⟨#[98,101,121,111,110,100]⟩)).heap.size=wr.heap.size by simp[setCell]];exact h8 _);have n1:Below n w ((wr.setCell ⟨t.heap.size,i*6,none⟩ (.string ⟨#[98,101,121,111,110,100]⟩)).alloc (.cells #[.string d,.slice r.ro r.rn r.rc,.slice M L J,.int .i64 c,.string f,.slice E.ro E.rn E.rc] 54)):=(hB.setCell (p:=⟨t.heap.size,i*6,none⟩) (by show n<=t.heap.size;omega) _).trans ((h8 _).mono (by omega));have j3:((wr.setCell ⟨t.heap.size,i*6,none⟩ (.string ⟨#[98,101,121,111,110,100]⟩)).alloc (.cells #[.string d,.slice r.ro r.rn r.rc,.slice M L J,.int .i64 c,.string f,.slice E.ro E.rn E.rc] 54)).heap[wr.heap.size]? =some (.cells #[.string d,.slice r.ro r.rn r.rc,.slice M L J,.int .i64 c,.string f,.slice E.ro E.rn E.rc] 54 (0,0)):=by
        have:=heap_alloc_new (wr.setCell ⟨t.heap.size,i*6,none⟩ (.string ⟨#[98,101,121,111,110,100]⟩)) (.cells #[.string d,.slice r.ro r.rn r.rc,.slice M L J,.int .i64 c,.string f,.slice E.ro E.rn E.rc] 54)
        rwa[show(wr.setCell ⟨t.heap.size,i*6,none⟩ (.string ⟨#[98,101,121,111,110,100]⟩)).heap.size=wr.heap.size by simp[setCell]]at this
       have m6:=(h9 (.cells #[.string d,.slice r.ro r.rn r.rc,.slice M L J,.int .i64 c,.string f,.slice E.ro E.rn E.rc] 54) _ (aB I) u3).trans I;have m7:=(h9 (.cells #[.string d,.slice r.ro r.rn r.rc,.slice M L J,.int .i64 c,.string f,.slice E.ro E.rn E.rc] 54) _ (aB z) (by omega)).trans z;have m8:=(h9 (.cells #[.string d,.slice r.ro r.rn r.rc,.slice M L J,.int .i64 c,.string f,.slice E.ro E.rn E.rc] 54) _ (aB H) (by omega)).trans H;generalize s9:(wr.setCell ⟨t.heap.size,i*6,none⟩ (.string ⟨#[98,101,121,111,110,100]⟩)).alloc (.cells #[.string d,.slice r.ro r.rn r.rc,.slice M L J,.int .i64 c,.string f,.slice E.ro E.rn E.rc] 54)=w4 at*;clear s9 k2 h8 h9 g6 h7 A q0 q1 q2 q3 q4 q5 c0 f0 y1 I z H q6;have k7:t.heap.size≠wr.heap.size:=by omega
       have k9:n<=wr.heap.size:=by have:=hB.size;omega
       have l0:w.heap.size+3<=wr.heap.size:=by omega
       generalize s7:wr.heap.size=nb at*;clear s7 hB c8 r4;have M4:sI w0 w n nb t.heap.size C R X K F (rX es (zT (i+1))) ((G+3)*6) (.slice (some ⟨bb,a1,none⟩) G tc) (.slice g0 e9 e8) (.slice fo fn fc) #[.string d,.slice r.ro r.rn r.rc,.slice M L J,.int .i64 c,.string f,.slice E.ro E.rn E.rc] w4:=⟨j3,n4,n1,g5,m6,m7,m8⟩;clear j3 n4 n1 g5 m6 m7 m8;have H0:∀x:World,Below n w x->Below w0.heap.size w0 x:=λx hx=>h0.trans (hx.mono n0);have x1:w4.cell? ⟨nb,1,none⟩=some (.slice r.ro r.rn r.rc):=(ag M4.bx).trans rfl;have c9:=aB M4.bx;have l8:=OO w0 w4 n C R X K [] F M4.l (H0 _ M4.b) r S.k (by omega);have x7:(.slice r.ro r.rn r.rc:Value)=.slice r.ro r.rn r.rc:=rfl;go_upto_region 22 with(go_at_call 59;refine l8.mono ?_;rintro e w5 ⟨ko,kn,kc,K2,rfl,hK2,hL5,hkl,hB5,hKp5⟩;have b6:=(hKp5 _ _ _ _ M4.bx (by decide)).trans M4.bx;have o5:=aB b6;have v1:=(ag (j:=1) b6).trans rfl;have v2:w5.frozen? ⟨nb,1,none⟩=false:=(by simp[frozen?,b6]))
       have M5:=(M4.call hL5 hB5 hKp5).put k9 k7 l0 1 (.slice ko kn kc);generalize u0:w5.setCell ⟨nb,1,none⟩ (.slice ko kn kc)=w5' at*;clear u0 M4 l8 x1 c9 hL5 hB5 hKp5 b6 o5 v1 v2;have x2:w5'.cell? ⟨nb,2,none⟩=some (.slice M L J):=(ag M5.bx).trans rfl;have c9:=aB M5.bx;have l9:=OP w0 w5' n C R X (K++K2) [] F M5.l (H0 _ M5.b) n0 M L J b2 S.small S.nil S.rows S.each (by have:=S.small;dsimp only at this;omega) (by omega);go_upto_region 23 with(go_at_call 60;refine l9.mono ?_;rintro e w6 ⟨yo,yn,yc,C2,R2,rfl,hC2,hR2,hL6,hrl,hB6,hKp6⟩;have b7:=(hKp6 _ _ _ _ M5.bx (by decide)).trans M5.bx;have o6:=aB b7;have v3:=(ag (j:=2) b7).trans rfl;have v4:w6.frozen? ⟨nb,2,none⟩=false:=(by simp[frozen?,b7]))
       have M6:=(M5.call hL6 hB6 hKp6).put k9 k7 l0 2 (.slice yo yn yc);generalize u1:w6.setCell ⟨nb,2,none⟩ (.slice yo yn yc)=w6' at*;clear u1 M5 l9 x2 c9 hL6 hB6 hKp6 b7 o6 v3 v4;have x3:w6'.cell? ⟨nb,5,none⟩=some (.slice E.ro E.rn E.rc):=(ag M6.bx).trans rfl;have c9:=aB M6.bx;have m0:=LX w0 w6' n (C++C2) (R++R2) X (K++K2) [] F M6.l (H0 _ M6.b) E S.u (by omega);go_upto_region 24 with(go_at_call 61;refine m0.mono ?_;rintro e w7 ⟨zo,zn,zc,X2,rfl,hX2,hL7,hul,hB7,hKp7⟩;have b8:=(hKp7 _ _ _ _ M6.bx (by decide)).trans M6.bx;have o7:=aB b8;have v5:=(ag (j:=5) b8).trans rfl;have v6:w7.frozen? ⟨nb,5,none⟩=false:=(by simp[frozen?,b8]))
       have M7:=(M6.call hL7 hB7 hKp7).put k9 k7 l0 5 (.slice zo zn zc);generalize u2:w7.setCell ⟨nb,5,none⟩ (.slice zo zn zc)=w7' at*;clear u2 M6 m0 x3 c9 hL7 hB7 hKp7 b8 o7 v5 v6;have a8:w7'.heap[nb]? =some (.cells #[.string d,.slice ko kn kc,.slice yo yn yc,.int .i64 c,.string f,.slice zo zn zc] 54 (0,0)):=M7.bx;have e0:w7'.cell? ⟨nb,0,none⟩=some (.string d):=(ag a8).trans rfl;have e1:w7'.cell? ⟨nb,1,none⟩=some (.slice ko kn kc):=(ag a8).trans rfl;have e2:w7'.cell? ⟨nb,2,none⟩=some (.slice yo yn yc):=(ag a8).trans rfl;have e3:w7'.cell? ⟨nb,3,none⟩=some (.int .i64 c):=(ag a8).trans rfl;have e4:w7'.cell? ⟨nb,4,none⟩=some (.string f):=(ag a8).trans rfl;have e5:w7'.cell? ⟨nb,5,none⟩=some (.slice zo zn zc):=(ag a8).trans rfl;have c9:=aB a8;have c8:=M7.out.lt;have c0:=M7.out.cell (i:=i*6) (by omega);have c1:=M7.out.cell (i:=i*6+1) (by omega);have c2:=M7.out.cell (i:=i*6+2) (by omega);have c3:=M7.out.cell (i:=i*6+3) (by omega);have c4:=M7.out.cell (i:=i*6+4) (by omega);have c5:=M7.out.cell (i:=i*6+5) (by omega);have f0:=M7.out.frozen (i*6);have f1:=M7.out.frozen (i*6+1);have v9:=M7.out.frozen (i*6+2);have f3:=M7.out.frozen (i*6+3);have f4:=M7.out.frozen (i*6+4);have f5:=M7.out.frozen (i*6+5);clear a8
       go_wp2_with fail
       go_roundw
       case rel=>
        have ho:=PO w7' t.heap.size (i*6) (.string d) (.slice ko kn kc) (.slice yo yn yc) (.int .i64 c) (.string f) (.slice zo zn zc);have l4:∃cc,w7'.heap[t.heap.size]? =some (.cells cc 54 (0,0)):=by obtain⟨cc,h,_⟩:=M7.out;exact⟨cc,h⟩
        refine⟨i+1,by omega,by go_num,C++C2,R++R2,X++X2,K++K2,es++ [.string d,.slice ko kn kc,.slice yo yn yc,.int .i64 c,.string f,.slice zo zn zc],⟨by rw[length_append];have:=S.small;dsimp only at this;omega,by rw[length_append];omega,by rw[length_append];omega,by rw[length_append];omega⟩,by rw[length_append,a2,Nat.min_eq_left (by omega)];simp;omega,⟨(ho _ (by omega)).trans M7.b3,(ho _ (by omega)).trans M7.b4,(ho _ (by omega)).trans M7.b5⟩,M7.l.CZ ho l4, ?_,PS M7.out a2 _ _ _ _ _ _,PN M7.b _ _ (by omega) _ _ _ _ _ _⟩;rw[m5.out];exact(c7.mono (λx hx=>mem_append_left _ hx) (λx hx=>mem_append_left _ hx) (λx hx=>mem_append_left _ hx)).snoc (s:=⟨d,r,M,L,J,b2,c,f,E⟩) hkl hrl hul
       case measure=>simp[intOf];omega
      ·have a2:es.length=G*6:=by rw[k6,Nat.min_eq_right (by omega)]
       have o1:C.length<=(i+1)*1048576:=Nat.le_trans r7 (Nat.mul_le_mul_right _ (Nat.le_succ i));have c8:=A.lt;have c0:=A.cell (i:=i*6) (by omega);have f0:=A.frozen (i*6)
       go_wp2_with fail
       go_roundw
       case rel=>
        have ho:∀q,q≠t.heap.size->(wr.setCell ⟨t.heap.size,i*6,none⟩ (.string ⟨#[98,101,121,111,110,100]⟩)).heap[q]? =wr.heap[q]? :=λq hq=>heap_setCell _ _ _ _ hq;have l4:∃cc,wr.heap[t.heap.size]? =some (.cells cc 54 (0,0)):=by obtain⟨cc,h,_⟩:=A;exact⟨cc,h⟩
        refine⟨i+1,by omega,by go_num,C,R,X,K,es,⟨o1,by omega,by omega,by omega⟩,by rw[a2,Nat.min_eq_right (by omega)],⟨(ho _ (by omega)).trans I,(ho _ (by omega)).trans z,(ho _ (by omega)).trans H⟩,h7.CZ ho l4, ?_,KG A (by omega),hB.setCell (p:=⟨t.heap.size,i*6,none⟩) (by show n<=t.heap.size;omega) _⟩;have hl:=b9.out.1;rw[List.take_of_length_le (by omega)]at c7 ⊢;exact c7
       case measure=>simp[intOf];omega
     ·obtain rfl:i=G+3:=by omega
      have a2:es.length=G*6:=by rw[k6,Nat.min_eq_right (by omega)]
      have Y:wr.rowIs t.heap.size 54 ((G+3)*6) (jf 6 es yN):=A.congr λj hj=>Uu hj;rw[List.take_of_length_le (by have:=b9.out.1;omega)]at c7;obtain⟨vc,vr,vx,vk,vb,vf,⟨s1,s2,s3,s4,s5,s6⟩,hO,hC,hR,hX,hK,a4,a5⟩:=h7;obtain⟨a,an,ac,rfl⟩:=s5;have s0:=aB hO;have a0:wr.cell? ⟨n,5,none⟩=some (.slice a an ac):=(ag hO).trans rfl;have c8:=Y.lt;have x3:wr.cell? ⟨w.heap.size,1,none⟩=some (.slice (some so) G tc):=(ag I).trans rfl;have u7:w.heap.size<wr.heap.size:=aB I;have a9:pF (SI w0 K R X) wr 54 6 yN (n+1) ⟨t.heap.size,G,some so,tc,es⟩:=⟨Y,a2,by show n+1<=t.heap.size;omega,p7,dL,b9.out,c7⟩;have k8:∀x∈([]:List Ln),x.g<t.heap.size:=λx hx=>by simp at hx
      have e6:Hid _:=hO;have b0:Hid _:=a4;have j4:Hid _:=a9;have j5:Hid _:=(⟨hC,hR,hX,hK,a5⟩:_/\_/\_/\_/\_);have l7:Hid _:=(⟨z,H⟩:_/\_);have e7:∀o:Obj,(wr.alloc o).drew.ownsRow (n+1) 190 2 (.slice a an ac) 0 []:=λo=>World.ownsRow.drew (World.ownsRow.alloc a4.own o);have r9:n≠w.heap.size+2:=by omega
      have o4:n≠w.heap.size+1+1:=by omega
      clear hO a4 a9 hC hR hX hK a5 Y I z H A c7;go_upto_region 25 with fail
      go_region_law (refine step_append_lies _ rfl (.tmp 104) (.tmp 109) 113 rfl (n+1) 190 i1 _ 2 48 Tryz.underlying113 hj i2 i3 i4 rfl (by decide) (.slice a an ac) 0 [] (by simp[Act.eval]) (e7 _) ⟨wr.heap.size,0,none⟩ 1 1 [.slice (some ⟨t.heap.size,0,none⟩) (G+3) (G+3),.slice (some so) G tc] (by simp[Act.eval]) rfl (World.news_of_block (heap_alloc_new wr _)) (by intro u hu;simp at hu;rcases hu with rfl|rfl<;>rfl) (by decide) (by unfold maxLen;omega) (by omega) (by simp[size_alloc];omega) (wr.heap.size+1) (by simp[size_alloc]) ?_;intro g7 T w7 b1 D n7 o2;have kO:=nJ b0.out.own (((refl _ wr).alloc (le_refl _) _).drew) D e6.out (by decide);have k5:=nJ b0.out.own (((refl _ wr).alloc (le_refl _) _).drew) D l7.out.2 (by decide);have r1:=aB kO;have q9:=aB k5;have r0:w7.cell? ⟨n,5,none⟩=some (.slice a an ac):=(ag kO).trans rfl;have u9:w7.frozen? ⟨n,5,none⟩=false:=(by simp[frozen?,kO]);have r5:w7.cell? ⟨w.heap.size+2,1,none⟩=some (.slice none 0 0):=(ag k5).trans rfl;have v0:w7.frozen? ⟨w.heap.size+2,1,none⟩=false:=(by simp[frozen?,k5]))
      all_goals go_wp2_with fail
      all_goals go_meet
      all_goals
       obtain⟨_,A1,A2,A3,A4⟩:=je (w:=wr) (k:=5) (l:=⟨t.heap.size,G,some so,tc,es⟩) e6.out b0.out j4.out k8 (by decide) (by decide) (refl _ _) (iU.refl _ _ _) (((refl _ wr).alloc (le_refl _) _).drew) D b1 (.slice (some ⟨g7,0,none⟩) (0+1) T);obtain⟨hC,hR,hX,hK,a5⟩:=j5.out;obtain⟨P,Q⟩:=l7.out;have k4:=(A4 _ _ _ _ P (by decide) (by decide)).trans P;have k5:=(A4 _ _ _ _ Q (by decide) (by decide)).trans Q;have LF:bG w0 (w7.setCell ⟨n,5,none⟩ (.slice (some ⟨g7,0,none⟩) (0+1) T)) n C R X K [⟨t.heap.size,G,some so,tc,es⟩] F:=
        ⟨vc,vr,vx,vk,.slice (some ⟨g7,0,none⟩) (0+1) T,vf,⟨s1,s2,s3,s4,⟨_,_,_,rfl⟩,s6⟩,A1,hC.typed A4 (by decide) (by decide) (by decide) (by decide),hR.typed A4 (by decide) (by decide) (by decide) (by decide),hX.typed A4 (by decide) (by decide) (by decide) (by decide),hK.typed A4 (by decide) (by decide) (by decide) (by decide),A2,a5.typed A4 (by decide) (by decide) (by decide) (by decide)⟩
       refine⟨g0,e9,e8,some ⟨t.heap.size,0,none⟩,G,G+3,C,R,X,K,[⟨t.heap.size,G,some so,tc,es⟩],F,⟨(heap_setCell _ _ _ _ (by show w.heap.size+1≠w.heap.size+2;omega)).trans k4,by simp[setCell,Array.getElem?_modify]at k5 ⊢;simp[k5]⟩,⟨⟨by omega,by omega,by omega,by omega,by omega,by simp,by omega⟩,LF.other (g:=w.heap.size+2) (T':=67) (λq hq=>heap_setCell _ _ _ _ hq) ⟨_,k5⟩ (by decide)⟩,n8,.inr ⟨t.heap.size,es,rfl,by simp⟩, ?_⟩;exact(hB.trans A3).setCell (p:=⟨w.heap.size+2,1,none⟩) (by show n<=w.heap.size+2;omega) _
  case rest=>
   obtain⟨j9,j8,j7,bo,bn,bc,C,R,X,K,B,F',⟨z,H⟩,⟨g3,n5⟩,n9,r3,n3⟩:=hcut;clear O a6 a7 y1 h4;generalize u5:wc=wz at*;clear u5;have x5:wz.cell? ⟨w.heap.size+2,0,none⟩=some (.slice j9 j8 j7):=(ag H).trans rfl;have x6:wz.cell? ⟨w.heap.size+2,1,none⟩=some (.slice bo bn bc):=(ag H).trans rfl;have w8:=aB H;have w1:=aB z;have x4:wz.cell? ⟨w.heap.size+1,0,none⟩=some (.slice none 0 0):=(ag z).trans rfl;have v7:wz.cell? ⟨w.heap.size+1,1,none⟩=some (.slice none 0 0):=(ag z).trans rfl;have y5:wz.frozen? ⟨w.heap.size+1,0,none⟩=false:=by simp[frozen?,z]
   have y6:wz.frozen? ⟨w.heap.size+1,1,none⟩=false:=by simp[frozen?,z]
   have HL:Hid _:=n5;have q8:Hid _:=g3;have HB:Hid _:=n3;have H4:Hid _:=z;clear n5 n3 z H g3
   go_wp2_with fail
   refine bodyPost_ret (v:=.agg #[.slice j9 j8 j7,.slice bo bn bc]) (by simp[results,Tryz.results25,go_sem,x4,v7]) rfl ⟨j9,j8,j7,bo,bn,bc,C,R,X,K,B,F',rfl,⟨q8.out, ?_⟩,n9,r3, ?_⟩
   ·exact bG.other (show bG w0 wz n C R X K B F' from HL.out) (g:=w.heap.size+1) (T':=67) (λq hq=>(heap_setCell _ _ _ _ hq).trans (heap_setCell _ _ _ _ hq)) ⟨_,H4.out⟩ (by decide)
   ·exact(HB.out.setCell (p:=⟨w.heap.size+1,0,none⟩) (by show n<=w.heap.size+1;omega) _).setCell (p:=⟨w.heap.size+1,1,none⟩) (by show n<=w.heap.size+1;omega) _
end Go.Proofs.YtdifpeaklamhnaaGreatDoor

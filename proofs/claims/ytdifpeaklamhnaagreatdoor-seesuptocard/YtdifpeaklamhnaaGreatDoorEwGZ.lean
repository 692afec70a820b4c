import Derived.Test.YtdifpeaklamhnaaGreatDoorBaB
import Derived.Test.YtdifpeaklamhnaaGreatDoorWkE
set_option linter.unusedVariables false
set_option linter.unusedSimpArgs false
set_option maxRecDepth 100000
set_option maxHeartbeats 0
namespace Go.Proofs.YtdifpeaklamhnaaGreatDoor
open Go.Proofs.Tryz
open Go.RowKit
open World (cell?_of_block size_alloc size_setCell)
open Below (heap_setCell refl)
def xH:Bs:=[105,102]
def nz:Bs:=[110,111,116,101]
def zU:Bs:=[108,101,110]
def Ck:Bs:=[99,97,116]
def hAnd:Bs:=[97,110,100]
def hOr:Bs:=[111,114]
def zV:Bs:=[110,111,116]
def oH:Bs:=[105,115,110,117,108,108]
def dm:aj:=(0,0,[])
def aV(b:Bool):aj:=(3,gz b,[])
abbrev Rs:=aj × Int × List Bs
abbrev Ev:=Ex->List Bs->Option Rs
def bF:List aj->Bool
 | []=>false
 |c::cs=>(c.1==0)||bF cs
def gJ(f:Ev):List Ex->List Bs->Option (List aj × Int × List Bs)
 | [],ns=>some ([],0,ns)
 |e::es,ns=>match f e ns with
  |none=>none
  |some (c,k,n1)=>if k≠0 then some ([],k,n1)else match gJ f es n1 with
   |none=>none
   |some (cs,k2,n2)=>if k2≠0 then some ([],k2,n2)else some (c::cs,0,n2)
def tZ(f:Ev)(stop last:aj):List Ex->List Bs->Option Rs
 | [],ns=>some (last,0,ns)
 |e::es,ns=>match f e ns with
  |none=>none
  |some (c,k,n1)=>if k≠0\/c=stop then some (c,k,n1)else tZ f stop (if c.1=0 then c else last) es n1
def Tu(f:Ev):List Ex->List Bs->Option Rs
 | [a,b,c],ns=>match f a ns with
  |none=>none
  |some (v,k,n1)=>if k≠0 then some (dm,k,n1)else if v=aV true then f b n1 else f c n1
 |_,_=>none
def uy(h:Bs)(n:Int):aj:=if h= [61]then aV (n==0)else if h= [60]then aV (decide (n<0))else aV (decide (n<=0))
def xL(c:aj):aj:=aV (c==aV false)
def Rp(h:Bs)(a b:Int):Int:=if h= [43]then a+b else if h= [45]then a- b else if h= [42]then a*b else a.tdiv b
def qD(h:Bs)(a b:Int):aj × Int:=if h= [47]/\b=0 then(dm,10)else if aY (Rp h a b)then((1,Rp h a b,[]),0)else(dm,11)
def qE:List aj->Bs
 | []=>[]
 |c::cs=>c.2.2++qE cs
def Ii(cs:List aj):aj × Int:=if 30<(qE cs).length then(dm,12)else((2,0,qE cs),0)
def IM(h:Bs):Bool:=h== [43]||h== [45]||h== [42]||h== [47]
def IQ(h:Bs):Bool:=h== [61]||h== [60]||h== [60,61]
def mI(cs:List aj):Bool:=cs.all λc=>decide (c.2.2.length<=1000)
def QH(h:Bs)(c:aj):Option (aj × Int):=
 if h=oH then some (aV (c.1==0),0)else if h=zV then some (if c.1=0 then dm else xL c,0)else if h=zU then some (if c.1=0 then dm else(1,(c.2.2.length:Int),[]),0)else none
def Ed(h:Bs)(a b:aj):Option (aj × Int):=
 if IQ h then some (if a.1=0\/b.1=0 then dm else uy h (sK a b),0)
 else if IM h then(if aY a.2.1&&aY b.2.1 then some (if a.1=0\/b.1=0 then(dm,0)else qD h a.2.1 b.2.1)else none)
 else none
def qB(h:Bs)(cs:List aj):Option (aj × Int):=
 if h=Ck then(if mI cs then some (if bF cs then(dm,0)else Ii cs)else none)else match cs with
 | [c]=>QH h c
 | [a,b]=>Ed h a b
 |_=>none
def SX(v:aj):Bool:=decide (-9223372036854775808<=v.2.1)&&decide (v.2.1<=9223372036854775807)&&decide (v.2.2.length<=1000)
def AX(ns:List Bs):List aj->Option Rs
 | [c]=>if SX c&&decide (ns.length<=1000000)then some (c,0,ns++ [ku c])else none
 |_=>none
def nC(f:Ev)(h:Bs)(ops:List Ex)(ns:List Bs):Option Rs:=
 if h=hAnd then tZ f (aV false) (aV true) ops ns
 else if h=hOr then tZ f (aV true) (aV false) ops ns
 else if h=xH then Tu f ops ns
 else match gJ f ops ns with
  |none=>none
  |some (cs,k,n1)=>if k≠0 then some (dm,k,n1)else if h=nz then AX n1 cs else match qB h cs with
   |none=>none
   |some (v,k2)=>some (v,k2,n1)
def jO(cs:List aj)(p:Int):Option aj:=if 0<=p then cs[p.toNat]? else none
def Er(fns:List Fn)(f:Ev)(g:List aj->Ex->List Bs->Option Rs)(fi:Option Nat)(ops:List Ex)(ns:List Bs):Option Rs:=match fi with
 |none=>none
 |some i=>match fns[i]? with
  |none=>none
  |some fn=>match gJ f ops ns with
   |none=>none
   |some (cs,k,n1)=>if k≠0 then some (dm,k,n1)else g cs fn.body n1
def lD(o:Option aj)(ns:List Bs):Option Rs:=match o with
 |none=>none
 |some c=>some (c,0,ns)
def pg(fns:List Fn)(user:Bs):Nat->List aj->List aj->Ev
 |0,_,_,_,_=>none
 |N+1,ax,args,.mk sort _ _ _ vk vn vs place head fi ops,ns=>
  if 1000<ops.length then none
  else if sort=1 then some ((2,0,user),0,ns)
  else if sort=2 then lD (jO ax place) ns
  else if sort=3 then lD (jO args place) ns
  else if sort=4 then nC (pg fns user N ax args) head ops ns
  else if sort=5 then Er fns (pg fns user N ax args) (λcs=>pg fns user N [] cs) fi ops ns
  else some ((vk,vn,vs),0,ns)
def rJ(ns:List Bs):List Value:=ns.map λs=>Value.string (aa s)
def Dx(T0:TypeId)(wb:Nat)(w w':World):Prop:=Below wb w w'/\∀(g:Nat) (cur:Array Value) (T:TypeId) (fz:Nat × Nat),w.heap[g]? =some (.cells cur T fz)->T≠9->T≠T0->w'.heap[g]? =some (.cells cur T fz)
section
variable {T0 : TypeId} {wb : Nat} {w x y : World}
theorem Dx.size(h:Dx T0 wb w x):w.heap.size<=x.heap.size:=h.1.size
theorem Dx.trans(h:Dx T0 wb w x)(k:Dx T0 wb x y):Dx T0 wb w y:=
 ⟨h.1.trans k.1,λg d T e a b c=>k.2 g d T e (h.2 g d T e a b c) b c⟩
theorem Below.kn(h:Below w.heap.size w x)(b:wb<=w.heap.size):Dx T0 wb w x:=
 ⟨h.mono b,λg _ _ _ a _ _=>(h.block g (ai a)).trans a⟩
theorem Dx.more(h:Dx T0 wb w x)(f:wb<=w.heap.size)(k:Below w.heap.size x y):Dx T0 wb w y:=
 ⟨h.1.trans (k.mono f),λg a T b e c d=>(k.block g (ai e)).trans (h.2 g a T b e c d)⟩
end
def lZ(w:World)(v:Value)(cs:List aj):Prop:=aO w v cs/\∀ao n cap,v=.slice ao n cap->∀b o,ao=some ⟨b,o,none⟩->∃cur fz,w.heap[b]? =some (.cells cur 56 fz)
theorem lZ.move{w x:World}{v:Value}{cs:List aj}(h:lZ w v cs)(A:w.heap.size<=x.heap.size)(l:∀(g:Nat) (a:Array Value) (c:Nat × Nat),w.heap[g]? =some (.cells a 56 c)->x.heap[g]? =some (.cells a 56 c)):lZ x v cs:=by
 obtain⟨⟨n,cap,k,r,s⟩,m⟩:=h;refine⟨⟨n,cap,k,r, ?_⟩,λp B j e b o q=> ?_⟩
 ·rcases s with h|⟨b,off,e,hl,hc⟩
  ·exact .inl h
  ·obtain⟨a,c,hb⟩:=m _ _ _ k b off e;have d:=(l b a c hb).trans hb.symm;refine .inr ⟨b,off,e,by omega,λi f t=> ?_⟩;obtain⟨u,y,z⟩:=hc i f t;exact⟨(cell?_of_block d).trans u,(cell?_of_block d).trans y,(cell?_of_block d).trans z⟩
 ·obtain⟨a,c,hb⟩:=m _ _ _ e b o q;exact⟨a,c,l b a c hb⟩
theorem lZ.ag{w x:World}{v:Value}{cs:List aj}(h:lZ w v cs)(hb:Below w.heap.size w x):lZ x v cs:=
 h.move hb.size λg _ _ e=>(hb.block g (ai e)).trans e
abbrev DC(wb:Nat)(co:Option Addr)(cn cc:Nat)(ao:Option Addr)(an ac:Nat):Value:=.agg #[.pointer (some ⟨wb,0,none⟩),.slice co cn cc,.slice ao an ac]
abbrev Tq(wb:Nat)(co:Option Addr)(cn cc:Nat)(ao:Option Addr)(an ac:Nat):Obj:=.cells #[.pointer (some ⟨wb,0,none⟩),.slice co cn cc,.slice ao an ac] 312
abbrev Dz(sort ty size:Int)(quiet:Bool)(vk vn:Int)(vs:Bs)(place:Int)(head:Bs)(fp xo:Option Addr)(xn xc:Nat):Array Value:= #[.int .i64 sort,.int .i64 ty,.int .i64 size,.bool quiet,.int .i64 vk,.int .i64 vn,.string (aa vs),.int .i64 place,.string (aa head),.pointer fp,.slice xo xn xc]
abbrev aI(k n:Int)(s:ByteArray):Obj:=.cells #[.int .i64 k,.int .i64 n,.string s] 56
theorem gP(x:World)(b j:Nat)(a0 a1 a2:Value)(h:j≠b):(((x.setCell ⟨b,0,none⟩ a0).setCell ⟨b,1,none⟩ a1).setCell ⟨b,2,none⟩ a2).heap[j]? =x.heap[j]? :=by
 rw[heap_setCell _ _ _ _ h,heap_setCell _ _ _ _ h,heap_setCell _ _ _ _ h]
theorem Dx.kF{T0:TypeId}{wb:Nat}{w x:World}(h:Dx T0 wb w x){b:Nat}(i:wb<=w.heap.size)(hb:w.heap.size<=b)(a0 a1 a2:Value):Dx T0 wb w (((x.setCell ⟨b,0,none⟩ a0).setCell ⟨b,1,none⟩ a1).setCell ⟨b,2,none⟩ a2):=
 ⟨((h.1.setCell (p:=⟨b,0,none⟩) (by simp;omega) _).setCell (p:=⟨b,1,none⟩) (by simp;omega) _).setCell (p:=⟨b,2,none⟩) (by simp;omega) _,λg a T c e d f=>(gP x b g _ _ _ (by have:=ai e;omega)).trans (h.2 g a T c e d f)⟩
theorem aQ{x:World}{b:Nat}{a0 a1 a2:Value}{T:TypeId}(h:x.heap[b]? =some (.cells #[a0,a1,a2] T (0,0))):
  (x.cell? ⟨b,0,none⟩=some a0/\x.cell? ⟨b,1,none⟩=some a1/\x.cell? ⟨b,2,none⟩=some a2)/\(x.frozen? ⟨b,0,none⟩=false/\x.frozen? ⟨b,1,none⟩=false/\x.frozen? ⟨b,2,none⟩=false):=by
 simp[World.cell?,World.frozen?,h]
theorem NS(w:World)(o:Obj)(g:Nat):(w.alloc o).heap[g]? =if g=w.heap.size then some o else w.heap[g]? :=by
 by_cases h:g=w.heap.size
 ·subst h;rw[if_pos rfl];exact heap_alloc_new w o
 ·rw[if_neg h];rcases Nat.lt_or_ge g w.heap.size with h1|h1
  ·exact Below.heap_alloc _ _ _ h1
  ·rw[Array.getElem?_eq_none (by rw[size_alloc];omega),Array.getElem?_eq_none (by omega)]
theorem dA(w:World)(a b c:Obj):Below w.heap.size w (((w.alloc a).alloc b).alloc c):=
 (((refl _ w).alloc (Nat.le_refl _) _).alloc (by simp[size_alloc]) _).alloc (by simp[size_alloc];omega) _
theorem Ll(w:World)(a b c:Obj):(((w.alloc a).alloc b).alloc c).heap[w.heap.size]? =some a/\(((w.alloc a).alloc b).alloc c).heap[w.heap.size+1]? =some b/\(((w.alloc a).alloc b).alloc c).heap[w.heap.size+2]? =some c:=by
 simp only[NS,size_alloc];refine⟨?_, ?_, ?_⟩
 ·rw[if_neg (by omega),if_neg (by omega),if_pos trivial]
 ·rw[if_neg (by omega),if_pos trivial]
 ·rw[if_pos trivial]
theorem mH{x:World}{b:Nat}{b0 b1 b2:Value}{T:TypeId}{a:Nat × Nat}(h:x.heap[b]? =some (.cells #[b0,b1,b2] T a))(a0 a1 a2:Value):(((x.setCell ⟨b,0,none⟩ a0).setCell ⟨b,1,none⟩ a1).setCell ⟨b,2,none⟩ a2).heap[b]? =some (.cells #[a0,a1,a2] T a):=by
 simp[World.setCell,Array.getElem?_modify,h]
theorem aH{B b:Nat}{w x:World}(h:Below B w x)(hb:B<=b)(a0 a1 a2:Value):Below B w (((x.setCell ⟨b,0,none⟩ a0).setCell ⟨b,1,none⟩ a1).setCell ⟨b,2,none⟩ a2):=
 ((h.setCell (p:=⟨b,0,none⟩) hb _).setCell (p:=⟨b,1,none⟩) hb _).setCell (p:=⟨b,2,none⟩) hb _
def gV(c:aj):List Value:=[.int .i64 c.1,.int .i64 c.2.1,.string (aa c.2.2)]
def jK:List aj->List Value
 | []=>[]
 |c::cs=>gV c++jK cs
theorem oz(a b:List aj):jK (a++b)=jK a++jK b:=by
 induction a with
 |nil=>rfl
 |cons c cs ih=>simp[jK,ih]
theorem rY:∀(cs:List aj) (i:Nat) (c:aj),cs[i]? =some c->∀j,j<3->(jK cs)[i*3+j]? =(gV c)[j]?
 | [],i,c,h,_,_=>by simp at h
 |d::cs,0,c,h,j,hj=>by
  simp at h;subst h;rw[jK,List.getElem?_append_left (by simp[gV];omega)];simp
 |d::cs,i+1,c,h,j,hj=>by
  have:=rY cs i c (by simpa using h) j hj;rw[jK,List.getElem?_append_right (by simp[gV];omega),<-this];congr 1;simp[gV];omega
theorem wK{w:World}{b:Nat}{v:Value}{cs:List aj}(h:w.ownsRow b 56 3 v cs.length (jK cs))(m:cs.length<=1000):aO w v cs:=by
 rcases h.2 with⟨rfl,d⟩|⟨g,cap,a,rfl,n⟩
 ·have:cs= []:=List.length_eq_zero_iff.mp d;subst this;exact⟨_,_,rfl,by simp,.inl rfl⟩
 ·refine⟨_,_,rfl,by unfold maxLen;omega,.inr ⟨g,0,rfl,(h.lt g rfl).2,λi c e=> ?_⟩⟩;have k:∀j u,j<3->(gV c)[j]? =some u->w.cell? ⟨g,i*3+j,none⟩=some u:=by
   intro j u f l;have:=h.cells (g:=g) rfl (i*3+j) u (by rw[rY cs i c e j f];exact l);rw[Addr.add_lit]at this;simpa using this
  refine⟨?_, ?_, ?_⟩
  ·have:=k 0 _ (by omega) rfl;simpa using this
  ·have:=k 1 _ (by omega) rfl;simpa using this
  ·have:=k 2 _ (by omega) rfl;simpa using this
theorem Ij{w:World}{b:Nat}{v:Value}{cs:List aj}(h:w.ownsRow b 56 3 v cs.length (jK cs))(f:cs.length<=1000):lZ w v cs:=by
 refine⟨wK h f,λj n cap e g o d=> ?_⟩;rw[e,d]at h;rcases h.2 with⟨e,l⟩|⟨k,a,c,e,_,i,_⟩
 ·cases e
 ·cases e;exact⟨_,_,i⟩
def su(d:List aj)(o:Option (List aj × Int × List Bs)):Option (List aj × Int × List Bs):=match o with
 |none=>none
 |some (cs,k,n)=>if k≠0 then some ([],k,n)else some (d++cs,0,n)
theorem Mc{f:Ev}{a:List Ex}{ns:List Bs}{r:List aj × Int × List Bs}(h:gJ f a ns=some r):su [] (gJ f a ns)=some r:=by
 rw[h];obtain⟨cs,k,n⟩:=r;rw[su];by_cases b:k=0
 ·subst b;simp
 ·rw[if_pos b]
  cases a with
  |nil=>rw[gJ]at h;cases h;exact absurd rfl b
  |cons e a=>
   rw[gJ]at h;split at h
   ·cases h
   ·split at h
    ·cases h;rfl
    ·split at h
     ·cases h
     ·split at h
      ·cases h;rfl
      ·cases h;exact absurd rfl b
theorem IW{f:Ev}{e:Ex}{g:List Ex}{d:List aj}{ns:List Bs}{r:List aj × Int × List Bs}(h:su d (gJ f (e::g) ns)=some r):∃c k n,f e ns=some (c,k,n)/\(k≠0->r=([],k,n))/\(k=0->su (d++ [c]) (gJ f g n)=some r):=by
 rw[gJ]at h;split at h
 ·cases h
 ·next c k n i=>
  refine⟨c,k,n,i,λb=> ?_,λb=> ?_⟩
  ·rw[if_pos b,su,if_pos b]at h;cases h;rfl
  ·rw[if_neg (by omega)]at h;split at h
   ·cases h
   ·next cs l m j=>
    rw[j];split at h
    ·next a=>rw[su,if_pos a]at h ⊢;exact h
    ·next a=>rw[su,if_neg (by simp)]at h;rw[su,if_neg a];simpa using h
theorem yM:(Tryz.prog.info? 56).map (λi=>(i.zero,i.size,i.bytes))=some (some (.agg #[.int .i64 0,.int .i64 0,.string ⟨#[]⟩]),3,32):=by kernel_rfl
theorem yH{w:World}{r:List Nat}{l:Option Addr}{n cap:Nat}{m:List Ex}(h:lH w r (.slice l n cap) m)(i:Nat)(A:i<m.length):∃g sort ty size quiet vk vn vs place head fp xo xn xc,l=some ⟨g,0,none⟩/\g<w.heap.size/\
  dJ w r (λ_=>True) [.int .i64 sort,.int .i64 ty,.int .i64 size,.bool quiet,.int .i64 vk,.int .i64 vn,.string (aa vs),.int .i64 place,.string (aa head),.pointer fp,.slice xo xn xc] m[i]/\
  ∀x:World,(∀p:Addr,p.block=g->x.cell? p=w.cell? p)->x.cell? ⟨g,i*11,none⟩=some (.int .i64 sort)/\x.cell? ⟨g,i*11+1,none⟩=some (.int .i64 ty)/\x.cell? ⟨g,i*11+2,none⟩=some (.int .i64 size)/\x.cell? ⟨g,i*11+3,none⟩=some (.bool quiet)/\x.cell? ⟨g,i*11+4,none⟩=some (.int .i64 vk)/\x.cell? ⟨g,i*11+5,none⟩=some (.int .i64 vn)/\x.cell? ⟨g,i*11+6,none⟩=some (.string (aa vs))/\x.cell? ⟨g,i*11+7,none⟩=some (.int .i64 place)/\x.cell? ⟨g,i*11+8,none⟩=some (.string (aa head))/\x.cell? ⟨g,i*11+9,none⟩=some (.pointer fp)/\x.cell? ⟨g,i*11+10,none⟩=some (.slice xo xn xc):=by
 obtain⟨cs,v,k,e,b,q⟩:=h
 cases e;obtain⟨g,rfl⟩:∃g,l=some ⟨g,0,none⟩:=by
  rcases b.2 with⟨h,H⟩|⟨g,k,z,h,_⟩
  ·omega
  ·cases h;exact⟨g,rfl⟩
 obtain⟨c,s,o⟩:=q.get i A;obtain⟨sort,ty,size,quiet,vk,vn,vs,place,head,G,F,fp,f,t,d,y,I,rfl,C,_,_,_,_⟩:=s.inv;refine⟨g,sort,ty,size,quiet,vk,vn,vs,place,head,fp,f,t,d,rfl,(b.lt g rfl).2,s,λx E=> ?_⟩;have a:∀j u,j<11-> [Value.int .i64 sort,.int .i64 ty,.int .i64 size,.bool quiet,.int .i64 vk,.int .i64 vn,.string (aa vs),.int .i64 place,.string (aa head),.pointer fp,.slice f t d][j]? =some u->x.cell? ⟨g,i*11+j,none⟩=some u:=by
  intro j u B D;have:=b.cells (g:=g) rfl (i*11+j) u (by rw[o j B];exact D);rw[Addr.add_lit]at this;exact(E ⟨g,i*11+j,none⟩ rfl).trans (by simpa using this)
 exact⟨by have:=a 0 _ (by omega) rfl;simpa using this,a 1 _ (by omega) rfl,a 2 _ (by omega) rfl,a 3 _ (by omega) rfl,a 4 _ (by omega) rfl,a 5 _ (by omega) rfl,a 6 _ (by omega) rfl,a 7 _ (by omega) rfl,a 8 _ (by omega) rfl,a 9 _ (by omega) rfl,a 10 _ (by omega) rfl⟩
theorem NN(w:World)(a b c d e:Obj):Below w.heap.size w (((((w.alloc a).alloc b).alloc c).alloc d).alloc e):=
 (((((refl _ w).alloc (Nat.le_refl _) _).alloc (by simp[size_alloc]) _).alloc (by simp[size_alloc];omega) _).alloc (by simp[size_alloc];omega) _).alloc (by simp[size_alloc];omega) _
theorem UR(w:World)(a b c d e:Obj):(((((w.alloc a).alloc b).alloc c).alloc d).alloc e).heap[w.heap.size]? =some a/\(((((w.alloc a).alloc b).alloc c).alloc d).alloc e).heap[w.heap.size+1]? =some b/\(((((w.alloc a).alloc b).alloc c).alloc d).alloc e).heap[w.heap.size+2]? =some c/\(((((w.alloc a).alloc b).alloc c).alloc d).alloc e).heap[w.heap.size+3]? =some d/\(((((w.alloc a).alloc b).alloc c).alloc d).alloc e).heap[w.heap.size+4]? =some e:=by
 simp only[NS,size_alloc];refine⟨?_, ?_, ?_, ?_, ?_⟩
 ·rw[if_neg (by omega),if_neg (by omega),if_neg (by omega),if_neg (by omega),if_pos trivial]
 ·rw[if_neg (by omega),if_neg (by omega),if_neg (by omega),if_pos trivial]
 ·rw[if_neg (by omega),if_neg (by omega),if_pos trivial]
 ·rw[if_neg (by omega),if_pos trivial]
 ·rw[if_pos trivial]
theorem mE(k n:Int)(s:ByteArray)(w:World):Calls prog 196 #[.agg #[.int .i64 k,.int .i64 n,.string s]] w λe w'=>e=.returned (.bool (k==0))/\w'=w.alloc (.cells #[.int .i64 k,.int .i64 n,.string s] 56):=by
 go_enter Tryz.func196,Tryz.ntmps196
 go_wp2_with fail
 go_ret;exact⟨rfl,rfl⟩
theorem bH(b:Bool)(w:World):Calls prog 137 #[.bool b] w λe w'=>e=.returned (.agg #[.int .i64 3,.int .i64 (gz b),.string ⟨#[]⟩])/\w'=w.alloc (.cells #[.int .i64 3,.int .i64 (gz b),.string ⟨#[]⟩] 56):=by
 cases b
 ·go_enter Tryz.func137,Tryz.ntmps137
  go_wp2_with fail
  exact bodyPost_ret (v:=.agg #[.int .i64 3,.int .i64 0,.string ⟨#[]⟩]) (by simp[results,Tryz.results137,go_sem]) rfl ⟨rfl,rfl⟩
 ·go_enter Tryz.func137,Tryz.ntmps137
  go_wp2_with fail
  exact bodyPost_ret (v:=.agg #[.int .i64 3,.int .i64 1,.string ⟨#[]⟩]) (by simp[results,Tryz.results137,go_sem]) rfl ⟨rfl,rfl⟩
theorem He{f:Ev}{a b:aj}{e:Ex}{g:List Ex}{ns:List Bs}{r:Rs}(h:tZ f a b (e::g) ns=some r):∃c k n,f e ns=some (c,k,n)/\(k≠0\/c=a->r=(c,k,n))/\(k=0->c≠a->tZ f a (if c.1=0 then c else b) g n=some r):=by
 rw[tZ]at h;split at h
 ·cases h
 ·next c k n j=>
  refine⟨c,k,n,j,λd=> ?_,λd i=> ?_⟩
  ·rw[if_pos d]at h;exact(Option.some.inj h).symm
  ·rw[if_neg λe=>e.elim (λe=>e d) i]at h;exact h
theorem BO(w:World)(a b c d:Obj):Below w.heap.size w ((((w.alloc a).alloc b).alloc c).alloc d):=
 ((((refl _ w).alloc (Nat.le_refl _) _).alloc (by simp[size_alloc]) _).alloc (by simp[size_alloc];omega) _).alloc (by simp[size_alloc];omega) _
def nY(b:Bool)(v:aj):Prop:=b=true↔v=aV true
section
variable {sort ty size : Int} {quiet : Bool} {vk vn : Int} {vs : Bs} {place : Int} {head : Bs} {fp xo : Option Addr} {xn xc : Nat} {sort' ty' size' : Int} {quiet' : Bool} {vk' vn' : Int} {vs' : Bs} {place' : Int} {head' : Bs} {fp' xo' : Option Addr} {xn' xc' : Nat} {sort2 ty2 nI : Int} {quiet2 : Bool} {vk2 vn2 : Int} {vs2 : Bs} {place2 : Int} {head2 : Bs} {fp2 xo2 : Option Addr} {xn2 xc2 : Nat}
end
theorem QW:(Tryz.prog.info? 9).map (λi=>(i.zero,i.size,i.bytes))=some (some (.string ⟨#[]⟩),1,16):=by kernel_rfl
theorem vI(w:World)(v:Value)(cs:List aj)(h:aO w v cs):
  Calls prog 338 #[v,.func (Fn.func 196) #[] #[]] w λe w'=>(∃i:Int,e=.returned (.int .i64 i)/\decide (0<=i)=bF cs)/\Below w.heap.size w w':=by
 obtain⟨D,cap,rfl,G,s⟩:=h;unfold maxLen at G;go_enter Tryz.func338,Tryz.ntmps338
 go_wp2_with fail
 go_loopw [8] (λt H=>∃i:Nat,i<=cs.length/\t=.int .i64 i/\Below w.heap.size w H/\Hid (bF cs=bF (cs.drop i))) (λt _=>cs.length- (intOf t).toNat)
 case atStart=>exact⟨0,Nat.zero_le _,rfl,refl _ _,rfl⟩
 case round=>
  obtain⟨i,I,rfl,d,q⟩:=hrel;have o:=d.size;by_cases f:i<cs.length
  ·obtain⟨b,a,rfl,hb,u⟩:∃b a,D=some ⟨b,a,none⟩/\b<w.heap.size/\∀(i:Nat) (c:aj),cs[i]? =some c->w.cell? ⟨b,a+i*3,none⟩=some (.int .i64 c.1)/\w.cell? ⟨b,a+i*3+1,none⟩=some (.int .i64 c.2.1)/\w.cell? ⟨b,a+i*3+2,none⟩=some (.string (aa c.2.2)):=by
    rcases s with h|h
    ·subst h;simp at f
    ·exact h
   obtain⟨x,y,z⟩:=u i cs[i] (List.getElem?_eq_getElem f);have A:=(d.cell (p:=⟨b,a+i*3,none⟩) hb).trans x;have B:=(d.cell (p:=⟨b,a+i*3+1,none⟩) hb).trans y;have C:=(d.cell (p:=⟨b,a+i*3+2,none⟩) hb).trans z;have g:Hid (bF cs=((cs[i].1==0)||bF (cs.drop (i+1)))):=by rw[Hid,q.out,List.drop_eq_getElem_cons f,bF]
   obtain⟨E,m⟩:∃c,c=cs[i]:=⟨_,rfl⟩;rw[<-m]at A B C g;obtain⟨k,n,l⟩:=E;simp only at A B C g;have F:b<wr.heap.size:=by omega
   clear u s m q x y z
   cases r:(k==0)with
   |false=>
    have j:Hid (bF cs=bF (cs.drop (i+1))):=by rw[Hid,g.out,r];rfl
    clear g
    go_wp2_with(go_at_call 196;refine(kL _ _ _ _).mono ?_;rw[r];rintro e w2 ⟨rfl,hb2⟩)
    go_roundw
    case rel=>exact⟨i+1,by omega,by go_num,d.trans (hb2.mono o),j⟩
    case measure=>simp[intOf];omega
   |true=>
    have j:Hid (bF cs=true):=by rw[Hid,g.out,r];rfl
    clear g
    go_wp2_with(go_at_call 196;refine(kL _ _ _ _).mono ?_;rw[r];rintro e w2 ⟨rfl,hb2⟩)
    go_ret;exact⟨⟨_,rfl,by rw[j.out];simp⟩,d.trans (hb2.mono o)⟩
  ·have j:Hid (bF cs=false):=by rw[Hid,q.out,List.drop_of_length_le (by omega)];rfl
   clear q s
   go_wp2_with fail
   go_ret;exact⟨⟨_,rfl,by rw[j.out];rfl⟩,d⟩
theorem fV(w:World)(v:Value)(cs:List aj)(h:aO w v cs):
  Calls prog 299 #[v,.func (Fn.func 196) #[] #[]] w λe w'=>e=.returned (.bool (bF cs))/\Below w.heap.size w w':=by
 have a:=vI w v cs h;go_enter Tryz.func299,Tryz.ntmps299
 go_wp2_with(go_at_call 338;refine a.mono ?_;rintro e w2 ⟨⟨i,rfl,hi⟩,hb2⟩)
 go_ret;exact⟨rfl,hb2⟩
theorem EE(h:Bs)(u:h= [61]\/h= [60]\/h= [60,61])(a b:aj)(w:World):
  Calls prog 303 #[.string (aa h),.agg #[.int .i64 a.1,.int .i64 a.2.1,.string (aa a.2.2)],.agg #[.int .i64 b.1,.int .i64 b.2.1,.string (aa b.2.2)]] w λe w'=>(∃t:Bool,uy h (sK a b)=aV t/\e=.returned (.agg #[.int .i64 3,.int .i64 (gz t),.string ⟨#[]⟩]))/\Below w.heap.size w w':=by
 have o:=λx:World=>QO a b x;obtain⟨n,r⟩:∃n,n=sK a b:=⟨_,rfl⟩;simp only[<-r]at o ⊢;clear r;have j:=((az w (.cells #[.int .i64 a.1,.int .i64 a.2.1,.string (aa a.2.2)] 56) (.cells #[.int .i64 b.1,.int .i64 b.2.1,.string (aa b.2.2)] 56)).alloc (by simp[size_alloc];omega) (aI 0 0 ⟨#[]⟩));have f:=heap_alloc_new ((w.alloc (.cells #[.int .i64 a.1,.int .i64 a.2.1,.string (aa a.2.2)] 56)).alloc (.cells #[.int .i64 b.1,.int .i64 b.2.1,.string (aa b.2.2)] 56)) (aI 0 0 ⟨#[]⟩);simp only[size_alloc]at f;rcases u with rfl|rfl|rfl
 ·have l:aa [61]=⟨#[61]⟩:=rfl;rw[l];have k:Hid (uy [61] n=aV (n==0)):=rfl;go_enter Tryz.func303,Tryz.ntmps303
  go_wp2_with(first
   |(go_at_call 283;refine(o _).mono ?_;rintro e w2 ⟨rfl,hb2⟩;have g:=hb2.size;simp only[size_alloc]at g;have c:=(hb2.block _ (by simp only[size_alloc];omega)).trans f;have i:Below w.heap.size w w2:=j.trans (hb2.mono (by simp only[size_alloc];omega)))
   |(go_at_call 137;refine(bH _ _).mono ?_;rintro e s ⟨rfl,rfl⟩;obtain⟨⟨z0,m,z2⟩,p,g1,q⟩:=aQ c;have d:=ai c))
  refine bodyPost_ret (v:=.agg #[.int .i64 3,.int .i64 (gz (n==0)),.string ⟨#[]⟩]) (by simp[results,Tryz.results303,go_sem,z0,m,z2,d]) rfl ⟨⟨n==0,k.out,rfl⟩, ?_⟩;exact(aH i (by omega) _ _ _).alloc (by simp only[size_setCell];exact i.size) _
 ·have l:aa [60]=⟨#[60]⟩:=rfl;rw[l];have k:Hid (uy [60] n=aV (decide (n<0))):=rfl;go_enter Tryz.func303,Tryz.ntmps303
  go_wp2_with(first
   |(go_at_call 283;refine(o _).mono ?_;rintro e w2 ⟨rfl,hb2⟩;have g:=hb2.size;simp only[size_alloc]at g;have c:=(hb2.block _ (by simp only[size_alloc];omega)).trans f;have i:Below w.heap.size w w2:=j.trans (hb2.mono (by simp only[size_alloc];omega)))
   |(go_at_call 137;refine(bH _ _).mono ?_;rintro e s ⟨rfl,rfl⟩;obtain⟨⟨z0,m,z2⟩,p,g1,q⟩:=aQ c;have d:=ai c))
  refine bodyPost_ret (v:=.agg #[.int .i64 3,.int .i64 (gz (decide (n<0))),.string ⟨#[]⟩]) (by simp[results,Tryz.results303,go_sem,z0,m,z2,d]) rfl ⟨⟨decide (n<0),k.out,rfl⟩, ?_⟩;exact(aH i (by omega) _ _ _).alloc (by simp only[size_setCell];exact i.size) _
 ·have l:aa [60,61]=⟨#[60,61]⟩:=rfl;rw[l];have k:Hid (uy [60,61] n=aV (decide (n<=0))):=rfl;go_enter Tryz.func303,Tryz.ntmps303
  go_wp2_with(first
   |(go_at_call 283;refine(o _).mono ?_;rintro e w2 ⟨rfl,hb2⟩;have g:=hb2.size;simp only[size_alloc]at g;have c:=(hb2.block _ (by simp only[size_alloc];omega)).trans f;have i:Below w.heap.size w w2:=j.trans (hb2.mono (by simp only[size_alloc];omega)))
   |(go_at_call 137;refine(bH _ _).mono ?_;rintro e s ⟨rfl,rfl⟩;obtain⟨⟨z0,m,z2⟩,p,g1,q⟩:=aQ c;have d:=ai c))
  refine bodyPost_ret (v:=.agg #[.int .i64 3,.int .i64 (gz (decide (n<=0))),.string ⟨#[]⟩]) (by simp[results,Tryz.results303,go_sem,z0,m,z2,d]) rfl ⟨⟨decide (n<=0),k.out,rfl⟩, ?_⟩;exact(aH i (by omega) _ _ _).alloc (by simp only[size_setCell];exact i.size) _
end Go.Proofs.YtdifpeaklamhnaaGreatDoor

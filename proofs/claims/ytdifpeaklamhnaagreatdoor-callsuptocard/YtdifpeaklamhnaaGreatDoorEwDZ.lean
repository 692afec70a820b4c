import Derived.Test.YtdifpeaklamhnaaGreatDoorWkFZ
import Derived.Deep.RegionHeld2
set_option linter.unusedVariables false
set_option linter.unusedSimpArgs false
set_option maxRecDepth 100000
set_option maxHeartbeats 0
namespace Go.Proofs.YtdifpeaklamhnaaGreatDoor
open Go.Proofs.Tryz
open Go.RowKit
open World (size_alloc cell?_of_block)
open Below (heap_setCell refl)
theorem KX(w:World)(A B C:Obj):(((w.alloc A).alloc B).alloc C).drew.heap[w.heap.size+1+1]? =some C:=by
 have:=heap_alloc_new ((w.alloc A).alloc B) C;rw[size_alloc,size_alloc]at this;exact this
theorem TK(w:World)(A B:Obj)(a b c:Int):
  Calls prog 230 #[.slice (some ⟨w.heap.size+1+1,0,none⟩) 3 3] (((w.alloc A).alloc B).alloc (.cells #[.int .i64 a,.int .i64 b,.int .i64 c] 3)).drew λe w'=>e=.returned (.int .i64 (aM [a,b,c]))/\w'=(((w.alloc A).alloc B).alloc (.cells #[.int .i64 a,.int .i64 b,.int .i64 c] 3)).drew:=by
 refine Lh _ (w.heap.size+1+1) 3 [a,b,c] (by simp) λj u d=> ?_;rw[ag (KX w A B _)]
 match j,d with
 |0,d=>simp at d;subst d;rfl
 |1,d=>simp at d;subst d;rfl
 |2,d=>simp at d;subst d;rfl
theorem Bd(l:Bs):(aa l).data.toList=l:=by simp[aa]
def Cw(x y:Int):Int:=Lib.compareInt x y
def NV(x y:Bs):Int:=Lib.compareBytes x y
theorem NY(x y:Int)(w:World):Calls prog 284 #[.int .i64 x,.int .i64 y] w λe w'=>e=.returned (.int .i64 (Cw x y))/\w'=w:=Tryz.cmp_Compare_int x y w
theorem NW(x y:Bs)(w:World):Calls prog 322 #[.string (aa x),.string (aa y)] w λe w'=>e=.returned (.int .i64 (NV x y))/\w'=w:=by
 have:=Tryz.strings_Compare (aa x) (aa y) w;rw[Bd,Bd]at this;exact this
theorem QO(a b:au)(w:World):
  Calls prog 283 #[.agg #[.int .i64 a.1,.int .i64 a.2.1,.string (aa a.2.2)],.agg #[.int .i64 b.1,.int .i64 b.2.1,.string (aa b.2.2)]] w λe w'=>e=.returned (.int .i64 (uj a b))/\Below w.heap.size w w':=by
 obtain⟨f,g,c⟩:=a;obtain⟨bk,h,d⟩:=b;simp only;have j:Hid (uj (f,g,c) (bk,h,d)=aM [Cw f bk,Cw g h,NV c d]):=rfl;obtain⟨r,k⟩:∃r,r=aM [Cw f bk,Cw g h,NV c d]:=⟨_,rfl⟩;have i:=TK w (.cells #[.int .i64 f,.int .i64 g,.string (aa c)] 56) (.cells #[.int .i64 bk,.int .i64 h,.string (aa d)] 56) (Cw f bk) (Cw g h) (NV c d);rw[<-k]at i j;have l:Hid (Below w.heap.size w (((w.alloc (.cells #[.int .i64 f,.int .i64 g,.string (aa c)] 56)).alloc (.cells #[.int .i64 bk,.int .i64 h,.string (aa d)] 56)).alloc (.cells #[.int .i64 (Cw f bk),.int .i64 (Cw g h),.int .i64 (NV c d)] 3)).drew):=
  (((az w _ _).alloc (by simp[size_alloc];omega) _)).drew
 clear k;go_enter Tryz.func283,Tryz.ntmps283;go_upto_region 1 with fail
 go_region_held2 (λx=>x.cell? ⟨w.heap.size,0,none⟩=some (.int .i64 f)/\x.cell? ⟨w.heap.size,1,none⟩=some (.int .i64 g)/\x.cell? ⟨w.heap.size,2,none⟩=some (.string (aa c))/\x.cell? ⟨w.heap.size+1,0,none⟩=some (.int .i64 bk)/\x.cell? ⟨w.heap.size+1,1,none⟩=some (.int .i64 h)/\x.cell? ⟨w.heap.size+1,2,none⟩=some (.string (aa d))) (go_keep) (first
  |(go_at_call 284;refine(NY _ _ _).mono ?_;rintro e w2 ⟨rfl,rfl⟩)
  |(go_at_call 322;refine(NW _ _ _).mono ?_;rintro e w2 ⟨rfl,rfl⟩)
  |(go_at_call 230;refine i.mono ?_;rintro e w2 ⟨rfl,rfl⟩))
 all_goals(go_wp2_with fail;go_ret)
 all_goals exact⟨by rw[j.out];rfl,l.out⟩
def yQ:Bs:=[105,102]
def oL:Bs:=[110,111,116,101]
def LB:Bs:=[108,101,110]
def xJ:Bs:=[99,97,116]
def hAnd:Bs:=[97,110,100]
def hOr:Bs:=[111,114]
def LC:Bs:=[110,111,116]
def nK:Bs:=[105,115,110,117,108,108]
def bO:au:=(0,0,[])
def aW(b:Bool):au:=(3,gB b,[])
abbrev Rs:=au × Int × List Bs
abbrev Ev:=Ex->List Bs->Option Rs
def bu:List au->Bool
 | []=>false
 |c::cs=>(c.1==0)||bu cs
def fE(f:Ev):List Ex->List Bs->Option (List au × Int × List Bs)
 | [],ns=>some ([],0,ns)
 |e::es,ns=>match f e ns with
  |none=>none
  |some (c,k,n1)=>if k≠0 then some ([],k,n1)else match fE f es n1 with
   |none=>none
   |some (cs,k2,n2)=>if k2≠0 then some ([],k2,n2)else some (c::cs,0,n2)
def rR(f:Ev)(stop last:au):List Ex->List Bs->Option Rs
 | [],ns=>some (last,0,ns)
 |e::es,ns=>match f e ns with
  |none=>none
  |some (c,k,n1)=>if k≠0\/c=stop then some (c,k,n1)else rR f stop (if c.1=0 then c else last) es n1
def TS(f:Ev):List Ex->List Bs->Option Rs
 | [a,b,c],ns=>match f a ns with
  |none=>none
  |some (v,k,n1)=>if k≠0 then some (bO,k,n1)else if v=aW true then f b n1 else f c n1
 |_,_=>none
def vB(h:Bs)(n:Int):au:=if h= [61]then aW (n==0)else if h= [60]then aW (decide (n<0))else aW (decide (n<=0))
def xN(c:au):au:=aW (c==aW false)
def Mj(h:Bs)(a b:Int):Int:=if h= [43]then a+b else if h= [45]then a- b else if h= [42]then a*b else a.tdiv b
def jC(h:Bs)(a b:Int):au × Int:=if h= [47]/\b=0 then(bO,10)else if aP (Mj h a b)then((1,Mj h a b,[]),0)else(bO,11)
def lS:List au->Bs
 | []=>[]
 |c::cs=>c.2.2++lS cs
def sO(cs:List au):au × Int:=if 30<(lS cs).length then(bO,12)else((2,0,lS cs),0)
def LP(h:Bs):Bool:=h== [43]||h== [45]||h== [42]||h== [47]
def EU(h:Bs):Bool:=h== [61]||h== [60]||h== [60,61]
def jU(cs:List au):Bool:=cs.all λc=>decide (c.2.2.length<=1000)
def SK(h:Bs)(c:au):Option (au × Int):=
 if h=nK then some (aW (c.1==0),0)else if h=LC then some (if c.1=0 then bO else xN c,0)else if h=LB then some (if c.1=0 then bO else(1,(c.2.2.length:Int),[]),0)else none
def Hz(h:Bs)(a b:au):Option (au × Int):=
 if EU h then some (if a.1=0\/b.1=0 then bO else vB h (uj a b),0)
 else if LP h then(if aP a.2.1&&aP b.2.1 then some (if a.1=0\/b.1=0 then(bO,0)else jC h a.2.1 b.2.1)else none)
 else none
def qm(h:Bs)(cs:List au):Option (au × Int):=
 if h=xJ then(if jU cs then some (if bu cs then(bO,0)else sO cs)else none)else match cs with
 | [c]=>SK h c
 | [a,b]=>Hz h a b
 |_=>none
def QE(v:au):Bool:=decide (-9223372036854775808<=v.2.1)&&decide (v.2.1<=9223372036854775807)&&decide (v.2.2.length<=1000)
def zk(ns:List Bs):List au->Option Rs
 | [c]=>if QE c&&decide (ns.length<=1000000)then some (c,0,ns++ [fV c])else none
 |_=>none
def lD(f:Ev)(h:Bs)(ops:List Ex)(ns:List Bs):Option Rs:=
 if h=hAnd then rR f (aW false) (aW true) ops ns
 else if h=hOr then rR f (aW true) (aW false) ops ns
 else if h=yQ then TS f ops ns
 else match fE f ops ns with
  |none=>none
  |some (cs,k,n1)=>if k≠0 then some (bO,k,n1)else if h=oL then zk n1 cs else match qm h cs with
   |none=>none
   |some (v,k2)=>some (v,k2,n1)
def qO(cs:List au)(p:Int):Option au:=if 0<=p then cs[p.toNat]? else none
def Eu(fns:List Fn)(f:Ev)(g:List au->Ex->List Bs->Option Rs)(fi:Option Nat)(ops:List Ex)(ns:List Bs):Option Rs:=match fi with
 |none=>none
 |some i=>match fns[i]? with
  |none=>none
  |some fn=>match fE f ops ns with
   |none=>none
   |some (cs,k,n1)=>if k≠0 then some (bO,k,n1)else g cs fn.body n1
def qP(o:Option au)(ns:List Bs):Option Rs:=match o with
 |none=>none
 |some c=>some (c,0,ns)
def nz(fns:List Fn)(user:Bs):Nat->List au->List au->Ev
 |0,_,_,_,_=>none
 |N+1,ay,args,.mk sort _ _ _ vk vn vs place head fi ops,ns=>
  if 1000<ops.length then none
  else if sort=1 then some ((2,0,user),0,ns)
  else if sort=2 then qP (qO ay place) ns
  else if sort=3 then qP (qO args place) ns
  else if sort=4 then lD (nz fns user N ay args) head ops ns
  else if sort=5 then Eu fns (nz fns user N ay args) (λcs=>nz fns user N [] cs) fi ops ns
  else some ((vk,vn,vs),0,ns)
def bD(ns:List Bs):List Value:=ns.map λs=>Value.string (aa s)
def Qx(w:World)(wb:Nat)(user:Bs)(no:Option Addr)(nn nc:Nat)(ns:List Bs):Prop:=
 w.heap[wb]? =some (.cells #[.string (aa user),.slice no nn nc] 221 (0,0))/\w.ownsRow (wb+1) 9 1 (.slice no nn nc) ns.length (bD ns)
def Wk(w:World)(wb:Nat)(user:Bs)(ns:List Bs):Prop:=∃no nn nc,Qx w wb user no nn nc ns
def xE(T0:TypeId)(wb:Nat)(w w':World):Prop:=Below wb w w'/\∀(g:Nat) (cur:Array Value) (T:TypeId) (fz:Nat × Nat),w.heap[g]? =some (.cells cur T fz)->T≠9->T≠T0->w'.heap[g]? =some (.cells cur T fz)
abbrev Kn:=xE 221
section
variable {T0 : TypeId} {wb : Nat} {w x y : World}
theorem xE.size(h:xE T0 wb w x):w.heap.size<=x.heap.size:=h.1.size
theorem xE.trans(h:xE T0 wb w x)(k:xE T0 wb x y):xE T0 wb w y:=
 ⟨h.1.trans k.1,λg d T e a b c=>k.2 g d T e (h.2 g d T e a b c) b c⟩
theorem Below.kn(h:Below w.heap.size w x)(b:wb<=w.heap.size):xE T0 wb w x:=
 ⟨h.mono b,λg _ _ _ a _ _=>(h.block g (af a)).trans a⟩
theorem xE.pre(hb:Below w.heap.size w x)(a:wb<=w.heap.size)(h:xE T0 wb x y):xE T0 wb w y:=(Below.kn hb a).trans h
theorem xE.more(h:xE T0 wb w x)(f:wb<=w.heap.size)(k:Below w.heap.size x y):xE T0 wb w y:=
 ⟨h.1.trans (k.mono f),λg a T b e c d=>(k.block g (af e)).trans (h.2 g a T b e c d)⟩
end
theorem Wk.lt{w:World}{wb:Nat}{a:Bs}{ns:List Bs}(h:Wk w wb a ns):wb<w.heap.size:=by
 obtain⟨_,_,_,h,_⟩:=h;exact af h
theorem Wk.ah{w x:World}{wb:Nat}{a:Bs}{ns:List Bs}(h:Wk w wb a ns)(hb:Below w.heap.size w x):Wk x wb a ns:=by
 obtain⟨i,f,e,b,c⟩:=h;exact⟨i,f,e,(hb.block wb (af b)).trans b,aA c λg d=>hb.block g (c.lt g d).2⟩
theorem dG.dJ{wb:Nat}{w x:World}{a:List Nat}{c:List Value}{t:Ex}(h:dG w a (λ_=>True) c t)(k:Kn wb w x):dG x a (λ_=>True) c t:=
 h.typed.move (λg ⟨_,cur,fz,he⟩=>(k.2 g cur _ fz he (by decide) (by decide)).trans he.symm) λ_ _=>trivial
theorem cO.dJ{wb:Nat}{w x:World}{a:List Nat}{c:List Value}{t:List Ex}(h:cO w a (λ_=>True) c t)(k:Kn wb w x):cO x a (λ_=>True) c t:=
 h.typed.move (λg ⟨_,cur,fz,he⟩=>(k.2 g cur _ fz he (by decide) (by decide)).trans he.symm) λ_ _=>trivial
theorem rH{T0:TypeId}{wb:Nat}{w x:World}{b n size:Nat}{T:TypeId}{v:Value}{d:List Value}(h:w.ownsRow b T size v n d)(k:xE T0 wb w x)(f:T≠9)(i:T≠T0):x.ownsRow b T size v n d:=
 aA h λg a=>by
  rcases h.2 with⟨rfl,_⟩|⟨j,cap,e,rfl,_,c,_⟩
  ·cases a
  ·cases a;exact(k.2 _ _ _ _ c f i).trans c.symm
theorem jJ.dJ{wb:Nat}{w x:World}{c:List Nat}{v:Value}{d:List Ex}(h:jJ w c v d)(k:Kn wb w x):jJ x c v d:=by
 obtain⟨cs,f,cap,e,a,b⟩:=h;exact⟨cs,f,cap,e,rH a k (by decide) (by decide),b.dJ k⟩
theorem kD.dJ{wb:Nat}{w x:World}{d:List Nat}{b:Nat}{fn:Fn}(h:kD w d b fn)(k:Kn wb w x):kD x d b fn:=
 h.grow λg c T e a b=>(k.2 g c T e a (by rcases b with rfl|rfl|rfl<;>decide) (by rcases b with rfl|rfl|rfl<;>decide)).trans a.symm
def dU(w:World)(v:Value)(cs:List au):Prop:=aR w v cs/\∀ao n cap,v=.slice ao n cap->∀b o,ao=some ⟨b,o,none⟩->∃cur fz,w.heap[b]? =some (.cells cur 56 fz)
theorem dU.move{w x:World}{v:Value}{cs:List au}(h:dU w v cs)(A:w.heap.size<=x.heap.size)(l:∀(g:Nat) (a:Array Value) (c:Nat × Nat),w.heap[g]? =some (.cells a 56 c)->x.heap[g]? =some (.cells a 56 c)):dU x v cs:=by
 obtain⟨⟨n,cap,k,r,s⟩,m⟩:=h;refine⟨⟨n,cap,k,r, ?_⟩,λp B j e b o q=> ?_⟩
 ·rcases s with h|⟨b,off,e,hl,hc⟩
  ·exact .inl h
  ·obtain⟨a,c,hb⟩:=m _ _ _ k b off e;have d:=(l b a c hb).trans hb.symm;refine .inr ⟨b,off,e,by omega,λi f t=> ?_⟩;obtain⟨u,y,z⟩:=hc i f t;exact⟨(cell?_of_block d).trans u,(cell?_of_block d).trans y,(cell?_of_block d).trans z⟩
 ·obtain⟨a,c,hb⟩:=m _ _ _ e b o q;exact⟨a,c,l b a c hb⟩
theorem dU.ah{w x:World}{v:Value}{cs:List au}(h:dU w v cs)(hb:Below w.heap.size w x):dU x v cs:=
 h.move hb.size λg _ _ e=>(hb.block g (af e)).trans e
theorem dU.dJ{T0:TypeId}{wb:Nat}{w x:World}{v:Value}{cs:List au}(h:dU w v cs)(k:xE T0 wb w x)(c:56≠T0:=by decide):dU x v cs:=
 h.move k.size λg a b e=>k.2 g a _ b e (by decide) c
structure Qs(w:World)(FB:List Nat)(fns:List Fn)(wb:Nat)(cv av:Value)(ay args:List au):Prop where
 fb:FB.length=fns.length
 fn:∀(i q:Nat) (fn:Fn),FB[i]? =some q->fns[i]? =some fn->kD w FB q fn
 Uy:∀x,Below wb w x->sJ x
 ay:dU w cv ay
 args:dU w av args
theorem Qs.dJ{w x:World}{c:List Nat}{fns:List Fn}{wb:Nat}{e d:Value}{ay args:List au}(h:Qs w c fns wb e d ay args)(k:Kn wb w x):Qs x c fns wb e d ay args:=
 ⟨h.fb,λi q fn a b=>(h.fn i q fn a b).dJ k,λy f=>h.Uy y (k.1.trans f),h.ay.dJ k,h.args.dJ k⟩
def Fin(wb:Nat)(user:Bs)(r:Rs)(w:World)(e:Ending)(w':World):Prop:=e=.returned (.tuple #[.agg #[.int .i64 r.1.1,.int .i64 r.1.2.1,.string (aa r.1.2.2)],.int .i64 r.2.1])/\Wk w' wb user r.2.2/\Kn wb w w'
abbrev qI(wb:Nat)(co:Option Addr)(cn cc:Nat)(ao:Option Addr)(an ac:Nat):Value:=.agg #[.pointer (some ⟨wb,0,none⟩),.slice co cn cc,.slice ao an ac]
abbrev Bh(wb:Nat)(co:Option Addr)(cn cc:Nat)(ao:Option Addr)(an ac:Nat):Obj:=.cells #[.pointer (some ⟨wb,0,none⟩),.slice co cn cc,.slice ao an ac] 312
abbrev uq(sort ty size:Int)(quiet:Bool)(vk vn:Int)(vs:Bs)(place:Int)(head:Bs)(fp xo:Option Addr)(xn xc:Nat):Array Value:= #[.int .i64 sort,.int .i64 ty,.int .i64 size,.bool quiet,.int .i64 vk,.int .i64 vn,.string (aa vs),.int .i64 place,.string (aa head),.pointer fp,.slice xo xn xc]
abbrev aC(k n:Int)(s:ByteArray):Obj:=.cells #[.int .i64 k,.int .i64 n,.string s] 56
def KM(fns:List Fn)(user:Bs)(N:Nat):Prop:=∀(e:Ex) (r:Rs) (w:World) (FB:List Nat) (wb:Nat) (ay args:List au) (co:Option Addr) (cn cc:Nat) (ao:Option Addr) (an ac:Nat) (c:Array Value) (ns:List Bs),nz fns user N ay args e ns=some r->
 Qs w FB fns wb (.slice co cn cc) (.slice ao an ac) ay args->Wk w wb user ns->dG w FB (λ_=>True) c.toList e->
 Calls prog 126 #[qI wb co cn cc ao an ac,.agg c] w λe w'=>Fin wb user r w e w'
theorem bF(x:World)(b j:Nat)(a0 a1 a2:Value)(h:j≠b):(((x.setCell ⟨b,0,none⟩ a0).setCell ⟨b,1,none⟩ a1).setCell ⟨b,2,none⟩ a2).heap[j]? =x.heap[j]? :=by
 rw[heap_setCell _ _ _ _ h,heap_setCell _ _ _ _ h,heap_setCell _ _ _ _ h]
theorem xE.mq{T0:TypeId}{wb:Nat}{w x:World}(h:xE T0 wb w x){b:Nat}(i:wb<=w.heap.size)(hb:w.heap.size<=b)(a0 a1 a2:Value):xE T0 wb w (((x.setCell ⟨b,0,none⟩ a0).setCell ⟨b,1,none⟩ a1).setCell ⟨b,2,none⟩ a2):=
 ⟨((h.1.setCell (p:=⟨b,0,none⟩) (by simp;omega) _).setCell (p:=⟨b,1,none⟩) (by simp;omega) _).setCell (p:=⟨b,2,none⟩) (by simp;omega) _,λg a T c e d f=>(bF x b g _ _ _ (by have:=af e;omega)).trans (h.2 g a T c e d f)⟩
theorem Wk.mq{x:World}{wb:Nat}{a:Bs}{ns:List Bs}(h:Wk x wb a ns){b:Nat}{c:Array Value}{k:Nat × Nat}(hb:x.heap[b]? =some (.cells c 56 k))(a0 a1 a2:Value):Wk (((x.setCell ⟨b,0,none⟩ a0).setCell ⟨b,1,none⟩ a1).setCell ⟨b,2,none⟩ a2) wb a ns:=by
 obtain⟨o,n,m,f,i⟩:=h;refine⟨o,n,m,(bF x b wb _ _ _ (λe=> ?_)).trans f,aA i λg j=>bF x b g _ _ _ λe=> ?_⟩
 ·subst e;rw[f]at hb;cases hb
 ·subst e;rcases i.2 with⟨e,_⟩|⟨p,cap,d,e,_,l,_⟩
  ·cases e;cases j
  ·cases e;cases j;rw[l]at hb;cases hb
theorem aJ{x:World}{b:Nat}{a0 a1 a2:Value}{T:TypeId}(h:x.heap[b]? =some (.cells #[a0,a1,a2] T (0,0))):
  (x.cell? ⟨b,0,none⟩=some a0/\x.cell? ⟨b,1,none⟩=some a1/\x.cell? ⟨b,2,none⟩=some a2)/\(x.frozen? ⟨b,0,none⟩=false/\x.frozen? ⟨b,1,none⟩=false/\x.frozen? ⟨b,2,none⟩=false):=by
 simp[World.cell?,World.frozen?,h]
theorem xE.box{T0:TypeId}{wb:Nat}{w x:World}(h:xE T0 wb w x){b:Nat}{a0 a1 a2:Value}{T:TypeId}(hb:w.heap[b]? =some (.cells #[a0,a1,a2] T (0,0)))(a:T≠9)(c:T≠T0):x.heap[b]? =some (.cells #[a0,a1,a2] T (0,0))/\b<x.heap.size/\(x.cell? ⟨b,0,none⟩=some a0/\x.cell? ⟨b,1,none⟩=some a1/\x.cell? ⟨b,2,none⟩=some a2)/\(x.frozen? ⟨b,0,none⟩=false/\x.frozen? ⟨b,1,none⟩=false/\x.frozen? ⟨b,2,none⟩=false):=
 have k:=h.2 b _ _ _ hb a c
 ⟨k,af k,aJ k⟩
theorem Fin.end{wb:Nat}{a:Bs}{r:Rs}{w x:World}{e:Ending}(f:e=.returned (.tuple #[.agg #[.int .i64 r.1.1,.int .i64 r.1.2.1,.string (aa r.1.2.2)],.int .i64 r.2.1]))(i:wb<w.heap.size)(g:Wk x wb a r.2.2)(kn:Kn wb w x){b:Nat}(hb:w.heap.size<=b){c:Array Value}{d:Nat × Nat}(h:x.heap[b]? =some (.cells c 56 d))(a0 a1 a2:Value):Fin wb a r w e (((x.setCell ⟨b,0,none⟩ a0).setCell ⟨b,1,none⟩ a1).setCell ⟨b,2,none⟩ a2):=
 ⟨f,g.mq h _ _ _,kn.mq (by omega) hb _ _ _⟩
theorem NL(w:World)(o:Obj)(g:Nat):(w.alloc o).heap[g]? =if g=w.heap.size then some o else w.heap[g]? :=by
 by_cases h:g=w.heap.size
 ·subst h;rw[if_pos rfl];exact heap_alloc_new w o
 ·rw[if_neg h];rcases Nat.lt_or_ge g w.heap.size with h1|h1
  ·exact Below.heap_alloc _ _ _ h1
  ·rw[Array.getElem?_eq_none (by rw[size_alloc];omega),Array.getElem?_eq_none (by omega)]
theorem dA(w:World)(a b c:Obj):Below w.heap.size w (((w.alloc a).alloc b).alloc c):=
 (((refl _ w).alloc (Nat.le_refl _) _).alloc (by simp[size_alloc]) _).alloc (by simp[size_alloc];omega) _
theorem NK(w:World)(a b c:Obj):(((w.alloc a).alloc b).alloc c).heap[w.heap.size]? =some a/\(((w.alloc a).alloc b).alloc c).heap[w.heap.size+1]? =some b/\(((w.alloc a).alloc b).alloc c).heap[w.heap.size+2]? =some c:=by
 simp only[NL,size_alloc];refine⟨?_, ?_, ?_⟩
 ·rw[if_neg (by omega),if_neg (by omega),if_pos trivial]
 ·rw[if_neg (by omega),if_pos trivial]
 ·rw[if_pos trivial]
theorem kQ{x:World}{b:Nat}{b0 b1 b2:Value}{T:TypeId}{a:Nat × Nat}(h:x.heap[b]? =some (.cells #[b0,b1,b2] T a))(a0 a1 a2:Value):(((x.setCell ⟨b,0,none⟩ a0).setCell ⟨b,1,none⟩ a1).setCell ⟨b,2,none⟩ a2).heap[b]? =some (.cells #[a0,a1,a2] T a):=by
 simp[World.setCell,Array.getElem?_modify,h]
theorem aI{B b:Nat}{w x:World}(h:Below B w x)(hb:B<=b)(a0 a1 a2:Value):Below B w (((x.setCell ⟨b,0,none⟩ a0).setCell ⟨b,1,none⟩ a1).setCell ⟨b,2,none⟩ a2):=
 ((h.setCell (p:=⟨b,0,none⟩) hb _).setCell (p:=⟨b,1,none⟩) hb _).setCell (p:=⟨b,2,none⟩) hb _
def oI(c:au):List Value:=[.int .i64 c.1,.int .i64 c.2.1,.string (aa c.2.2)]
def mM:List au->List Value
 | []=>[]
 |c::cs=>oI c++mM cs
theorem oH(a b:List au):mM (a++b)=mM a++mM b:=by
 induction a with
 |nil=>rfl
 |cons c cs ih=>simp[mM,ih]
theorem rW:∀(cs:List au) (i:Nat) (c:au),cs[i]? =some c->∀j,j<3->(mM cs)[i*3+j]? =(oI c)[j]?
 | [],i,c,h,_,_=>by simp at h
 |d::cs,0,c,h,j,hj=>by
  simp at h;subst h;rw[mM,List.getElem?_append_left (by simp[oI];omega)];simp
 |d::cs,i+1,c,h,j,hj=>by
  have:=rW cs i c (by simpa using h) j hj;rw[mM,List.getElem?_append_right (by simp[oI];omega),<-this];congr 1;simp[oI];omega
theorem Ew{w:World}{b:Nat}{v:Value}{cs:List au}(h:w.ownsRow b 56 3 v cs.length (mM cs))(m:cs.length<=1000):aR w v cs:=by
 rcases h.2 with⟨rfl,d⟩|⟨g,cap,a,rfl,n⟩
 ·have:cs= []:=List.length_eq_zero_iff.mp d;subst this;exact⟨_,_,rfl,by simp,.inl rfl⟩
 ·refine⟨_,_,rfl,by unfold maxLen;omega,.inr ⟨g,0,rfl,(h.lt g rfl).2,λi c e=> ?_⟩⟩;have k:∀j u,j<3->(oI c)[j]? =some u->w.cell? ⟨g,i*3+j,none⟩=some u:=by
   intro j u f l;have:=h.cells (g:=g) rfl (i*3+j) u (by rw[rW cs i c e j f];exact l);rw[Addr.add_lit]at this;simpa using this
  refine⟨?_, ?_, ?_⟩
  ·have:=k 0 _ (by omega) rfl;simpa using this
  ·have:=k 1 _ (by omega) rfl;simpa using this
  ·have:=k 2 _ (by omega) rfl;simpa using this
theorem yH{w:World}{b:Nat}{v:Value}{cs:List au}(h:w.ownsRow b 56 3 v cs.length (mM cs))(f:cs.length<=1000):dU w v cs:=by
 refine⟨Ew h f,λj n cap e g o d=> ?_⟩;rw[e,d]at h;rcases h.2 with⟨e,l⟩|⟨k,a,c,e,_,i,_⟩
 ·cases e
 ·cases e;exact⟨_,_,i⟩
def oO(d:List au)(o:Option (List au × Int × List Bs)):Option (List au × Int × List Bs):=match o with
 |none=>none
 |some (cs,k,n)=>if k≠0 then some ([],k,n)else some (d++cs,0,n)
theorem Bj{f:Ev}{a:List Ex}{ns:List Bs}{r:List au × Int × List Bs}(h:fE f a ns=some r):oO [] (fE f a ns)=some r:=by
 rw[h];obtain⟨cs,k,n⟩:=r;rw[oO];by_cases b:k=0
 ·subst b;simp
 ·rw[if_pos b]
  cases a with
  |nil=>rw[fE]at h;cases h;exact absurd rfl b
  |cons e a=>
   rw[fE]at h;split at h
   ·cases h
   ·split at h
    ·cases h;rfl
    ·split at h
     ·cases h
     ·split at h
      ·cases h;rfl
      ·cases h;exact absurd rfl b
theorem yU{f:Ev}{e:Ex}{g:List Ex}{d:List au}{ns:List Bs}{r:List au × Int × List Bs}(h:oO d (fE f (e::g) ns)=some r):∃c k n,f e ns=some (c,k,n)/\(k≠0->r=([],k,n))/\(k=0->oO (d++ [c]) (fE f g n)=some r):=by
 rw[fE]at h;split at h
 ·cases h
 ·next c k n i=>
  refine⟨c,k,n,i,λb=> ?_,λb=> ?_⟩
  ·rw[if_pos b,oO,if_pos b]at h;cases h;rfl
  ·rw[if_neg (by omega)]at h;split at h
   ·cases h
   ·next cs l m j=>
    rw[j];split at h
    ·next a=>rw[oO,if_pos a]at h ⊢;exact h
    ·next a=>rw[oO,if_neg (by simp)]at h;rw[oO,if_neg a];simpa using h
theorem Wk.move{w x:World}{wb:Nat}{a:Bs}{ns:List Bs}(h:Wk w wb a ns)(j:∀(g:Nat) (b:Array Value) (T:TypeId) (k:Nat × Nat),w.heap[g]? =some (.cells b T k)->T=9\/T=221->x.heap[g]? =w.heap[g]?):Wk x wb a ns:=by
 obtain⟨o,n,m,d,f⟩:=h;refine⟨o,n,m,(j _ _ _ _ d (.inr rfl)).trans d,aA f λg i=> ?_⟩;rcases f.2 with⟨e,_⟩|⟨p,cap,c,e,_,l,_⟩
 ·cases e;cases i
 ·cases e;cases i;exact j _ _ _ _ l (.inl rfl)
theorem Wk.grown{w x y:World}{wb:Nat}{a:Bs}{ns:List Bs}(h:Wk w wb a ns)(hb:Below w.heap.size w x){v:Value}{b n size:Nat}{o:List Value}(l:w.ownsRow b 56 size v n o)(k:x.grownBy y v.ownBlock):Wk y wb a ns:=by
 refine(h.ah hb).move λg j T p e m=>k.block g (af e) λc=> ?_;rcases l.2 with⟨d,_⟩|⟨q,cap,f,d,_,i,_⟩
 ·rw[d]at c;cases c
 ·rw[d]at c;cases c;have:=(hb.block _ (af i)).trans i;rw[e]at this;cases this;rcases m with h|h<;>cases h
theorem EP:(Tryz.prog.info? 56).map (λi=>(i.zero,i.size,i.bytes))=some (some (.agg #[.int .i64 0,.int .i64 0,.string ⟨#[]⟩]),3,32):=by kernel_rfl
theorem yL{w:World}{r:List Nat}{l:Option Addr}{n cap:Nat}{m:List Ex}(h:jJ w r (.slice l n cap) m)(i:Nat)(A:i<m.length):∃g sort ty size quiet vk vn vs place head fp xo xn xc,l=some ⟨g,0,none⟩/\g<w.heap.size/\
  dG w r (λ_=>True) [.int .i64 sort,.int .i64 ty,.int .i64 size,.bool quiet,.int .i64 vk,.int .i64 vn,.string (aa vs),.int .i64 place,.string (aa head),.pointer fp,.slice xo xn xc] m[i]/\
  ∀x:World,(∀p:Addr,p.block=g->x.cell? p=w.cell? p)->x.cell? ⟨g,i*11,none⟩=some (.int .i64 sort)/\x.cell? ⟨g,i*11+1,none⟩=some (.int .i64 ty)/\x.cell? ⟨g,i*11+2,none⟩=some (.int .i64 size)/\x.cell? ⟨g,i*11+3,none⟩=some (.bool quiet)/\x.cell? ⟨g,i*11+4,none⟩=some (.int .i64 vk)/\x.cell? ⟨g,i*11+5,none⟩=some (.int .i64 vn)/\x.cell? ⟨g,i*11+6,none⟩=some (.string (aa vs))/\x.cell? ⟨g,i*11+7,none⟩=some (.int .i64 place)/\x.cell? ⟨g,i*11+8,none⟩=some (.string (aa head))/\x.cell? ⟨g,i*11+9,none⟩=some (.pointer fp)/\x.cell? ⟨g,i*11+10,none⟩=some (.slice xo xn xc):=by
 obtain⟨cs,v,k,e,b,q⟩:=h
 cases e;obtain⟨g,rfl⟩:∃g,l=some ⟨g,0,none⟩:=by
  rcases b.2 with⟨h,H⟩|⟨g,k,z,h,_⟩
  ·omega
  ·cases h;exact⟨g,rfl⟩
 obtain⟨c,s,o⟩:=q.get i A;obtain⟨sort,ty,size,quiet,vk,vn,vs,place,head,G,F,fp,f,t,d,y,I,rfl,C,_,_,_,_⟩:=s.inv;refine⟨g,sort,ty,size,quiet,vk,vn,vs,place,head,fp,f,t,d,rfl,(b.lt g rfl).2,s,λx E=> ?_⟩;have a:∀j u,j<11-> [Value.int .i64 sort,.int .i64 ty,.int .i64 size,.bool quiet,.int .i64 vk,.int .i64 vn,.string (aa vs),.int .i64 place,.string (aa head),.pointer fp,.slice f t d][j]? =some u->x.cell? ⟨g,i*11+j,none⟩=some u:=by
  intro j u B D;have:=b.cells (g:=g) rfl (i*11+j) u (by rw[o j B];exact D);rw[Addr.add_lit]at this;exact(E ⟨g,i*11+j,none⟩ rfl).trans (by simpa using this)
 exact⟨by have:=a 0 _ (by omega) rfl;simpa using this,a 1 _ (by omega) rfl,a 2 _ (by omega) rfl,a 3 _ (by omega) rfl,a 4 _ (by omega) rfl,a 5 _ (by omega) rfl,a 6 _ (by omega) rfl,a 7 _ (by omega) rfl,a 8 _ (by omega) rfl,a 9 _ (by omega) rfl,a 10 _ (by omega) rfl⟩
theorem Hl(fns:List Fn)(a:Bs)(N:Nat)(HV:KM fns a N)(w:World)(Z:List Nat)(wb:Nat)(ay args:List au)(co:Option Addr)(cn cc:Nat)(I:Option Addr)(H G:Nat)
  (hF:Qs w Z fns wb (.slice co cn cc) (.slice I H G) ay args) (ns:List Bs) (M:Wk w wb a ns) (oo:Option Addr) (on oc:Nat) (s:List Ex) (V:jJ w Z (.slice oo on oc) s) (hl:s.length<=1000) (cs:List au) (k:Int) (v:List Bs) (hv:fE (nz fns a N ay args) s ns=some (cs,k,v)):
  Calls prog 252 #[qI wb co cn cc I H G,.slice oo on oc] w λe w'=>∃ro rn rc,e=.returned (.tuple #[.slice ro rn rc,.int .i64 k])/\(k=0->dU w' (.slice ro rn rc) cs)/\Wk w' wb a v/\Kn wb w w':=by
 obtain⟨i0,hi,a3,a4,a5⟩:=info_parts EP;have a2:on=s.length:=by obtain⟨_,_,_,e,_⟩:=V;cases e;rfl
 subst a2;have b4:=M.lt;have hJ:=Bj hv;go_enter Tryz.func252,Tryz.ntmps252
 go_wp2_with fail
 obtain⟨W,B⟩:∃W,W=w.alloc (Bh wb co cn cc I H G):=⟨_,rfl⟩;have a8:W.heap.size=w.heap.size+1:=by rw[B];simp[size_alloc]
 have K:Below w.heap.size w W:=by rw[B];exact ae w _
 have a0:W.heap[w.heap.size]? =some (Bh wb co cn cc I H G):=by rw[B];exact heap_alloc_new w _
 go_loopw [6,13] (λkv iv wr=>∃(i kn X:Nat) (Y:Option Addr) (d:List au) (D:List Bs),i<=s.length/\d.length=i/\kv=.slice Y kn X/\iv=.int .i64 i/\wr.ownsRow (w.heap.size+1) 56 3 (.slice Y kn X) i (mM d)/\Hid (oO d (fE (nz fns a N ay args) (s.drop i) D)=some (cs,k,v))/\Wk wr wb a D/\Kn wb W wr) (λ_ iv _=>s.length- (intOf iv).toNat)
 case atStart=>exact⟨0,0,0,none,[],ns,Nat.zero_le _,rfl,rfl,rfl,World.ownsRow_nil _ _ _ _,hJ,by rw[<-B];exact M.ah K,by rw[<-B];exact Below.kn (refl _ _) (by omega)⟩
 case round=>
  obtain⟨i,kn,X,Y,d,D,a9,hd,rfl,rfl,o,E,A,J⟩:=hrel;have b3:=J.size;have l:Kn wb w wr:=J.pre K (by omega);clear B M hJ hv;by_cases O:i<s.length
  ·obtain⟨g,sort,ty,size,quiet,vk,vn,vs,place,head,fp,xo,xn,xc,rfl,hg,hx,m⟩:=yL (V.dJ l) i O;obtain⟨q0,q1,q2,q3,q4,q5,q6,q7,q8,q9,a6⟩:=m wr λp hp=>rfl;rw[List.drop_eq_getElem_cons O]at E;obtain⟨cv,P,Q,L,y,z⟩:=yU E.out;obtain⟨_,b1,⟨f0,f1,f2⟩,_⟩:=J.box a0 (by decide) (by decide);have S:=HV s[i] (cv,P,Q) (wr.alloc (.cells (uq sort ty size quiet vk vn vs place head fp xo xn xc) 210)) Z wb ay args co cn cc I H G (uq sort ty size quiet vk vn vs place head fp xo xn xc) D L ((hF.dJ l).dJ (Below.kn (ae wr _) (by omega))) (A.ah (ae wr _)) (hx.ah (ae wr _));simp only[Fin]at S;clear m L hx V hF E HV;obtain⟨T,t,U⟩:=cv;simp only at S;by_cases n:P=0
   ·have F:Hid (oO (d++ [(T,t,U)]) (fE (nz fns a N ay args) (s.drop (i+1)) Q)=some (cs,k,v)):=z n;subst n;clear y z
    go_wp2_with(first
     |(go_at_call 126;refine S.mono ?_;rintro e w2 ⟨rfl,hk2,kn2⟩;have b:Kn wb wr w2:=kn2.pre (ae wr _) (by omega);have b2:=b.size;have r:=rH o b (by decide) (by decide))
     |(at_builtin;refine wpList_append_own _ rfl (.tmp 26) (.tmp 28) 57 rfl (w.heap.size+1) 56 i0 (.agg #[.int .i64 0,.int .i64 0,.string ⟨#[]⟩]) 3 32 Tryz.underlying57 hi a3 a4 a5 rfl (by decide) _ _ _ rfl ((r.alloc _).alloc _) ⟨w2.heap.size+1,0,none⟩ 1 1 [.int .i64 T,.int .i64 t,.string (aa U)] rfl rfl ?c1 ?c2 ?c3 ?c4 ?c5 ?_))
    case c1=>
     intro j u C
     match j,C with
     |0,C|1,C|2,C=>simp at C;subst C;simp[Addr.add]
    case c2=>intro u hu;simp at hu;rcases hu with rfl|rfl|rfl<;>rfl
    case c3=>unfold maxLen;omega
    case c4=>omega
    case c5=>simp;omega
    ·intro v' w3 f c _;obtain⟨x,n',h,rfl⟩:∃x n' h,v'=.slice x n' h:=by
      rcases f.2 with⟨e,_⟩|⟨q,h,a7,e,_⟩<;>exact⟨_,_,_,e⟩
     have R:w3.ownsRow (w.heap.size+1) 56 3 (.slice x n' h) (i+1) (mM (d++ [(T,t,U)])):=by
      rw[oH];exact f
     have RK:Wk w3 wb a Q:=hk2.grown (az w2 _ _) r c;have RB:Kn wb W w3:=(J.trans b).more (by omega) ((((refl _ w2).alloc (by omega) _).alloc (by simp;omega) _).grown c (by simp;omega) (λk M=>by have:=(o.lt k M).1;omega));have a1:(d++ [(T,t,U)]).length=i+1:=by simp[hd]
     clear f c o r q0 q1 q2 q3 q4 q5 q6 q7 q8 q9 a6 f0 f1 f2 J b kn2 hk2 l A
     go_wp2
     go_roundw
     case rel=>exact⟨i+1,_,_,_,_,_,by omega,a1,rfl,by go_num,R,F,RK,RB⟩
     case measure=>simp[intOf];omega
   ·have F:Hid ((cs,k,v)=([],P,Q)):=y n;have b0:(P==0)=false:=by simpa using n
    clear y z
    go_wp2_with(go_at_call 126;refine S.mono ?_;rintro e w2 ⟨rfl,hk2,kn2⟩;have b:Kn wb wr w2:=kn2.pre (ae wr _) (by omega))
    go_ret2;obtain⟨rfl,rfl,rfl⟩:cs= []/\k=P/\v=Q:=by have:=F.out;cases this;exact⟨rfl,rfl,rfl⟩
    exact⟨_,_,_,rfl,λe=>absurd e n,hk2.ah (ae w2 _),(l.trans b).trans (Below.kn (ae w2 _) (by have:=b.size;omega))⟩
  ·have F:Hid ((d,(0:Int),D)=(cs,k,v)):=by
    have:=E.out;rw[List.drop_of_length_le (by omega),fE,oO,if_neg (by simp),List.append_nil]at this;exact Option.some.inj this
   have HI:Hid (dU wr (.slice Y kn X) d):=yH (by rw[hd];exact o) (by omega);clear o V hF E HV
   go_wp2_with fail
   go_ret2;obtain⟨rfl,rfl,rfl⟩:d=cs/\k=0/\D=v:=by have:=F.out;cases this;exact⟨rfl,rfl,rfl⟩
   exact⟨_,_,_,rfl,λ_=>HI.out,A,l⟩
theorem NG(w:World)(a b c d e:Obj):Below w.heap.size w (((((w.alloc a).alloc b).alloc c).alloc d).alloc e):=
 (((((refl _ w).alloc (Nat.le_refl _) _).alloc (by simp[size_alloc]) _).alloc (by simp[size_alloc];omega) _).alloc (by simp[size_alloc];omega) _).alloc (by simp[size_alloc];omega) _
theorem UJ(w:World)(a b c d e:Obj):(((((w.alloc a).alloc b).alloc c).alloc d).alloc e).heap[w.heap.size]? =some a/\(((((w.alloc a).alloc b).alloc c).alloc d).alloc e).heap[w.heap.size+1]? =some b/\(((((w.alloc a).alloc b).alloc c).alloc d).alloc e).heap[w.heap.size+2]? =some c/\(((((w.alloc a).alloc b).alloc c).alloc d).alloc e).heap[w.heap.size+3]? =some d/\(((((w.alloc a).alloc b).alloc c).alloc d).alloc e).heap[w.heap.size+4]? =some e:=by
 simp only[NL,size_alloc];refine⟨?_, ?_, ?_, ?_, ?_⟩
 ·rw[if_neg (by omega),if_neg (by omega),if_neg (by omega),if_neg (by omega),if_pos trivial]
 ·rw[if_neg (by omega),if_neg (by omega),if_neg (by omega),if_pos trivial]
 ·rw[if_neg (by omega),if_neg (by omega),if_pos trivial]
 ·rw[if_neg (by omega),if_pos trivial]
 ·rw[if_pos trivial]
theorem mU(k n:Int)(s:ByteArray)(w:World):Calls prog 196 #[.agg #[.int .i64 k,.int .i64 n,.string s]] w λe w'=>e=.returned (.bool (k==0))/\w'=w.alloc (.cells #[.int .i64 k,.int .i64 n,.string s] 56):=by
 go_enter Tryz.func196,Tryz.ntmps196
 go_wp2_with fail
 go_ret;exact⟨rfl,rfl⟩
theorem cK(b:Bool)(w:World):Calls prog 137 #[.bool b] w λe w'=>e=.returned (.agg #[.int .i64 3,.int .i64 (gB b),.string ⟨#[]⟩])/\w'=w.alloc (.cells #[.int .i64 3,.int .i64 (gB b),.string ⟨#[]⟩] 56):=by
 cases b
 ·go_enter Tryz.func137,Tryz.ntmps137
  go_wp2_with fail
  exact bodyPost_ret (v:=.agg #[.int .i64 3,.int .i64 0,.string ⟨#[]⟩]) (by simp[results,Tryz.results137,go_sem]) rfl ⟨rfl,rfl⟩
 ·go_enter Tryz.func137,Tryz.ntmps137
  go_wp2_with fail
  exact bodyPost_ret (v:=.agg #[.int .i64 3,.int .i64 1,.string ⟨#[]⟩]) (by simp[results,Tryz.results137,go_sem]) rfl ⟨rfl,rfl⟩
theorem Fin.ah{wb:Nat}{a:Bs}{r:Rs}{w x y:World}{e:Ending}(h:Fin wb a r w e x)(hb:Below x.heap.size x y)(b:wb<=w.heap.size):Fin wb a r w e y:=
 ⟨h.1,h.2.1.ah hb,h.2.2.trans (Below.kn hb (by have:=h.2.2.size;omega))⟩
theorem zX{f:Ev}{a b:au}{e:Ex}{g:List Ex}{ns:List Bs}{r:Rs}(h:rR f a b (e::g) ns=some r):∃c k n,f e ns=some (c,k,n)/\(k≠0\/c=a->r=(c,k,n))/\(k=0->c≠a->rR f a (if c.1=0 then c else b) g n=some r):=by
 rw[rR]at h;split at h
 ·cases h
 ·next c k n j=>
  refine⟨c,k,n,j,λd=> ?_,λd i=> ?_⟩
  ·rw[if_pos d]at h;exact(Option.some.inj h).symm
  ·rw[if_neg λe=>e.elim (λe=>e d) i]at h;exact h
def rU(w x:World)(wb:Nat)(co:Option Addr)(cn cc:Nat)(ao:Option Addr)(an ac:Nat)(sn:Int)(last:au):Prop:=
 x.heap[w.heap.size]? =some (Bh wb co cn cc ao an ac)/\x.heap[w.heap.size+1]? =some (aC 3 sn ⟨#[]⟩)/\x.heap[w.heap.size+3]? =some (aC 0 0 ⟨#[]⟩)/\x.heap[w.heap.size+4]? =some (aC last.1 last.2.1 (aa last.2.2))
theorem rU.dJ{w x y:World}{wb:Nat}{co:Option Addr}{cn cc:Nat}{d:Option Addr}{c b:Nat}{e:Int}{a:au}(h:rU w x wb co cn cc d c b e a)(k:Kn wb x y):rU w y wb co cn cc d c b e a:=
 ⟨k.2 _ _ _ _ h.1 (by decide) (by decide),k.2 _ _ _ _ h.2.1 (by decide) (by decide),k.2 _ _ _ _ h.2.2.1 (by decide) (by decide),k.2 _ _ _ _ h.2.2.2 (by decide) (by decide)⟩
theorem rU.set{w x:World}{wb:Nat}{co:Option Addr}{cn cc:Nat}{d:Option Addr}{c b:Nat}{e:Int}{a:au}(h:rU w x wb co cn cc d c b e a)(k n:Int)(s:Bs):rU w (((x.setCell ⟨w.heap.size+4,0,none⟩ (.int .i64 k)).setCell ⟨w.heap.size+4,1,none⟩ (.int .i64 n)).setCell ⟨w.heap.size+4,2,none⟩ (.string (aa s))) wb co cn cc d c b e (k,n,s):=
 ⟨(bF _ _ _ _ _ _ (by omega)).trans h.1,(bF _ _ _ _ _ _ (by omega)).trans h.2.1,(bF _ _ _ _ _ _ (by omega)).trans h.2.2.1,kQ h.2.2.2 _ _ _⟩
theorem Qf(fns:List Fn)(f:Bs)(N:Nat)(HV:KM fns f N)(w:World)(Z:List Nat)(wb:Nat)(ay args:List au)(co:Option Addr)(cn cc:Nat)(z:Option Addr)(y x:Nat)
  (hF:Qs w Z fns wb (.slice co cn cc) (.slice z y x) ay args) (ns:List Bs) (hk:Wk w wb f ns) (oo:Option Addr) (on oc:Nat) (A:List Ex) (Y:jJ w Z (.slice oo on oc) A) (hl:A.length<=1000) (k:Int) (c:au) (r:Rs) (hv:rR (nz fns f N ay args) (3,k,[]) c A ns=some r):
  Calls prog 297 #[qI wb co cn cc z y x,.agg #[.int .i64 3,.int .i64 k,.string ⟨#[]⟩],.agg #[.int .i64 c.1,.int .i64 c.2.1,.string (aa c.2.2)],.slice oo on oc] w λe w'=>Fin wb f r w e w':=by
 have a4:on=A.length:=by obtain⟨_,_,_,e,_⟩:=Y;cases e;rfl
 subst a4;have J:=NG w (Bh wb co cn cc z y x) (aC 3 k ⟨#[]⟩) (aC c.1 c.2.1 (aa c.2.2)) (aC 0 0 ⟨#[]⟩) (aC c.1 c.2.1 (aa c.2.2));obtain⟨k0,k1,_,k3,k4⟩:=UJ w (Bh wb co cn cc z y x) (aC 3 k ⟨#[]⟩) (aC c.1 c.2.1 (aa c.2.2)) (aC 0 0 ⟨#[]⟩) (aC c.1 c.2.1 (aa c.2.2));have L:=hk.lt;go_enter Tryz.func297,Tryz.ntmps297
 go_wp2_with fail
 go_loopw [18] (λiv wr=>∃(i:Nat) (d:au) (X:List Bs),i<=A.length/\iv=.int .i64 i/\rU w wr wb co cn cc z y x k d/\Hid (rR (nz fns f N ay args) (3,k,[]) d (A.drop i) X=some r)/\Wk wr wb f X/\Kn wb w wr) (λiv _=>A.length- (intOf iv).toNat)
 case atStart=>exact⟨0,c,ns,Nat.zero_le _,rfl,⟨k0,k1,k3,k4⟩,hv,hk.ah J,Below.kn J (by omega)⟩
 case round=>
  obtain⟨i,d,X,a6,rfl,G,R,V,F⟩:=hrel;have b1:=F.size;have a9:=af G.2.2.2;clear k0 k1 k3 k4 J hk hv;by_cases W:i<A.length
  ·obtain⟨g,sort,ty,size,quiet,vk,vn,vs,place,head,fp,xo,xn,xc,rfl,hg,hx,q⟩:=yL (Y.dJ F) i W;obtain⟨q0,q1,q2,q3,q4,q5,q6,q7,q8,q9,b2⟩:=q wr λp hp=>rfl;rw[List.drop_eq_getElem_cons W]at R;obtain⟨S,O,u,T,s,C⟩:=zX R.out;have b0:=af G.1;obtain⟨⟨f0,f1,f2⟩,_⟩:=aJ G.1;have H:Calls prog 126 #[qI wb co cn cc z y x,.agg (uq sort ty size quiet vk vn vs place head fp xo xn xc)] (wr.alloc (.cells (uq sort ty size quiet vk vn vs place head fp xo xn xc) 210)) λe w2=>e=.returned (.tuple #[.agg #[.int .i64 S.1,.int .i64 S.2.1,.string (aa S.2.2)],.int .i64 O])/\(Wk w2 wb f u/\Kn wb wr w2/\rU w w2 wb co cn cc z y x k d)/\
     (w.heap.size+1<w2.heap.size/\w.heap.size+3<w2.heap.size/\w.heap.size+4<w2.heap.size)/\(w2.cell? ⟨w.heap.size+1,0,none⟩=some (.int .i64 3)/\w2.cell? ⟨w.heap.size+1,1,none⟩=some (.int .i64 k)/\w2.cell? ⟨w.heap.size+1,2,none⟩=some (.string ⟨#[]⟩))/\
     (w2.cell? ⟨w.heap.size+3,0,none⟩=some (.int .i64 0)/\w2.cell? ⟨w.heap.size+3,1,none⟩=some (.int .i64 0)/\w2.cell? ⟨w.heap.size+3,2,none⟩=some (.string ⟨#[]⟩))/\(w2.frozen? ⟨w.heap.size+3,0,none⟩=false/\w2.frozen? ⟨w.heap.size+3,1,none⟩=false/\w2.frozen? ⟨w.heap.size+3,2,none⟩=false)/\(w2.frozen? ⟨w.heap.size+4,0,none⟩=false/\w2.frozen? ⟨w.heap.size+4,1,none⟩=false/\w2.frozen? ⟨w.heap.size+4,2,none⟩=false)/\
     (w2.cell? ⟨w.heap.size+4,0,none⟩=some (.int .i64 d.1)/\w2.cell? ⟨w.heap.size+4,1,none⟩=some (.int .i64 d.2.1)/\w2.cell? ⟨w.heap.size+4,2,none⟩=some (.string (aa d.2.2))):=by
    refine(HV A[i] (S,O,u) (wr.alloc (.cells (uq sort ty size quiet vk vn vs place head fp xo xn xc) 210)) Z wb ay args co cn cc z y x (uq sort ty size quiet vk vn vs place head fp xo xn xc) X T ((hF.dJ F).dJ (Below.kn (ae wr _) (by omega))) (V.ah (ae wr _)) (hx.ah (ae wr _))).mono λe w2 ⟨h1,h2,h3⟩=> ?_;have h4:Kn wb wr w2:=h3.pre (ae wr _) (by omega);have B:=G.dJ h4;exact⟨h1,⟨h2,h4,B⟩,⟨af B.2.1,af B.2.2.1,af B.2.2.2⟩,(aJ B.2.1).1,(aJ B.2.2.1).1,(aJ B.2.2.1).2,(aJ B.2.2.2).2,(aJ B.2.2.2).1⟩
   clear q T hx Y hF R HV;obtain⟨E,h,o⟩:=S;simp only at H;by_cases K:O=0
   ·subst K;by_cases j:(E,h,o)=((3,k,[]):au)
    ·have Q:Hid (r=((3,k,[]),0,u)):=by rw[Hid,s (.inr j),j]
     cases j;have hT:(aa ([]:Bs)).toList= []:=aj [];clear s C
     go_wp2_with(go_at_call 126;refine H.mono ?_;rintro e w2 ⟨rfl,⟨hk2,kn2,hU2⟩,⟨p1,p3,p4⟩,⟨s0,s1,s2⟩,⟨D,r1,r2⟩,⟨l,m,n⟩,⟨lf0,lf1,lf2⟩,P,l1,l2⟩)
     refine bodyPost_ret (v:=.tuple #[.agg #[.int .i64 3,.int .i64 k,.string (aa [])],.int .i64 0]) (by simp[results,Tryz.results297,go_sem,D,r1,r2,p3]) rfl ?_;rw[Q.out];exact(Fin.end rfl L hk2 (F.trans kn2) (by omega) hU2.2.2.1 _ _ _).ah (ae _ _) (by omega)
    ·have M:Hid (rR (nz fns f N ay args) (3,k,[]) (if E=0 then(E,h,o)else d) (A.drop (i+1)) u=some r):=C rfl j;clear s C;by_cases h0:E=0
     ·subst h0;rw[if_pos rfl]at M
      go_wp2_with(first
       |(go_at_call 126;refine H.mono ?_;rintro e w2 ⟨rfl,⟨hk2,kn2,hU2⟩,⟨p1,p3,p4⟩,⟨s0,s1,s2⟩,⟨D,r1,r2⟩,⟨l,m,n⟩,⟨lf0,lf1,lf2⟩,P,l1,l2⟩)
       |(go_at_call 196;refine(mU _ _ _ _).mono ?_;rintro e w3 ⟨rfl,rfl⟩))
      go_roundw
      case rel=>
       have hb:=az (((w2.setCell ⟨w.heap.size+4,0,none⟩ (.int .i64 0)).setCell ⟨w.heap.size+4,1,none⟩ (.int .i64 h)).setCell ⟨w.heap.size+4,2,none⟩ (.string (aa o))) (aC 0 h (aa o)) (aC 0 h (aa o));have U:=(F.trans kn2).mq (by omega) (show w.heap.size<=w.heap.size+4 by omega) (.int .i64 0) (.int .i64 h) (.string (aa o));have t:=Below.kn (T0:=221) (wb:=wb) hb (by have:=U.size;omega);exact⟨i+1,(0,h,o),u,by omega,by go_num,(hU2.set 0 h o).dJ t,M,(hk2.mq hU2.2.2.2 _ _ _).ah hb,U.trans t⟩
      case measure=>simp[intOf];omega
     ·rw[if_neg h0]at M;have I:∀w2,Wk w2 wb f u->Kn wb wr w2->rU w w2 wb co cn cc z y x k d->∀a b:Obj,rU w ((w2.alloc a).alloc b) wb co cn cc z y x k d/\Wk ((w2.alloc a).alloc b) wb f u/\Kn wb w ((w2.alloc a).alloc b):=λw2 a1 a2 a3 a b=>
       have t:=Below.kn (T0:=221) (wb:=wb) (az w2 a b) (by have:=a2.size;omega)
       ⟨a3.dJ t,a1.ah (az w2 a b),(F.trans a2).trans t⟩
      by_cases h3:E=3
      ·subst h3;by_cases hn:h=k
       ·subst hn;have a5:¬(aa o).toList= []:=λe=>j (by rw[aj]at e;rw[e]);clear j
        go_wp2_with(first
         |(go_at_call 126;refine H.mono ?_;rintro e w2 ⟨rfl,⟨hk2,kn2,hU2⟩,⟨p1,p3,p4⟩,⟨s0,s1,s2⟩,⟨D,r1,r2⟩,⟨l,m,n⟩,⟨lf0,lf1,lf2⟩,P,l1,l2⟩)
         |(go_at_call 196;refine(mU _ _ _ _).mono ?_;rintro e w3 ⟨rfl,rfl⟩))
        go_roundw
        case rel=>
         obtain⟨m1,m2,m3⟩:=I w2 hk2 kn2 hU2 _ _;exact⟨i+1,d,u,by omega,by go_num,m1,M,m2,m3⟩
        case measure=>simp[intOf];omega
       ·clear j
        go_wp2_with(first
         |(go_at_call 126;refine H.mono ?_;rintro e w2 ⟨rfl,⟨hk2,kn2,hU2⟩,⟨p1,p3,p4⟩,⟨s0,s1,s2⟩,⟨D,r1,r2⟩,⟨l,m,n⟩,⟨lf0,lf1,lf2⟩,P,l1,l2⟩)
         |(go_at_call 196;refine(mU _ _ _ _).mono ?_;rintro e w3 ⟨rfl,rfl⟩))
        go_roundw
        case rel=>
         obtain⟨m1,m2,m3⟩:=I w2 hk2 kn2 hU2 _ _;exact⟨i+1,d,u,by omega,by go_num,m1,M,m2,m3⟩
        case measure=>simp[intOf];omega
      ·have a0:(E==0)=false:=by simpa using h0
       clear j
       go_wp2_with(first
        |(go_at_call 126;refine H.mono ?_;rintro e w2 ⟨rfl,⟨hk2,kn2,hU2⟩,⟨p1,p3,p4⟩,⟨s0,s1,s2⟩,⟨D,r1,r2⟩,⟨l,m,n⟩,⟨lf0,lf1,lf2⟩,P,l1,l2⟩)
        |(go_at_call 196;refine(mU _ _ _ _).mono ?_;rw[a0];rintro e w3 ⟨rfl,rfl⟩))
       go_roundw
       case rel=>
        obtain⟨m1,m2,m3⟩:=I w2 hk2 kn2 hU2 _ _;exact⟨i+1,d,u,by omega,by go_num,m1,M,m2,m3⟩
       case measure=>simp[intOf];omega
   ·have Q:Hid (r=((E,h,o),O,u)):=s (.inl K);have a7:(O==0)=false:=by simpa using K
    clear s C
    go_wp2_with(go_at_call 126;refine H.mono ?_;rintro e w2 ⟨rfl,⟨hk2,kn2,hU2⟩,⟨p1,p3,p4⟩,⟨s0,s1,s2⟩,⟨D,r1,r2⟩,⟨l,m,n⟩,⟨lf0,lf1,lf2⟩,P,l1,l2⟩)
    refine bodyPost_ret (v:=.tuple #[.agg #[.int .i64 E,.int .i64 h,.string (aa o)],.int .i64 O]) (by simp[results,Tryz.results297,go_sem,D,r1,r2,p3]) rfl ?_;rw[Q.out];exact(Fin.end rfl L hk2 (F.trans kn2) (by omega) hU2.2.2.1 _ _ _).ah (ae _ _) (by omega)
  ·have Q:Hid (r=(d,0,X)):=by
    have:=R.out;rw[List.drop_of_length_le (by omega),rR]at this;exact(Option.some.inj this).symm
   obtain⟨⟨P,l1,l2⟩,_⟩:=aJ G.2.2.2;obtain⟨⟨D,r1,r2⟩,l,m,n⟩:=aJ G.2.2.1;have a8:=af G.2.2.1;clear R HV Y hF
   go_wp2_with fail
   refine bodyPost_ret (v:=.tuple #[.agg #[.int .i64 d.1,.int .i64 d.2.1,.string (aa d.2.2)],.int .i64 0]) (by simp[results,Tryz.results297,go_sem,D,r1,r2]) rfl ?_;rw[Q.out];exact Fin.end rfl L V F (by omega) G.2.2.1 _ _ _
theorem Ck(w:World)(a b c d:Obj):Below w.heap.size w ((((w.alloc a).alloc b).alloc c).alloc d):=
 ((((refl _ w).alloc (Nat.le_refl _) _).alloc (by simp[size_alloc]) _).alloc (by simp[size_alloc];omega) _).alloc (by simp[size_alloc];omega) _
theorem JI{wb:Nat}{w w2:World}{a c d:Obj}(h:Kn wb ((((w.alloc a).alloc (aC 0 0 ⟨#[]⟩)).alloc c).alloc d).drew w2)(e:wb<w.heap.size):Kn wb w w2/\w2.heap[w.heap.size+1]? =some (aC 0 0 ⟨#[]⟩)/\w.heap.size+1<w2.heap.size:=by
 have k:((((w.alloc a).alloc (aC 0 0 ⟨#[]⟩)).alloc c).alloc d).drew.heap[w.heap.size+1]? =some (aC 0 0 ⟨#[]⟩):=by
  have:=heap_alloc_new (w.alloc a) (aC 0 0 ⟨#[]⟩);rw[size_alloc]at this;exact((az _ c d).block (w.heap.size+1) (by simp only[size_alloc];omega)).trans this
 have b:=h.2 _ _ _ _ k (by decide) (by decide);exact⟨h.pre (Ck w _ _ _ _).drew (by omega),b,af b⟩
theorem UG(fns:List Fn)(a:Bs)(N:Nat)(o:KM fns a N)(w:World)(l:List Nat)(wb:Nat)(ay args:List au)(co:Option Addr)(cn cc:Nat)(g:Option Addr)(f d:Nat)
  (hF:Qs w l fns wb (.slice co cn cc) (.slice g f d) ay args) (ns:List Bs) (q:Wk w wb a ns) (k:Option Addr) (j i:Nat) (h:List Ex) (p:jJ w l (.slice k j i) h) (A:h.length<=1000) (r:Rs) (t:rR (nz fns a N ay args) (aW false) (aW true) h ns=some r):
  Calls prog 249 #[qI wb co cn cc g f d,.slice k j i] w λe w'=>Fin wb a r w e w':=by
 have c:=q.lt;have y:∀x:World,Below w.heap.size w x->Calls prog 297 #[qI wb co cn cc g f d,.agg #[.int .i64 3,.int .i64 0,.string ⟨#[]⟩],.agg #[.int .i64 3,.int .i64 1,.string ⟨#[]⟩],.slice k j i] x λe w'=>Fin wb a r x e w':=
  λx n=>Qf fns a N o x l wb ay args co cn cc g f d (hF.dJ (Below.kn n (by omega))) ns (q.ah n) k j i h (p.ah n) A 0 (aW true) r t
 have u:=λx:World=>cK true x;have m:=λx:World=>cK false x;clear hF p o t;go_enter Tryz.func249,Tryz.ntmps249;go_upto_region 1 with fail
 go_region_with(first
  |(go_at_call 137;first
    |(refine(u _).mono ?_;rintro e w2 ⟨rfl,rfl⟩)
    |(refine(m _).mono ?_;rintro e w2 ⟨rfl,rfl⟩))
  |(go_at_call 297;refine(y _ ?_).mono ?_;exact(Ck w _ _ _ _).drew;rintro e w2 ⟨rfl,hk2,kn2⟩;obtain⟨z,b,s⟩:=JI kn2 c;obtain⟨⟨B,r1,r2⟩,C,D,E⟩:=aJ b))
 all_goals(go_wp2_with fail)
 all_goals
  refine bodyPost_ret (v:=.tuple #[.agg #[.int .i64 r.1.1,.int .i64 r.1.2.1,.string (aa r.1.2.2)],.int .i64 r.2.1]) (by simp[results,Tryz.results249,go_sem,B,r1,r2]) rfl ?_;exact Fin.end rfl c hk2 z (by omega) b _ _ _
theorem VJ(fns:List Fn)(a:Bs)(N:Nat)(o:KM fns a N)(w:World)(l:List Nat)(wb:Nat)(ay args:List au)(co:Option Addr)(cn cc:Nat)(g:Option Addr)(f d:Nat)
  (hF:Qs w l fns wb (.slice co cn cc) (.slice g f d) ay args) (ns:List Bs) (q:Wk w wb a ns) (k:Option Addr) (j i:Nat) (h:List Ex) (p:jJ w l (.slice k j i) h) (A:h.length<=1000) (r:Rs) (t:rR (nz fns a N ay args) (aW true) (aW false) h ns=some r):
  Calls prog 250 #[qI wb co cn cc g f d,.slice k j i] w λe w'=>Fin wb a r w e w':=by
 have c:=q.lt;have y:∀x:World,Below w.heap.size w x->Calls prog 297 #[qI wb co cn cc g f d,.agg #[.int .i64 3,.int .i64 1,.string ⟨#[]⟩],.agg #[.int .i64 3,.int .i64 0,.string ⟨#[]⟩],.slice k j i] x λe w'=>Fin wb a r x e w':=
  λx n=>Qf fns a N o x l wb ay args co cn cc g f d (hF.dJ (Below.kn n (by omega))) ns (q.ah n) k j i h (p.ah n) A 1 (aW false) r t
 have u:=λx:World=>cK true x;have m:=λx:World=>cK false x;clear hF p o t;go_enter Tryz.func250,Tryz.ntmps250;go_upto_region 1 with fail
 go_region_with(first
  |(go_at_call 137;first
    |(refine(u _).mono ?_;rintro e w2 ⟨rfl,rfl⟩)
    |(refine(m _).mono ?_;rintro e w2 ⟨rfl,rfl⟩))
  |(go_at_call 297;refine(y _ ?_).mono ?_;exact(Ck w _ _ _ _).drew;rintro e w2 ⟨rfl,hk2,kn2⟩;obtain⟨z,b,s⟩:=JI kn2 c;obtain⟨⟨B,r1,r2⟩,C,D,E⟩:=aJ b))
 all_goals(go_wp2_with fail)
 all_goals
  refine bodyPost_ret (v:=.tuple #[.agg #[.int .i64 r.1.1,.int .i64 r.1.2.1,.string (aa r.1.2.2)],.int .i64 r.2.1]) (by simp[results,Tryz.results250,go_sem,B,r1,r2]) rfl ?_;exact Fin.end rfl c hk2 z (by omega) b _ _ _
end Go.Proofs.YtdifpeaklamhnaaGreatDoor

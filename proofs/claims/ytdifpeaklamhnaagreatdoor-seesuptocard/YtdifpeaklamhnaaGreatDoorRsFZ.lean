import Derived.Test.YtdifpeaklamhnaaGreatDoorRtS
import Derived.Test.YtdifpeaklamhnaaGreatDoorRtY
import Derived.Test.YtdifpeaklamhnaaGreatDoorBaFZ
import Derived.Test.YtdifpeaklamhnaaGreatDoorLoHZ
set_option linter.unusedVariables false
set_option linter.unusedSimpArgs false
set_option maxRecDepth 100000
set_option maxHeartbeats 0
namespace Go.Proofs.YtdifpeaklamhnaaGreatDoor
open Go.Proofs.Tryz
open Go.RowKit
open World (ownsRow_nil size_alloc frozen? setCell)
open Below (heap_alloc heap_setCell refl)
open Nat (le_refl)
structure iE where
 t:aJ
 x:Ex
 tr:Tr
 g:Nat
 cap:Nat
 co:Option Addr
 cn:Nat
 cc:Nat
 ro:Option Addr
 rn:Nat
 rc:Nat
 uo:Option Addr
 un:Nat
 uc:Nat
def tJ(r:iE):List Value:=[.string (aa r.t.name),.slice r.co r.cn r.cc,.slice r.ro r.rn r.rc,.int .i64 r.t.count,.string (aa r.t.aD),.slice r.uo r.un r.uc]
def iN(l:List iE):List Value:=l.flatMap tJ
def Ps(r:iE):Value:=.slice (some ⟨r.g,0,none⟩) (post r.tr).length r.cap
def pQ(l:List iE):List Value:=l.map Ps
theorem Gt(a b:List iE):iN (a++b)=iN a++iN b:=by simp[iN]
theorem nH:∀(l:List iE) (i:Nat) (e:iE) (j:Nat),l[i]? =some e->j<6->(iN l)[i*6+j]? =(tJ e)[j]?
 | [],i,r,j,h,_=>by simp at h
 |a::rs,0,r,j,h,hj=>by
  simp at h;subst h;rw[Nat.zero_mul,Nat.zero_add,iN,List.flatMap_cons,List.getElem?_append_left (by simp[tJ];omega)]
 |a::rs,i+1,r,j,h,hj=>by
  have:=nH rs i r j (by simpa using h) hj;have b:(tJ a).length=6:=by simp[tJ]
  rw[iN,List.flatMap_cons,List.getElem?_append_right (by rw[b];omega),b,show(i+1)*6+j- 6=i*6+j by omega];exact this
def qw(w:World)(r:iE):Prop:=∃(cs:List Value) (tX:Nat->Int),iY w r.g r.cap (post r.tr) tX cs/\tX ((post r.tr).length- 1)=mO r.x.ty/\(∀y∈post r.tr,mQ y)/\iW r.t.aD=some r.tr
theorem qw.ag{w x:World}{r:iE}(h:qw w r)(hb:Below w.heap.size w x):qw x r:=by
 obtain⟨cs,tX,a,b⟩:=h;exact⟨cs,tX,a.ag hb,b⟩
theorem qw.move{w x:World}{r:iE}(h:qw w r)(e:∀(q:Nat) (a:Array Value) (T:TypeId) (b:Nat × Nat),w.heap[q]? =some (.cells a T b)->T=183\/T=3->x.heap[q]? =w.heap[q]?):qw x r:=by
 obtain⟨cs,tX,c,d⟩:=h;exact⟨cs,tX,c.move e,d⟩
structure UN(w:World)(r:iE):Prop where
 ax:dM w (.slice r.co r.cn r.cc) r.t.ax
 rows:RowsIn w (.slice r.ro r.rn r.rc) r.t.rows
 eZ:eD w (.slice r.uo r.un r.uc) r.t.eZ
def ma(w0 w:World)(xb:Nat)(l:List wB)(ts:List iE):Prop:=∃(fo:Option Addr) (fnn fc:Nat) (to':Option Addr) (tn tc:Nat) (po:Option Addr) (pn pc:Nat),
 (w0.heap.size<=xb/\Below w0.heap.size w0 w)/\w.heap[xb]? =some (.cells #[.slice fo fnn fc,.slice to' tn tc,.slice po pn pc] 200 (0,0))/\
 (w.ownsRow (xb+1) 217 5 (.slice fo fnn fc) l.length (eY l)/\l.length<=8/\∀e∈l,lu w e)/\
 w.ownsRow (xb+1) 54 6 (.slice to' tn tc) ts.length (iN ts)/\w.ownsRow (xb+1) 102 1 (.slice po pn pc) ts.length (pQ ts)/\ts.length<=4/\∀r∈ts,UN w0 r/\qw w r
theorem FX{w0 w:World}{b:Nat}{l:List wB}(h:uY w b l)(e:w0.heap.size<=b)(hb:Below w0.heap.size w0 w):ma w0 w b l []:=by
 obtain⟨d,a,c,f,g,i,j⟩:=h;exact⟨d,a,c,none,0,0,none,0,0,⟨e,hb⟩,f,⟨g,i,j⟩,ownsRow_nil _ _ _ _,ownsRow_nil _ _ _ _,by simp,λr k=>by simp at k⟩
theorem OY{w:World}{b:Nat}{d:Option Addr}{m l:Nat}{a:List iE}(h:w.ownsRow b 54 6 (.slice d m l) a.length (iN a))(q:a.length<=4):yj w (.slice d m l) (a.map (·.t.name)):=by
 rcases h.2 with⟨e,k⟩|⟨g,cap,o,e,_,_,_⟩
 ·cases e;exact⟨none,0,by rw[List.length_map,k],by rw[List.length_map];omega,.inl (by rw[List.length_eq_zero_iff.mp k];rfl)⟩
 ·cases e;refine⟨_,_,by rw[List.length_map],by rw[List.length_map];omega,.inr ⟨g,rfl,(h.lt g rfl).2,λi n c=> ?_⟩⟩;rw[List.getElem?_map]at c
  cases f:a[i]? with
  |none=>rw[f]at c;cases c
  |some e=>
   rw[f]at c;have j:e.t.name=n:=Option.some.inj c;subst j;have p:=(List.getElem?_eq_some_iff.mp f).1;exact(h.cellAt _ (by omega)).trans (nH a i e 0 f (by omega))
theorem OJ:(Tryz.prog.info? 54).map (λi=>(i.zero,i.size,i.bytes))=some (some (.agg #[.string ⟨#[]⟩,.slice none 0 0,.slice none 0 0,.int .i64 0,.string ⟨#[]⟩,.slice none 0 0]),6,112):=by kernel_rfl
theorem LW:(Tryz.prog.info? 102).map (λi=>(i.zero,i.size,i.bytes))=some (some (.agg #[.slice none 0 0]),1,24):=by kernel_rfl
theorem AA{wo w7:World}{L:Obj}{b z n q:Nat}{T f:TypeId}{v:Value}{m:List Value}{c:Array Value}{j:Nat × Nat}(d:wo.heap[q]? =some (.cells c f j))(own:wo.ownsRow b T z v n m)(a:(wo.alloc L).drew.grownBy w7 v.ownBlock)(k:f≠T):w7.heap[q]? =some (.cells c f j):=by
 have l:=ai d;refine((a.block q (by simp only[World.size_drew,size_alloc];omega) (λe=> ?_)).trans (heap_alloc _ _ _ l)).trans d;rcases own.2 with⟨h,_⟩|⟨g1,o,i,h,_,g,_⟩
 ·rw[h]at e;cases e
 ·rw[h]at e;cases e;rw[g]at d;cases d;exact k rfl
def RN(f:Func):Code:=((f.body.bind (iZ 15)).getD .skip)
def RO(f:Func):Code:=((f.body.bind (iZ 16)).getD .skip)
theorem Ae(h j:Nat)(b:World)(n:Nat)(xs:List Value)(fv:Value)(c:Option Addr)(m l:Nat)(pv:Value)(a0 a4:ByteArray)(a3:Int)(co:Option Addr)(cn cc:Nat)(ro:Option Addr)(rn rc:Nat)(uo:Option Addr)(un uc:Nat)(h3:n<=3)
  (a:b.heap[j]? =some (.cells #[.string a0,.slice co cn cc,.slice ro rn rc,.int .i64 a3,.string a4,.slice uo un uc] 54 (0,0))) (g:b.ownsRow (h+1) 54 6 (.slice c m l) n xs) (i:b.heap[h]? =some (.cells #[fv,.slice c m l,pv] 200 (0,0)))
  (u1 u2 u4 u5 u6 u7 u8 u9 q r s t v w x y z A B C D E F G H I J M N O Q R S T U V W X Y Z a1 a2 a5 a6 a7 a8 a9 b0 b1 b2 b3 b4 b5 b6 b7 b8 b9 c0 c1 e7 e8 e9 g0 g1 g2 g3 g4 g5 g6 c2 c3 c4 c5 c6 c7 c8 c9 e0 e1:Value) (K:Act->World->Prop) (P:Ending->World->Prop)
  (hK:∀(g8 g9 h0 h1 h2 h4 h5 h6 h7 v70:Value) (g7 f:Nat) (e:World) (L:Obj),e.ownsRow (h+1) 54 6 (.slice (some ⟨g7,0,none⟩) (n+1) f) (n+1) (xs++ [.string a0,.slice co cn cc,.slice ro rn rc,.int .i64 a3,.string a4,.slice uo un uc])->(b.alloc L).drew.grownBy e (Value.slice c m l).ownBlock->K ⟨#[.pointer (some ⟨h,0,none⟩),u1,u2,.pointer (some ⟨j,0,none⟩),u4,u5,u6,u7,u8,u9,q,r,s,t,v,w,x,y,z,A,B,C,D,E,F,G,H,I,J,M,N,O,Q,R,S,T,U,V,W,X,Y,Z,a1,a2,a5,a6,a7,a8,a9,b0,b1,b2,b3,b4,b5,b6,b7,b8,b9,c0,c1,g8,g9,h0,h1,h2,h4,h5,h6,h7,v70,c2,c3,c4,c5,c6,c7,c8,c9,e0,e1],[]⟩ (e.setCell ⟨h,1,none⟩ (.slice (some ⟨g7,0,none⟩) (n+1) f))):
  Code.wp prog (RN Tryz.f64) (Exit.then K (bodyPost prog Tryz.f64 P)) ⟨#[.pointer (some ⟨h,0,none⟩),u1,u2,.pointer (some ⟨j,0,none⟩),u4,u5,u6,u7,u8,u9,q,r,s,t,v,w,x,y,z,A,B,C,D,E,F,G,H,I,J,M,N,O,Q,R,S,T,U,V,W,X,Y,Z,a1,a2,a5,a6,a7,a8,a9,b0,b1,b2,b3,b4,b5,b6,b7,b8,b9,c0,c1,e7,e8,e9,g0,g1,g2,g3,g4,g5,g6,c2,c3,c4,c5,c6,c7,c8,c9,e0,e1],[]⟩ b:=by
 conv=>arg 2;whnf
 have HK:Hid _:=hK;clear hK;have i3:=ai i;have i2:=ai a;have x0:b.cell? ⟨j,0,none⟩=some (.string a0):=(af a).trans rfl;have x1:b.cell? ⟨j,1,none⟩=some (.slice co cn cc):=(af a).trans rfl;have x2:b.cell? ⟨j,2,none⟩=some (.slice ro rn rc):=(af a).trans rfl;have x3:b.cell? ⟨j,3,none⟩=some (.int .i64 a3):=(af a).trans rfl;have x4:b.cell? ⟨j,4,none⟩=some (.string a4):=(af a).trans rfl;have x5:b.cell? ⟨j,5,none⟩=some (.slice uo un uc):=(af a).trans rfl;have y1:b.cell? ⟨h,1,none⟩=some (.slice c m l):=(af i).trans rfl;have p:∀o:Obj,(b.alloc o).drew.ownsRow (h+1) 54 6 (.slice c m l) n xs:=λo=>World.ownsRow.drew (World.ownsRow.alloc g o);have e2:Hid _:=i;have e3:Hid _:=g;clear i g a;obtain⟨i0,hi,e4,e5,e6⟩:=info_parts OJ
 go_region_law (refine step_append_lies _ rfl (.tmp 65) (.tmp 67) 65 rfl (h+1) 54 i0 _ 6 112 Tryz.underlying65 hi e4 e5 e6 rfl (by decide) (.slice c m l) n xs (by simp[Act.eval]) (p _) ⟨b.heap.size,0,none⟩ 1 1 [.string a0,.slice co cn cc,.slice ro rn rc,.int .i64 a3,.string a4,.slice uo un uc] (by simp[Act.eval]) rfl (World.news_of_block (bN b _)) (by intro u hu;simp only[List.mem_cons,List.not_mem_nil,or_false]at hu;rcases hu with rfl|rfl|rfl|rfl|rfl|rfl<;>rfl) (by decide) (by unfold maxLen;omega) (by omega) (by simp;omega) (b.heap.size+1) (by simp) ?_;intro g7 f e k d h8 i1;have kB:=AA e2.out e3.out d (by decide);have h9:=ai kB;have r0:e.cell? ⟨h,1,none⟩=some (.slice c m l):=(af kB).trans rfl;have i4:e.frozen? ⟨h,1,none⟩=false:=(by simp[frozen?,kB]))
 all_goals exact HK.out _ _ _ _ _ _ _ _ _ _ _ _ _ _ k d
theorem Af(f eb:Nat)(e:World)(n:Nat)(xs:List Value)(fv tv:Value)(l:Option Addr)(k j:Nat)(go:Option Addr)(gn gc:Nat)(h3:n<=3)
  (h:e.heap[eb]? =some (.cells #[.slice go gn gc] 102 (0,0))) (d:e.ownsRow (f+1) 102 1 (.slice l k j) n xs) (g:e.heap[f]? =some (.cells #[fv,tv,.slice l k j] 200 (0,0)))
  (u1 u2 u3 u4 u5 u6 u7 u8 p q r s t v w x y z A B C D E F G H I J M N O Q R S T U V W X Y Z a0 a1 a2 a3 a4 a5 a6 a7 a8 a9 b0 b1 b2 b3 b4 b5 b6 b7 b8 b9 c0 c1 c2 c3 c4 c5 c6 c7 e3 e4 e5 e6 e7 e8 e9 g0 g1 g2:Value) (K:Act->World->Prop) (P:Ending->World->Prop)
  (hK:∀(g3 v72 g4 g5 v75 v76 g6 g8 g9 h0:Value) (g7 c:Nat) (b:World) (L:Obj),b.ownsRow (f+1) 102 1 (.slice (some ⟨g7,0,none⟩) (n+1) c) (n+1) (xs++ [.slice go gn gc])->(e.alloc L).drew.grownBy b (Value.slice l k j).ownBlock->K ⟨#[.pointer (some ⟨f,0,none⟩),u1,u2,u3,u4,u5,u6,u7,u8,.pointer (some ⟨eb,0,none⟩),p,q,r,s,t,v,w,x,y,z,A,B,C,D,E,F,G,H,I,J,M,N,O,Q,R,S,T,U,V,W,X,Y,Z,a0,a1,a2,a3,a4,a5,a6,a7,a8,a9,b0,b1,b2,b3,b4,b5,b6,b7,b8,b9,c0,c1,c2,c3,c4,c5,c6,c7,g3,v72,g4,g5,v75,v76,g6,g8,g9,h0],[]⟩ (b.setCell ⟨f,2,none⟩ (.slice (some ⟨g7,0,none⟩) (n+1) c))):
  Code.wp prog (RO Tryz.f64) (Exit.then K (bodyPost prog Tryz.f64 P)) ⟨#[.pointer (some ⟨f,0,none⟩),u1,u2,u3,u4,u5,u6,u7,u8,.pointer (some ⟨eb,0,none⟩),p,q,r,s,t,v,w,x,y,z,A,B,C,D,E,F,G,H,I,J,M,N,O,Q,R,S,T,U,V,W,X,Y,Z,a0,a1,a2,a3,a4,a5,a6,a7,a8,a9,b0,b1,b2,b3,b4,b5,b6,b7,b8,b9,c0,c1,c2,c3,c4,c5,c6,c7,e3,e4,e5,e6,e7,e8,e9,g0,g1,g2],[]⟩ e:=by
 conv=>arg 2;whnf
 have HK:Hid _:=hK;clear hK;have h6:=ai g;have h5:=ai h;have x0:e.cell? ⟨eb,0,none⟩=some (.slice go gn gc):=(af h).trans rfl;have y1:e.cell? ⟨f,2,none⟩=some (.slice l k j):=(af g).trans rfl;have m:∀o:Obj,(e.alloc o).drew.ownsRow (f+1) 102 1 (.slice l k j) n xs:=λo=>World.ownsRow.drew (World.ownsRow.alloc d o);have c8:Hid _:=g;have c9:Hid _:=d;clear g d h;obtain⟨i0,hi,e0,e1,e2⟩:=info_parts LW
 go_region_law (refine step_append_lies _ rfl (.tmp 75) (.tmp 77) 198 rfl (f+1) 102 i0 _ 1 24 Tryz.underlying198 hi e0 e1 e2 rfl (by decide) (.slice l k j) n xs (by simp[Act.eval]) (m _) ⟨e.heap.size,0,none⟩ 1 1 [.slice go gn gc] (by simp[Act.eval]) rfl (World.news_of_block (bN e _)) (by intro u hu;simp only[List.mem_cons,List.not_mem_nil,or_false]at hu;rcases hu with rfl;rfl) (by decide) (by unfold maxLen;omega) (by omega) (by simp;omega) (e.heap.size+1) (by simp) ?_;intro g7 c b i a h1 h4;have kB:=AA c8.out c9.out a (by decide);have h2:=ai kB;have r0:b.cell? ⟨f,2,none⟩=some (.slice l k j):=(af kB).trans rfl;have h7:b.frozen? ⟨f,2,none⟩=false:=(by simp[frozen?,kB]))
 all_goals exact HK.out _ _ _ _ _ _ _ _ _ _ _ _ _ _ i a
def fB(ts:List iE):List (aJ × Ex):=ts.map λr=>(r.t,r.x)
theorem Qg(a:List iE)(l:Bs):dH (fB a) l=(a.map (·.t.name)).findIdx? (λn=>n==l):=by
 unfold dH fB;rw[List.findIdx?_map,List.findIdx?_map];rfl
def QC(w0 w:World)(xb:Nat)(l:List wB)(ts:List iE)(t:aJ)(o:Except Int Ex)(e:Ending)(w':World):Prop:=
 (∃n:Int,o=.error n/\n≠0/\e=.returned (.int .i64 n)/\Below w.heap.size w w')\/
 (∃r:iE,o=.ok r.x/\r.t=t/\e=.returned (.int .i64 0)/\ma w0 w' xb l (ts++ [r])/\Below xb w w')
theorem DX{fns:List Fn}{a:List (aJ × Ex)}{t:aJ}(h:(!aU t.name||(dH a t.name).isSome)=true):cZ fns a t=.error 2:=by
 have e:fU (!aU t.name||(oW a t.name==0)) 2=2:=by
  have:(!aU t.name||(oW a t.name==0))=true:=by
   unfold oW
   cases c:aU t.name with
   |false=>rfl
   |true=>
    rw[c]at h
    cases b:dH a t.name with
    |none=>rw[b]at h;simp at h
    |some k=>rfl
  rw[this];rfl
 unfold cZ;rw[e];simp[aK]
theorem Hy{fns:List Fn}{a:List (aJ × Ex)}{t:aJ}(h:(!aU t.name||(dH a t.name).isSome)=false)(b:bJ t=false):cZ fns a t=.error 6:=by
 have e:fU (!aU t.name||(oW a t.name==0)) 2=0:=by
  have:(!aU t.name||(oW a t.name==0))=false:=by
   rw[Bool.or_eq_false_iff]at h;unfold oW;rw[h.1]
   cases c:dH a t.name with
   |none=>rfl
   |some k=>have:=h.2;rw[c]at this;simp at this
  rw[this];rfl
 unfold cZ;rw[e,b];simp[aK,fU]
theorem Lb{fns:List Fn}{a:List (aJ × Ex)}{t:aJ}(h:(!aU t.name||(dH a t.name).isSome)=false)(b:bJ t=true):cZ fns a t=Ac (eG bA (t.ax.map (dO jw),[]) fns t.aD):=by
 have e:fU (!aU t.name||(oW a t.name==0)) 2=0:=by
  have:(!aU t.name||(oW a t.name==0))=false:=by
   rw[Bool.or_eq_false_iff]at h;unfold oW;rw[h.1]
   cases c:dH a t.name with
   |none=>rfl
   |some k=>have:=h.2;rw[c]at this;simp at this
  rw[this];rfl
 unfold cZ;rw[e,b];simp[aK,fU,jw]
theorem RL{c:Bs}(h:aU c=true):iV (jw++ [46]++c)=true:=by
 have a:(jw++ [46]++c).takeWhile (· != 46)=jw:=by simp[jw,List.takeWhile]
 have b:((jw++ [46]++c).dropWhile (· != 46)).drop 1=c:=by simp[jw,List.dropWhile]
 unfold iV;rw[a,b,h];have:(jw++ [46]++c).contains 46=true:=by simp
 rw[this];decide
theorem MX{t:aJ}(h:bJ t=true):(∀c∈t.ax.map (dO jw),dW c.2)/\(∀c∈t.ax.map (dO jw),iV c.1=true):=by
 have g:=sS h;have b:=gZ t.ax [] (by unfold bG at g;rw[Bool.and_eq_true]at g;exact g.2);constructor
 ·intro c i;obtain⟨d,j,rfl⟩:=List.mem_map.mp i;have a:=b d j;rw[kY]at a;simp only[Bool.and_eq_true,decide_eq_true_eq]at a;obtain⟨e,f⟩:∃e,d.2.1= [e]:=by
   have:=a.1.1.2.2
   match d.2.1,this with
   | [e],_=>exact⟨e,rfl⟩
  have k:dP e=true:=by have:=a.1.1.2.1;rw[f]at this;simpa using this
  show dW (fH d);have:fH d=iT e.toNat:=by obtain⟨n,l,m⟩:=d;have:l= [e]:=f;subst this;rfl
  rw[this];exact(kH k).1
 ·intro c i;obtain⟨d,j,rfl⟩:=List.mem_map.mp i;have a:=b d j;rw[kY]at a;simp only[Bool.and_eq_true]at a;exact RL a.1.1.1
theorem nN.put{w x:World}{co:Option Addr}{cn cc:Nat}{l:Option Addr}{s r:Nat}{n:Value}{ax:List (Bs × Int)}{j:List RF}{b:Nat}(h:nN w co cn cc l s r n ax j)(hb:w.cell? ⟨b,0,none⟩=some (.slice none 0 0))(p:∀q,q≠b->x.heap[q]? =w.heap[q]?)(u:w.heap.size<=x.heap.size)(t:jk x n j):nN x co cn cc l s r n ax j:=by
 refine⟨h.Vg,h.VC,h.small, ?_, ?_,h.Vf,h.GK,t⟩
 ·rcases h.SA with e|⟨g,e,hg,hc⟩
  ·exact .inl e
  ·by_cases k:ax= []
   ·exact .inl k
   ·obtain⟨c,cs,rfl⟩:=List.exists_cons_of_ne_nil k;have f:g≠b:=λm=>by
     subst m;have:=hc 0 c rfl;rw[hb]at this;cases this
    exact .inr ⟨g,e,by omega,λi d o=>(World.cell?_of_block (w:=w) (a:=⟨g,i,none⟩) (p g f)).trans (hc i d o)⟩
 ·rcases h.OE with e|⟨g,e,hg,hc⟩
  ·exact .inl e
  ·by_cases k:ax= []
   ·exact .inl k
   ·obtain⟨c,cs,rfl⟩:=List.exists_cons_of_ne_nil k;have f:g≠b:=λm=>by
     subst m;have:=hc 0 c rfl;rw[hb]at this;cases this
    exact .inr ⟨g,e,by omega,λi d o=>(World.cell?_of_block (w:=w) (a:=⟨g,i,none⟩) (p g f)).trans (hc i d o)⟩
theorem PS(w:World)(g:Nat)(a0 a1 a2 a3:Value)(q:Nat)(a:q≠g):((((w.setCell ⟨g,0,none⟩ a0).setCell ⟨g,1,none⟩ a1).setCell ⟨g,2,none⟩ a2).setCell ⟨g,3,none⟩ a3).heap[q]? =w.heap[q]? :=by
 rw[heap_setCell _ _ _ _ a,heap_setCell _ _ _ _ a,heap_setCell _ _ _ _ a,heap_setCell _ _ _ _ a]
theorem Gz{B:Nat}{y w:World}(h:Below B y w)(g:Nat)(a:B<=g)(a0 a1 a2 a3:Value):Below B y ((((w.setCell ⟨g,0,none⟩ a0).setCell ⟨g,1,none⟩ a1).setCell ⟨g,2,none⟩ a2).setCell ⟨g,3,none⟩ a3):=
 (((h.setCell (p:=⟨g,_,none⟩) a _).setCell (p:=⟨g,_,none⟩) a _).setCell (p:=⟨g,_,none⟩) a _).setCell (p:=⟨g,_,none⟩) a _
theorem PR{w:World}{g:Nat}{T:TypeId}{b0 b1 b2 b3:Value}(h:w.heap[g]? =some (.cells #[b0,b1,b2,b3] T (0,0)))(a0 a1 a2 a3:Value):((((w.setCell ⟨g,0,none⟩ a0).setCell ⟨g,1,none⟩ a1).setCell ⟨g,2,none⟩ a2).setCell ⟨g,3,none⟩ a3).heap[g]? =some (.cells #[a0,a1,a2,a3] T (0,0)):=by
 simp[setCell,Array.getElem?_modify,h]
theorem TC{x:Int}(h:dW x):(mO x==98)=(x==3):=by
 rcases h with rfl|rfl|rfl<;>decide
theorem Ad(w0 w:World)(K:Nat)(l:List wB)(i:List iE)(hB:ma w0 w K l i)(h3:i.length<=3)(m8:ug (l.map (·.1)))(t:aJ)(co:Option Addr)(cn cc:Nat)(ro:Option Addr)(rn rc:Nat)(uo:Option Addr)(un uc:Nat)(hC:dM w0 (.slice co cn cc) t.ax)(hR:RowsIn w0 (.slice ro rn rc) t.rows)(hU:eD w0 (.slice uo un uc) t.eZ)(hn:t.name.length<=maxLen):
  Calls prog 64 #[.pointer (some ⟨K,0,none⟩),.agg #[.string (aa t.name),.slice co cn cc,.slice ro rn rc,.int .i64 t.count,.string (aa t.aD),.slice uo un uc]] w λe w'=>QC w0 w K l i t (cZ (bW l) (fB i) t) e w':=by
 obtain⟨fo,m,fc,c0,tn,tc,po,pn,pc,⟨i5,h0⟩,a8,⟨P,h8,e1⟩,F,b6,h4,k6⟩:=hB;have g6:=ai a8;obtain⟨W,hW⟩:∃W,W=w.alloc (MW t co cn cc ro rn rc uo un uc):=⟨_,rfl⟩;have c9:Hid (w.alloc (MW t co cn cc ro rn rc uo un uc)=W):=hW.symm;have v:Below w.heap.size w W:=by rw[hW];exact ae w _
 have g4:W.heap[w.heap.size]? =some (MW t co cn cc ro rn rc uo un uc):=by rw[hW];exact heap_alloc_new w _
 have n6:W.heap.size=w.heap.size+1:=by rw[hW];simp[size_alloc]
 have i7:=tH P h8 e1;have j:∀x:World,Below W.heap.size W x->((x.cell? ⟨w.heap.size,0,none⟩=some (.string (aa t.name))/\x.cell? ⟨w.heap.size,1,none⟩=some (.slice co cn cc)/\x.cell? ⟨w.heap.size,2,none⟩=some (.slice ro rn rc))/\x.cell? ⟨w.heap.size,3,none⟩=some (.int .i64 t.count)/\x.cell? ⟨w.heap.size,4,none⟩=some (.string (aa t.aD))/\x.cell? ⟨w.heap.size,5,none⟩=some (.slice uo un uc))/\x.cell? ⟨K,0,none⟩=some (.slice fo m fc)/\(w.heap.size<x.heap.size/\K<x.heap.size):=by
  intro x hx;have b0:=(hx.block w.heap.size (by omega)).trans g4;have b1:=(hx.block K (by omega)).trans ((v.block K g6).trans a8);have:=hx.size;exact⟨⟨⟨(af b0).trans rfl,(af b0).trans rfl,(af b0).trans rfl⟩,(af b0).trans rfl,(af b0).trans rfl,(af b0).trans rfl⟩,(af b1).trans rfl,by omega,by omega⟩
 have e9:∀x:World,Calls prog 112 #[.string (aa t.name)] x λe w'=>e=.returned (.bool (aU t.name))/\w'=x:=by
  intro x;have:=gG (aa t.name) x (by rw[aF];exact hn);rw[au]at this;exact this
 have c1:=uQ W K c0 tn tc (i.map (·.t.name)) ((af ((v.block K g6).trans a8)).trans rfl) (OY (rD F λq A=>v.block q (F.lt q A).2) h4) t.name;rw[<-Qg]at c1;have a0:Below w0.heap.size w0 W:=h0.trans (v.mono h0.size);have e5:∀x:World,Below W.heap.size W x->Calls prog 120 #[.agg #[.string (aa t.name),.slice co cn cc,.slice ro rn rc,.int .i64 t.count,.string (aa t.aD),.slice uo un uc]] x λe w'=>e=.returned (.bool (bJ t))/\Below x.heap.size x w':=λx hx=>
  zl x t co cn cc ro rn rc uo un uc (hC.ag (a0.trans (hx.mono a0.size))) (hR.ag (a0.trans (hx.mono a0.size)))
 have a3:Hid _:= @DX (bW l) (fB i) t;have a4:Hid _:= @Hy (bW l) (fB i) t;have a2:Hid _:= @Lb (bW l) (fB i) t;obtain⟨wd,k9⟩:∃b,b=aU t.name:=⟨_,rfl⟩;obtain⟨fi,j5⟩:∃b,b=dH (fB i) t.name:=⟨_,rfl⟩;obtain⟨it,c4⟩:∃b,b=bJ t:=⟨_,rfl⟩;rw[<-k9]at e9 a3 a4 a2;rw[<-j5]at c1 a3 a4 a2;simp only[<-c4]at e5;rw[<-c4]at a4 a2;have i1:Hid _:=c4;have l9:Hid _:=g4;have l8:Hid _:=a8;clear k9 j5 c4 hW g4 a8;obtain⟨⟨⟨x0,x1,x2⟩,x3,x4,x5⟩,y0,N,O⟩:=j W (refl _ _);go_enter Tryz.func64,Tryz.ntmps64;go_upto_region 2 with(go_at_call 112;refine(e9 _).mono ?_;rintro e w2 ⟨rfl,rfl⟩)
 rw[c9.out];clear c9 e9;go_upto_region 3 with(go_at_call 79;refine c1.mono ?_;rintro e w3 ⟨rfl,hb3⟩)
 clear x0 x1 x2 x3 x4 x5 y0 N O c1;have a1:Below w.heap.size w w3:=v.trans (hb3.mono v.size);obtain⟨⟨⟨x0,x1,x2⟩,x3,x4,x5⟩,y0,N,O⟩:=j w3 hb3
 cases wd with
 |false=>
  have HE:Hid (cZ (bW l) (fB i) t=.error 2):=a3.out rfl
  go_wp2_with fail
  go_ret;exact .inl ⟨2,HE.out,by decide,rfl,a1⟩
 |true=>
  cases fi with
  |some k'=>
   have j6:zJ (some k')=(k':Int):=rfl;have HE:Hid (cZ (bW l) (fB i) t=.error 2):=a3.out rfl
   go_wp2_with fail
   go_ret;exact .inl ⟨2,HE.out,by decide,rfl,a1⟩
  |none=>
   have j6:zJ none= -1:=rfl;have e4:=e5 w3 hb3
   cases it with
   |false=>
    have HE:Hid (cZ (bW l) (fB i) t=.error 6):=a4.out rfl rfl
    go_wp2_with(go_at_call 120;refine e4.mono ?_;rintro e J ⟨rfl,hb5⟩)
    go_ret;exact .inl ⟨6,HE.out,by decide,rfl,a1.trans (hb5.mono a1.size)⟩
   |true=>
    have HG:Hid _:=a2.out rfl rfl;obtain⟨n2,n3⟩:=MX i1.out.symm;have m9:=sS i1.out.symm;go_upto_region 8 with(go_at_call 120;refine e4.mono ?_;rintro e J ⟨rfl,hb5⟩)
    clear x0 x1 x2 x3 x4 x5 y0 N O e4 e5 a3 a4 a2 j6;have a6:Below W.heap.size W J:=hb3.trans (hb5.mono hb3.size);clear hb3 hb5 a1;have h7:Below w.heap.size w J:=v.trans (a6.mono v.size);have l7:Below w0.heap.size w0 J:=a0.trans (a6.mono a0.size);obtain⟨⟨⟨x0,x1,x2⟩,x3,x4,x5⟩,y0,N,O⟩:=j J a6;have i3:∀x:World,Below J.heap.size J x->Calls prog 121 #[.agg #[.slice none 0 0,.slice none 0 0,.string ⟨#[]⟩,.slice fo m fc],.string ⟨#[114,111,119]⟩,.agg #[.string (aa t.name),.slice co cn cc,.slice ro rn rc,.int .i64 t.count,.string (aa t.aD),.slice uo un uc]] x λe w'=>∃s p o c0 l5 l4,e=.returned (.agg #[.slice s p o,.slice c0 l5 l4,.string ⟨#[]⟩,.slice fo m fc])/\nN w' s p o c0 l5 l4 (.slice fo m fc) (t.ax.map (dO jw)) (l.map (·.1))/\Below x.heap.size x w'/\Below J.heap.size J w':=λx hx=>
     (Gm x fo m fc (l.map (·.1)) ((i7.ag h7).ag hx) t co cn cc ro rn rc uo un uc ((hC.ag l7).ag hx) m9).mono λe w' ⟨a,b,c,d,f,g,h1,h2,h3⟩=>⟨a,b,c,d,f,g,h1,h2,h3,hx.trans (h3.mono hx.size)⟩
    go_cut [8] (λs8 wx=>∃(kb:Nat) (s:Option Addr) (p o:Nat) (I:Option Addr) (H G:Nat),s8=.pointer (some ⟨kb,0,none⟩)/\Below J.heap.size J wx/\J.heap.size<=kb/\wx.heap[kb]? =some (.cells #[.slice s p o,.slice I H G,.string ⟨#[]⟩,.slice fo m fc] 214 (0,0))/\nN wx s p o I H G (.slice fo m fc) (t.ax.map (dO jw)) (l.map (·.1)))
    case first=>
     clear j n6;go_region_with(go_at_call 121;refine(i3 _ ?_).mono ?_;(first|exact refl _ _|exact(refl _ _).drew|exact(ae J _).drew|exact ae J _);rintro e w6 ⟨s,p,o,I,H,G,rfl,b3,hb6,hb6'⟩;first|(have b2:w6.heap[J.heap.size]? =some (.cells #[.slice none 0 0,.slice none 0 0,.string ⟨#[]⟩,.slice none 0 0] 214 (0,0)):=(hb6.block J.heap.size (by simp[size_alloc])).trans (heap_alloc_new J _);obtain⟨⟨k0,k1,k2,k3⟩,g0,g1,g2,g3⟩:=bE b2;have o1:=ai b2)|skip);all_goals(go_wp2_with fail;go_meet)
     all_goals first
      |exact⟨w6.heap.size,s,p,o,I,H,G,rfl,hb6'.alloc hb6'.size _,hb6'.size,heap_alloc_new w6 _,b3.ag (ae w6 _)⟩
      |exact⟨J.heap.size,s,p,o,I,H,G,rfl,Gz hb6' _ (le_refl _) _ _ _ _,le_refl _,PR b2 _ _ _ _,b3.put k0 (λq A=>PS _ _ _ _ _ _ _ A) (by simp[setCell]) ((i7.ag h7).ag (Gz hb6' _ (le_refl _) _ _ _ _))⟩
    case rest=>
     obtain⟨kb,s,p,o,I,H,G,rfl,m7,o6,X,b3⟩:=hcut;clear x0 x1 x2 x3 x4 x5 y0 N O i3;generalize n7:wc=w6 at*;clear n7;have R:Below W.heap.size W w6:=a6.trans (m7.mono a6.size);have h9:Below w.heap.size w w6:=v.trans (R.mono v.size);obtain⟨⟨⟨x0,x1,x2⟩,x3,x4,x5⟩,y0,N,O⟩:=j w6 R;have j7:=ai X;obtain⟨⟨k0,k1,k2,k3⟩,_⟩:=bE X;have c2:nZ (t.ax.map (dO jw),aP []) [] (l.map (·.1)):=m8.known rfl n2 n3;have e8:=xe w6 s p o I H G [] fo m fc (t.ax.map (dO jw),aP []) (l.map (·.1)) b3 (by simp) c2 t.aD;have he:aa []=⟨#[]⟩:=rfl;rw[he]at e8;have i2:Hid _:=X;clear X
     go_wp2_with(go_at_call 117;refine e8.mono ?_)
     clear e8;rintro e w7 ⟨c3,hres⟩;have i0:Below w.heap.size w w7:=h9.trans (c3.mono h9.size);have i6:Below W.heap.size W w7:=R.trans (c3.mono R.size);rcases hres with⟨n,b8,j8,rfl⟩|⟨x,tr,g,cap,cs,b8,k4,Y,E,rfl,o5,a7⟩
     ·have HE:Hid (cZ (bW l) (fB i) t=.error n):=by
       rw[Hid,HG.out];have:eG bA (t.ax.map (dO jw),[]) (bW l) t.aD=.error n:=b8;rw[this];rfl
      have o7:(n==0)=false:=by simpa using j8
      clear b8
      go_wp2_with fail
      go_ret;exact .inl ⟨n,HE.out,j8,rfl,i0.alloc i0.size _⟩
     ·have e6:Hid (cZ (bW l) (fB i) t=Ac (.ok x)):=by
       rw[Hid,HG.out];have:eG bA (t.ax.map (dO jw),[]) (bW l) t.aD=.ok x:=b8;rw[this]
      obtain⟨C,b7⟩:∃C,(post tr).length=C+1:=⟨(post tr).length- 1,by have:=mF tr;omega⟩;rw[b7];have M:=ae w7 (.cells #[.slice (some ⟨g,0,none⟩) (C+1) cap] 102);have V:=(c3.block kb j7).trans i2.out;have k5:lK (l.map (·.1)) tr=x.quiet:=(zb bA c2 tr x E Y).symm;have e3:(post tr)[C]? =some tr:=by have:=dF tr;rw[b7,Nat.add_sub_cancel]at this;exact this
      have e7:Calls prog 119 #[.agg #[.slice s p o,.slice I H G,.string ⟨#[]⟩,.slice fo m fc],.agg #[.slice (some ⟨g,0,none⟩) (C+1) cap],.int .i64 (C:Int)] (w7.alloc (.cells #[.slice (some ⟨g,0,none⟩) (C+1) cap] 102)) λe w'=>e=.returned (.bool x.quiet)/\Below (w7.alloc (.cells #[.slice (some ⟨g,0,none⟩) (C+1) cap] 102)).heap.size (w7.alloc (.cells #[.slice (some ⟨g,0,none⟩) (C+1) cap] 102)) w':=by
       have:=uP (SizeOf.sizeOf tr) tr (w7.alloc (.cells #[.slice (some ⟨g,0,none⟩) (C+1) cap] 102)) s p o I H G [] fo m fc (t.ax.map (dO jw),aP []) (l.map (·.1)) g cap (post tr) _ cs C (le_refl _) ((b3.ag c3).ag M) c2 (a7.ag M) e3;rw[k5,b7,he]at this;exact this
      obtain⟨⟨j0,j1,j2,j3⟩,_⟩:=bE ((M.block kb (ai V)).trans V);have a9:=heap_alloc_new w7 (.cells #[.slice (some ⟨g,0,none⟩) (C+1) cap] 102);obtain⟨j4,_⟩:=nP a9;have o2:kb<(w7.alloc (.cells #[.slice (some ⟨g,0,none⟩) (C+1) cap] 102)).heap.size:=by rw[size_alloc];have:=ai V;omega
      have i9:w7.heap.size<(w7.alloc (.cells #[.slice (some ⟨g,0,none⟩) (C+1) cap] 102)).heap.size:=by rw[size_alloc];omega
      have B8:Below W.heap.size W (w7.alloc (.cells #[.slice (some ⟨g,0,none⟩) (C+1) cap] 102)):=i6.alloc i6.size _;have m2:Hid _:=a7.ag M;have m0:Hid _:=a9;have l0:dW x.ty:=wm bA c2 tr x E Y;have y:=TC l0;have m4:Hid _:=b7;have m6:Hid _:=Y;have m1:Hid _:=E;have m5:Hid _:=k4;have n0:C+1<=cap:=by have:=a7.cap;omega
      have o3:C+1<=1000:=by have:=a7.small;omega
      clear b7 k5 e3 b8 k4 Y E a7 V M a9 x0 x1 x2 x3 x4 x5 y0 N O k0 k1 k2 k3;generalize n8:w7.alloc (.cells #[.slice (some ⟨g,0,none⟩) (C+1) cap] 102)=w8 at*;obtain⟨xq,g9⟩:∃z,z=x.quiet:=⟨_,rfl⟩;obtain⟨xk,c7⟩:∃z,z=mO x.ty:=⟨_,rfl⟩;rw[<-g9]at e7;rw[<-c7]at y;rw[<-c7];have i4:Hid _:=g9;have o4:Hid _:=c7;clear g9 c7;go_upto_region 13 with(go_at_call 119;refine e7.mono ?_;rintro e w9 ⟨rfl,hb9⟩)
      have B9:Below W.heap.size W w9:=B8.trans (hb9.mono B8.size);have D:Below w.heap.size w w9:=v.trans (B9.mono v.size);clear e7 j0 j1 j2 j3 j4
      cases c6:(x.ty==3)with
      |false=>
       have HE:Hid (cZ (bW l) (fB i) t=.error 5):=by rw[Hid,e6.out,Ac,c6];rfl
       rw[c6]at y;have n4:¬xk=98:=by simpa using y
       go_wp2_with fail
       go_ret;exact .inl ⟨5,HE.out,by decide,rfl,D⟩
      |true=>
       rw[c6]at y;obtain rfl:xk=98:=by simpa using y
       cases xq with
       |false=>
        have HE:Hid (cZ (bW l) (fB i) t=.error 5):=by rw[Hid,e6.out,Ac,<-i4.out,Bool.not_false,Bool.or_true,if_pos rfl]
        go_wp2_with fail
        go_ret;exact .inl ⟨5,HE.out,by decide,rfl,D⟩
       |true=>
        have HE:Hid (cZ (bW l) (fB i) t=.ok x):=by rw[Hid,e6.out,Ac,<-i4.out,c6];rfl
        have i8:=(B9.block w.heap.size (by omega)).trans l9.out;have e0:=(D.block K g6).trans l8.out;have e2:=(hb9.block w7.heap.size i9).trans m0.out;have b9:=rD F λq A=>D.block q (F.lt q A).2;have h6:=rD b6 λq A=>D.block q (b6.lt q A).2;have h5:=rD P λq A=>D.block q (P.lt q A).2;have m3:Hid _:=m2.out.ag hb9;clear n8 j;go_upto_region 15 with fail
        refine Ae K w.heap.size w9 i.length (iN i) (.slice fo m fc) c0 tn tc (.slice po pn pc) (aa t.name) (aa t.aD) t.count co cn cc ro rn rc uo un uc h3 i8 b9 e0 _ _ _ _ _ _ _ _ _ _ _ _ _ _ _ _ _ _ _ _ _ _ _ _ _ _ _ _ _ _ _ _ _ _ _ _ _ _ _ _ _ _ _ _ _ _ _ _ _ _ _ _ _ _ _ _ _ _ _ _ _ _ _ _ _ _ _ _ _ _ _ _ _ _ _ _ _ _ _ _ _ ?_;intro o8 o9 p0 p1 p2 p3 p4 p5 p6 v70 g7 Q n9 L b4 S;obtain⟨_,A1,A2,A3,A4⟩:=xX (B:=K) (k:=1) e0 b9 (ae w9 L).drew S b4 (.slice (some ⟨g7,0,none⟩) (i.length+1) Q) (le_refl _);have g5:=(A4 _ _ _ _ e2 (by decide) (by decide)).trans e2;have Z:=gN h6 λq u fz A=>A4 q u _ fz A (by decide) (by decide);have c8:=gN h5 λq u fz A=>A4 q u _ fz A (by decide) (by decide);dsimp only;generalize k7:n9.setCell ⟨K,1,none⟩ (.slice (some ⟨g7,0,none⟩) (i.length+1) Q)=w11 at*;clear k7;go_upto_region 16 with fail
        refine Af K w7.heap.size w11 i.length (pQ i) (.slice fo m fc) (.slice (some ⟨g7,0,none⟩) (i.length+1) Q) po pn pc (some ⟨g,0,none⟩) (C+1) cap h3 g5 Z A1 _ _ _ _ _ _ _ _ _ _ _ _ _ _ _ _ _ _ _ _ _ _ _ _ _ _ _ _ _ _ _ _ _ _ _ _ _ _ _ _ _ _ _ _ _ _ _ _ _ _ _ _ _ _ _ _ _ _ _ _ _ _ _ _ _ _ _ _ _ _ _ _ _ _ _ _ _ _ _ _ _ ?_;intro p7 v72 p8 p9 v75 v76 q0 q1 q2 q3 g8 a5 o0 L2 b5 U;obtain⟨_,C1,C2,C3,C4⟩:=xX (B:=K) (k:=2) A1 Z (ae w11 L2).drew U b5 (.slice (some ⟨g8,0,none⟩) (i.length+1) a5) (le_refl _);dsimp only;generalize k8:o0.setCell ⟨K,2,none⟩ (.slice (some ⟨g8,0,none⟩) (i.length+1) a5)=w13 at*;clear k8;have c5:∀(q:Nat) (u:Array Value) (T:TypeId) (fz:Nat × Nat),w9.heap[q]? =some (.cells u T fz)->T=183\/T=3->w13.heap[q]? =w9.heap[q]? :=by
         intro q u T fz A hT;have e:=A4 q u T fz A (by rcases hT with rfl|rfl<;>decide) (by rcases hT with rfl|rfl<;>decide);exact(C4 q u T fz (e.trans A) (by rcases hT with rfl|rfl<;>decide) (by rcases hT with rfl|rfl<;>decide)).trans e
        have n1:pQ i++ [.slice (some ⟨g,0,none⟩) (C+1) cap]=pQ (i++ [⟨t,x,tr,g,cap,co,cn,cc,ro,rn,rc,uo,un,uc⟩]):=by
         rw[pQ,pQ,List.map_append];simp only[List.map_cons,List.map_nil,Ps,m4.out]
        have n5:iN i++ [.string (aa t.name),.slice co cn cc,.slice ro rn rc,.int .i64 t.count,.string (aa t.aD),.slice uo un uc]=iN (i++ [⟨t,x,tr,g,cap,co,cn,cc,ro,rn,rc,uo,un,uc⟩]):=by
         rw[Gt];simp[iN,tJ]
        have j9:qw w9 ⟨t,x,tr,g,cap,co,cn,cc,ro,rn,rc,uo,un,uc⟩:=by
         refine⟨cs,_,m3.out, ?_,m1.out,m5.out⟩;show lm bA (t.ax.map (dO jw),aP []) (RF.list (l.map (·.1))) (post tr) (post tr).length ((post tr).length- 1)=mO x.ty;rw[lm,if_pos (by have:=mF tr;omega),dF tr];show SI (bg bA (t.ax.map (dO jw),aP []) (RF.list (l.map (·.1))) tr)=mO x.ty;rw[m6.out];rfl
        have Bx:Below K w w13:=((D.mono (by omega)).trans A3).trans C3;have HR:Hid (ma w0 w13 K l (i++ [⟨t,x,tr,g,cap,co,cn,cc,ro,rn,rc,uo,un,uc⟩])):=by
         refine⟨fo,m,fc,some ⟨g7,0,none⟩,i.length+1,Q,some ⟨g8,0,none⟩,i.length+1,a5,⟨i5,h0.trans (Bx.mono i5)⟩,C1,⟨gN c8 λq u fz A=>C4 q u _ fz A (by decide) (by decide),h8,λe he=>((e1 e he).ag D).move c5⟩, ?_, ?_,by simp;omega,λr hr=> ?_⟩
         ·rw[List.length_append,<-n5];exact gN A2 λq u fz A=>C4 q u _ fz A (by decide) (by decide)
         ·rw[List.length_append,<-n1];exact C2
         ·rcases List.mem_append.mp hr with h|h
          ·exact⟨(k6 r h).1,((k6 r h).2.ag D).move c5⟩
          ·rw[List.mem_singleton.mp h];exact⟨⟨hC,hR,hU⟩,j9.move c5⟩
        clear A1 A2 A3 A4 C1 C2 C3 C4 c5 b4 S b5 U
        go_wp2_with fail
        go_ret;exact .inr ⟨⟨t,x,tr,g,cap,co,cn,cc,ro,rn,rc,uo,un,uc⟩,HE.out,rfl,rfl,HR.out,Bx⟩
def DR(w:World)(o:Except Int (List Fn × List (aJ × Ex)))(e:Ending)(w':World):Prop:=Below w.heap.size w w'/\
 ((∃(n:Int) (xb:Nat),o=.error n/\n≠0/\e=.returned (.tuple #[.pointer (some ⟨xb,0,none⟩),.int .i64 n]))\/
  (∃(l:List wB) (tl:List iE) (xb:Nat),o=.ok (bW l,fB tl)/\e=.returned (.tuple #[.pointer (some ⟨xb,0,none⟩),.int .i64 0])/\ma w w' xb l tl/\ug (l.map (·.1))))
theorem OA(l:List wB)(fn:Fn)(args:Bs)(t:Tr)(g cap:Nat):bW (l++ [(⟨fn,args,t⟩,g,cap)])=bW l++ [fn]:=by simp[bW,RF.list]
theorem Ql(a:List iE)(r:iE):fB (a++ [r])=fB a++ [(r.t,r.x)]:=by simp[fB]
theorem Oz:ug ([]:List RF):=⟨λr h=>by simp at h,λr h=>by simp at h,λr h=>by simp at h,λr h=>by simp at h,λi r h=>by simp at h⟩
theorem rM(w:World)(a b:Obj):(((w.alloc a).alloc b).heap[w.heap.size]? =some a/\((w.alloc a).alloc b).heap[w.heap.size+1]? =some b)/\Below w.heap.size w ((w.alloc a).alloc b)/\((w.alloc a).alloc b).heap.size=w.heap.size+2:=by
 have s1:(w.alloc a).heap.size=w.heap.size+1:=by simp[size_alloc]
 refine⟨⟨?_, ?_⟩,((refl _ w).alloc (le_refl _) _).alloc (by rw[s1];omega) _,by simp[size_alloc]⟩
 ·rw[heap_alloc _ _ _ (by rw[s1];omega)];exact heap_alloc_new w _
 ·rw[<-s1];exact heap_alloc_new _ _
theorem zt(w:World)(a:List mM)(h8:a.length<=8)(E:Option Addr)(fl J:Nat)(hv:fT w (.slice E fl J) a)(B:∀f∈a,f.2.1.length<=maxLen)(c:List aJ)(h4:c.length<=4)(d:Option Addr)(tl G:Nat)(c8:jI w (.slice d tl G) c):
  Calls prog 27 #[.agg #[.slice E fl J,.slice d tl G]] w λe w'=>DR w (dz a c) e w':=by
 obtain⟨ao,cap,b4,e8,hz⟩:=hv
 cases b4;obtain⟨e9,GK,b5,e2,a8⟩:=c8
 cases b5;have C:Hid _:=a8;have HZ:Hid _:=hz;have b2:Hid _:=B;clear a8 hz B;have e7:decide ((8:Int)<(a.length:Int))=false:=by simp;omega
 have e6:decide ((4:Int)<(c.length:Int))=false:=by simp;omega
 obtain⟨W,hW⟩:∃W,W=(w.alloc (.cells #[.slice E a.length J,.slice d c.length G] 67)).alloc (.cells #[.slice none 0 0,.slice none 0 0,.slice none 0 0] 200):=⟨_,rfl⟩;obtain⟨⟨a2,a7⟩,a1,c7⟩:=rM w (.cells #[.slice E a.length J,.slice d c.length G] 67) (.cells #[.slice none 0 0,.slice none 0 0,.slice none 0 0] 200);rw[<-hW]at a2 a7 a1 c7;have H:Hid ((w.alloc (.cells #[.slice E a.length J,.slice d c.length G] 67)).alloc (.cells #[.slice none 0 0,.slice none 0 0,.slice none 0 0] 200)=W):=hW.symm;have I0:uY W (w.heap.size+1) []:=⟨none,0,0,a7,ownsRow_nil _ _ _ _,by simp,λe he=>by simp at he⟩;clear hW;go_enter Tryz.func27,Tryz.ntmps27
 go_wp2_with fail
 rw[H.out];clear H;go_loopw [5] (λS wr=>∃(i:Nat) (l:List wB),i<=a.length/\S=.int .i64 i/\l.length=i/\uY wr (w.heap.size+1) l/\ug (l.map (·.1))/\Hid (fq [] a=fq (bW l) (a.drop i))/\Below (w.heap.size+1) W wr) (λS _=>a.length- (intOf S).toNat)
 case atStart=>exact⟨0,[],Nat.zero_le _,rfl,rfl,I0,Oz,rfl,refl _ _⟩
 case round=>
  clear I0;obtain⟨i,l,hi,rfl,b8,F,R,D,hB⟩:=hrel;have y:wr.heap[w.heap.size]? =some (.cells #[.slice E a.length J,.slice d c.length G] 67 (0,0)):=(hB.block _ (by omega)).trans a2;have e4:=ai y;have b0:wr.cell? ⟨w.heap.size,0,none⟩=some (.slice E a.length J):=(af y).trans rfl;have b1:wr.cell? ⟨w.heap.size,1,none⟩=some (.slice d c.length G):=(af y).trans rfl;have u:Below w.heap.size w wr:=a1.trans (hB.mono (by omega));by_cases q:i<a.length
  ·obtain⟨b,k,rfl,hb,hc⟩:∃b k,E=some ⟨b,k,none⟩/\b<w.heap.size/\∀(i:Nat) (f:mM),a[i]? =some f->(w.cell? ⟨b,k+i*3,none⟩=some (.string (aa f.1))/\w.cell? ⟨b,k+i*3+1,none⟩=some (.string (aa f.2.1))/\w.cell? ⟨b,k+i*3+2,none⟩=some (.string (aa f.2.2)))/\f.1.length<=maxLen/\f.2.2.length<=maxLen:=by
    rcases HZ.out with h|h
    ·subst h;simp at q
    ·exact h
   obtain⟨⟨X,Y,Z⟩,P,b7⟩:=hc i a[i] (List.getElem?_eq_getElem q);have z:∀j,wr.cell? ⟨b,j,none⟩=w.cell? ⟨b,j,none⟩:=λj=>u.cell (p:=⟨b,j,none⟩) hb;have T:=(z _).trans X;have U:=(z _).trans Y;have V:=(z _).trans Z;have Q:=b2.out a[i] (List.getElem_mem q);have hd:a.drop i=(a[i].1,a[i].2.1,a[i].2.2)::a.drop (i+1):=List.drop_eq_getElem_cons q;rw[hd]at D;obtain⟨x1,a4⟩:∃x,x=a[i].1:=⟨_,rfl⟩;obtain⟨x2,a5⟩:∃x,x=a[i].2.1:=⟨_,rfl⟩;obtain⟨x3,a6⟩:∃x,x=a[i].2.2:=⟨_,rfl⟩;rw[<-a4]at T D P;rw[<-a5]at U D Q;rw[<-a6]at V D;have e5:b<wr.heap.size:=by have:=u.size;omega
   have L:=zg wr (w.heap.size+1) l F (by omega) R x1 x2 x3 P Q;clear z X Y Z hc hd a4 a5 a6 P b7 Q F
   go_wp2_with(go_at_call 63;refine L.mono ?_)
   rintro e w5 (⟨n,ho,hn,rfl,hb5⟩|⟨fn,t,g,cp,ho,rfl,hB5,hok5,hb5⟩)
   ·have HE:Hid (fq [] a=.error n):=by rw[Hid,D.out];exact DW ho _
    have BX:Below w.heap.size w w5:=u.trans (hb5.mono u.size);have b9:(n==0)=false:=by simpa using hn
    clear L D hB y b0 b1 hb5 T U V
    go_wp2_with fail
    exact bodyPost_ret (v:=.tuple #[.pointer (some ⟨w.heap.size+1,0,none⟩),.int .i64 n]) (by simp[results,Tryz.results27,go_sem]) rfl ⟨BX,.inl ⟨n,w.heap.size+1,Bf h8 h4 HE.out,hn,rfl⟩⟩
   ·have HN:Hid (fq [] a=fq (bW (l++ [(⟨fn,x2,t⟩,g,cp)])) (a.drop (i+1))):=by rw[Hid,D.out,OA];exact JX ho _
    have RB:Below (w.heap.size+1) W w5:=hB.trans hb5;clear L D hB y b0 b1 hb5 T U V ho
    go_wp2_with fail
    go_roundw
    case rel=>exact⟨i+1,l++ [(⟨fn,x2,t⟩,g,cp)],by omega,by go_num,by simp[b8],hB5,hok5,HN,RB⟩
    case measure=>simp[intOf];omega
  ·have HE:Hid (fq [] a=.ok (bW l)):=by rw[Hid,D.out,List.drop_of_length_le (by omega)];rfl
   have a0:=FX (w0:=w) F (by omega) u;generalize c9:wr=wa at*;clear c9 D F
   go_wp2_with fail
   go_loopw [7] (λS wx=>∃(j:Nat) (m:List iE),j<=c.length/\S=.int .i64 j/\m.length=j/\ma w wx (w.heap.size+1) l m/\Hid (iw (bW l) [] c=iw (bW l) (fB m) (c.drop j))/\Below (w.heap.size+1) wa wx) (λS _=>c.length- (intOf S).toNat)
   case atStart=>exact⟨0,[],Nat.zero_le _,rfl,rfl,a0,rfl,refl _ _⟩
   case round=>
    obtain⟨j,m,hj,rfl,b6,s,I,N⟩:=hrel;generalize e0:wr=wj at*;clear e0 a0;have K:wj.heap[w.heap.size]? =some (.cells #[.slice E a.length J,.slice d c.length G] 67 (0,0)):=(N.block _ (by omega)).trans y;have e1:=ai K;have y1:wj.cell? ⟨w.heap.size,1,none⟩=some (.slice d c.length G):=(af K).trans rfl;have A:Below w.heap.size w wj:=u.trans (N.mono (by omega));by_cases q:j<c.length
    ·obtain⟨b,k,rfl,hb,hc⟩:∃b k,d=some ⟨b,k,none⟩/\b<w.heap.size/\∀(i:Nat) (t:aJ),c[i]? =some t->Ao w b (k+i*6) t:=by
      rcases C.out with h|h
      ·subst h;simp at q
      ·exact h
     obtain⟨co,cn,cc,ro,rn,rc,uo,un,uc,⟨X,Y,Z,c3,c4,c5⟩,hC,O,hU,a3,c6⟩:=hc j c[j] (List.getElem?_eq_getElem q);have z:∀o,wj.cell? ⟨b,o,none⟩=w.cell? ⟨b,o,none⟩:=λo=>A.cell (p:=⟨b,o,none⟩) hb;have T:=(z _).trans X;have U:=(z _).trans Y;have V:=(z _).trans Z;have q3:=(z _).trans c3;have q4:=(z _).trans c4;have q5:=(z _).trans c5;have e3:b<wj.heap.size:=by have:=A.size;omega
     have hd:c.drop j=c[j]::c.drop (j+1):=List.drop_eq_getElem_cons q;rw[hd]at I;obtain⟨t,ht⟩:∃t,t=c[j]:=⟨_,rfl⟩;rw[<-ht]at T q3 q4 I hC O hU a3 c6;have L:=Ad w wj (w.heap.size+1) l m s (by omega) R t co cn cc ro rn rc uo un uc hC O hU a3;clear z X Y Z c3 c4 c5 hc hd ht hC O hU s C
     go_wp2_with(go_at_call 64;refine L.mono ?_)
     rintro e w5 (⟨n,ho,hn,rfl,hb5⟩|⟨r,ho,hrt,rfl,hB5,hb5⟩)
     ·have M:Hid (dz a c=.error n):=by rw[Hid,pR h8 h4 HE.out,I.out,iw,ho];rfl
      have a9:Below w.heap.size w w5:=A.trans (hb5.mono A.size);have b9:(n==0)=false:=by simpa using hn
      clear L I hb5 T U V q3 q4 q5
      go_wp2_with fail
      exact bodyPost_ret (v:=.tuple #[.pointer (some ⟨w.heap.size+1,0,none⟩),.int .i64 n]) (by simp[results,Tryz.results27,go_sem]) rfl ⟨a9,.inl ⟨n,w.heap.size+1,M.out,hn,rfl⟩⟩
     ·have HN:Hid (iw (bW l) [] c=iw (bW l) (fB (m++ [r])) (c.drop (j+1))):=by rw[Hid,I.out,iw,ho,Ql,hrt]
      have RB:Below (w.heap.size+1) wa w5:=N.trans hb5;clear L I hb5 T U V q3 q4 q5 ho
      go_wp2_with fail
      go_roundw
      case rel=>exact⟨j+1,m++ [r],by omega,by go_num,by simp[b6],hB5,HN,RB⟩
      case measure=>simp[intOf];omega
    ·have M:Hid (dz a c=.ok (bW l,fB m)):=by rw[Hid,pR h8 h4 HE.out,I.out,List.drop_of_length_le (by omega)];rfl
     have b3:Hid _:=s;clear I s C
     go_wp2_with fail
     exact bodyPost_ret (v:=.tuple #[.pointer (some ⟨w.heap.size+1,0,none⟩),.int .i64 0]) (by simp[results,Tryz.results27,go_sem]) rfl ⟨A,.inr ⟨l,m,w.heap.size+1,M.out,rfl,b3.out,R⟩⟩
theorem CS(w:World)(b:List mM)(o:Option Addr)(n m:Nat)(r:fT w (.slice o n m) b)(a:∀f∈b,f.2.1.length<=maxLen)(j:List aJ)(i:Option Addr)(u t:Nat)(g:jI w (.slice i u t) j):
  Calls prog 27 #[.agg #[.slice o n m,.slice i u t]] w λe w'=>DR w (dz b j) e w':=by
 by_cases A:b.length<=8
 ·by_cases z:j.length<=4
  ·exact zt w b A o n m r a j z i u t g
  ·obtain⟨y,cap,c,q,s⟩:=r
   cases c;obtain⟨x,GK,d,k,h⟩:=g
   cases d;have l:Hid (dz b j=.error 9):=by rw[Hid,dz,if_pos (by omega)]
   have p:decide ((8:Int)<(b.length:Int))=false:=by simp;omega
   have B:decide ((4:Int)<(j.length:Int))=true:=by simp;omega
   clear s h a;go_enter Tryz.func27,Tryz.ntmps27
   go_wp2_with fail
   exact bodyPost_ret (v:=.tuple #[.pointer (some ⟨w.heap.size+1,0,none⟩),.int .i64 9]) (by simp[results,Tryz.results27,go_sem]) rfl ⟨(rM w _ _).2.1,.inl ⟨9,_,l.out,by decide,rfl⟩⟩
 ·obtain⟨y,cap,c,q,s⟩:=r
  cases c;obtain⟨x,GK,d,k,h⟩:=g
  cases d;have l:Hid (dz b j=.error 9):=by rw[Hid,dz,if_pos (by omega)]
  have p:decide ((8:Int)<(b.length:Int))=true:=by simp;omega
  clear s h a;go_enter Tryz.func27,Tryz.ntmps27
  go_wp2_with fail
  exact bodyPost_ret (v:=.tuple #[.pointer (some ⟨w.heap.size+1,0,none⟩),.int .i64 9]) (by simp[results,Tryz.results27,go_sem]) rfl ⟨(rM w _ _).2.1,.inl ⟨9,_,l.out,by decide,rfl⟩⟩
end Go.Proofs.YtdifpeaklamhnaaGreatDoor

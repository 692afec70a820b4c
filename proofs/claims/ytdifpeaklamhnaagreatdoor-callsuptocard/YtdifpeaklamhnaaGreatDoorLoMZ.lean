import Derived.Test.YtdifpeaklamhnaaGreatDoorLoGZ
import Derived.Deep.RegionHeld
import Derived.Deep.CutBlock
set_option linter.unusedVariables false
set_option linter.unusedSimpArgs false
set_option maxRecDepth 100000
set_option maxHeartbeats 0
namespace Go.Proofs.YtdifpeaklamhnaaGreatDoor
open Go.Proofs.Tryz
open Go.RowKit
open Below (refl heap_setCell)
open Nat (lt_of_lt_of_le le_refl zero_le)
open List (mem_of_getElem? getElem?_eq_getElem)
theorem gK{P:Program}{e:Array Oper}{Q:Exit->Act->World->Prop}{g:Region.Mode}{S:World->Prop}(i d:Nat)(v:Value){j:Oper}{f:Nat}{b:Array Bool}{a:Act}{w:World}(o:e[i]? =some j)(m:j.dst=some d)
  (q:Region.noSelect e=true) (n:Region.free g e b i=true) (p:(Region.ready g e b).contains i=true) (k:∀c a w,Q (.panic c) (a.put (some d) v) w->Q (.panic c) a w) (r:Region.wanted j (yielded e a.tmps)=true) (s:∀x,S x->(execOp a.eval j).run P x=.ok (.value v) x) (l:S w)
  (h:wpAnyH P g e Q S f (b.setIfInBounds i true) (a.put (some d) v) w):wpAnyH P g e Q S (f+1) b a w:=by
 rw[<-m]at k h;exact wpAnyH_take o q n p k (Or.inl ⟨r,s⟩) l h
theorem qV{P:Program}{e:Array Oper}{Q:Exit->Act->World->Prop}{g:Region.Mode}{S:World->Prop}(i d:Nat){j:Oper}{f:Nat}{b:Array Bool}{a:Act}{w:World}(o:e[i]? =some j)(m:j.dst=some d)
  (q:Region.noSelect e=true) (n:Region.free g e b i=true) (p:(Region.ready g e b).contains i=true) (k:∀c a w,Q (.panic c) (a.put (some d) undef) w->Q (.panic c) a w) (r:Region.wanted j (yielded e a.tmps)=false) (l:S w)
  (h:wpAnyH P g e Q S f (b.setIfInBounds i true) (a.put (some d) undef) w):wpAnyH P g e Q S (f+1) b a w:=by
 rw[<-m]at k h;exact wpAnyH_take o q n p k (Or.inr ⟨r,rfl⟩) l h
def jP(n:Nat):Code->Option Code
 | .seq a b=>match jP n a with
  |some c=>some c
  |none=>jP n b
 | .block k c=>if k=n then some (.block k c)else jP n c
 | .scope c=>jP n c
 | .loop c=>jP n c
 | .cond _ a b=>match jP n a with
  |some c=>some c
  |none=>jP n b
 |_=>none
def rM(w:World)(T:TypeId)(z:Nat)(ov:Nat->Value)(l:Ln):Prop:=w.rowIs l.g T ((l.n+3)*z) (λj=>ov (j % z))
structure fB(w wr:World)(mb:Nat)(T:TypeId)(z:Nat)(far ov:Nat->Value)(ls:List Ln)(k:Nat):Prop where
 done:∀(j:Nat) (l:Ln),j<k->ls[j]? =some l->rM wr T z ov l
 todo:∀(j:Nat) (l:Ln),k<=j->ls[j]? =some l->wr.rowIs l.g T ((l.n+3)*z) (jf z l.cs far)
 ah:bR w wr [T]
 mD:Below mb w wr
 nZ:∀q,q<w.heap.size->(∀l∈ls,q≠l.g)->wr.heap[q]? =w.heap[q]?
structure jK(wo wx:World)(mb:Nat)(T:TypeId)(z:Nat)(far ov:Nat->Value)(l:Ln)(i:Nat):Prop where
 row:wx.rowIs l.g T ((l.n+3)*z) (vQ z ov (jf z l.cs far) 0 (i*z))
 nZ:∀q,q<wo.heap.size->q≠l.g->wx.heap[q]? =wo.heap[q]?
 mD:Below mb wo wx
theorem fB.start{e:Ln->Prop}{w:World}{T d:TypeId}{z c:Nat}{a g:Nat->Value}{v:Value}{b:List Ln}(h:bC e w T d z a c v b):fB w w c T z a g b 0:=
 ⟨λj l i=>by omega,λj l _ f=>(h.each l (mem_of_getElem? f)).row,bR.refl _ _,refl _ _,λ_ _ _=>rfl⟩
theorem fB.more{w wr x:World}{e:Nat}{T:TypeId}{z:Nat}{a g:Nat->Value}{f:List Ln}{k:Nat}(h:fB w wr e T z a g f k)(hb:Below wr.heap.size wr x)(i:e<=wr.heap.size):fB w x e T z a g f k:=
 ⟨λj l b c=>(h.done j l b c).of_block (hb.block _ (h.done j l b c).lt),λj l b c=>(h.todo j l b c).of_block (hb.block _ (h.todo j l b c).lt),h.ah.trans (λq _ _ _ d _=>hb.block q (aB d)),h.mD.trans (hb.mono i),λq d m=>(hb.block q (lt_of_lt_of_le d h.mD.size)).trans (h.nZ q d m)⟩
theorem jK.start{w wo:World}{c:Nat}{T:TypeId}{z:Nat}{a d:Nat->Value}{b:List Ln}{k:Nat}{l:Ln}(h:fB w wo c T z a d b k)(e:b[k]? =some l):jK wo wo c T z a d l 0:=
 ⟨(h.todo k l (le_refl _) e).congr λj _=>by rw[Nat.zero_mul,oU],λ_ _ _=>rfl,refl _ _⟩
theorem jK.more{wo b x:World}{c:Nat}{T:TypeId}{z:Nat}{a d:Nat->Value}{l:Ln}{i:Nat}(h:jK wo b c T z a d l i)(hb:Below b.heap.size b x)(e:c<=b.heap.size):jK wo x c T z a d l i:=
 ⟨h.row.of_block (hb.block _ h.row.lt),λq g f=>(hb.block q (by have:=h.mD.size;omega)).trans (h.nZ q g f),h.mD.trans (hb.mono e)⟩
theorem jK.FX{wo f:World}{e:Nat}{T:TypeId}{a b:Nat->Value}{l:Ln}{i:Nat}{a0 a1 a2:Value}(h:jK wo f e T 3 a b l i)(d:e<=l.g)(j:a0=b 0)(k:a1=b 1)(m:a2=b 2):jK wo (((f.setCell ⟨l.g,i*3,none⟩ a0).setCell ⟨l.g,i*3+1,none⟩ a1).setCell ⟨l.g,i*3+2,none⟩ a2) e T 3 a b l (i+1):=
 ⟨by have:=uH (K0:=0) (a0:=a0) (a1:=a1) (a2:=a2) (by simpa using h.row) (zero_le i) j k m;simpa using this,λq n c=>(heap_setCell _ _ _ _ c).trans ((heap_setCell _ _ _ _ c).trans ((heap_setCell _ _ _ _ c).trans (h.nZ q n c))),((h.mD.setCell (p:=⟨l.g,_,none⟩) d _).setCell (p:=⟨l.g,_,none⟩) d _).setCell (p:=⟨l.g,_,none⟩) d _⟩
theorem jK.Rz{wo f:World}{b:Nat}{T:TypeId}{a c:Nat->Value}{l:Ln}{i:Nat}{a0:Value}(h:jK wo f b T 1 a c l i)(k:b<=l.g)(j:a0=c 0):jK wo (f.setCell ⟨l.g,i,none⟩ a0) b T 1 a c l (i+1):=by
 subst j;have e:=h.row;rw[Nat.mul_one i]at e;exact⟨by rw[Nat.mul_one (i+1)];exact FQ e (zero_le i),λq m d=>(heap_setCell _ _ _ _ d).trans (h.nZ q m d),h.mD.setCell (p:=⟨l.g,_,none⟩) k _⟩
theorem fB.next{w wo H:World}{C:Nat}{T:TypeId}{z:Nat}{f D:Nat->Value}{u:List Ln}{k:Nat}{l:Ln}(h:fB w wo C T z f D u k)(v:u[k]? =some l)(i:jK wo H C T z f D l (l.n+3))(p:u.Pairwise λa b=>a.g<b.g):fB w H C T z f D u (k+1):=by
 have t:∀(j:Nat) (x:Ln),u[j]? =some x->j≠k->x.g≠l.g:=by
  intro j x d y;have A:=(List.getElem?_eq_some_iff.mp d);have B:=(List.getElem?_eq_some_iff.mp v);obtain⟨F,rfl⟩:=A;obtain⟨G,rfl⟩:=B;rcases Nat.lt_or_gt_of_ne y with h|h
  ·have:=List.pairwise_iff_getElem.mp p j k F G h;omega
  ·have:=List.pairwise_iff_getElem.mp p k j G F h;omega
 refine⟨λj x y d=> ?_,λj x y d=> ?_,h.ah.trans λq I M N o J=>i.nZ q (aB o) λe=> ?_,h.mD.trans i.mD,λq o E=>(i.nZ q (lt_of_lt_of_le o h.mD.size) (E l (mem_of_getElem? v))).trans (h.nZ q o E)⟩
 ·by_cases s:j=k
  ·subst s;obtain rfl:l=x:=by rw[v]at d;exact Option.some.inj d
   exact i.row.congr λm L=>by unfold vQ;rw[if_pos ⟨zero_le _,L⟩]
  ·have r:=h.done j x (by omega) d;exact r.of_block (i.nZ _ r.lt (t j x d s))
 ·have r:=h.todo j x (by omega) d;exact r.of_block (i.nZ _ r.lt (t j x d (by omega)))
 ·subst e;obtain⟨c,K,_⟩:=h.todo k l (le_refl _) v;rw[K]at o;cases o;simp at J
theorem fB.all{w wr:World}{f:Nat}{T:TypeId}{z:Nat}{a d:Nat->Value}{b:List Ln}(h:fB w wr f T z a d b b.length):∀l∈b,rM wr T z d l:=by
 intro l e;obtain⟨j,c,rfl⟩:=List.getElem_of_mem e;exact h.done j _ c (getElem?_eq_getElem c)
theorem gZ{q:Ln->Prop}{w:World}{T j:TypeId}{z t:Nat}{f:Nat->Value}{a:Option Addr}{m r:Nat}{c:List Ln}(h:bC q w T j z f t (.slice a m r) c):m=c.length/\(c.length=0\/∃d,a=some ⟨d,0,none⟩/\d<w.heap.size/\(∃b,w.heap[d]? =some (.cells b j (0,0)))/\∀(k:Nat) (l:Ln),c[k]? =some l->w.cell? ⟨d,k*2,none⟩=some (.slice (some ⟨l.g,0,none⟩) (l.n+3) (l.n+3))/\w.cell? ⟨d,k*2+1,none⟩=some (.slice l.wo l.n l.wc)):=by
 have u:=h.own.1;rcases h.own.2 with⟨e,o⟩|⟨g,cap,b,e,_,p,_⟩
 ·cases e;exact⟨o.symm,.inl o⟩
 ·cases e;refine⟨rfl,.inr ⟨g,rfl,aB p,⟨b,p⟩,λk l i=> ?_⟩⟩;have s:=(List.getElem?_eq_some_iff.mp i).1;exact⟨(h.own.cellAt _ (by omega)).trans (qL c k l 0 i (by omega)),(h.own.cellAt _ (by omega)).trans (qL c k l 1 i (by omega))⟩
theorem iM{cs:List Value}{a:Nat->Value}{z j:Nat}{v:Value}(h:cs[j]? =some v):jf z cs a j=v:=by
 obtain⟨b,c⟩:=List.getElem?_eq_some_iff.mp h;unfold jf;rw[dif_pos b,c]
theorem gW{cs:List Value}{a:Nat->Value}{z j:Nat}(h:cs.length<=j):jf z cs a j=a (j % z):=by
 unfold jf;rw[dif_neg (by omega)]
theorem iw{z:Nat}{a f:Nat->Value}{K j:Nat}(h:K<=j):vQ z a f 0 K j=f j:=by
 unfold vQ;rw[if_neg (by omega)]
def Rw(j:Nat):Value:=if j=0 then .int .i64 8 else if j=1 then .int .i64 0 else .string ⟨#[]⟩
def Qp(_:Nat):Value:=.string ⟨#[111,118,101,114]⟩
def Qo(j:Nat):Value:=if j=0 then .string ⟨#[111,118,101,114]⟩else if j=1 then .string ⟨#[]⟩else .int .i64 0
def Rx(j:Nat):Value:=if j=0 then .string ⟨#[111,118,101,114]⟩else .string ⟨#[]⟩
def pG(w:World)(T:TypeId)(z:Nat)(ov:Nat->Value)(xo:Option Addr)(xn xc:Nat):Prop:=(xo=none/\xn=0/\xc=0)\/∃g,xo=some ⟨g,0,none⟩/\xc=xn+3/\xn<=1048576/\w.rowIs g T ((xn+3)*z) (λj=>ov (j % z))
theorem pG.ah{w x:World}{T:TypeId}{z:Nat}{a:Nat->Value}{xo:Option Addr}{xn xc:Nat}(h:pG w T z a xo xn xc)(hb:Below w.heap.size w x):pG x T z a xo xn xc:=by
 rcases h with h|⟨g,h1,h2,h3,h4⟩
 ·exact .inl h
 ·exact .inr ⟨g,h1,h2,h3,h4.of_block (hb.block g h4.lt)⟩
def SC(_:Nat):Value:=.slice none 0 0
theorem Ao(w:World)(xo:Option Addr)(xn xc:Nat)(h:pG w 56 3 Rw xo xn xc):
  Calls prog 140 #[.slice xo xn xc] w λe w'=>e=.returned (.bool true)/\Below w.heap.size w w':=by
 have A:xn<=1048576:=by rcases h with⟨_,rfl,_⟩|⟨_,_,_,h,_⟩<;>omega
 have o:Hid _:=h;clear h;go_enter Tryz.func140,Tryz.ntmps140
 go_wp2_with fail
 go_loopg [3] xn (λgk B wr=>∃i:Nat,gk=xn- i/\i<=xn/\B=.int .i64 (i:Int)/\Below w.heap.size w wr)
 case atStart=>exact⟨0,rfl,zero_le _,rfl,refl _ _⟩
 case round=>
  obtain⟨i,l,E,rfl,d⟩:=hrel;subst l;by_cases z:i<xn
  ·obtain⟨g,rfl,a⟩:∃g,xo=some ⟨g,0,none⟩/\w.rowIs g 56 ((xn+3)*3) (λj=>Rw (j % 3)):=by
    rcases o.out with⟨_,h,_⟩|⟨g,t,_,_,u⟩
    ·omega
    ·exact⟨g,t,u⟩
   have b:=a.lt;have f:∀x:World,Below w.heap.size w x->(x.cell? ⟨g,i*3,none⟩=some (.int .i64 8)/\x.cell? ⟨g,i*3+1,none⟩=some (.int .i64 0)/\x.cell? ⟨g,i*3+2,none⟩=some (.string ⟨#[]⟩))/\g<x.heap.size:=λx c=>
    ⟨⟨(c.cell (p:=⟨g,i*3,none⟩) b).trans ((a.cell (by omega)).trans (by rw[show i*3 % 3=0 by omega];rfl)),(c.cell (p:=⟨g,i*3+1,none⟩) b).trans ((a.cell (by omega)).trans (by rw[show(i*3+1) % 3=1 by omega];rfl)),(c.cell (p:=⟨g,i*3+2,none⟩) b).trans ((a.cell (by omega)).trans (by rw[show(i*3+2) % 3=2 by omega];rfl))⟩,lt_of_lt_of_le b c.size⟩
   obtain⟨⟨q,r,s⟩,v⟩:=f wr d;have n:∀x:World,Below w.heap.size w x->Calls prog 139 #[] x λe w'=>e=.returned (.agg #[.int .i64 8,.int .i64 0,.string ⟨#[]⟩])/\Below w.heap.size w w':=λx c=>(pY x).mono λe w' h=>⟨h.1,c.trans (h.2.mono c.size)⟩;clear a b;go_upto_region 4 with fail
   go_cut [15] (λm D=>m=.bool false/\Below w.heap.size w D)
   case first=>
    go_region_with(go_at_call 139;refine(n _ ?_).mono ?_;(first|exact d|exact d.drew);rintro e C ⟨rfl,hb6⟩;obtain⟨⟨d0,d1,d2⟩,y⟩:=f C hb6);all_goals(go_wp2_with fail;go_meet)
    all_goals exact⟨rfl,by first|exact hb6|exact hb6.drew⟩
   case rest=>
    obtain⟨rfl,k⟩:=hcut;clear q r s v f n
    go_wp2_with fail
    go_roundg (xn- (i+1))
    all_goals first
     |omega
     |exact⟨i+1,rfl,by omega,by go_num,k⟩
  ·go_wp2_with fail
   go_ret;exact⟨rfl,d⟩
theorem Jl(w:World)(a0 a4:ByteArray)(a3:Int)(k:Option Addr)(kn l:Nat)(ro:Option Addr)(rn rc:Nat)(uo:Option Addr)(un uc:Nat)(s:pG w 50 3 Qo k kn l)(t:pG w 57 1 SC ro rn rc)(u:pG w 9 1 Qp uo un uc):
  Calls prog 141 #[.agg #[.string a0,.slice k kn l,.slice ro rn rc,.int .i64 a3,.string a4,.slice uo un uc]] w λe w'=>e=.returned (.bool true)/\Below w.heap.size w w':=by
 have I:kn<=1048576:=by rcases s with⟨_,rfl,_⟩|⟨_,_,_,h,_⟩<;>omega
 have J:rn<=1048576:=by rcases t with⟨_,rfl,_⟩|⟨_,_,_,h,_⟩<;>omega
 have K:un<=1048576:=by rcases u with⟨_,rfl,_⟩|⟨_,_,_,h,_⟩<;>omega
 have f:=(refl w.heap.size w).alloc (le_refl _) (.cells #[.string a0,.slice k kn l,.slice ro rn rc,.int .i64 a3,.string a4,.slice uo un uc] 54);have b:=heap_alloc_new w (.cells #[.string a0,.slice k kn l,.slice ro rn rc,.int .i64 a3,.string a4,.slice uo un uc] 54);have p:=s.ah f;have q:=t.ah f;have r:=u.ah f;clear s t u;go_enter Tryz.func141,Tryz.ntmps141
 go_wp2_with fail
 generalize v:w.alloc (.cells #[.string a0,.slice k kn l,.slice ro rn rc,.int .i64 a3,.string a4,.slice uo un uc] 54)=w1 at*;clear v;have E:=aB b;have M:w1.cell? ⟨w.heap.size,1,none⟩=some (.slice k kn l):=(ag b).trans rfl;have N:w1.cell? ⟨w.heap.size,2,none⟩=some (.slice ro rn rc):=(ag b).trans rfl;have O:w1.cell? ⟨w.heap.size,5,none⟩=some (.slice uo un uc):=(ag b).trans rfl;have B:Hid _:=p;have C:Hid _:=q;have D:Hid _:=r;clear p q r b;go_loopw [3] (λd wr=>∃i:Nat,i<=kn/\d=.int .i64 (i:Int)/\wr=w1) (λd _=>kn- (intOf d).toNat)
 case atStart=>exact⟨0,zero_le _,rfl,rfl⟩
 case round=>
  obtain⟨i,L,rfl,c⟩:=hrel;subst c;by_cases H:i<kn
  ·obtain⟨g,rfl,a⟩:∃g,k=some ⟨g,0,none⟩/\wr.rowIs g 50 ((kn+3)*3) (λj=>Qo (j % 3)):=by
    rcases B.out with⟨_,h,_⟩|⟨g,m,_,_,n⟩
    ·omega
    ·exact⟨g,m,n⟩
   have o:=a.lt;have y:wr.cell? ⟨g,i*3,none⟩=some (.string ⟨#[111,118,101,114]⟩):=(a.cell (by omega)).trans (by rw[show i*3 % 3=0 by omega];rfl);clear a
   go_wp2_with fail
   go_roundw
   case rel=>exact⟨i+1,by omega,by go_num,by trivial⟩
   case measure=>simp[intOf];omega
  ·go_wp2_with fail
   go_loopw [4] (λd x=>∃i:Nat,i<=rn/\d=.int .i64 (i:Int)/\x=wr) (λd _=>rn- (intOf d).toNat)
   case atStart=>exact⟨0,zero_le _,rfl,rfl⟩
   case round=>
    obtain⟨i2,F,rfl,c⟩:=hrel;subst c;by_cases z:i2<rn
    ·obtain⟨g,rfl,a⟩:∃g,ro=some ⟨g,0,none⟩/\wr.rowIs g 57 ((rn+3)*1) (λj=>SC (j % 1)):=by
      rcases C.out with⟨_,h,_⟩|⟨g,m,_,_,n⟩
      ·omega
      ·exact⟨g,m,n⟩
     have o:=a.lt;have y:wr.cell? ⟨g,i2,none⟩=some (.slice none 0 0):=a.cell (by omega);clear a
     go_wp2_with fail
     go_roundw
     case rel=>exact⟨i2+1,by omega,by go_num,by trivial⟩
     case measure=>simp[intOf];omega
    ·go_wp2_with fail
     go_loopw [5] (λd x=>∃i:Nat,i<=un/\d=.int .i64 (i:Int)/\x=wr) (λd _=>un- (intOf d).toNat)
     case atStart=>exact⟨0,zero_le _,rfl,rfl⟩
     case round=>
      obtain⟨i3,G,rfl,c⟩:=hrel;subst c;by_cases A:i3<un
      ·obtain⟨g,rfl,a⟩:∃g,uo=some ⟨g,0,none⟩/\wr.rowIs g 9 ((un+3)*1) (λj=>Qp (j % 1)):=by
        rcases D.out with⟨_,h,_⟩|⟨g,m,_,_,n⟩
        ·omega
        ·exact⟨g,m,n⟩
       have o:=a.lt;have y:wr.cell? ⟨g,i3,none⟩=some (.string ⟨#[111,118,101,114]⟩):=a.cell (by omega);clear a
       go_wp2_with fail
       go_roundw
       case rel=>exact⟨i3+1,by omega,by go_num,by trivial⟩
       case measure=>simp[intOf];omega
      ·go_wp2_with fail
       go_ret;exact⟨rfl,f⟩
theorem jK.JV{wo d:World}{o:Nat}{T:TypeId}{z:Nat}{a p:Nat->Value}{l:Ln}{i:Nat}(h:jK wo d o T z a p l i){N:Nat}{f:Nat->Value}(n:wo.rowIs l.g T N f):bR wo d [T]:=λq j r s b k=>h.nZ q (aB b) λe=>by
 subst e;obtain⟨c,m,_⟩:=n;rw[m]at b;cases b;simp at k
theorem Da{w:World}{T:TypeId}{z:Nat}{b:Nat->Value}{L:List Ln}{r:eX}{xo:Option Addr}{xn xc:Nat}(h:dF L r (.slice xo xn xc))(d:∀l∈L,rM w T z b l)(f:∀l∈L,l.n<=1048576):pG w T z b xo xn xc/\xn=r.rn:=by
 rcases h with⟨c,e⟩|⟨g,e,a⟩
 ·cases e;exact⟨.inl ⟨rfl,rfl,rfl⟩,c.symm⟩
 ·cases e;exact⟨.inr ⟨g,rfl,rfl,f _ a,d _ a⟩,rfl⟩
theorem PH{w:World}{T:TypeId}{z:Nat}{b:Nat->Value}{L:List Ln}{ro:Option Addr}{rn rc:Nat}{xo:Option Addr}{xn xc:Nat}(h:qj L ro rn rc (.slice xo xn xc))(d:∀l∈L,rM w T z b l)(f:∀l∈L,l.n<=1048576):pG w T z b xo xn xc/\xn=rn:=by
 rcases h with⟨c,e⟩|⟨g,i,e,a⟩
 ·cases e;exact⟨.inl ⟨rfl,rfl,rfl⟩,c.symm⟩
 ·cases e;exact⟨.inr ⟨g,rfl,rfl,f _ a,d _ a⟩,rfl⟩
theorem rM.eU{w x:World}{T:TypeId}{z:Nat}{a:Nat->Value}{l:Ln}{S:List TypeId}(h:rM w T z a l)(c:bR w x S)(b:T∉S):rM x T z a l:=iP h c b
theorem sZ{C:List Ln}{r:eX}{v:Value}(h:dF C r v):∃xo xn xc,v=.slice xo xn xc:=by
 rcases h with⟨_,rfl⟩|⟨g,rfl,_⟩<;>exact⟨_,_,_,rfl⟩
theorem Gu{R:List Ln}{ro:Option Addr}{rn rc:Nat}{v:Value}(h:qj R ro rn rc v):∃xo xn xc,v=.slice xo xn xc:=by
 rcases h with⟨_,rfl⟩|⟨g,a,rfl,_⟩<;>exact⟨_,_,_,rfl⟩
def VO(j:Nat):Value:=if j=0 then .string ⟨#[111,118,101,114]⟩else KH j
structure om(w wr:World)(mb:Nat)(ls:List Ln)(k:Nat):Prop where
 todo:∀(j:Nat) (l:Ln),k<=j->ls[j]? =some l->wr.rowIs l.g 54 ((l.n+3)*6) (jf 6 l.cs yN)
 ah:bR w wr [54]
 mD:Below mb w wr
structure qD(wo wx:World)(mb:Nat)(l:Ln)(i:Nat):Prop where
 row:wx.rowIs l.g 54 ((l.n+3)*6) (vQ 6 VO (jf 6 l.cs yN) 0 (min i l.n*6))
 nZ:∀q,q<wo.heap.size->q≠l.g->wx.heap[q]? =wo.heap[q]?
 mD:Below mb wo wx
theorem om.start{d:Ln->Prop}{w:World}{c:TypeId}{b:Nat}{v:Value}{a:List Ln}(h:bC d w 54 c 6 yN b v a):om w w b a 0:=
 ⟨λj l _ e=>(h.each l (mem_of_getElem? e)).row,bR.refl _ _,refl _ _⟩
theorem om.more{w wr x:World}{a:Nat}{d:List Ln}{k:Nat}(h:om w wr a d k)(hb:Below wr.heap.size wr x)(e:a<=wr.heap.size):om w x a d k:=
 ⟨λj l b c=>(h.todo j l b c).of_block (hb.block _ (h.todo j l b c).lt),h.ah.trans (λq _ _ _ f _=>hb.block q (aB f)),h.mD.trans (hb.mono e)⟩
theorem qD.start{w wo:World}{b:Nat}{a:List Ln}{k:Nat}{l:Ln}(h:om w wo b a k)(c:a[k]? =some l):qD wo wo b l 0:=
 ⟨(h.todo k l (le_refl _) c).congr λj _=>by rw[Nat.zero_min,Nat.zero_mul,oU],λ_ _ _=>rfl,refl _ _⟩
theorem qD.more{wo a x:World}{b:Nat}{l:Ln}{i:Nat}(h:qD wo a b l i)(hb:Below a.heap.size a x)(c:b<=a.heap.size):qD wo x b l i:=
 ⟨h.row.of_block (hb.block _ h.row.lt),λq e d=>(hb.block q (by have:=h.mD.size;omega)).trans (h.nZ q e d),h.mD.trans (hb.mono c)⟩
theorem qD.far{wo b:World}{a:Nat}{l:Ln}{i:Nat}(h:qD wo b a l i)(c:l.n<=i):qD wo b a l (i+1):=
 ⟨by rw[Nat.min_eq_right (by omega)];have:=h.row;rwa[Nat.min_eq_right c]at this,h.nZ,h.mD⟩
theorem qD.put{wo e:World}{c:Nat}{l:Ln}{i:Nat}(h:qD wo e c l i)(k:i<l.n)(b:c<=l.g):qD wo ((((((e.setCell ⟨l.g,i*6,none⟩ (.string ⟨#[111,118,101,114]⟩)).setCell ⟨l.g,i*6+1,none⟩ (.slice none 0 0)).setCell ⟨l.g,i*6+2,none⟩ (.slice none 0 0)).setCell ⟨l.g,i*6+3,none⟩ (.int .i64 0)).setCell ⟨l.g,i*6+4,none⟩ (.string ⟨#[]⟩)).setCell ⟨l.g,i*6+5,none⟩ (.slice none 0 0)) c l (i+1):=by
 have d:=h.row;rw[Nat.min_eq_left (by omega)]at d;refine⟨?_,λq f a=> ?_, ?_⟩
 ·rw[Nat.min_eq_left (by omega)];have:=Po (K0:=0) (ov:=VO) (by simpa using d) (zero_le i) (a0:=.string ⟨#[111,118,101,114]⟩) (a1:=.slice none 0 0) (a2:=.slice none 0 0) (a3:=.int .i64 0) (a4:=.string ⟨#[]⟩) (a5:=.slice none 0 0) rfl rfl rfl rfl rfl rfl;simpa using this
 ·rw[heap_setCell _ _ _ _ a,heap_setCell _ _ _ _ a,heap_setCell _ _ _ _ a,heap_setCell _ _ _ _ a,heap_setCell _ _ _ _ a,heap_setCell _ _ _ _ a];exact h.nZ q f a
 ·exact(((((h.mD.setCell (p:=⟨l.g,_,none⟩) b _).setCell (p:=⟨l.g,_,none⟩) b _).setCell (p:=⟨l.g,_,none⟩) b _).setCell (p:=⟨l.g,_,none⟩) b _).setCell (p:=⟨l.g,_,none⟩) b _).setCell (p:=⟨l.g,_,none⟩) b _
theorem qD.JV{wo b:World}{n:Nat}{l:Ln}{i:Nat}(h:qD wo b n l i){N:Nat}{f:Nat->Value}(m:wo.rowIs l.g 54 N f):bR wo b [54]:=λq d o p a j=>h.nZ q (aB a) λe=>by
 subst e;obtain⟨c,k,_⟩:=m;rw[k]at a;cases a;simp at j
theorem om.next{w wo q:World}{m:Nat}{c:List Ln}{k i:Nat}{l:Ln}(h:om w wo m c k)(o:c[k]? =some l)(f:qD wo q m l i)(d:c.Pairwise λa b=>a.g<b.g):om w q m c (k+1):=by
 refine⟨λj x t p=> ?_,h.ah.trans (f.JV (h.todo k l (le_refl _) o)),h.mD.trans f.mD⟩;have n:=h.todo j x (by omega) p;refine n.of_block (f.nZ _ n.lt λe=> ?_);obtain⟨r,rfl⟩:=List.getElem?_eq_some_iff.mp p;obtain⟨s,rfl⟩:=List.getElem?_eq_some_iff.mp o;have:=List.pairwise_iff_getElem.mp d k j s r (by omega);omega
def Ud(f:Func):Code:=((f.body.bind (jP 4)).getD .skip)
theorem CP(w0 w:World)(G:Nat)(lv:Array Value)(a:Option Addr)(ac:Nat)(R X K B:List Ln)(hO:w.heap[G]? =some (.cells lv 118 (0,0)))(O2:lv[5]? =some (.slice a B.length ac))(hL:bC (SI w0 K R X) w 54 190 6 yN G (.slice a B.length ac) B)
  (hR:∀l∈R,rM w 57 1 SC l) (N4:∀l∈R,l.n<=1048576) (hX:∀l∈X,rM w 9 1 Qp l) (N7:∀l∈X,l.n<=1048576) (hK:∀l∈K,rM w 50 3 Qo l) (N3:∀l∈K,l.n<=1048576)
  (N2:Below w0.heap.size w0 w) (c8:w0.heap.size<=G) (T7:B.length<=2199023255552) (u1 u2 u4 u5 u6 u7 u9 P0 P1 P2 P3 m2 n3 o4 p7 r4 s5 v3 w5 w7 w8 w9 x0 x1 x2 x3 x4 x5 x6 x7 x8 x9 y0 y1 y2 y3 y4 y5 y7 y8 y9 z2 z3 z4 z5 z6 z7 z8 z9 A0 A1 A2 A3 A4 A5 A6 A7 A8 A9 B0 B1 B2 B3 B4 B5 B6 B7 B8 B9 C0 C1 C2 C3 C4 C5 C6 C7 P4 P5 P6 P7 P8 P9 Q0 Q1 Q2 Q3 Q4 Q5 Q6 Q7 Q8 Q9 R0 R1 R2 R3 h2 h3 h4 h5 h6 h7 h8 h9 i0 i1 i2 i3 i4 i5 i6 i7 i8 i9 j0 j1 j2 j3 j4 j5 j6 j7 j8 j9 k6 k7 k8 k9 l0 l4 l5 l7 l8 l9 m0 m1 m3 m4 m5 m6 m7 m8 m9 n0 n1 n2 n4 n5 n6 n7 n8 n9 o0 o1 o2 o3 o5 o6 o7 o8 o9 p2 p3 p4 p5 p6 p8 p9 q6 q7 q8 q9 r0 r1 r2 r3 r5 r6 r7 r8 r9 s0 s1 s2 s3 s4 s6 s7 s8 s9 u0 u3 u8 v0 v1 v2 v4 v5 v6 v7 w1 w2 w3 w4 b2:Value) (K0:Act->World->Prop) (P:Ending->World->Prop)
  (e6:∀(v8 v9 R4 R5 R6 R7 R8 R9 S0 S1 S2 v85 S3 S4 S5 S6 S7 S8 S9 T0 T1 T2 T3 T4 T5 T6 C8 C9 D0 D1 D2 D3 D4 D5 D6 D7 D8 D9 E0 E1 E2 E3 E4 E5 E6 E7 E8 E9 F0 F1 F2 F3 F4 v127 F5 F6 F7 F8 F9 G0 G1 G2 G3 G4 G5 G6 G7 G8 G9 v143 H0 v145 v146 H1 H2 H3 H4 H5 H6 H7 H8 H9 I1 I2 I3 I4 I5 I6 I7 I8 I9 J1 J2 v167 v168 J3 J4 v171 J5 v173 J6 v175 J7 J8 J9 K1 K2 K3 K4 K5 K6 K7 K8 K9 L0 L1 L2 L3 L4 L5 L6 L7 L8 L9 M0 M1 M2 M3 M4 M5 M6 M7 M8 M9:Value) (wx:World),om w wx G B B.length->K0 ⟨#[.pointer (some ⟨G,0,none⟩),u1,u2,.bool true,u4,u5,u6,u7,v8,v9,R4,R5,R6,R7,m2,n3,o4,p7,r4,s5,v3,w5,w7,w8,w9,x0,x1,x2,x3,x4,x5,x6,x7,x8,x9,y0,y1,y2,y3,y4,y5,y7,y8,y9,z2,z3,z4,z5,z6,z7,z8,z9,A0,A1,A2,A3,A4,A5,A6,A7,A8,A9,B0,B1,B2,B3,B4,B5,B6,B7,B8,B9,C0,C1,C2,C3,C4,C5,C6,C7,R8,R9,S0,S1,S2,v85,S3,S4,S5,S6,S7,S8,S9,T0,T1,T2,T3,T4,T5,T6,C8,C9,D0,D1,D2,D3,D4,D5,D6,D7,D8,D9,E0,E1,E2,E3,E4,E5,E6,E7,E8,E9,F0,F1,F2,F3,F4,v127,F5,F6,F7,F8,F9,G0,G1,G2,G3,G4,G5,G6,G7,G8,G9,v143,H0,v145,v146,H1,H2,H3,H4,H5,H6,H7,H8,H9,I1,I2,I3,I4,I5,I6,I7,I8,I9,J1,J2,v167,v168,J3,J4,v171,J5,v173,J6,v175,J7,J8,J9,K1,K2,K3,K4,K5,K6,K7,K8,K9,L0,L1,L2,L3,L4,L5,L6,L7,L8,L9,M0,M1,M2,M3,M4,M5,M6,M7,M8,M9,b2],[]⟩ wx):
  Code.wp prog (Ud Tryz.f83) (Exit.then K0 (bodyPost prog Tryz.f83 P)) ⟨#[.pointer (some ⟨G,0,none⟩),u1,u2,.bool true,u4,u5,u6,u7,.int .i64 0,u9,P0,P1,P2,P3,m2,n3,o4,p7,r4,s5,v3,w5,w7,w8,w9,x0,x1,x2,x3,x4,x5,x6,x7,x8,x9,y0,y1,y2,y3,y4,y5,y7,y8,y9,z2,z3,z4,z5,z6,z7,z8,z9,A0,A1,A2,A3,A4,A5,A6,A7,A8,A9,B0,B1,B2,B3,B4,B5,B6,B7,B8,B9,C0,C1,C2,C3,C4,C5,C6,C7,P4,P5,P6,P7,P8,P9,Q0,Q1,Q2,Q3,Q4,Q5,Q6,Q7,Q8,Q9,R0,R1,R2,R3,h2,h3,h4,h5,h6,h7,h8,h9,i0,i1,i2,i3,i4,i5,i6,i7,i8,i9,j0,j1,j2,j3,j4,j5,j6,j7,j8,j9,k6,k7,k8,k9,l0,l4,l5,l7,l8,l9,m0,m1,m3,m4,m5,m6,m7,m8,m9,n0,n1,n2,n4,n5,n6,n7,n8,n9,o0,o1,o2,o3,o5,o6,o7,o8,o9,p2,p3,p4,p5,p6,p8,p9,q6,q7,q8,q9,r0,r1,r2,r3,r5,r6,r7,r8,r9,s0,s1,s2,s3,s4,s6,s7,s8,s9,u0,u3,u8,v0,v1,v2,v4,v5,v6,v7,w1,w2,w3,w4,b2],[]⟩ w:=by
 conv=>arg 2;whnf
 have N0:Hid _:=e6;have I0:om w w G B 0:=om.start hL;have HF:Hid _:=hL;have N1:Hid _:=(gZ hL).2;have HO:Hid _:=hO;have HR:Hid _:=hR;have HX:Hid _:=hX;have HK:Hid _:=hK;have U1:=aB hO;have O4:∀W,(binOp .eql 51 (.slice none 0 0) (.slice none 0 0)).run prog W=.ok (.bool true) W:=λW=>ji W _ _ _ _ _ Tryz.underlying51;have O5:∀W,(binOp .eql 24 (.slice none 0 0) (.slice none 0 0)).run prog W=.ok (.bool true) W:=λW=>ji W _ _ _ _ _ Tryz.underlying24;have O6:∀W,(binOp .eql 52 (.slice none 0 0) (.slice none 0 0)).run prog W=.ok (.bool true) W:=λW=>ji W _ _ _ _ _ Tryz.underlying52;clear e6 hL hO hR hX hK
 go_wp2_with fail
 go_loopg [3,8] B.length (λgk b8 kv wr=>∃k:Nat,gk=B.length- k/\k<=B.length/\b8=.bool true/\kv=.int .i64 (k:Int)/\om w wr G B k)
 case atStart=>exact⟨0,rfl,zero_le _,rfl,rfl,I0⟩
 case round=>
  obtain⟨k,b3,hk,rfl,rfl,hI⟩:=hrel;subst b3;clear I0;generalize O9:wr=wo at*;clear O9;have a2:=(hI.ah _ _ _ _ HO.out (by decide)).trans HO.out;have U2:=aB a2;have y6:wo.cell? ⟨G,5,none⟩=some (.slice a B.length ac):=(ag a2).trans O2;by_cases O1:k<B.length
  ·obtain⟨Z,rfl,T9,⟨c7,O⟩,c⟩:∃Z,a=some ⟨Z,0,none⟩/\Z<w.heap.size/\(∃c7,w.heap[Z]? =some (.cells c7 190 (0,0)))/\∀(k:Nat) (l:Ln),B[k]? =some l->w.cell? ⟨Z,k*2,none⟩=some (.slice (some ⟨l.g,0,none⟩) (l.n+3) (l.n+3))/\w.cell? ⟨Z,k*2+1,none⟩=some (.slice l.wo l.n l.wc):=by
    rcases N1.out with h|h
    ·omega
    ·exact h
   obtain⟨⟨g,n,t,wk,cs⟩,F⟩:∃l,B[k]? =some l:=⟨_,getElem?_eq_getElem O1⟩;have a3:=hI.ah _ _ _ _ O (by decide);have p0:=(World.cell?_of_block (w:=w) (a:=⟨Z,k*2,none⟩) a3).trans (c k _ F).1;have p1:=(World.cell?_of_block (w:=w) (a:=⟨Z,k*2+1,none⟩) a3).trans (c k _ F).2;have g4:Z<wo.heap.size:=aB (a3.trans O);have a5:=HF.out.each _ (mem_of_getElem? F);have O3:G<=g:=by have:=a5.lo;dsimp only at this;omega
   have z:=hI.more ((refl _ wo).alloc (le_refl _) (.cells #[.slice (some ⟨g,0,none⟩) (n+3) (n+3),.slice t n wk] 190)) (by omega);have J0:qD (wo.alloc (.cells #[.slice (some ⟨g,0,none⟩) (n+3) (n+3),.slice t n wk] 190)) (wo.alloc (.cells #[.slice (some ⟨g,0,none⟩) (n+3) (n+3),.slice t n wk] 190)) G ⟨g,n,t,wk,cs⟩ 0:=qD.start z F;have N:=heap_alloc_new wo (.cells #[.slice (some ⟨g,0,none⟩) (n+3) (n+3),.slice t n wk] 190);clear c O a3 hI
   go_wp2_with fail
   generalize N6:wo.alloc (.cells #[.slice (some ⟨g,0,none⟩) (n+3) (n+3),.slice t n wk] 190)=W1 at*;generalize U4:wo.heap.size=xb at*;have N5:Below w0.heap.size w0 W1:=N2.trans (z.mD.mono c8);have g8:=aB N;clear p0 p1 g4 y6 a2 N6;go_loopg [3,10] (n+3) (λgk b8 iv wx=>∃i:Nat,gk=(n+3)- i/\i<=n+3/\b8=.bool true/\iv=.int .i64 (i:Int)/\qD W1 wx G ⟨g,n,t,wk,cs⟩ i)
   case atStart=>exact⟨0,rfl,zero_le _,rfl,rfl,J0⟩
   case round=>
    obtain⟨i,b3,hi,rfl,rfl,L⟩:=hrel;subst b3;clear J0;have g6:xb≠g:=λe=>by
     obtain⟨c2,e7,_⟩:=z.todo k _ (le_refl _) F;rw[e]at N;rw[N]at e7;cases e7
    have r:=(L.nZ xb g8 g6).trans N;have O7:=a5.small;have O0:=a5.len;dsimp only at O7 O0;have z0:wr.cell? ⟨xb,0,none⟩=some (.slice (some ⟨g,0,none⟩) (n+3) (n+3)):=(ag r).trans rfl;have z1:wr.cell? ⟨xb,1,none⟩=some (.slice t n wk):=(ag r).trans rfl;have g9:=aB r;have g5:g<wr.heap.size:=L.row.lt;by_cases U0:i<n+3
    ·by_cases N9:i<n
     ·obtain⟨dL,⟨g7,b4⟩,g3,A⟩:=a5.want;dsimp only at g7 b4 g3 A;obtain⟨b,x,rfl,hb,hc⟩:∃b x,t=some ⟨b,x,none⟩/\b<w0.heap.size/\∀(i:Nat) (s:lm),dL[i]? =some s->w0.cell? ⟨b,x+i*6,none⟩=some (.string s.name)/\w0.cell? ⟨b,x+i*6+1,none⟩=some (.slice s.k.ro s.k.rn s.k.rc)/\w0.cell? ⟨b,x+i*6+2,none⟩=some (.slice s.ro s.rn s.rc)/\w0.cell? ⟨b,x+i*6+3,none⟩=some (.int .i64 s.count)/\
        w0.cell? ⟨b,x+i*6+4,none⟩=some (.string s.aG)/\w0.cell? ⟨b,x+i*6+5,none⟩=some (.slice s.u.ro s.u.rn s.u.rc):=by
       rcases b4 with h|h
       ·omega
       ·exact h
      obtain⟨⟨f,⟨S,U5,Q,h0⟩,U,U6,T,b9,d,m,⟨Y,U7,V,h1⟩⟩,b5⟩:∃s:lm,dL[i]? =some s:=⟨_,getElem?_eq_getElem (by omega)⟩;obtain⟨kv,rv,xv,e8,a4,C,a7⟩:=A i _ b5;obtain⟨q0,q1,q2,q3,q4,q5⟩:=hc i _ b5;dsimp only at a4 C a7 q0 q1 q2 q3 q4 q5;obtain⟨ko,kn,kc,rfl⟩:=sZ a4;obtain⟨yo,H,yc,rfl⟩:=Gu C;obtain⟨zo,I,zc,rfl⟩:=sZ a7;have c9:Below w0.heap.size w0 wr:=N5.trans (L.mD.mono c8);have a1:bR w wr [54]:=z.ah.trans (L.JV (z.todo k _ (le_refl _) F));obtain⟨a9,g0⟩:=Da a4 (λl F=>(HK.out l F).eU a1 (by decide)) N3;obtain⟨b0,g1⟩:=PH C (λl F=>(HR.out l F).eU a1 (by decide)) N4;obtain⟨b1,g2⟩:=Da a7 (λl F=>(HX.out l F).eU a1 (by decide)) N7;dsimp only at g0 g1 g2;subst g0 g1 g2;have v:min i n=i:=Nat.min_eq_left (by omega);have c:∀j,j<6->∀u,(qU ⟨f,⟨S,kn,Q,h0⟩,U,H,T,b9,d,m,⟨Y,I,V,h1⟩⟩ (.slice ko kn kc) (.slice yo H yc) (.slice zo I zc))[j]? =some u->wr.cell? ⟨g,i*6+j,none⟩=some u:=λj hj u hu=>
       (L.row.cell (i:=i*6+j) (by dsimp only;omega)).trans (by rw[iw (by dsimp only;rw[v];omega),iM ((e8 j hj).trans hu)])
      have c0:=c 0 (by omega) _ rfl;have c1:=c 1 (by omega) _ rfl;have c2:=c 2 (by omega) _ rfl;have c3:=c 3 (by omega) _ rfl;have c4:=c 4 (by omega) _ rfl;have c5:=c 5 (by omega) _ rfl;rw[Nat.add_zero]at c0;have cl:∀o,wr.cell? ⟨b,o,none⟩=w0.cell? ⟨b,o,none⟩:=λo=>c9.cell (p:=⟨b,o,none⟩) hb;have d0:=(cl _).trans q0;have d1:=(cl _).trans q1;have d2:=(cl _).trans q2;have d3:=(cl _).trans q3;have d4:=(cl _).trans q4;have d5:=(cl _).trans q5;have N8:b<wr.heap.size:=by have:=c9.size;omega
      obtain⟨E,M⟩:∃E,E=(wr.alloc (.cells #[.string f,.slice ko kn kc,.slice yo H yc,.int .i64 d,.string m,.slice zo I zc] 54)).alloc (.cells #[.string f,.slice S kn Q,.slice U H T,.int .i64 d,.string m,.slice Y I V] 54):=⟨_,rfl⟩;have a8:Hid ((wr.alloc (.cells #[.string f,.slice ko kn kc,.slice yo H yc,.int .i64 d,.string m,.slice zo I zc] 54)).alloc (.cells #[.string f,.slice S kn Q,.slice U H T,.int .i64 d,.string m,.slice Y I V] 54)=E):=M.symm;have a6:(wr.alloc (.cells #[.string f,.slice ko kn kc,.slice yo H yc,.int .i64 d,.string m,.slice zo I zc] 54)).heap.size=wr.heap.size+1:=by simp[World.size_alloc]
      have J:Below wr.heap.size wr E:=by rw[M];exact((refl _ wr).alloc (le_refl _) _).alloc (by rw[a6];omega) _
      have t0:E.heap[wr.heap.size]? =some (.cells #[.string f,.slice ko kn kc,.slice yo H yc,.int .i64 d,.string m,.slice zo I zc] 54 (0,0)):=by rw[M,Below.heap_alloc _ _ _ (by rw[a6];omega)];exact heap_alloc_new wr _
      have t1:E.heap[wr.heap.size+1]? =some (.cells #[.string f,.slice S kn Q,.slice U H T,.int .i64 d,.string m,.slice Y I V] 54 (0,0)):=by rw[M,<-a6];exact heap_alloc_new _ _
      have c6:=Jl E f m d ko kn kc yo H yc zo I zc (a9.ah J) (b0.ah J) (b1.ah J);clear hc b5 A g3 b4 g7 a4 C a7 a9 b0 b1 a1 q0 q1 q2 q3 q4 q5 cl c e8 M v a6;go_upto_region 25 with fail
      rw[a8.out];have e0:E.cell? ⟨wr.heap.size,0,none⟩=some (.string f):=(ag t0).trans rfl;have e1:E.cell? ⟨wr.heap.size,1,none⟩=some (.slice ko kn kc):=(ag t0).trans rfl;have e2:E.cell? ⟨wr.heap.size,2,none⟩=some (.slice yo H yc):=(ag t0).trans rfl;have e3:E.cell? ⟨wr.heap.size,3,none⟩=some (.int .i64 d):=(ag t0).trans rfl;have e4:E.cell? ⟨wr.heap.size,4,none⟩=some (.string m):=(ag t0).trans rfl;have e5:E.cell? ⟨wr.heap.size,5,none⟩=some (.slice zo I zc):=(ag t0).trans rfl;have b6:=aB t0;have b7:=aB t1;have a0:=L.more J (by omega);have U3:G<=wr.heap.size:=by omega
      clear a8 c0 c1 c2 c3 c4 c5 d0 d1 d2 d3 d4 d5 z0 z1 r g9 g5 N8 L J;generalize O8:wr.heap.size=tb at*;clear O8;go_upto_region 26 with(go_at_call 141;refine c6.mono ?_;rintro e D ⟨rfl,hb6⟩)
      have y:=(hb6.block tb b6).trans t0;have t16:=(hb6.block (tb+1) b7).trans t1;have q:=a0.more hb6 (by omega);clear e0 e1 e2 e3 e4 e5 c6 t0 t1 b6 b7 a0 hb6;have e0:D.cell? ⟨tb,0,none⟩=some (.string f):=(ag y).trans rfl;have e1:D.cell? ⟨tb,1,none⟩=some (.slice ko kn kc):=(ag y).trans rfl;have e2:D.cell? ⟨tb,2,none⟩=some (.slice yo H yc):=(ag y).trans rfl;have e3:D.cell? ⟨tb,3,none⟩=some (.int .i64 d):=(ag y).trans rfl;have e4:D.cell? ⟨tb,4,none⟩=some (.string m):=(ag y).trans rfl;have e5:D.cell? ⟨tb,5,none⟩=some (.slice zo I zc):=(ag y).trans rfl;have k0:D.cell? ⟨tb+1,0,none⟩=some (.string f):=(ag t16).trans rfl;have k1:D.cell? ⟨tb+1,1,none⟩=some (.slice S kn Q):=(ag t16).trans rfl;have k2:D.cell? ⟨tb+1,2,none⟩=some (.slice U H T):=(ag t16).trans rfl;have k3:D.cell? ⟨tb+1,3,none⟩=some (.int .i64 d):=(ag t16).trans rfl;have k4:D.cell? ⟨tb+1,4,none⟩=some (.string m):=(ag t16).trans rfl;have k5:D.cell? ⟨tb+1,5,none⟩=some (.slice Y I V):=(ag t16).trans rfl;have b6:=aB y;have b7:=aB t16;have r:=(q.nZ xb g8 g6).trans N;have z0:D.cell? ⟨xb,0,none⟩=some (.slice (some ⟨g,0,none⟩) (n+3) (n+3)):=(ag r).trans rfl;have g9:=aB r;have g5:g<D.heap.size:=q.row.lt;have c0:=q.row.cell (i:=i*6) (by dsimp only;omega);have c1:=q.row.cell (i:=i*6+1) (by dsimp only;omega);have c2:=q.row.cell (i:=i*6+2) (by dsimp only;omega);have c3:=q.row.cell (i:=i*6+3) (by dsimp only;omega);have c4:=q.row.cell (i:=i*6+4) (by dsimp only;omega);have c5:=q.row.cell (i:=i*6+5) (by dsimp only;omega);have f0:=q.row.frozen (i*6);have f1:=q.row.frozen (i*6+1);have f2:=q.row.frozen (i*6+2);have f3:=q.row.frozen (i*6+3);have f4:=q.row.frozen (i*6+4);have f5:=q.row.frozen (i*6+5);dsimp only at c0 c1 c2 c3 c4 c5 f0 f1 f2 f3 f4 f5;clear y t16 r
      go_wp2_with fail
      go_roundg (n+3- (i+1))
      all_goals first
       |omega
       |exact⟨i+1,rfl,by omega,rfl,by go_num,q.put N9 O3⟩
     ·have T8:decide ((n:Int)<=(i:Int))=true:=by simp;omega
      have e9:n<=i:=by omega
      have v:min i n=n:=Nat.min_eq_right e9;have c:∀j,j<6->wr.cell? ⟨g,i*6+j,none⟩=some (yN j):=λj hj=>
       (L.row.cell (i:=i*6+j) (by dsimp only;omega)).trans (by rw[iw (by dsimp only;rw[v];omega),gW (by dsimp only;omega),show(i*6+j) % 6=j by omega])
      have c0:wr.cell? ⟨g,i*6,none⟩=some (.string ⟨#[98,101,121,111,110,100]⟩):=c 0 (by omega);have c1:wr.cell? ⟨g,i*6+1,none⟩=some (.slice none 0 0):=c 1 (by omega);have c2:wr.cell? ⟨g,i*6+2,none⟩=some (.slice none 0 0):=c 2 (by omega);have c3:wr.cell? ⟨g,i*6+3,none⟩=some (.int .i64 0):=c 3 (by omega);have c4:wr.cell? ⟨g,i*6+4,none⟩=some (.string ⟨#[]⟩):=c 4 (by omega);have c5:wr.cell? ⟨g,i*6+5,none⟩=some (.slice none 0 0):=c 5 (by omega);have a0:=(L.more ((refl _ wr).alloc (le_refl _) (.cells #[.string ⟨#[98,101,121,111,110,100]⟩,.slice none 0 0,.slice none 0 0,.int .i64 0,.string ⟨#[]⟩,.slice none 0 0] 54)) (by omega)).far e9;clear c v r
      go_wp2_with fail
      go_roundg (n+3- (i+1))
      all_goals first
       |omega
       |exact⟨i+1,rfl,by omega,rfl,by go_num,a0⟩
    ·have hN:=z.next F L HF.out.apart;clear L z
     go_wp2_with fail
     go_roundg (B.length- (k+1))
     all_goals first
      |omega
      |exact⟨k+1,rfl,by omega,rfl,by go_num,hN⟩
  ·obtain rfl:k=B.length:=by omega
   clear a2
   go_wp2_with fail
   exact N0.out _ _ _ _ _ _ _ _ _ _ _ _ _ _ _ _ _ _ _ _ _ _ _ _ _ _ _ _ _ _ _ _ _ _ _ _ _ _ _ _ _ _ _ _ _ _ _ _ _ _ _ _ _ _ _ _ _ _ _ _ _ _ _ _ _ _ _ _ _ _ _ _ _ _ _ _ _ _ _ _ _ _ _ _ _ _ _ _ _ _ _ _ _ _ _ _ _ _ _ _ _ _ _ _ _ _ _ _ _ _ _ _ _ _ _ _ _ _ _ _ _ _ _ _ _ _ _ _ _ _ _ _ _ _ _ hI
theorem LV(w0 w:World)(q:Nat)(v0 v2 v4 v6:Value)(a1:Option Addr)(a2 O:Nat)(a5:Option Addr)(a3 P:Nat)(C R X K B:List Ln)(hO:w.heap[q]? =some (.cells #[v0,.slice a1 a2 O,v2,.slice none 0 0,v4,.slice a5 a3 P,v6,.slice none 0 0,.slice none 0 0] 118 (0,0)))
  (hR:bC (Qm w0 C) w 57 292 1 uw q (.slice a1 a2 O) R) (hB:bC (SI w0 K R X) w 54 190 6 yN q (.slice a5 a3 P) B)
  (hC:∀l∈C,rM w 56 3 Rw l) (e0:∀l∈C,l.n<=1048576) (hX:∀l∈X,rM w 9 1 Qp l) (e5:∀l∈X,l.n<=1048576) (hK:∀l∈K,rM w 50 3 Qo l) (e1:∀l∈K,l.n<=1048576)
  (h0:Below w0.heap.size w0 w) (G:w0.heap.size<=q) (s2:R.length<=2199023255552) (e9:B.length<=2199023255552):
  Calls prog 83 #[.pointer (some ⟨q,0,none⟩)] w λe w'=>e=.returned (.bool true)/\bR w w' [57,54]/\Below q w w':=by
 have s4:=aB hO;obtain⟨rfl,A⟩:=gZ hR;obtain⟨rfl,b7⟩:=gZ hB;have HO:Hid _:=hO;have N:Hid _:=hB;have HC:Hid _:=hC;have HX:Hid _:=hX;have HK:Hid _:=hK;have HF:Hid _:=hR;have g9:∀W,(binOp .eql 57 (.slice none 0 0) (.slice none 0 0)).run prog W=.ok (.bool true) W:=λW=>ji W _ _ _ _ _ Tryz.underlying57;clear hO hB hC hX hK b7;go_enter Tryz.func83,Tryz.ntmps83;go_upto_block 0 with fail
 go_cut [3] (λs3 wx=>s3=.bool true/\fB w wx q 57 1 uw SC R R.length)
 case first=>
  have I0:fB w w q 57 1 uw SC R 0:=fB.start hR;have c5:Hid _:=A;generalize e7:a1=a at*;generalize e8:O=ac at*;clear e7 e8 hR A N HX HK
  go_wp2_with fail
  go_loopg [3,4] R.length (λgk Y kv wr=>∃k:Nat,gk=R.length- k/\k<=R.length/\Y=.bool true/\kv=.int .i64 (k:Int)/\fB w wr q 57 1 uw SC R k)
  case atStart=>exact⟨0,rfl,zero_le _,rfl,rfl,I0⟩
  case round=>
   obtain⟨k,S,hk,rfl,rfl,hI⟩:=hrel;subst S;clear I0;generalize g4:wr=wo at*;clear g4;have H:=(hI.ah _ _ _ _ HO.out (by decide)).trans HO.out;have s5:=aB H;have y6:wo.cell? ⟨q,1,none⟩=some (.slice a R.length ac):=(ag H).trans rfl;by_cases g1:k<R.length
   ·obtain⟨F,rfl,r9,⟨a4,z⟩,j⟩:∃F,a=some ⟨F,0,none⟩/\F<w.heap.size/\(∃a4,w.heap[F]? =some (.cells a4 292 (0,0)))/\∀(k:Nat) (l:Ln),R[k]? =some l->w.cell? ⟨F,k*2,none⟩=some (.slice (some ⟨l.g,0,none⟩) (l.n+3) (l.n+3))/\w.cell? ⟨F,k*2+1,none⟩=some (.slice l.wo l.n l.wc):=by
     rcases c5.out with h|h
     ·omega
     ·exact h
    obtain⟨⟨g,n,f,M,cs⟩,m⟩:∃l,R[k]? =some l:=⟨_,getElem?_eq_getElem g1⟩;have J:=hI.ah _ _ _ _ z (by decide);have p0:=(World.cell?_of_block (w:=w) (a:=⟨F,k*2,none⟩) J).trans (j k _ m).1;have p1:=(World.cell?_of_block (w:=w) (a:=⟨F,k*2+1,none⟩) J).trans (j k _ m).2;have b3:F<wo.heap.size:=aB (J.trans z);have L:=HF.out.each _ (mem_of_getElem? m);have b4:q<=g:=by have:=L.lo;dsimp only at this;omega
    have d:=hI.more ((refl _ wo).alloc (le_refl _) (.cells #[.slice (some ⟨g,0,none⟩) (n+3) (n+3),.slice f n M] 292)) (by omega);have J0:jK (wo.alloc (.cells #[.slice (some ⟨g,0,none⟩) (n+3) (n+3),.slice f n M] 292)) (wo.alloc (.cells #[.slice (some ⟨g,0,none⟩) (n+3) (n+3),.slice f n M] 292)) q 57 1 uw SC ⟨g,n,f,M,cs⟩ 0:=jK.start d m;have y:=heap_alloc_new wo (.cells #[.slice (some ⟨g,0,none⟩) (n+3) (n+3),.slice f n M] 292);clear j z J hI
    go_wp2_with fail
    generalize e4:wo.alloc (.cells #[.slice (some ⟨g,0,none⟩) (n+3) (n+3),.slice f n M] 292)=W1 at*;generalize s6:wo.heap.size=xb at*;have e3:Below w0.heap.size w0 W1:=h0.trans (d.mD.mono G);have b9:=aB y;clear p0 p1 b3 y6 H e4;go_loopg [3,6] (n+3) (λgk Y iv wx=>∃i:Nat,gk=(n+3)- i/\i<=n+3/\Y=.bool true/\iv=.int .i64 (i:Int)/\jK W1 wx q 57 1 uw SC ⟨g,n,f,M,cs⟩ i)
    case atStart=>exact⟨0,rfl,zero_le _,rfl,rfl,J0⟩
    case round=>
     obtain⟨i,S,hi,rfl,rfl,t⟩:=hrel;subst S;clear J0;have b5:xb≠g:=λe=>by
      obtain⟨c2,b1,_⟩:=d.todo k _ (le_refl _) m;rw[e]at y;rw[y]at b1;cases b1
     have c:=(t.nZ xb b9 b5).trans y;have g2:=L.small;have g0:=L.len;dsimp only at g2 g0;have z0:wr.cell? ⟨xb,0,none⟩=some (.slice (some ⟨g,0,none⟩) (n+3) (n+3)):=(ag c).trans rfl;have z1:wr.cell? ⟨xb,1,none⟩=some (.slice f n M):=(ag c).trans rfl;have E:=aB c;have I:g<wr.heap.size:=t.row.lt;by_cases s1:i<n+3
     ·by_cases s0:i<n
      ·obtain⟨rows,⟨b8,U⟩,b2,o⟩:=L.want;dsimp only at b8 U b2 o;obtain⟨b,s,rfl,hb,hc⟩:∃b s,f=some ⟨b,s,none⟩/\b<w0.heap.size/\∀(i:Nat) (r:eX),rows[i]? =some r->w0.cell? ⟨b,s+i,none⟩=some (.slice r.ro r.rn r.rc):=by
        rcases U with h|h
        ·omega
        ·exact h
       obtain⟨⟨ro,rn,rc,s7⟩,T⟩:∃r:eX,rows[i]? =some r:=⟨_,getElem?_eq_getElem (by omega)⟩;obtain⟨v,V⟩:∃v,cs[i]? =some v:=⟨_,getElem?_eq_getElem (by omega)⟩;have D:=o i _ v T V;obtain⟨xo,xn,xc,rfl⟩:=sZ D;have a6:Below w0.heap.size w0 wr:=e3.trans (t.mD.mono G);have a9:bR w wr [57]:=d.ah.trans (t.JV (d.todo k _ (le_refl _) m));obtain⟨b6,c1⟩:=Da D (λl m=>(HC.out l m).eU a9 (by decide)) e0;dsimp only at c1;subst c1;have c0:wr.cell? ⟨g,i,none⟩=some (.slice xo xn xc):=(t.row.cell (i:=i) (by dsimp only;omega)).trans (by rw[iw (by omega),iM V]);have d0:wr.cell? ⟨b,s+i,none⟩=some (.slice ro xn rc):=(a6.cell (p:=⟨b,s+i,none⟩) hb).trans (hc i _ T);have Q:b<wr.heap.size:=by have:=a6.size;omega
       have a0:=Ao wr xo xn xc b6;clear hc T V o b2 U b8 D b6 a9;go_upto_region 11 with(go_at_call 140;refine a0.mono ?_;rintro e w6 ⟨rfl,hb6⟩)
       have g7:=(hb6.cell (p:=⟨xb,0,none⟩) E).trans z0;have g8:=(hb6.cell (p:=⟨xb,1,none⟩) E).trans z1;have c6:=(hb6.cell (p:=⟨g,i,none⟩) I).trans c0;have c7:=(hb6.cell (p:=⟨b,s+i,none⟩) Q).trans d0;have g6:xb<w6.heap.size:=lt_of_lt_of_le E hb6.size;have e6:g<w6.heap.size:=lt_of_lt_of_le I hb6.size;have b0:b<w6.heap.size:=lt_of_lt_of_le Q hb6.size;have a8:=t.more hb6 (by omega);clear z0 z1 c0 d0 E I Q a0 t c hb6;go_cut [3] (λs3 wx=>s3=.bool true/\Below w6.heap.size w6 wx)
       case first=>
        go_region;all_goals(go_wp2_with fail;go_meet)
        all_goals exact⟨rfl,by first|exact refl _ _|exact(refl _ _).drew⟩
       case rest=>
        obtain⟨rfl,c9⟩:=hcut;have x:=a8.more c9 (by omega);clear g7 g8 c6 c7 g6 e6 b0 a8;generalize g5:wc=wy at*;clear g5;have c:=(x.nZ xb b9 b5).trans y;have z0:wy.cell? ⟨xb,0,none⟩=some (.slice (some ⟨g,0,none⟩) (n+3) (n+3)):=(ag c).trans rfl;have E:=aB c;have I:g<wy.heap.size:=x.row.lt;have c0:=x.row.cell (i:=i) (by dsimp only;omega);have f0:=x.row.frozen i;dsimp only at c0 f0;clear c
        go_wp2_with fail
        go_roundg (n+3- (i+1))
        all_goals first
         |omega
         |exact⟨i+1,rfl,by omega,rfl,by go_num,x.Rz b4 rfl⟩
      ·have r6:decide ((i:Int)<(n:Int))=false:=by simp;omega
       have r7:n<=i:=by omega
       have r8:decide (n<=i)=true:=by simp;omega
       have c0:wr.cell? ⟨g,i,none⟩=some (.slice none 0 0):=(t.row.cell (i:=i) (by dsimp only;omega)).trans (by rw[iw (by omega),gW (by dsimp only;omega)];rfl);have f0:=t.row.frozen i;dsimp only at f0;clear c
       go_wp2_with fail
       go_roundg (n+3- (i+1))
       all_goals first
        |omega
        |exact⟨i+1,rfl,by omega,rfl,by go_num,t.Rz b4 rfl⟩
     ·obtain rfl:i=n+3:=by omega
      have hN:=d.next m t HF.out.apart;clear t d
      go_wp2_with fail
      go_roundg (R.length- (k+1))
      all_goals first
       |omega
       |exact⟨k+1,rfl,by omega,rfl,by go_num,hN⟩
   ·obtain rfl:k=R.length:=by omega
    clear H
    go_wp2_with fail
    go_meet;exact⟨rfl,hI⟩
 case rest=>
  obtain⟨rfl,d⟩:=hcut;generalize g3:wc=w1 at*;clear g3 hR A;have c3:Hid _:=N.out.eU d.ah (by decide) (by decide);have c4:Hid _:=(d.ah _ _ _ _ HO.out (by decide)).trans HO.out;have c8:Below w0.heap.size w0 w1:=h0.trans (d.mD.mono G);have u:Hid _:=d;have e2:∀l∈R,l.n<=1048576:=λl m=>(HF.out.each l m).small;clear d HO N;go_upto_block 4 with fail
  refine CP w0 w1 q _ a5 P R X K B c4.out rfl c3.out u.out.all e2 (λl m=>(HX.out l m).eU u.out.ah (by decide)) e5 (λl m=>(HK.out l m).eU u.out.ah (by decide)) e1 c8 G e9 _ _ _ _ _ _ _ _ _ _ _ _ _ _ _ _ _ _ _ _ _ _ _ _ _ _ _ _ _ _ _ _ _ _ _ _ _ _ _ _ _ _ _ _ _ _ _ _ _ _ _ _ _ _ _ _ _ _ _ _ _ _ _ _ _ _ _ _ _ _ _ _ _ _ _ _ _ _ _ _ _ _ _ _ _ _ _ _ _ _ _ _ _ _ _ _ _ _ _ _ _ _ _ _ _ _ _ _ _ _ _ _ _ _ _ _ _ _ _ _ _ _ _ _ _ _ _ _ _ _ _ _ _ _ _ _ _ _ _ _ _ _ _ _ _ _ _ _ _ _ _ _ _ _ _ _ _ _ _ _ _ _ _ _ _ _ _ _ _ _ _ _ _ _ _ _ _ _ _ _ _ _ _ _ _ _ _ _ _ _ _ _ _ _ _ _ _ _ _ _ _ _ _ _ _ _ _ _ ?_;intro v8 v9 s8 s9 u0 u1 u2 u3 u4 u5 u6 v85 u7 u8 u9 v1 v3 v5 v7 w3 w4 w5 w7 w8 w9 x0 h1 h2 h3 h4 h5 h6 h7 h8 h9 i0 i1 i2 i3 i4 i5 i6 i7 i8 i9 j0 j1 j2 j3 j4 j5 j6 j7 v127 j8 j9 k0 k1 k2 k3 k4 k5 k6 k7 k8 k9 l0 l4 l5 v143 l7 v145 v146 l8 l9 m0 m1 m2 m3 m4 m5 m6 m7 m8 m9 n0 n1 n2 n3 n4 n5 n6 n7 v167 v168 n8 n9 v171 o0 v173 o1 v175 o2 o3 o4 o5 o6 o7 o8 o9 p2 p3 p4 p5 p6 p7 p8 p9 q0 q1 q2 q3 q4 q5 q6 q7 q8 q9 r0 r1 r2 r3 r4 r5 w2 a7;dsimp only;have Z:Hid _:=a7;clear a7
  go_wp2_with fail
  go_ret;exact⟨rfl,(u.out.ah.mono (by decide)).trans (Z.out.ah.mono (by decide)),u.out.mD.trans Z.out.mD⟩
end Go.Proofs.YtdifpeaklamhnaaGreatDoor

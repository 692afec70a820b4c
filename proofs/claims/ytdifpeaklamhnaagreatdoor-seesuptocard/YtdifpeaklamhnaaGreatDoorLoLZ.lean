import Derived.Test.YtdifpeaklamhnaaGreatDoorLoHZ
import Derived.Deep.RegionHeld
import Derived.Deep.CutBlock
set_option linter.unusedVariables false
set_option linter.unusedSimpArgs false
set_option maxRecDepth 100000
set_option maxHeartbeats 0
namespace Go.Proofs.YtdifpeaklamhnaaGreatDoor
open Go.Proofs.Tryz
open Go.RowKit
open Below (refl heap_alloc heap_setCell)
open World (size_alloc setCell frozen?)
open Nat (le_refl zero_le min_eq_left min_eq_right)
open List (mem_of_getElem? length_append)
theorem Lm(w:World)(a b c:Obj):((((w.alloc a).alloc b).alloc c).heap[w.heap.size]? =some a/\(((w.alloc a).alloc b).alloc c).heap[w.heap.size+1]? =some b/\(((w.alloc a).alloc b).alloc c).heap[w.heap.size+2]? =some c)/\Below w.heap.size w (((w.alloc a).alloc b).alloc c)/\(((w.alloc a).alloc b).alloc c).heap.size=w.heap.size+3:=by
 have s1:(w.alloc a).heap.size=w.heap.size+1:=by simp[size_alloc]
 have s2:((w.alloc a).alloc b).heap.size=w.heap.size+2:=by simp[size_alloc]
 refine⟨⟨?_, ?_, ?_⟩,(((refl _ w).alloc (le_refl _) _).alloc (by rw[s1];omega) _).alloc (by rw[s2];omega) _,by simp[size_alloc]⟩
 ·rw[heap_alloc _ _ _ (by rw[s2];omega),heap_alloc _ _ _ (by rw[s1];omega)];exact heap_alloc_new w _
 ·rw[heap_alloc _ _ _ (by rw[s2];omega),<-s1];exact heap_alloc_new _ _
 ·rw[<-s2];exact heap_alloc_new _ _
def Sn(C R X K B F:List Ln):Prop:=C.length<=1099514773504/\UM C R X K B F
def Qz(w0 w:World)(mb:Nat)(fu:fD)(tv:Value)(wx:World):Prop:=∃(fv:Value) (F:List Ln),(wx.heap[w.heap.size]? =some (.cells #[.slice fu.ro fu.rn fu.rc,tv] 67 (0,0))/\wx.heap[w.heap.size+1]? =some (.cells #[.slice none 0 0,.slice none 0 0] 67 (0,0))/\wx.heap[w.heap.size+2]? =some (.cells #[fv,.slice none 0 0] 67 (0,0)))/\
 DL fv/\bZ w0 wx mb [] [] [] [] [] F/\dV F fu fv/\F.length<=1/\Below mb w wx
def Qy(w0 w:World)(mb:Nat)(fu:fD)(to':Option Addr)(tn tc:Nat)(wx:World):Prop:=∃(fo:Option Addr) (fn fc:Nat) (bo:Option Addr) (bn bc:Nat) (C R X K B F:List Ln),(wx.heap[w.heap.size+1]? =some (.cells #[.slice none 0 0,.slice none 0 0] 67 (0,0))/\wx.heap[w.heap.size+2]? =some (.cells #[.slice fo fn fc,.slice bo bn bc] 67 (0,0)))/\
 (Sn C R X K B F/\bZ w0 wx mb C R X K B F)/\dV F fu (.slice fo fn fc)/\qa B to' tn tc (.slice bo bn bc)/\Below mb w wx
def Nu(w0 w:World)(mb:Nat)(fu:fD)(to':Option Addr)(tn tc:Nat)(e:Ending)(w':World):Prop:=
 ∃(fo:Option Addr) (fn fc:Nat) (bo:Option Addr) (bn bc:Nat) (C R X K B F:List Ln),e=.returned (.agg #[.slice fo fn fc,.slice bo bn bc])/\(Sn C R X K B F/\bZ w0 w' mb C R X K B F)/\dV F fu (.slice fo fn fc)/\qa B to' tn tc (.slice bo bn bc)/\Below mb w w'
def zT(i j:Nat):Value:=if j<i*6/\j % 6=0 then .string ⟨#[98,101,121,111,110,100]⟩else KX (j % 6)
theorem Sl(j:Nat):zT 0 j=KX (j % 6):=by unfold zT;rw[if_neg (by omega)]
theorem KW{w:World}{g N i:Nat}{T:TypeId}{a:List Value}(h:w.rowIs g T N (rZ a (zT i)))(d:a.length<=i*6):(w.setCell ⟨g,i*6,none⟩ (.string ⟨#[98,101,121,111,110,100]⟩)).rowIs g T N (rZ a (zT (i+1))):=by
 refine(h.set (i*6) _).congr λj f=> ?_;unfold rZ zT;by_cases e:j=i*6
 ·subst e;rw[if_pos rfl,dif_neg (by omega),if_pos (by omega)]
 ·rw[if_neg e];by_cases b:j<a.length
  ·rw[dif_pos b,dif_pos b]
  ·rw[dif_neg b,dif_neg b];by_cases c:j<i*6/\j % 6=0
   ·rw[if_pos c,if_pos (by omega)]
   ·rw[if_neg c,if_neg (by omega)]
theorem Qb{w:World}{g N i:Nat}{T:TypeId}{b:List Value}{f:Nat->Value}(h:w.rowIs g T N (rZ b f))(a:b.length=i*6)(a0 a1 a2 a3 a4 a5:Value):
  ((((((w.setCell ⟨g,i*6,none⟩ a0).setCell ⟨g,i*6+1,none⟩ a1).setCell ⟨g,i*6+2,none⟩ a2).setCell ⟨g,i*6+3,none⟩ a3).setCell ⟨g,i*6+4,none⟩ a4).setCell ⟨g,i*6+5,none⟩ a5).rowIs g T N (rZ (b++ [a0,a1,a2,a3,a4,a5]) f):=by
 have c:=ng h a a0;have d:=ng c (i:=i*6+1) (by simp[a]) a1;have e:=ng d (i:=i*6+2) (by simp[a]) a2;have j:=ng e (i:=i*6+3) (by simp[a]) a3;have k:=ng j (i:=i*6+4) (by simp[a]) a4;have l:=ng k (i:=i*6+5) (by simp[a]) a5;simpa using l
theorem UC{n j:Nat}{b:List Value}(d:j<(n+3)*6):rZ b (zT (n+3)) j=jd 6 b yJ j:=by
 unfold rZ jd zT yJ;by_cases h:j<b.length
 ·rw[dif_pos h,dif_pos h]
 ·rw[dif_neg h,dif_neg h];by_cases a:j % 6=0
  ·rw[if_pos ⟨d,a⟩,if_pos a]
  ·rw[if_neg (λc=>a c.2),if_neg a]
theorem PU(w:World)(g o:Nat)(a0 a1 a2 a3 a4 a5:Value)(q:Nat)(a:q≠g):((((((w.setCell ⟨g,o,none⟩ a0).setCell ⟨g,o+1,none⟩ a1).setCell ⟨g,o+2,none⟩ a2).setCell ⟨g,o+3,none⟩ a3).setCell ⟨g,o+4,none⟩ a4).setCell ⟨g,o+5,none⟩ a5).heap[q]? =w.heap[q]? :=by
 rw[heap_setCell _ _ _ _ a,heap_setCell _ _ _ _ a,heap_setCell _ _ _ _ a,heap_setCell _ _ _ _ a,heap_setCell _ _ _ _ a,heap_setCell _ _ _ _ a]
theorem PT{B:Nat}{y w:World}(h:Below B y w)(g o:Nat)(a:B<=g)(a0 a1 a2 a3 a4 a5:Value):Below B y ((((((w.setCell ⟨g,o,none⟩ a0).setCell ⟨g,o+1,none⟩ a1).setCell ⟨g,o+2,none⟩ a2).setCell ⟨g,o+3,none⟩ a3).setCell ⟨g,o+4,none⟩ a4).setCell ⟨g,o+5,none⟩ a5):=
 (((((h.setCell (p:=⟨g,_,none⟩) a _).setCell (p:=⟨g,_,none⟩) a _).setCell (p:=⟨g,_,none⟩) a _).setCell (p:=⟨g,_,none⟩) a _).setCell (p:=⟨g,_,none⟩) a _).setCell (p:=⟨g,_,none⟩) a _
structure sI(w0 w:World)(mb nb g:Nat)(C R X K F:List Ln)(f:Nat->Value)(N:Nat)(v3 v5:Value)(fu:Value)(arr:Array Value)(x:World):Prop where
 bx:x.heap[nb]? =some (.cells arr 54 (0,0))
 l:bZ w0 x mb C R X K [] F
 b:Below mb w x
 out:x.rowIs g 54 N f
 b3:x.heap[w.heap.size]? =some (.cells #[fu,v3] 67 (0,0))
 b4:x.heap[w.heap.size+1]? =some (.cells #[.slice none 0 0,.slice none 0 0] 67 (0,0))
 b5:x.heap[w.heap.size+2]? =some (.cells #[v5,.slice none 0 0] 67 (0,0))
theorem sI.call{w0 w:World}{d m g:Nat}{C R X K F e j k i:List Ln}{f:Nat->Value}{N:Nat}{v3 v5 l:Value}{a:Array Value}{x y:World}(h:sI w0 w d m g C R X K F f N v3 v5 l a x)(n:bZ w0 y d e j k i [] F)(hb:Below d x y)(c:dU x y Cw):sI w0 w d m g e j k i F f N v3 v5 l a y:=
 ⟨(c _ _ _ _ h.bx (by decide)).trans h.bx,n,h.b.trans hb,iM h.out c (by decide),(c _ _ _ _ h.b3 (by decide)).trans h.b3,(c _ _ _ _ h.b4 (by decide)).trans h.b4,(c _ _ _ _ h.b5 (by decide)).trans h.b5⟩
theorem sI.put{w0 w:World}{i c g:Nat}{C R X K F:List Ln}{f:Nat->Value}{N:Nat}{v3 v5 j:Value}{d:Array Value}{x:World}(h:sI w0 w i c g C R X K F f N v3 v5 j d x)(n:i<=c)(m:g≠c)(r:w.heap.size+3<=c)(k:Nat)(v:Value):sI w0 w i c g C R X K F f N v3 v5 j (d.setIfInBounds k v) (x.setCell ⟨c,k,none⟩ v):=by
 have hb:=h.bx;have e:∀q,q≠c->(x.setCell ⟨c,k,none⟩ v).heap[q]? =x.heap[q]? :=λq o=>heap_setCell _ _ _ _ o;exact⟨by simp[setCell,Array.getElem?_modify,hb],h.l.CG e ⟨_,hb⟩,h.b.setCell (p:=⟨c,k,none⟩) n _,h.out.setOther (a:=⟨c,k,none⟩) m _,(e _ (by omega)).trans h.b3,(e _ (by omega)).trans h.b4,(e _ (by omega)).trans h.b5⟩
def NE(w0 w:World)(mb g:Nat)(fu:fD)(bv:Value)(F:List Ln)(fv:Value)(tn:Nat)(dS:List kU)(i:Nat)(wr:World):Prop:=∃(C R X K:List Ln) (es:List Value),(C.length<=i*1048576/\R.length<=i/\X.length<=i/\K.length<=i)/\es.length=(min i tn)*6/\
 (wr.heap[w.heap.size]? =some (.cells #[.slice fu.ro fu.rn fu.rc,bv] 67 (0,0))/\wr.heap[w.heap.size+1]? =some (.cells #[.slice none 0 0,.slice none 0 0] 67 (0,0))/\wr.heap[w.heap.size+2]? =some (.cells #[fv,.slice none 0 0] 67 (0,0)))/\
 bZ w0 wr mb C R X K [] F/\kV K R X (dS.take i) es/\wr.rowIs g 54 ((tn+3)*6) (rZ es (zT i))/\Below mb w wr
theorem zY(w0 w:World)(n:Nat)(hL:bZ w0 w n [] [] [] [] [] [])(h0:Below w0.heap.size w0 w)(n0:w0.heap.size<=n)(fo:Option Addr)(fn fc:Nat)(N:List Value)(hF:mW Sw w0 3 ⟨fo,fn,fc,N⟩)(Z:Option Addr)(G tc:Nat)(dS:List kU)(p7:G<=1048576)(g4:Z=none->G=0/\tc=0)(n6:pz w0 Z G dS)(j2:∀s∈dS,yl w0 s):
  Calls prog 25 #[.pointer (some ⟨n,0,none⟩),.agg #[.slice fo fn fc,.slice Z G tc]] w λe w'=>Nu w0 w n ⟨fo,fn,fc,N⟩ Z G tc e w':=by
 obtain⟨i0,hi,i8,g9,i9⟩:=info_parts LX;obtain⟨i1,hj,i2,i3,i4⟩:=info_parts Cn;have y2:n<w.heap.size:=by obtain⟨_,_,_,_,_,_,_,h1,_⟩:=hL;exact aC h1
 have o9:(Tryz.prog.info? 48).map (·.size)=some 3:=by rw[hi];simp[g9]
 obtain⟨W,hW⟩:∃W,W=((w.alloc (.cells #[.slice fo fn fc,.slice Z G tc] 67)).alloc (.cells #[.slice none 0 0,.slice none 0 0] 67)).alloc (.cells #[.slice none 0 0,.slice none 0 0] 67):=⟨_,rfl⟩;obtain⟨⟨I,z,H⟩,c6,i5⟩:=Lm w (.cells #[.slice fo fn fc,.slice Z G tc] 67) (.cells #[.slice none 0 0,.slice none 0 0] 67) (.cells #[.slice none 0 0,.slice none 0 0] 67);rw[<-hW]at I z H c6 i5;have j1:Hid (((w.alloc (.cells #[.slice fo fn fc,.slice Z G tc] 67)).alloc (.cells #[.slice none 0 0,.slice none 0 0] 67)).alloc (.cells #[.slice none 0 0,.slice none 0 0] 67)=W):=hW.symm;have h5:=hL.ag c6;have m9:Below w0.heap.size w0 W:=h0.trans (c6.mono h0.size);have a3:=hF.nil;have k1:=hF.small;have g1:=hF.want;have k0:=hF.one;have q7:Hid _:=hF.ty;dsimp only at a3 k1 g1 k0;have m2:Hid _:=g4;have b9:Hid _:=n6;have m4:Hid _:=j2;clear hW hF g4 n6 j2;go_enter Tryz.func25,Tryz.ntmps25
 go_upto_if 15 with fail
 rw[j1.out];clear j1;go_cut [] (λt=>Qz w0 w n ⟨fo,fn,fc,N⟩ (.slice Z G tc) t)
 case first=>
  clear m2 b9 m4 p7
  cases fo with
  |none=>
   obtain⟨rfl,rfl⟩:=a3 rfl
   go_wp2_with fail
   go_meet;exact⟨.slice none 0 0,[],⟨I,z,H⟩,⟨_,_,_,rfl⟩,h5,.inl ⟨rfl,rfl⟩,by simp,c6.mono (by omega)⟩
  |some so=>
   have j6:Hid _:=g1;have i7:=g1.ag m9;have x3:W.cell? ⟨w.heap.size,0,none⟩=some (.slice (some so) fn fc):=(af I).trans rfl;have u6:w.heap.size<W.heap.size:=by omega
   have m3:Hid _:=i5;have y3:w.heap.size+2<W.heap.size:=by omega
   clear a3 g1 i5
   go_wp2_with(first
    |(at_make;refine ig _ rfl _ _ 64 rfl 48 i0 _ Tryz.underlying64 hi i8 .i64 .i64 (fn+3) _ rfl rfl (by omega) (by rw[i9];omega) (by omega) 3 g9 ?_;intro w2 f2 l5 U g8 m1;have x3:=(U.cell (p:=⟨w.heap.size,0,none⟩) u6).trans x3;have p8:w.heap.size<w2.heap.size:=by omega)
    |(refine kP rfl (.tmp 22) (.tmp 24) 64 64 rfl 48 3 Tryz.underlying64 o9 W.heap.size (fn+3) (fn+3) (some so) fn fc rfl rfl ((fn+3)*3) f2 48 g8 N (by omega) i7.1 (i7.ag U).src (by have:=i7.1;omega) k0 ?_;intro w3 p6 o8 O s8))
   have B3:Below W.heap.size W w3:=O _ _ (le_refl _) U;have o0:w3.rowIs W.heap.size 48 ((fn+3)*3) (vO 3 yI (rZ N f2) (fn*3) ((fn+0)*3)):=o8.congr λj _=>(oM _ _ _ _ _).symm;clear g8 o8 O s8 U l5 p6 x3 p8;go_loopw [8] (λiv wr=>∃m:Nat,m<=3/\iv=.int .i64 ((fn+m:Nat):Int)/\wr.rowIs W.heap.size 48 ((fn+3)*3) (vO 3 yI (rZ N f2) (fn*3) ((fn+m)*3))/\Below W.heap.size W wr) (λiv _=>(fn+3)- (intOf iv).toNat)
   case atStart=>exact⟨0,by omega,by go_num,o0,B3⟩
   case round=>
    obtain⟨m,hm,rfl,hg,hB⟩:=hrel;clear o0 B3;by_cases r8:m<3
    ·have c8:=hg.lt;have c0:=hg.cell (i:=(fn+m)*3) (by omega);have c1:=hg.cell (i:=(fn+m)*3+1) (by omega);have c2:=hg.cell (i:=(fn+m)*3+2) (by omega);have f0:=hg.frozen ((fn+m)*3);have f1:=hg.frozen ((fn+m)*3+1);have f3:=hg.frozen ((fn+m)*3+2)
     go_wp2_with fail
     go_roundw
     case rel=>exact⟨m+1,by omega,by go_num,uL hg (by omega) rfl rfl rfl,((hB.setCell (p:=⟨W.heap.size,_,none⟩) (le_refl _) _).setCell (p:=⟨W.heap.size,_,none⟩) (le_refl _) _).setCell (p:=⟨W.heap.size,_,none⟩) (le_refl _) _⟩
     case measure=>simp[intOf];omega
    ·obtain rfl:m=3:=by omega
     have Y:wr.rowIs W.heap.size 48 ((fn+3)*3) (jd 3 N yI):=hg.congr λj hj=>xZ j6.out.1 j hj;obtain⟨vc,vr,vx,vk,vb,vf,⟨s1,s2,s3,s4,s5,s6⟩,hO,hC,hR,hX,hK,a4,a5⟩:=h5.ag hB;obtain⟨a,an,ac,rfl⟩:=s6;have s0:=aC hO;have a0:wr.cell? ⟨n,6,none⟩=some (.slice a an ac):=(af hO).trans rfl;have c8:=Y.lt;have V:=(hB.block _ (by omega)).trans I;have P:=(hB.block _ (by have:=m3.out;omega)).trans z;have Q:=(hB.block _ (by have:=m3.out;omega)).trans H;have x3:wr.cell? ⟨w.heap.size,0,none⟩=some (.slice (some so) fn fc):=(af V).trans rfl;have u7:w.heap.size<wr.heap.size:=aC V;have a9:qf (rV Sw w0 3) wr 48 3 yI (n+1) ⟨W.heap.size,fn,some so,fc,N⟩:=⟨Y,j6.out.1,by show n+1<=W.heap.size;omega,k1,j6.out,q7.out⟩;have k8:∀x∈([]:List Ln),x.g<W.heap.size:=λx hx=>by simp at hx
     have e6:Hid _:=hO;have b0:Hid _:=a5;have j4:Hid _:=a9;have j5:Hid _:=(⟨hC,hR,hX,hK,a4⟩:_/\_/\_/\_/\_);have j0:Hid _:=(⟨V,P,Q⟩:_/\_/\_);have e7:∀o:Obj,(wr.alloc o).drew.ownsRow (n+1) 185 2 (.slice a an ac) 0 []:=λo=>World.ownsRow.drew (World.ownsRow.alloc a5.own o);clear hg i7 hO a5 a9 hC hR hX hK a4 Y V P Q h5 hL I z H;go_upto_region 10 with fail
     have r9:n≠w.heap.size+2:=by omega
     have o4:n≠w.heap.size+1+1:=by omega
     go_region_law (refine step_append_lies _ rfl (.tmp 41) (.tmp 46) 114 rfl (n+1) 185 i1 _ 2 48 Tryz.underlying114 hj i2 i3 i4 rfl (by decide) (.slice a an ac) 0 [] (by simp[Act.eval]) (e7 _) ⟨wr.heap.size,0,none⟩ 1 1 [.slice (some ⟨W.heap.size,0,none⟩) (fn+3) (fn+3),.slice (some so) fn fc] (by simp[Act.eval]) rfl (World.news_of_block (heap_alloc_new wr _)) (by intro u hu;simp at hu;rcases hu with rfl|rfl<;>rfl) (by decide) (by unfold maxLen;omega) (by omega) (by simp[size_alloc];omega) (wr.heap.size+1) (by simp[size_alloc]) ?_;intro g7 T w7 b1 D n7 o2;have kO:=ny b0.out.own (((refl _ wr).alloc (le_refl _) _).drew) D e6.out (by decide);have k5:=ny b0.out.own (((refl _ wr).alloc (le_refl _) _).drew) D j0.out.2.2 (by decide);have r1:=aC kO;have q9:=aC k5;have r0:w7.cell? ⟨n,6,none⟩=some (.slice a an ac):=(af kO).trans rfl;have u9:w7.frozen? ⟨n,6,none⟩=false:=(by simp[frozen?,kO]);have r5:w7.cell? ⟨w.heap.size+2,0,none⟩=some (.slice none 0 0):=(af k5).trans rfl;have v0:w7.frozen? ⟨w.heap.size+2,0,none⟩=false:=(by simp[frozen?,k5]))
     all_goals go_wp2_with fail
     all_goals go_meet
     all_goals
      obtain⟨_,A1,A2,A3,A4⟩:=jc (w:=wr) (k:=6) (l:=⟨W.heap.size,fn,some so,fc,N⟩) e6.out b0.out j4.out k8 (by decide) (by decide) (refl _ _) (iQ.refl _ _ _) (((refl _ wr).alloc (le_refl _) _).drew) D b1 (.slice (some ⟨g7,0,none⟩) (0+1) T);obtain⟨hC,hR,hX,hK,a4⟩:=j5.out;obtain⟨V,P,Q⟩:=j0.out;have k3:=(A4 _ _ _ _ V (by decide) (by decide)).trans V;have k4:=(A4 _ _ _ _ P (by decide) (by decide)).trans P;have k5:=(A4 _ _ _ _ Q (by decide) (by decide)).trans Q;have LF:bZ w0 (w7.setCell ⟨n,6,none⟩ (.slice (some ⟨g7,0,none⟩) (0+1) T)) n [] [] [] [] [] [⟨W.heap.size,fn,some so,fc,N⟩]:=
       ⟨vc,vr,vx,vk,vb,.slice (some ⟨g7,0,none⟩) (0+1) T,⟨s1,s2,s3,s4,s5,⟨_,_,_,rfl⟩⟩,A1,hC.typed A4 (by decide) (by decide) (by decide) (by decide),hR.typed A4 (by decide) (by decide) (by decide) (by decide),hX.typed A4 (by decide) (by decide) (by decide) (by decide),hK.typed A4 (by decide) (by decide) (by decide) (by decide),a4.typed A4 (by decide) (by decide) (by decide) (by decide),A2⟩
      refine⟨.slice (some ⟨W.heap.size,0,none⟩) fn (fn+3),[⟨W.heap.size,fn,some so,fc,N⟩],⟨(heap_setCell _ _ _ _ (by show w.heap.size≠w.heap.size+2;omega)).trans k3,(heap_setCell _ _ _ _ (by show w.heap.size+1≠w.heap.size+2;omega)).trans k4,by simp[setCell,Array.getElem?_modify]at k5 ⊢;simp[k5]⟩,⟨_,_,_,rfl⟩,LF.other (g:=w.heap.size+2) (T':=67) (λq hq=>heap_setCell _ _ _ _ hq) ⟨_,k5⟩ (by decide),.inr ⟨W.heap.size,rfl,by simp⟩,by simp, ?_⟩;exact(((c6.mono (by omega)).trans (hB.mono (by omega))).trans A3).setCell (p:=⟨w.heap.size+2,0,none⟩) (by show n<=w.heap.size+2;omega) _
 case rest=>
  obtain⟨fv,F,⟨O,a6,a7⟩,⟨g0,e9,e8,rfl⟩,h4,n8,v8,n2⟩:=hcut;clear I z H h5 hL a3 k1 g1 k0 m9 o9 hi i8 g9 i9 hj i2 i3 i4 c6 i5;obtain⟨i0,hi,i8,g9,i9⟩:=info_parts OI;obtain⟨i1,hj,i2,i3,i4⟩:=info_parts ES;generalize u4:wc=t at*;clear u4;have y1:t.cell? ⟨w.heap.size,1,none⟩=some (.slice Z G tc):=(af O).trans rfl;have u8:=aC O;have p9:=aC a7
  go_upto_if 56 with fail
  go_cut [] (λwy=>Qy w0 w n ⟨fo,fn,fc,N⟩ Z G tc wy)
  case first=>
   cases Z with
   |none=>
    obtain⟨rfl,rfl⟩:=m2.out rfl
    go_wp2_with fail
    go_meet;exact⟨g0,e9,e8,none,0,0,[],[],[],[],[],F,⟨a6,a7⟩,⟨⟨by simp,by simp,by simp,by simp,by simp,by simp,by omega⟩,h4⟩,n8,.inl ⟨rfl,rfl⟩,n2⟩
   |some so=>
    go_wp2_with(at_make;refine ig _ rfl _ _ 65 rfl 54 i0 _ Tryz.underlying65 hi i8 .i64 .i64 (G+3) _ rfl rfl (by omega) (by rw[i9];omega) (by omega) 6 g9 ?_;intro w2 f2 l5 U g8 m1)
    have I0:NE w0 w n t.heap.size ⟨fo,fn,fc,N⟩ (.slice (some so) G tc) F (.slice g0 e9 e8) G dS 0 w2:=⟨[],[],[],[],[],⟨by simp,by simp,by simp,by simp⟩,by simp,⟨(U.block _ u8).trans O,(U.block _ (aC a6)).trans a6,(U.block _ p9).trans a7⟩,h4.ag U,⟨by simp,λi s h=>by simp at h⟩,g8.congr λj hj=>by
     rw[m1.out];simp only[rZ,List.length_nil,Nat.not_lt_zero,dite_false,Sl];have h6:j % 6<6:=Nat.mod_lt _ (by omega);show #[Value.string ⟨#[]⟩,.slice none 0 0,.slice none 0 0,.int .i64 0,.string ⟨#[]⟩,.slice none 0 0][j % 6]! =_;generalize j % 6=m at h6
     match m,h6 with
     |0,_|1,_|2,_|3,_|4,_|5,_=>rfl,n2.trans (U.mono (by omega))⟩
    have y4:w.heap.size+3<=t.heap.size:=by omega
    clear g8 U l5 y1 h4 O a6 a7;go_loopw [11] (λiv wr=>∃i:Nat,i<=G+3/\iv=.int .i64 (i:Int)/\NE w0 w n t.heap.size ⟨fo,fn,fc,N⟩ (.slice (some so) G tc) F (.slice g0 e9 e8) G dS i wr) (λiv _=>(G+3)- (intOf iv).toNat)
    case atStart=>exact⟨0,zero_le _,rfl,I0⟩
    case round=>
     clear I0;obtain⟨i,x0,rfl,C,R,X,K,es,⟨r7,x9,y0,x8⟩,k6,⟨I,z,H⟩,h7,c7,A,hB⟩:=hrel;by_cases r8:i<G+3
     ·by_cases o3:i<G
      ·obtain⟨bb,a1,rfl,r2,g2⟩:∃bb a1,so=⟨bb,a1,none⟩/\bb<w0.heap.size/\∀(i:Nat) (s:kU),dS[i]? =some s->w0.cell? ⟨bb,a1+i*6,none⟩=some (.string s.name)/\w0.cell? ⟨bb,a1+i*6+1,none⟩=some (.slice s.k.ro s.k.rn s.k.rc)/\w0.cell? ⟨bb,a1+i*6+2,none⟩=some (.slice s.ro s.rn s.rc)/\w0.cell? ⟨bb,a1+i*6+3,none⟩=some (.int .i64 s.count)/\
         w0.cell? ⟨bb,a1+i*6+4,none⟩=some (.string s.aD)/\w0.cell? ⟨bb,a1+i*6+5,none⟩=some (.slice s.u.ro s.u.rn s.u.rc):=by
        rcases b9.out.2 with h|⟨x,y,h1,h2,h3⟩
        ·omega
        ·exact⟨x,y,Option.some.inj h1,h2,h3⟩
       have r6:i<dS.length:=by rw[b9.out.1];exact o3
       obtain⟨⟨d,r,M,L,J,b2,c,f,E⟩,i6⟩:∃s:kU,dS[i]? =some s:=⟨_,List.getElem?_eq_getElem r6⟩;have S:=m4.out _ (mem_of_getElem? i6);obtain⟨p0,p1,p2,p3,p4,p5⟩:=g2 i _ i6;dsimp only at p0 p1 p2 p3 p4 p5;have cl:∀o,wr.cell? ⟨bb,o,none⟩=w0.cell? ⟨bb,o,none⟩:=λo=>(hB.cell (p:=⟨bb,o,none⟩) (by show bb<n;omega)).trans (h0.cell (p:=⟨bb,o,none⟩) r2);have q0:=(cl _).trans p0;have q1:=(cl _).trans p1;have q2:=(cl _).trans p2;have q3:=(cl _).trans p3;have q4:=(cl _).trans p4;have q5:=(cl _).trans p5;have c8:=A.lt;have r4:bb<wr.heap.size:=by have:=hB.size;omega
       have w9:bb≠t.heap.size:=by have:=h0.size;omega
       have y1:wr.cell? ⟨w.heap.size,1,none⟩=some (.slice (some ⟨bb,a1,none⟩) G tc):=(af I).trans rfl;have q6:=aC I;have u3:w.heap.size≠t.heap.size:=by omega
       have c0:=A.cell (i:=i*6) (by omega);have f0:=A.frozen (i*6);have m5:Hid (dS.take (i+1)=dS.take i++ [⟨d,r,M,L,J,b2,c,f,E⟩]):=by
        rw[Hid,List.take_add_one,i6];rfl
       clear cl p0 p1 p2 p3 p4 p5 g2 i6;go_upto_region 21 with fail
       have a2:es.length=i*6:=by rw[k6,min_eq_left (by omega)]
       have g6:∃cc,wr.heap[t.heap.size]? =some (.cells cc 54 (0,0)):=by obtain⟨cc,h,_⟩:=A;exact⟨cc,h⟩
       have k2:∀q,q≠t.heap.size->(wr.setCell ⟨t.heap.size,i*6,none⟩ (.string ⟨#[98,101,121,111,110,100]⟩)).heap[q]? =wr.heap[q]? :=λq hq=>heap_setCell _ _ _ _ hq;have h8:∀o:Obj,Below wr.heap.size (wr.setCell ⟨t.heap.size,i*6,none⟩ (.string ⟨#[98,101,121,111,110,100]⟩)) ((wr.setCell ⟨t.heap.size,i*6,none⟩ (.string ⟨#[98,101,121,111,110,100]⟩)).alloc o):=λo=>(refl _ _).alloc (by simp[setCell]) _;have h9:∀(o:Obj) (q:Nat),q<wr.heap.size->q≠t.heap.size->((wr.setCell ⟨t.heap.size,i*6,none⟩ (.string ⟨#[98,101,121,111,110,100]⟩)).alloc o).heap[q]? =wr.heap[q]? :=λo q h1 h2=>((h8 o).block q h1).trans (k2 q h2);have g5:((wr.setCell ⟨t.heap.size,i*6,none⟩ (.string ⟨#[98,101,121,111,110,100]⟩)).alloc (.cells #[.string d,.slice r.ro r.rn r.rc,.slice M L J,.int .i64 c,.string f,.slice E.ro E.rn E.rc] 54)).rowIs t.heap.size 54 ((G+3)*6) (rZ es (zT (i+1))):=(KW A (by omega)).alloc _;have n4:bZ w0 ((wr.setCell ⟨t.heap.size,i*6,none⟩ (.string ⟨#[98,101,121,111,110,100]⟩)).alloc (.cells #[.string d,.slice r.ro r.rn r.rc,.slice M L J,.int .i64 c,.string f,.slice E.ro E.rn E.rc] 54)) n C R X K [] F:=(h7.CG k2 g6).ag (by rw[show(wr.setCell ⟨t.heap.size,i*6,none⟩ (.string ⟨#[98,101,121,111,110,100]⟩)).heap.size=wr.heap.size by simp[setCell]];exact h8 _);have n1:Below n w ((wr.setCell ⟨t.heap.size,i*6,none⟩ (.string ⟨#[98,101,121,111,110,100]⟩)).alloc (.cells #[.string d,.slice r.ro r.rn r.rc,.slice M L J,.int .i64 c,.string f,.slice E.ro E.rn E.rc] 54)):=(hB.setCell (p:=⟨t.heap.size,i*6,none⟩) (by show n<=t.heap.size;omega) _).trans ((h8 _).mono (by omega));have j3:((wr.setCell ⟨t.heap.size,i*6,none⟩ (.string ⟨#[98,101,121,111,110,100]⟩)).alloc (.cells #[.string d,.slice r.ro r.rn r.rc,.slice M L J,.int .i64 c,.string f,.slice E.ro E.rn E.rc] 54)).heap[wr.heap.size]? =some (.cells #[.string d,.slice r.ro r.rn r.rc,.slice M L J,.int .i64 c,.string f,.slice E.ro E.rn E.rc] 54 (0,0)):=by
        have:=heap_alloc_new (wr.setCell ⟨t.heap.size,i*6,none⟩ (.string ⟨#[98,101,121,111,110,100]⟩)) (.cells #[.string d,.slice r.ro r.rn r.rc,.slice M L J,.int .i64 c,.string f,.slice E.ro E.rn E.rc] 54)
        rwa[show(wr.setCell ⟨t.heap.size,i*6,none⟩ (.string ⟨#[98,101,121,111,110,100]⟩)).heap.size=wr.heap.size by simp[setCell]]at this
       have m6:=(h9 (.cells #[.string d,.slice r.ro r.rn r.rc,.slice M L J,.int .i64 c,.string f,.slice E.ro E.rn E.rc] 54) _ (aC I) u3).trans I;have m7:=(h9 (.cells #[.string d,.slice r.ro r.rn r.rc,.slice M L J,.int .i64 c,.string f,.slice E.ro E.rn E.rc] 54) _ (aC z) (by omega)).trans z;have m8:=(h9 (.cells #[.string d,.slice r.ro r.rn r.rc,.slice M L J,.int .i64 c,.string f,.slice E.ro E.rn E.rc] 54) _ (aC H) (by omega)).trans H;generalize s9:(wr.setCell ⟨t.heap.size,i*6,none⟩ (.string ⟨#[98,101,121,111,110,100]⟩)).alloc (.cells #[.string d,.slice r.ro r.rn r.rc,.slice M L J,.int .i64 c,.string f,.slice E.ro E.rn E.rc] 54)=w4 at*;clear s9 k2 h8 h9 g6 h7 A q0 q1 q2 q3 q4 q5 c0 f0 y1 I z H q6;have k7:t.heap.size≠wr.heap.size:=by omega
       have k9:n<=wr.heap.size:=by have:=hB.size;omega
       have l0:w.heap.size+3<=wr.heap.size:=by omega
       generalize s7:wr.heap.size=nb at*;clear s7 hB c8 r4;have M4:sI w0 w n nb t.heap.size C R X K F (rZ es (zT (i+1))) ((G+3)*6) (.slice (some ⟨bb,a1,none⟩) G tc) (.slice g0 e9 e8) (.slice fo fn fc) #[.string d,.slice r.ro r.rn r.rc,.slice M L J,.int .i64 c,.string f,.slice E.ro E.rn E.rc] w4:=⟨j3,n4,n1,g5,m6,m7,m8⟩;clear j3 n4 n1 g5 m6 m7 m8;have H0:∀x:World,Below n w x->Below w0.heap.size w0 x:=λx hx=>h0.trans (hx.mono n0);have x1:w4.cell? ⟨nb,1,none⟩=some (.slice r.ro r.rn r.rc):=(af M4.bx).trans rfl;have c9:=aC M4.bx;have l8:=OT w0 w4 n C R X K [] F M4.l (H0 _ M4.b) r S.k (by omega);have x7:(.slice r.ro r.rn r.rc:Value)=.slice r.ro r.rn r.rc:=rfl;go_upto_region 22 with(go_at_call 59;refine l8.mono ?_;rintro e w5 ⟨ko,kn,kc,K2,rfl,hK2,hL5,hkl,hB5,hKp5⟩;have b6:=(hKp5 _ _ _ _ M4.bx (by decide)).trans M4.bx;have o5:=aC b6;have v1:=(af (j:=1) b6).trans rfl;have v2:w5.frozen? ⟨nb,1,none⟩=false:=(by simp[frozen?,b6]))
       have M5:=(M4.call hL5 hB5 hKp5).put k9 k7 l0 1 (.slice ko kn kc);generalize u0:w5.setCell ⟨nb,1,none⟩ (.slice ko kn kc)=w5' at*;clear u0 M4 l8 x1 c9 hL5 hB5 hKp5 b6 o5 v1 v2;have x2:w5'.cell? ⟨nb,2,none⟩=some (.slice M L J):=(af M5.bx).trans rfl;have c9:=aC M5.bx;have l9:=OU w0 w5' n C R X (K++K2) [] F M5.l (H0 _ M5.b) n0 M L J b2 S.small S.nil S.rows S.each (by have:=S.small;dsimp only at this;omega) (by omega);go_upto_region 23 with(go_at_call 60;refine l9.mono ?_;rintro e w6 ⟨yo,yn,yc,C2,R2,rfl,hC2,hR2,hL6,hrl,hB6,hKp6⟩;have b7:=(hKp6 _ _ _ _ M5.bx (by decide)).trans M5.bx;have o6:=aC b7;have v3:=(af (j:=2) b7).trans rfl;have v4:w6.frozen? ⟨nb,2,none⟩=false:=(by simp[frozen?,b7]))
       have M6:=(M5.call hL6 hB6 hKp6).put k9 k7 l0 2 (.slice yo yn yc);generalize u1:w6.setCell ⟨nb,2,none⟩ (.slice yo yn yc)=w6' at*;clear u1 M5 l9 x2 c9 hL6 hB6 hKp6 b7 o6 v3 v4;have x3:w6'.cell? ⟨nb,5,none⟩=some (.slice E.ro E.rn E.rc):=(af M6.bx).trans rfl;have c9:=aC M6.bx;have m0:=Mg w0 w6' n (C++C2) (R++R2) X (K++K2) [] F M6.l (H0 _ M6.b) E S.u (by omega);go_upto_region 24 with(go_at_call 61;refine m0.mono ?_;rintro e w7 ⟨zo,zn,zc,X2,rfl,hX2,hL7,hul,hB7,hKp7⟩;have b8:=(hKp7 _ _ _ _ M6.bx (by decide)).trans M6.bx;have o7:=aC b8;have v5:=(af (j:=5) b8).trans rfl;have v6:w7.frozen? ⟨nb,5,none⟩=false:=(by simp[frozen?,b8]))
       have M7:=(M6.call hL7 hB7 hKp7).put k9 k7 l0 5 (.slice zo zn zc);generalize u2:w7.setCell ⟨nb,5,none⟩ (.slice zo zn zc)=w7' at*;clear u2 M6 m0 x3 c9 hL7 hB7 hKp7 b8 o7 v5 v6;have a8:w7'.heap[nb]? =some (.cells #[.string d,.slice ko kn kc,.slice yo yn yc,.int .i64 c,.string f,.slice zo zn zc] 54 (0,0)):=M7.bx;have e0:w7'.cell? ⟨nb,0,none⟩=some (.string d):=(af a8).trans rfl;have e1:w7'.cell? ⟨nb,1,none⟩=some (.slice ko kn kc):=(af a8).trans rfl;have e2:w7'.cell? ⟨nb,2,none⟩=some (.slice yo yn yc):=(af a8).trans rfl;have e3:w7'.cell? ⟨nb,3,none⟩=some (.int .i64 c):=(af a8).trans rfl;have e4:w7'.cell? ⟨nb,4,none⟩=some (.string f):=(af a8).trans rfl;have e5:w7'.cell? ⟨nb,5,none⟩=some (.slice zo zn zc):=(af a8).trans rfl;have c9:=aC a8;have c8:=M7.out.lt;have c0:=M7.out.cell (i:=i*6) (by omega);have c1:=M7.out.cell (i:=i*6+1) (by omega);have c2:=M7.out.cell (i:=i*6+2) (by omega);have c3:=M7.out.cell (i:=i*6+3) (by omega);have c4:=M7.out.cell (i:=i*6+4) (by omega);have c5:=M7.out.cell (i:=i*6+5) (by omega);have f0:=M7.out.frozen (i*6);have f1:=M7.out.frozen (i*6+1);have v9:=M7.out.frozen (i*6+2);have f3:=M7.out.frozen (i*6+3);have f4:=M7.out.frozen (i*6+4);have f5:=M7.out.frozen (i*6+5);clear a8
       go_wp2_with fail
       go_roundw
       case rel=>
        have ho:=PU w7' t.heap.size (i*6) (.string d) (.slice ko kn kc) (.slice yo yn yc) (.int .i64 c) (.string f) (.slice zo zn zc);have l4:∃cc,w7'.heap[t.heap.size]? =some (.cells cc 54 (0,0)):=by obtain⟨cc,h,_⟩:=M7.out;exact⟨cc,h⟩
        refine⟨i+1,by omega,by go_num,C++C2,R++R2,X++X2,K++K2,es++ [.string d,.slice ko kn kc,.slice yo yn yc,.int .i64 c,.string f,.slice zo zn zc],⟨by rw[length_append];have:=S.small;dsimp only at this;omega,by rw[length_append];omega,by rw[length_append];omega,by rw[length_append];omega⟩,by rw[length_append,a2,min_eq_left (by omega)];simp;omega,⟨(ho _ (by omega)).trans M7.b3,(ho _ (by omega)).trans M7.b4,(ho _ (by omega)).trans M7.b5⟩,M7.l.CG ho l4, ?_,Qb M7.out a2 _ _ _ _ _ _,PT M7.b _ _ (by omega) _ _ _ _ _ _⟩;rw[m5.out];exact(c7.mono (λx hx=>List.mem_append_left _ hx) (λx hx=>List.mem_append_left _ hx) (λx hx=>List.mem_append_left _ hx)).snoc (s:=⟨d,r,M,L,J,b2,c,f,E⟩) hkl hrl hul
       case measure=>simp[intOf];omega
      ·have a2:es.length=G*6:=by rw[k6,min_eq_right (by omega)]
       have o1:C.length<=(i+1)*1048576:=Nat.le_trans r7 (Nat.mul_le_mul_right _ (Nat.le_succ i));have c8:=A.lt;have c0:=A.cell (i:=i*6) (by omega);have f0:=A.frozen (i*6)
       go_wp2_with fail
       go_roundw
       case rel=>
        have ho:∀q,q≠t.heap.size->(wr.setCell ⟨t.heap.size,i*6,none⟩ (.string ⟨#[98,101,121,111,110,100]⟩)).heap[q]? =wr.heap[q]? :=λq hq=>heap_setCell _ _ _ _ hq;have l4:∃cc,wr.heap[t.heap.size]? =some (.cells cc 54 (0,0)):=by obtain⟨cc,h,_⟩:=A;exact⟨cc,h⟩
        refine⟨i+1,by omega,by go_num,C,R,X,K,es,⟨o1,by omega,by omega,by omega⟩,by rw[a2,min_eq_right (by omega)],⟨(ho _ (by omega)).trans I,(ho _ (by omega)).trans z,(ho _ (by omega)).trans H⟩,h7.CG ho l4, ?_,KW A (by omega),hB.setCell (p:=⟨t.heap.size,i*6,none⟩) (by show n<=t.heap.size;omega) _⟩;have hl:=b9.out.1;rw[List.take_of_length_le (by omega)]at c7 ⊢;exact c7
       case measure=>simp[intOf];omega
     ·obtain rfl:i=G+3:=by omega
      have a2:es.length=G*6:=by rw[k6,min_eq_right (by omega)]
      have Y:wr.rowIs t.heap.size 54 ((G+3)*6) (jd 6 es yJ):=A.congr λj hj=>UC hj;rw[List.take_of_length_le (by have:=b9.out.1;omega)]at c7;obtain⟨vc,vr,vx,vk,vb,vf,⟨s1,s2,s3,s4,s5,s6⟩,hO,hC,hR,hX,hK,a4,a5⟩:=h7;obtain⟨a,an,ac,rfl⟩:=s5;have s0:=aC hO;have a0:wr.cell? ⟨n,5,none⟩=some (.slice a an ac):=(af hO).trans rfl;have c8:=Y.lt;have x3:wr.cell? ⟨w.heap.size,1,none⟩=some (.slice (some so) G tc):=(af I).trans rfl;have u7:w.heap.size<wr.heap.size:=aC I;have a9:qf (SS w0 K R X) wr 54 6 yJ (n+1) ⟨t.heap.size,G,some so,tc,es⟩:=⟨Y,a2,by show n+1<=t.heap.size;omega,p7,dS,b9.out,c7⟩;have k8:∀x∈([]:List Ln),x.g<t.heap.size:=λx hx=>by simp at hx
      have e6:Hid _:=hO;have b0:Hid _:=a4;have j4:Hid _:=a9;have j5:Hid _:=(⟨hC,hR,hX,hK,a5⟩:_/\_/\_/\_/\_);have l7:Hid _:=(⟨z,H⟩:_/\_);have e7:∀o:Obj,(wr.alloc o).drew.ownsRow (n+1) 190 2 (.slice a an ac) 0 []:=λo=>World.ownsRow.drew (World.ownsRow.alloc a4.own o);have r9:n≠w.heap.size+2:=by omega
      have o4:n≠w.heap.size+1+1:=by omega
      clear hO a4 a9 hC hR hX hK a5 Y I z H A c7;go_upto_region 25 with fail
      go_region_law (refine step_append_lies _ rfl (.tmp 104) (.tmp 109) 113 rfl (n+1) 190 i1 _ 2 48 Tryz.underlying113 hj i2 i3 i4 rfl (by decide) (.slice a an ac) 0 [] (by simp[Act.eval]) (e7 _) ⟨wr.heap.size,0,none⟩ 1 1 [.slice (some ⟨t.heap.size,0,none⟩) (G+3) (G+3),.slice (some so) G tc] (by simp[Act.eval]) rfl (World.news_of_block (heap_alloc_new wr _)) (by intro u hu;simp at hu;rcases hu with rfl|rfl<;>rfl) (by decide) (by unfold maxLen;omega) (by omega) (by simp[size_alloc];omega) (wr.heap.size+1) (by simp[size_alloc]) ?_;intro g7 T w7 b1 D n7 o2;have kO:=ny b0.out.own (((refl _ wr).alloc (le_refl _) _).drew) D e6.out (by decide);have k5:=ny b0.out.own (((refl _ wr).alloc (le_refl _) _).drew) D l7.out.2 (by decide);have r1:=aC kO;have q9:=aC k5;have r0:w7.cell? ⟨n,5,none⟩=some (.slice a an ac):=(af kO).trans rfl;have u9:w7.frozen? ⟨n,5,none⟩=false:=(by simp[frozen?,kO]);have r5:w7.cell? ⟨w.heap.size+2,1,none⟩=some (.slice none 0 0):=(af k5).trans rfl;have v0:w7.frozen? ⟨w.heap.size+2,1,none⟩=false:=(by simp[frozen?,k5]))
      all_goals go_wp2_with fail
      all_goals go_meet
      all_goals
       obtain⟨_,A1,A2,A3,A4⟩:=jc (w:=wr) (k:=5) (l:=⟨t.heap.size,G,some so,tc,es⟩) e6.out b0.out j4.out k8 (by decide) (by decide) (refl _ _) (iQ.refl _ _ _) (((refl _ wr).alloc (le_refl _) _).drew) D b1 (.slice (some ⟨g7,0,none⟩) (0+1) T);obtain⟨hC,hR,hX,hK,a5⟩:=j5.out;obtain⟨P,Q⟩:=l7.out;have k4:=(A4 _ _ _ _ P (by decide) (by decide)).trans P;have k5:=(A4 _ _ _ _ Q (by decide) (by decide)).trans Q;have LF:bZ w0 (w7.setCell ⟨n,5,none⟩ (.slice (some ⟨g7,0,none⟩) (0+1) T)) n C R X K [⟨t.heap.size,G,some so,tc,es⟩] F:=
        ⟨vc,vr,vx,vk,.slice (some ⟨g7,0,none⟩) (0+1) T,vf,⟨s1,s2,s3,s4,⟨_,_,_,rfl⟩,s6⟩,A1,hC.typed A4 (by decide) (by decide) (by decide) (by decide),hR.typed A4 (by decide) (by decide) (by decide) (by decide),hX.typed A4 (by decide) (by decide) (by decide) (by decide),hK.typed A4 (by decide) (by decide) (by decide) (by decide),A2,a5.typed A4 (by decide) (by decide) (by decide) (by decide)⟩
       refine⟨g0,e9,e8,some ⟨t.heap.size,0,none⟩,G,G+3,C,R,X,K,[⟨t.heap.size,G,some so,tc,es⟩],F,⟨(heap_setCell _ _ _ _ (by show w.heap.size+1≠w.heap.size+2;omega)).trans k4,by simp[setCell,Array.getElem?_modify]at k5 ⊢;simp[k5]⟩,⟨⟨by omega,by omega,by omega,by omega,by omega,by simp,by omega⟩,LF.other (g:=w.heap.size+2) (T':=67) (λq hq=>heap_setCell _ _ _ _ hq) ⟨_,k5⟩ (by decide)⟩,n8,.inr ⟨t.heap.size,es,rfl,by simp⟩, ?_⟩;exact(hB.trans A3).setCell (p:=⟨w.heap.size+2,1,none⟩) (by show n<=w.heap.size+2;omega) _
  case rest=>
   obtain⟨j9,j8,j7,bo,bn,bc,C,R,X,K,B,F',⟨z,H⟩,⟨g3,n5⟩,n9,r3,n3⟩:=hcut;clear O a6 a7 y1 h4;generalize u5:wc=wz at*;clear u5;have x5:wz.cell? ⟨w.heap.size+2,0,none⟩=some (.slice j9 j8 j7):=(af H).trans rfl;have x6:wz.cell? ⟨w.heap.size+2,1,none⟩=some (.slice bo bn bc):=(af H).trans rfl;have w8:=aC H;have w1:=aC z;have x4:wz.cell? ⟨w.heap.size+1,0,none⟩=some (.slice none 0 0):=(af z).trans rfl;have v7:wz.cell? ⟨w.heap.size+1,1,none⟩=some (.slice none 0 0):=(af z).trans rfl;have y5:wz.frozen? ⟨w.heap.size+1,0,none⟩=false:=by simp[frozen?,z]
   have y6:wz.frozen? ⟨w.heap.size+1,1,none⟩=false:=by simp[frozen?,z]
   have HL:Hid _:=n5;have q8:Hid _:=g3;have HB:Hid _:=n3;have H4:Hid _:=z;clear n5 n3 z H g3
   go_wp2_with fail
   refine bodyPost_ret (v:=.agg #[.slice j9 j8 j7,.slice bo bn bc]) (by simp[results,Tryz.results25,go_sem,x4,v7]) rfl ⟨j9,j8,j7,bo,bn,bc,C,R,X,K,B,F',rfl,⟨q8.out, ?_⟩,n9,r3, ?_⟩
   ·exact bZ.other (show bZ w0 wz n C R X K B F' from HL.out) (g:=w.heap.size+1) (T':=67) (λq hq=>(heap_setCell _ _ _ _ hq).trans (heap_setCell _ _ _ _ hq)) ⟨_,H4.out⟩ (by decide)
   ·exact(HB.out.setCell (p:=⟨w.heap.size+1,0,none⟩) (by show n<=w.heap.size+1;omega) _).setCell (p:=⟨w.heap.size+1,1,none⟩) (by show n<=w.heap.size+1;omega) _
theorem gI{P:Program}{e:Array Oper}{Q:Exit->Act->World->Prop}{g:Region.Mode}{S:World->Prop}(i d:Nat)(v:Value){j:Oper}{f:Nat}{b:Array Bool}{a:Act}{w:World}(o:e[i]? =some j)(m:j.dst=some d)
  (q:Region.noSelect e=true) (n:Region.free g e b i=true) (p:(Region.ready g e b).contains i=true) (k:∀c a w,Q (.panic c) (a.put (some d) v) w->Q (.panic c) a w) (r:Region.wanted j (yielded e a.tmps)=true) (s:∀x,S x->(execOp a.eval j).run P x=.ok (.value v) x) (l:S w)
  (h:wpAnyH P g e Q S f (b.setIfInBounds i true) (a.put (some d) v) w):wpAnyH P g e Q S (f+1) b a w:=by
 rw[<-m]at k h;exact wpAnyH_take o q n p k (Or.inl ⟨r,s⟩) l h
theorem qW{P:Program}{e:Array Oper}{Q:Exit->Act->World->Prop}{g:Region.Mode}{S:World->Prop}(i d:Nat){j:Oper}{f:Nat}{b:Array Bool}{a:Act}{w:World}(o:e[i]? =some j)(m:j.dst=some d)
  (q:Region.noSelect e=true) (n:Region.free g e b i=true) (p:(Region.ready g e b).contains i=true) (k:∀c a w,Q (.panic c) (a.put (some d) undef) w->Q (.panic c) a w) (r:Region.wanted j (yielded e a.tmps)=false) (l:S w)
  (h:wpAnyH P g e Q S f (b.setIfInBounds i true) (a.put (some d) undef) w):wpAnyH P g e Q S (f+1) b a w:=by
 rw[<-m]at k h;exact wpAnyH_take o q n p k (Or.inr ⟨r,rfl⟩) l h
def jM(n:Nat):Code->Option Code
 | .seq a b=>match jM n a with
  |some c=>some c
  |none=>jM n b
 | .block k c=>if k=n then some (.block k c)else jM n c
 | .scope c=>jM n c
 | .loop c=>jM n c
 | .cond _ a b=>match jM n a with
  |some c=>some c
  |none=>jM n b
 |_=>none
def rP(w:World)(T:TypeId)(z:Nat)(ov:Nat->Value)(l:Ln):Prop:=w.rowIs l.g T ((l.n+3)*z) (λj=>ov (j % z))
structure fG(w wr:World)(mb:Nat)(T:TypeId)(z:Nat)(far ov:Nat->Value)(ls:List Ln)(k:Nat):Prop where
 done:∀(j:Nat) (l:Ln),j<k->ls[j]? =some l->rP wr T z ov l
 todo:∀(j:Nat) (l:Ln),k<=j->ls[j]? =some l->wr.rowIs l.g T ((l.n+3)*z) (jd z l.cs far)
 ag:dU w wr [T]
 lU:Below mb w wr
 nX:∀q,q<w.heap.size->(∀l∈ls,q≠l.g)->wr.heap[q]? =w.heap[q]?
structure jG(wo wx:World)(mb:Nat)(T:TypeId)(z:Nat)(far ov:Nat->Value)(l:Ln)(i:Nat):Prop where
 row:wx.rowIs l.g T ((l.n+3)*z) (vO z ov (jd z l.cs far) 0 (i*z))
 nX:∀q,q<wo.heap.size->q≠l.g->wx.heap[q]? =wo.heap[q]?
 lU:Below mb wo wx
theorem fG.start{e:Ln->Prop}{w:World}{T d:TypeId}{z c:Nat}{a g:Nat->Value}{v:Value}{b:List Ln}(h:bP e w T d z a c v b):fG w w c T z a g b 0:=
 ⟨λj l i=>by omega,λj l _ f=>(h.each l (mem_of_getElem? f)).row,dU.refl _ _,refl _ _,λ_ _ _=>rfl⟩
theorem fG.more{w wr x:World}{e:Nat}{T:TypeId}{z:Nat}{a g:Nat->Value}{f:List Ln}{k:Nat}(h:fG w wr e T z a g f k)(hb:Below wr.heap.size wr x)(i:e<=wr.heap.size):fG w x e T z a g f k:=
 ⟨λj l b c=>(h.done j l b c).of_block (hb.block _ (h.done j l b c).lt),λj l b c=>(h.todo j l b c).of_block (hb.block _ (h.todo j l b c).lt),h.ag.trans (λq _ _ _ d _=>hb.block q (aC d)),h.lU.trans (hb.mono i),λq d m=>(hb.block q (Nat.lt_of_lt_of_le d h.lU.size)).trans (h.nX q d m)⟩
theorem jG.start{w wo:World}{c:Nat}{T:TypeId}{z:Nat}{a d:Nat->Value}{b:List Ln}{k:Nat}{l:Ln}(h:fG w wo c T z a d b k)(e:b[k]? =some l):jG wo wo c T z a d l 0:=
 ⟨(h.todo k l (le_refl _) e).congr λj _=>by rw[Nat.zero_mul,oM],λ_ _ _=>rfl,refl _ _⟩
theorem jG.more{wo b x:World}{c:Nat}{T:TypeId}{z:Nat}{a d:Nat->Value}{l:Ln}{i:Nat}(h:jG wo b c T z a d l i)(hb:Below b.heap.size b x)(e:c<=b.heap.size):jG wo x c T z a d l i:=
 ⟨h.row.of_block (hb.block _ h.row.lt),λq g f=>(hb.block q (by have:=h.lU.size;omega)).trans (h.nX q g f),h.lU.trans (hb.mono e)⟩
theorem jG.FV{wo f:World}{e:Nat}{T:TypeId}{a b:Nat->Value}{l:Ln}{i:Nat}{a0 a1 a2:Value}(h:jG wo f e T 3 a b l i)(d:e<=l.g)(j:a0=b 0)(k:a1=b 1)(m:a2=b 2):jG wo (((f.setCell ⟨l.g,i*3,none⟩ a0).setCell ⟨l.g,i*3+1,none⟩ a1).setCell ⟨l.g,i*3+2,none⟩ a2) e T 3 a b l (i+1):=
 ⟨by have:=uL (K0:=0) (a0:=a0) (a1:=a1) (a2:=a2) (by simpa using h.row) (zero_le i) j k m;simpa using this,λq n c=>(heap_setCell _ _ _ _ c).trans ((heap_setCell _ _ _ _ c).trans ((heap_setCell _ _ _ _ c).trans (h.nX q n c))),((h.lU.setCell (p:=⟨l.g,_,none⟩) d _).setCell (p:=⟨l.g,_,none⟩) d _).setCell (p:=⟨l.g,_,none⟩) d _⟩
theorem jG.Rz{wo f:World}{b:Nat}{T:TypeId}{a c:Nat->Value}{l:Ln}{i:Nat}{a0:Value}(h:jG wo f b T 1 a c l i)(k:b<=l.g)(j:a0=c 0):jG wo (f.setCell ⟨l.g,i,none⟩ a0) b T 1 a c l (i+1):=by
 subst j;have e:=h.row;rw[Nat.mul_one i]at e;exact⟨by rw[Nat.mul_one (i+1)];exact FP e (zero_le i),λq m d=>(heap_setCell _ _ _ _ d).trans (h.nX q m d),h.lU.setCell (p:=⟨l.g,_,none⟩) k _⟩
theorem fG.next{w wo H:World}{C:Nat}{T:TypeId}{z:Nat}{f D:Nat->Value}{u:List Ln}{k:Nat}{l:Ln}(h:fG w wo C T z f D u k)(v:u[k]? =some l)(i:jG wo H C T z f D l (l.n+3))(p:u.Pairwise λa b=>a.g<b.g):fG w H C T z f D u (k+1):=by
 have t:∀(j:Nat) (x:Ln),u[j]? =some x->j≠k->x.g≠l.g:=by
  intro j x d y;have A:=(List.getElem?_eq_some_iff.mp d);have B:=(List.getElem?_eq_some_iff.mp v);obtain⟨F,rfl⟩:=A;obtain⟨G,rfl⟩:=B;rcases Nat.lt_or_gt_of_ne y with h|h
  ·have:=List.pairwise_iff_getElem.mp p j k F G h;omega
  ·have:=List.pairwise_iff_getElem.mp p k j G F h;omega
 refine⟨λj x y d=> ?_,λj x y d=> ?_,h.ag.trans λq I M N o J=>i.nX q (aC o) λe=> ?_,h.lU.trans i.lU,λq o E=>(i.nX q (Nat.lt_of_lt_of_le o h.lU.size) (E l (mem_of_getElem? v))).trans (h.nX q o E)⟩
 ·by_cases s:j=k
  ·subst s;obtain rfl:l=x:=by rw[v]at d;exact Option.some.inj d
   exact i.row.congr λm L=>by unfold vO;rw[if_pos ⟨zero_le _,L⟩]
  ·have r:=h.done j x (by omega) d;exact r.of_block (i.nX _ r.lt (t j x d s))
 ·have r:=h.todo j x (by omega) d;exact r.of_block (i.nX _ r.lt (t j x d (by omega)))
 ·subst e;obtain⟨c,K,_⟩:=h.todo k l (le_refl _) v;rw[K]at o;cases o;simp at J
theorem fG.all{w wr:World}{f:Nat}{T:TypeId}{z:Nat}{a d:Nat->Value}{b:List Ln}(h:fG w wr f T z a d b b.length):∀l∈b,rP wr T z d l:=by
 intro l e;obtain⟨j,c,rfl⟩:=List.getElem_of_mem e;exact h.done j _ c (List.getElem?_eq_getElem c)
theorem ic{q:Ln->Prop}{w:World}{T j:TypeId}{z t:Nat}{f:Nat->Value}{a:Option Addr}{m r:Nat}{c:List Ln}(h:bP q w T j z f t (.slice a m r) c):m=c.length/\(c.length=0\/∃d,a=some ⟨d,0,none⟩/\d<w.heap.size/\(∃b,w.heap[d]? =some (.cells b j (0,0)))/\∀(k:Nat) (l:Ln),c[k]? =some l->w.cell? ⟨d,k*2,none⟩=some (.slice (some ⟨l.g,0,none⟩) (l.n+3) (l.n+3))/\w.cell? ⟨d,k*2+1,none⟩=some (.slice l.wo l.n l.wc)):=by
 have u:=h.own.1;rcases h.own.2 with⟨e,o⟩|⟨g,cap,b,e,_,p,_⟩
 ·cases e;exact⟨o.symm,.inl o⟩
 ·cases e;refine⟨rfl,.inr ⟨g,rfl,aC p,⟨b,p⟩,λk l i=> ?_⟩⟩;have s:=(List.getElem?_eq_some_iff.mp i).1;exact⟨(h.own.cellAt _ (by omega)).trans (qN c k l 0 i (by omega)),(h.own.cellAt _ (by omega)).trans (qN c k l 1 i (by omega))⟩
theorem iI{cs:List Value}{a:Nat->Value}{z j:Nat}{v:Value}(h:cs[j]? =some v):jd z cs a j=v:=by
 obtain⟨b,c⟩:=List.getElem?_eq_some_iff.mp h;unfold jd;rw[dif_pos b,c]
theorem gX{cs:List Value}{a:Nat->Value}{z j:Nat}(h:cs.length<=j):jd z cs a j=a (j % z):=by
 unfold jd;rw[dif_neg (by omega)]
theorem iB{z:Nat}{a f:Nat->Value}{K j:Nat}(h:K<=j):vO z a f 0 K j=f j:=by
 unfold vO;rw[if_neg (by omega)]
def Rx(j:Nat):Value:=if j=0 then .int .i64 8 else if j=1 then .int .i64 0 else .string ⟨#[]⟩
def Qw(_:Nat):Value:=.string ⟨#[111,118,101,114]⟩
def Qv(j:Nat):Value:=if j=0 then .string ⟨#[111,118,101,114]⟩else if j=1 then .string ⟨#[]⟩else .int .i64 0
def Ry(j:Nat):Value:=if j=0 then .string ⟨#[111,118,101,114]⟩else .string ⟨#[]⟩
def pu(w:World)(T:TypeId)(z:Nat)(ov:Nat->Value)(xo:Option Addr)(xn xc:Nat):Prop:=(xo=none/\xn=0/\xc=0)\/∃g,xo=some ⟨g,0,none⟩/\xc=xn+3/\xn<=1048576/\w.rowIs g T ((xn+3)*z) (λj=>ov (j % z))
theorem pu.ag{w x:World}{T:TypeId}{z:Nat}{a:Nat->Value}{xo:Option Addr}{xn xc:Nat}(h:pu w T z a xo xn xc)(hb:Below w.heap.size w x):pu x T z a xo xn xc:=by
 rcases h with h|⟨g,h1,h2,h3,h4⟩
 ·exact .inl h
 ·exact .inr ⟨g,h1,h2,h3,h4.of_block (hb.block g h4.lt)⟩
def SG(_:Nat):Value:=.slice none 0 0
theorem zZ(w:World)(xo:Option Addr)(xn xc:Nat)(h:pu w 56 3 Rx xo xn xc):
  Calls prog 140 #[.slice xo xn xc] w λe w'=>e=.returned (.bool true)/\Below w.heap.size w w':=by
 have A:xn<=1048576:=by rcases h with⟨_,rfl,_⟩|⟨_,_,_,h,_⟩<;>omega
 have o:Hid _:=h;clear h;go_enter Tryz.func140,Tryz.ntmps140
 go_wp2_with fail
 go_loopg [3] xn (λgk B wr=>∃i:Nat,gk=xn- i/\i<=xn/\B=.int .i64 (i:Int)/\Below w.heap.size w wr)
 case atStart=>exact⟨0,rfl,zero_le _,rfl,refl _ _⟩
 case round=>
  obtain⟨i,l,E,rfl,d⟩:=hrel;subst l;by_cases z:i<xn
  ·obtain⟨g,rfl,a⟩:∃g,xo=some ⟨g,0,none⟩/\w.rowIs g 56 ((xn+3)*3) (λj=>Rx (j % 3)):=by
    rcases o.out with⟨_,h,_⟩|⟨g,t,_,_,u⟩
    ·omega
    ·exact⟨g,t,u⟩
   have b:=a.lt;have f:∀x:World,Below w.heap.size w x->(x.cell? ⟨g,i*3,none⟩=some (.int .i64 8)/\x.cell? ⟨g,i*3+1,none⟩=some (.int .i64 0)/\x.cell? ⟨g,i*3+2,none⟩=some (.string ⟨#[]⟩))/\g<x.heap.size:=λx c=>
    ⟨⟨(c.cell (p:=⟨g,i*3,none⟩) b).trans ((a.cell (by omega)).trans (by rw[show i*3 % 3=0 by omega];rfl)),(c.cell (p:=⟨g,i*3+1,none⟩) b).trans ((a.cell (by omega)).trans (by rw[show(i*3+1) % 3=1 by omega];rfl)),(c.cell (p:=⟨g,i*3+2,none⟩) b).trans ((a.cell (by omega)).trans (by rw[show(i*3+2) % 3=2 by omega];rfl))⟩,Nat.lt_of_lt_of_le b c.size⟩
   obtain⟨⟨q,r,s⟩,v⟩:=f wr d;have n:∀x:World,Below w.heap.size w x->Calls prog 139 #[] x λe w'=>e=.returned (.agg #[.int .i64 8,.int .i64 0,.string ⟨#[]⟩])/\Below w.heap.size w w':=λx c=>(pO x).mono λe w' h=>⟨h.1,c.trans (h.2.mono c.size)⟩;clear a b;go_upto_region 4 with fail
   go_cut [15] (λm D=>m=.bool false/\Below w.heap.size w D)
   case first=>
    go_region_with(go_at_call 139;refine(n _ ?_).mono ?_;(first|exact d|exact d.drew);rintro e C ⟨rfl,hb6⟩;obtain⟨⟨d0,d1,d2⟩,y⟩:=f C hb6);all_goals(go_wp2_with fail;go_meet)
    all_goals exact⟨rfl,by first|exact hb6|exact hb6.drew⟩
   case rest=>
    obtain⟨rfl,k⟩:=hcut;clear q r s v f n
    go_wp2_with fail
    go_roundg (xn- (i+1))
    all_goals first
     |omega
     |exact⟨i+1,rfl,by omega,by go_num,k⟩
  ·go_wp2_with fail
   go_ret;exact⟨rfl,d⟩
theorem Jz(w:World)(a0 a4:ByteArray)(a3:Int)(k:Option Addr)(kn l:Nat)(ro:Option Addr)(rn rc:Nat)(uo:Option Addr)(un uc:Nat)(s:pu w 50 3 Qv k kn l)(t:pu w 57 1 SG ro rn rc)(u:pu w 9 1 Qw uo un uc):
  Calls prog 141 #[.agg #[.string a0,.slice k kn l,.slice ro rn rc,.int .i64 a3,.string a4,.slice uo un uc]] w λe w'=>e=.returned (.bool true)/\Below w.heap.size w w':=by
 have I:kn<=1048576:=by rcases s with⟨_,rfl,_⟩|⟨_,_,_,h,_⟩<;>omega
 have J:rn<=1048576:=by rcases t with⟨_,rfl,_⟩|⟨_,_,_,h,_⟩<;>omega
 have K:un<=1048576:=by rcases u with⟨_,rfl,_⟩|⟨_,_,_,h,_⟩<;>omega
 have f:=(refl w.heap.size w).alloc (le_refl _) (.cells #[.string a0,.slice k kn l,.slice ro rn rc,.int .i64 a3,.string a4,.slice uo un uc] 54);have b:=heap_alloc_new w (.cells #[.string a0,.slice k kn l,.slice ro rn rc,.int .i64 a3,.string a4,.slice uo un uc] 54);have p:=s.ag f;have q:=t.ag f;have r:=u.ag f;clear s t u;go_enter Tryz.func141,Tryz.ntmps141
 go_wp2_with fail
 generalize v:w.alloc (.cells #[.string a0,.slice k kn l,.slice ro rn rc,.int .i64 a3,.string a4,.slice uo un uc] 54)=w1 at*;clear v;have E:=aC b;have M:w1.cell? ⟨w.heap.size,1,none⟩=some (.slice k kn l):=(af b).trans rfl;have N:w1.cell? ⟨w.heap.size,2,none⟩=some (.slice ro rn rc):=(af b).trans rfl;have O:w1.cell? ⟨w.heap.size,5,none⟩=some (.slice uo un uc):=(af b).trans rfl;have B:Hid _:=p;have C:Hid _:=q;have D:Hid _:=r;clear p q r b;go_loopw [3] (λd wr=>∃i:Nat,i<=kn/\d=.int .i64 (i:Int)/\wr=w1) (λd _=>kn- (intOf d).toNat)
 case atStart=>exact⟨0,zero_le _,rfl,rfl⟩
 case round=>
  obtain⟨i,L,rfl,c⟩:=hrel;subst c;by_cases H:i<kn
  ·obtain⟨g,rfl,a⟩:∃g,k=some ⟨g,0,none⟩/\wr.rowIs g 50 ((kn+3)*3) (λj=>Qv (j % 3)):=by
    rcases B.out with⟨_,h,_⟩|⟨g,m,_,_,n⟩
    ·omega
    ·exact⟨g,m,n⟩
   have o:=a.lt;have y:wr.cell? ⟨g,i*3,none⟩=some (.string ⟨#[111,118,101,114]⟩):=(a.cell (by omega)).trans (by rw[show i*3 % 3=0 by omega];rfl);clear a
   go_wp2_with fail
   go_roundw
   case rel=>exact⟨i+1,by omega,by go_num,by trivial⟩
   case measure=>simp[intOf];omega
  ·go_wp2_with fail
   go_loopw [4] (λd x=>∃i:Nat,i<=rn/\d=.int .i64 (i:Int)/\x=wr) (λd _=>rn- (intOf d).toNat)
   case atStart=>exact⟨0,zero_le _,rfl,rfl⟩
   case round=>
    obtain⟨i2,F,rfl,c⟩:=hrel;subst c;by_cases z:i2<rn
    ·obtain⟨g,rfl,a⟩:∃g,ro=some ⟨g,0,none⟩/\wr.rowIs g 57 ((rn+3)*1) (λj=>SG (j % 1)):=by
      rcases C.out with⟨_,h,_⟩|⟨g,m,_,_,n⟩
      ·omega
      ·exact⟨g,m,n⟩
     have o:=a.lt;have y:wr.cell? ⟨g,i2,none⟩=some (.slice none 0 0):=a.cell (by omega);clear a
     go_wp2_with fail
     go_roundw
     case rel=>exact⟨i2+1,by omega,by go_num,by trivial⟩
     case measure=>simp[intOf];omega
    ·go_wp2_with fail
     go_loopw [5] (λd x=>∃i:Nat,i<=un/\d=.int .i64 (i:Int)/\x=wr) (λd _=>un- (intOf d).toNat)
     case atStart=>exact⟨0,zero_le _,rfl,rfl⟩
     case round=>
      obtain⟨i3,G,rfl,c⟩:=hrel;subst c;by_cases A:i3<un
      ·obtain⟨g,rfl,a⟩:∃g,uo=some ⟨g,0,none⟩/\wr.rowIs g 9 ((un+3)*1) (λj=>Qw (j % 1)):=by
        rcases D.out with⟨_,h,_⟩|⟨g,m,_,_,n⟩
        ·omega
        ·exact⟨g,m,n⟩
       have o:=a.lt;have y:wr.cell? ⟨g,i3,none⟩=some (.string ⟨#[111,118,101,114]⟩):=a.cell (by omega);clear a
       go_wp2_with fail
       go_roundw
       case rel=>exact⟨i3+1,by omega,by go_num,by trivial⟩
       case measure=>simp[intOf];omega
      ·go_wp2_with fail
       go_ret;exact⟨rfl,f⟩
theorem jG.Ko{wo d:World}{o:Nat}{T:TypeId}{z:Nat}{a p:Nat->Value}{l:Ln}{i:Nat}(h:jG wo d o T z a p l i){N:Nat}{f:Nat->Value}(n:wo.rowIs l.g T N f):dU wo d [T]:=λq j r s b k=>h.nX q (aC b) λe=>by
 subst e;obtain⟨c,m,_⟩:=n;rw[m]at b;cases b;simp at k
theorem CJ{w:World}{T:TypeId}{z:Nat}{b:Nat->Value}{L:List Ln}{r:fD}{xo:Option Addr}{xn xc:Nat}(h:dV L r (.slice xo xn xc))(d:∀l∈L,rP w T z b l)(f:∀l∈L,l.n<=1048576):pu w T z b xo xn xc/\xn=r.rn:=by
 rcases h with⟨c,e⟩|⟨g,e,a⟩
 ·cases e;exact⟨.inl ⟨rfl,rfl,rfl⟩,c.symm⟩
 ·cases e;exact⟨.inr ⟨g,rfl,rfl,f _ a,d _ a⟩,rfl⟩
theorem PM{w:World}{T:TypeId}{z:Nat}{b:Nat->Value}{L:List Ln}{ro:Option Addr}{rn rc:Nat}{xo:Option Addr}{xn xc:Nat}(h:qa L ro rn rc (.slice xo xn xc))(d:∀l∈L,rP w T z b l)(f:∀l∈L,l.n<=1048576):pu w T z b xo xn xc/\xn=rn:=by
 rcases h with⟨c,e⟩|⟨g,i,e,a⟩
 ·cases e;exact⟨.inl ⟨rfl,rfl,rfl⟩,c.symm⟩
 ·cases e;exact⟨.inr ⟨g,rfl,rfl,f _ a,d _ a⟩,rfl⟩
theorem rP.eQ{w x:World}{T:TypeId}{z:Nat}{a:Nat->Value}{l:Ln}{S:List TypeId}(h:rP w T z a l)(c:dU w x S)(b:T∉S):rP x T z a l:=iM h c b
theorem sU{C:List Ln}{r:fD}{v:Value}(h:dV C r v):∃xo xn xc,v=.slice xo xn xc:=by
 rcases h with⟨_,rfl⟩|⟨g,rfl,_⟩<;>exact⟨_,_,_,rfl⟩
theorem Gs{R:List Ln}{ro:Option Addr}{rn rc:Nat}{v:Value}(h:qa R ro rn rc v):∃xo xn xc,v=.slice xo xn xc:=by
 rcases h with⟨_,rfl⟩|⟨g,a,rfl,_⟩<;>exact⟨_,_,_,rfl⟩
def VX(j:Nat):Value:=if j=0 then .string ⟨#[111,118,101,114]⟩else KX j
structure og(w wr:World)(mb:Nat)(ls:List Ln)(k:Nat):Prop where
 todo:∀(j:Nat) (l:Ln),k<=j->ls[j]? =some l->wr.rowIs l.g 54 ((l.n+3)*6) (jd 6 l.cs yJ)
 ag:dU w wr [54]
 lU:Below mb w wr
structure qy(wo wx:World)(mb:Nat)(l:Ln)(i:Nat):Prop where
 row:wx.rowIs l.g 54 ((l.n+3)*6) (vO 6 VX (jd 6 l.cs yJ) 0 (min i l.n*6))
 nX:∀q,q<wo.heap.size->q≠l.g->wx.heap[q]? =wo.heap[q]?
 lU:Below mb wo wx
theorem og.start{d:Ln->Prop}{w:World}{c:TypeId}{b:Nat}{v:Value}{a:List Ln}(h:bP d w 54 c 6 yJ b v a):og w w b a 0:=
 ⟨λj l _ e=>(h.each l (mem_of_getElem? e)).row,dU.refl _ _,refl _ _⟩
theorem og.more{w wr x:World}{a:Nat}{d:List Ln}{k:Nat}(h:og w wr a d k)(hb:Below wr.heap.size wr x)(e:a<=wr.heap.size):og w x a d k:=
 ⟨λj l b c=>(h.todo j l b c).of_block (hb.block _ (h.todo j l b c).lt),h.ag.trans (λq _ _ _ f _=>hb.block q (aC f)),h.lU.trans (hb.mono e)⟩
theorem qy.start{w wo:World}{b:Nat}{a:List Ln}{k:Nat}{l:Ln}(h:og w wo b a k)(c:a[k]? =some l):qy wo wo b l 0:=
 ⟨(h.todo k l (le_refl _) c).congr λj _=>by rw[Nat.zero_min,Nat.zero_mul,oM],λ_ _ _=>rfl,refl _ _⟩
theorem qy.more{wo a x:World}{b:Nat}{l:Ln}{i:Nat}(h:qy wo a b l i)(hb:Below a.heap.size a x)(c:b<=a.heap.size):qy wo x b l i:=
 ⟨h.row.of_block (hb.block _ h.row.lt),λq e d=>(hb.block q (by have:=h.lU.size;omega)).trans (h.nX q e d),h.lU.trans (hb.mono c)⟩
theorem qy.far{wo b:World}{a:Nat}{l:Ln}{i:Nat}(h:qy wo b a l i)(c:l.n<=i):qy wo b a l (i+1):=
 ⟨by rw[min_eq_right (by omega)];have:=h.row;rwa[min_eq_right c]at this,h.nX,h.lU⟩
theorem qy.put{wo e:World}{c:Nat}{l:Ln}{i:Nat}(h:qy wo e c l i)(k:i<l.n)(b:c<=l.g):qy wo ((((((e.setCell ⟨l.g,i*6,none⟩ (.string ⟨#[111,118,101,114]⟩)).setCell ⟨l.g,i*6+1,none⟩ (.slice none 0 0)).setCell ⟨l.g,i*6+2,none⟩ (.slice none 0 0)).setCell ⟨l.g,i*6+3,none⟩ (.int .i64 0)).setCell ⟨l.g,i*6+4,none⟩ (.string ⟨#[]⟩)).setCell ⟨l.g,i*6+5,none⟩ (.slice none 0 0)) c l (i+1):=by
 have d:=h.row;rw[min_eq_left (by omega)]at d;refine⟨?_,λq f a=> ?_, ?_⟩
 ·rw[min_eq_left (by omega)];have:=Po (K0:=0) (ov:=VX) (by simpa using d) (zero_le i) (a0:=.string ⟨#[111,118,101,114]⟩) (a1:=.slice none 0 0) (a2:=.slice none 0 0) (a3:=.int .i64 0) (a4:=.string ⟨#[]⟩) (a5:=.slice none 0 0) rfl rfl rfl rfl rfl rfl;simpa using this
 ·rw[heap_setCell _ _ _ _ a,heap_setCell _ _ _ _ a,heap_setCell _ _ _ _ a,heap_setCell _ _ _ _ a,heap_setCell _ _ _ _ a,heap_setCell _ _ _ _ a];exact h.nX q f a
 ·exact(((((h.lU.setCell (p:=⟨l.g,_,none⟩) b _).setCell (p:=⟨l.g,_,none⟩) b _).setCell (p:=⟨l.g,_,none⟩) b _).setCell (p:=⟨l.g,_,none⟩) b _).setCell (p:=⟨l.g,_,none⟩) b _).setCell (p:=⟨l.g,_,none⟩) b _
theorem qy.Ko{wo b:World}{n:Nat}{l:Ln}{i:Nat}(h:qy wo b n l i){N:Nat}{f:Nat->Value}(m:wo.rowIs l.g 54 N f):dU wo b [54]:=λq d o p a j=>h.nX q (aC a) λe=>by
 subst e;obtain⟨c,k,_⟩:=m;rw[k]at a;cases a;simp at j
theorem og.next{w wo q:World}{m:Nat}{c:List Ln}{k i:Nat}{l:Ln}(h:og w wo m c k)(o:c[k]? =some l)(f:qy wo q m l i)(d:c.Pairwise λa b=>a.g<b.g):og w q m c (k+1):=by
 refine⟨λj x t p=> ?_,h.ag.trans (f.Ko (h.todo k l (le_refl _) o)),h.lU.trans f.lU⟩;have n:=h.todo j x (by omega) p;refine n.of_block (f.nX _ n.lt λe=> ?_);obtain⟨r,rfl⟩:=List.getElem?_eq_some_iff.mp p;obtain⟨s,rfl⟩:=List.getElem?_eq_some_iff.mp o;have:=List.pairwise_iff_getElem.mp d k j s r (by omega);omega
end Go.Proofs.YtdifpeaklamhnaaGreatDoor

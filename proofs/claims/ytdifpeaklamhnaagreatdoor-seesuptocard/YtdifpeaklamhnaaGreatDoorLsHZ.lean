import Derived.Test.YtdifpeaklamhnaaGreatDoorLbMZ
import Derived.Test.YtdifpeaklamhnaaGreatDoorBjDZ
import Derived.Test.YtdifpeaklamhnaaGreatDoorSwCZ
set_option linter.unusedVariables false
set_option linter.unusedSimpArgs false
set_option maxRecDepth 100000
set_option maxHeartbeats 0
namespace Go.Proofs.YtdifpeaklamhnaaGreatDoor
open Go.Proofs.Tryz
open Go.RowKit
open World (size_alloc new_ne)
open Nat (le_of_lt le_refl)
structure SF(wS bb ib:Nat)(oc:Array Value)(v0 v1 x0 x1:Value)(v:World):Prop where
 op:v.heap[wS]? =some (.cells oc 44 (0,0))
 b:v.heap[bb]? =some (.cells #[v0,v1] 67 (0,0))
 i:v.heap[ib]? =some (.cells #[x0,x1] 67 (0,0))
theorem SF.ag{f a c:Nat}{d:Array Value}{v0 e g j:Value}{v v':World}(h:SF f a c d v0 e g j v)(hb:Below v.heap.size v v'):SF f a c d v0 e g j v':=⟨lV hb h.op,lV hb h.b,lV hb h.i⟩
structure UE(w0 w:World)(wS bb ib mb:Nat)(oc:Array Value)(v0 v1 x0 x1:Value)(C R X K B F:List Ln)(v:World):Prop where
 low:Below w.heap.size w v
 bf:SF wS bb ib oc v0 v1 x0 x1 v
 lo:bZ w0 v mb C R X K B F
theorem UE.ag{w0 w:World}{f a b c:Nat}{d:Array Value}{v0 e g i:Value}{C R X K B F:List Ln}{v v':World}(h:UE w0 w f a b c d v0 e g i C R X K B F v)(hb:Below v.heap.size v v'):UE w0 w f a b c d v0 e g i C R X K B F v':=⟨h.low.trans (hb.mono h.low.size),h.bf.ag hb,h.lo.ag hb⟩
theorem PO{d:List mM}{f:List aJ}{a name:Bs} :(tK d f a name).1.length<=1000:=by
 unfold tK;split
 ·simp[qC]
 split
 ·simp[qC]
 next p e=>
 split
 ·simp[qC]
 split
 ·simp[qC]
 next c b=>
 split
 ·have g:=lT (jQ p.1 a c.2) c.1.rows 0;have h:=(vT e c (List.mem_of_getElem? b)).rows.1;dsimp only;omega
 ·simp[qC]
structure jJ(w0 w:World)(wb:Nat)(a0:Option Addr)(l0 c0:Nat)(g1 g2:Value)(es:List TE):Prop where
 lo:w0.heap.size<=wb
 mV:Below w0.heap.size w0 w
 bk:nM w wb (.slice a0 l0 c0) g1 g2 es
 small:l0<=1048576
 Sy:l0=0\/∃b off,a0=some ⟨b,off,none⟩/\b<w0.heap.size/\jg w0 b off l0
def wF(w:World)(wb:Nat)(g0 g1 g2:Value)(es:List TE)(e:Ending)(w':World):Prop:=e=.returned (.bool true)/\Below wb w w'/\iQ w w' 85 40/\∃es':List TE,es'.length<=es.length+2/\nM w' wb g0 g1 g2 es'
theorem jJ.next{w0 w w':World}{wb:Nat}{a0:Option Addr}{c b:Nat}{g1 g2:Value}{es a:List TE}(h:jJ w0 w wb a0 c b g1 g2 es)(hb:Below wb w w')(d:nM w' wb (.slice a0 c b) g1 g2 a):jJ w0 w' wb a0 c b g1 g2 a:=
 ⟨h.lo,h.mV.trans (hb.mono h.lo),d,h.small,h.Sy⟩
theorem jJ.ag{w0 w w':World}{wb:Nat}{a0:Option Addr}{b a:Nat}{g1 g2:Value}{es:List TE}(h:jJ w0 w wb a0 b a g1 g2 es)(hb:Below w.heap.size w w'):jJ w0 w' wb a0 b a g1 g2 es:=
 h.next (hb.mono (by obtain⟨_,_,_,c,_⟩:=h.bk.row;exact le_of_lt (ai c))) (h.bk.ag hb)
structure NG(w:World)(wb A1 A2:Nat)(l1 l2:Value)(ns:List Int)(v:World):Prop where
 r1:v.ownsRow A1 3 1 l1 ns.length (aL ns)
 r2:v.ownsRow A2 3 1 l2 ns.length (aL ns)
 lt:∀g,l1.ownBlock=some g->g<A2
 a1:w.heap.size<=A1
 a2:A1<=A2
 wl:wb<w.heap.size
section
variable {w v v' x : World} {wb A1 A2 : Nat} {l1 l2 : Value} {ns : List Int} {g0 g1 g2 : Value} {es : List TE}
theorem qO{A:Nat}{l:Value}(h:v.ownsRow A 3 1 l ns.length (aL ns)){g:Nat}(b:l.ownBlock=some g):A<=g/\g<v.heap.size/\∃a,v.heap[g]? =some (.cells a 3 (0,0)):=by
 refine⟨(World.ownsRow.lt h g b).1,(World.ownsRow.lt h g b).2, ?_⟩;rcases h.2 with⟨rfl,_⟩|⟨d,cap,a,rfl,_,c,_⟩
 ·cases b
 ·cases b;exact⟨a,c⟩
theorem NG.sep(h:NG w wb A1 A2 l1 l2 ns v)(hb:nM w wb g0 g1 g2 es):∀e∈es,∀u∈Nr e,∀g,u.ownBlock=some g->l1.ownBlock≠some g:=λe a u f g b d=>by
 obtain⟨i,c⟩:=List.getElem?_of_mem a;have j:=((hb.each i e c).lt f b).2.1;have k:=(qO h.r1 d).1;have:=h.a1;omega
theorem NG.next(h:NG w wb A1 A2 l1 l2 ns v)(hb:nM w wb g0 g1 g2 es){f:TE}(n:∀u∈Nr f,∀g,u.ownBlock=some g->l1.ownBlock=some g\/v.heap.size<=g)(p:∀(q:Nat) (a:Array Value) (T:TypeId) (j:Nat × Nat),v.heap[q]? =some (.cells a T j)->T≠85->T≠40->l1.ownBlock≠some q->v'.heap[q]? =v.heap[q]?):
  v'.ownsRow A2 3 1 l2 ns.length (aL ns)/\∀e∈es++ [f],∀u∈Nr e,∀g,u.ownBlock=some g->l2.ownBlock≠some g:=by
 refine⟨aA h.r2 λg c=> ?_,λe b u d g c r=> ?_⟩
 ·obtain⟨k,_,a,s⟩:=qO h.r2 c;exact p g a _ _ s (by decide) (by decide) λe=>by have:=h.lt g e;omega
 ·obtain⟨k,t,_⟩:=qO h.r2 r;have l:=h.a1;have m:=h.a2;rcases List.mem_append.mp b with b|b
  ·obtain⟨i,o⟩:=List.getElem?_of_mem b;have:=((hb.each i e o).lt d c).2.1;omega
  ·rw[List.mem_singleton.mp b]at d;rcases n u d g c with h'|h'
   ·have:=h.lt g h';omega
   ·omega
theorem nM.move(h:nM v wb g0 g1 g2 es)(m:x.heap[wb]? =v.heap[wb]?)(k:∀(q:Nat) (a:Array Value) (d:Nat × Nat),v.heap[q]? =some (.cells a 85 d)->x.heap[q]? =v.heap[q]?)(l:∀e∈es,∀u∈Nr e,∀g,u.ownBlock=some g->x.heap[g]? =v.heap[g]?):nM x wb g0 g1 g2 es:=by
 obtain⟨b,o,n,f,j⟩:=h.row;exact⟨⟨b,o,n,m.trans f,gN j k⟩,λi e c=>(h.each i e c).move (l e (List.mem_of_getElem? c))⟩
end
theorem bZ.Tc{w0 w x:World}{g A:Nat}{C R X K B F:List Ln}(h:bZ w0 w g C R X K B F)(p:∀(q:Nat) (a:Array Value) (T:TypeId) (d:Nat × Nat),w.heap[q]? =some (.cells a T d)->T≠85->T≠40->(T=3->q<A)->x.heap[q]? =w.heap[q]?):bZ w0 x g C R X K B F:=by
 have b:dU w x [85,40,3]:=λq a T d r c=>by
  simp only[List.mem_cons,List.not_mem_nil,or_false,not_or]at c;exact p q a T d r c.1 c.2.1 λe=>absurd e c.2.2
 obtain⟨s,u,v,vk,vb,t,i,f,j,k,l,m,n,o⟩:=h;exact⟨s,u,v,vk,vb,t,i,(b _ _ _ _ f (by decide)).trans f,j.eQ b (by decide) (by decide),k.eQ b (by decide) (by decide),l.eQ b (by decide) (by decide),m.eQ b (by decide) (by decide),n.eQ b (by decide) (by decide),o.eQ b (by decide) (by decide)⟩
theorem nM.whole{v v':World}{wb:Nat}{g0 g1 g2:Value}{es:List TE}(h:nM v wb g0 g1 g2 es)(b:dU v v' KV):nM v' wb g0 g1 g2 es:=by
 obtain⟨o,r,p,n,_⟩:=h.row;refine h.move (b _ _ _ _ n (by decide)) (λq a c k=>b q a _ c k (by decide)) λe d u m g f=> ?_;obtain⟨i,j⟩:=List.getElem?_of_mem d;obtain⟨_,_,a,l⟩:=(h.each i e j).lt m f;exact b g a _ _ l (by decide)
theorem Lg(w0 w:World)(wb b c n gc:Nat)(g1 g2:Value)(es:List TE)(h:jJ w0 w wb (some ⟨b,c,none⟩) n gc g1 g2 es)(l7:es.length<=3000000)(hn:0<n)(e0:b<w0.heap.size)(g8:jg w0 b c n)
  (x y:Int) (k3: -9223372036854775808<=x) (k4:x<=9223372036854775807) (I J:Bs) (lo:Option Addr) (ln lc:Nat):
  Calls prog 13 #[.pointer (some ⟨wb,0,none⟩),.agg #[.int .i64 5,.int .i64 x,.int .i64 y,.string (aa I),.string (aa J),.slice lo ln lc]] w λe w'=>wF w wb (.slice (some ⟨b,c,none⟩) n gc) g1 g2 es e w':=by
 have j9:=h.small;have hk:=Pp x n hn;obtain⟨k,e4⟩:∃k,k=wW x n:=⟨_,rfl⟩;have e7:∀W:World,Calls prog 24 #[.int .i64 x,.int .i64 (n:Int)] W λe w'=>e=.returned (.int .i64 (k:Int))/\w'=W:=by
  intro W;rw[e4];exact Pq x n W k3 k4 hn j9
 rw[<-e4]at hk;obtain⟨G,E,D,a,M,L,fs,ts,i7,i8,g7⟩:=g8 k hk;clear e4 g8;obtain⟨m7,m6,m5,c9,_⟩:=h.bk.row;have e6:=ai c9;have h4:w.cell? ⟨wb,0,none⟩=some (.slice (some ⟨b,c,none⟩) n gc):=(af c9).trans rfl;have h8:=h.lo;have j0:=h.mV.size;have h6:b<w.heap.size:=by omega
 have c1:=(h.mV.cell (p:=⟨b,_,none⟩) e0).trans i7;have c2:=(h.mV.cell (p:=⟨b,_,none⟩) e0).trans i8;obtain⟨W,P⟩:∃W,W=w.alloc (.cells #[.int .i64 5,.int .i64 x,.int .i64 y,.string (aa I),.string (aa J),.slice lo ln lc] 44):=⟨_,rfl⟩;have b8:Hid (w.alloc (.cells #[.int .i64 5,.int .i64 x,.int .i64 y,.string (aa I),.string (aa J),.slice lo ln lc] 44)=W):=P.symm;have z:Below w.heap.size w W:=by rw[P];exact ae w _
 have a8:W.heap[w.heap.size]? =some (.cells #[.int .i64 5,.int .i64 x,.int .i64 y,.string (aa I),.string (aa J),.slice lo ln lc] 44 (0,0)):=by rw[P];exact heap_alloc_new w _
 have j8:W.heap.size=w.heap.size+1:=by rw[P];simp[size_alloc]
 clear P;have i6:=aC a8;have o1:W.cell? ⟨w.heap.size,1,none⟩=some (.int .i64 x):=(af a8).trans rfl;have g0:W.cell? ⟨wb,0,none⟩=some (.slice (some ⟨b,c,none⟩) n gc):=(z.cell (p:=⟨wb,0,none⟩) e6).trans h4;have q0:W.cell? ⟨b,c+k*2,none⟩=some (.slice G E D):=(z.cell (p:=⟨b,_,none⟩) h6).trans c1;have q1:W.cell? ⟨b,c+k*2+1,none⟩=some (.slice a M L):=(z.cell (p:=⟨b,_,none⟩) h6).trans c2;have j1:wb<W.heap.size:=by omega
 have h5:b<W.heap.size:=by omega
 have d:Hid _:=g7;have HH:Hid _:=h;have l9:((n:Int)==0)=false:=by simp;omega
 have k7:¬(n:Int)=0:=by omega
 clear i7 i8 g7 h c9 c1 c2 e0;go_enter Tryz.func13,Tryz.ntmps13;go_upto_region 3 with fail
 rw[b8.out];clear b8;go_cut [5] (λs5 wx=>∃j,s5=.pointer (some ⟨j,0,none⟩)/\Below W.heap.size W wx/\W.heap.size<=j/\wx.heap[j]? =some (.cells #[.slice G E D,.slice a M L] 67 (0,0)))
 case first=>
  have i3:=new_ne W ⟨wb,0,none⟩ g0;have i4:=new_ne W ⟨w.heap.size,1,none⟩ o1;have i5:=new_ne W ⟨b,c+k*2,none⟩ q0;dsimp only at i3 i4 i5
  go_region_held2 (λv=>v.cell? ⟨wb,0,none⟩=some (.slice (some ⟨b,c,none⟩) n gc)/\v.cell? ⟨w.heap.size,1,none⟩=some (.int .i64 x)/\v.cell? ⟨b,c+k*2,none⟩=some (.slice G E D)/\v.cell? ⟨b,c+k*2+1,none⟩=some (.slice a M L)) (go_keep) (first|(go_at_call 24;refine(e7 _).mono ?_;rintro e w6 ⟨rfl,rfl⟩))
  all_goals(go_wp2_with fail;go_meet)
  all_goals exact⟨W.heap.size,by rw[j8],by first|exact(ae W _).drew|exact ae W _,le_refl _,heap_alloc_new W _⟩
 case rest=>
  obtain⟨j,rfl,c8,l4,r⟩:=hcut;generalize k1:wc=w1 at*;clear k1 o1 g0 q0 q1 j1 h5 e7 h4;have B1:Below w.heap.size w w1:=z.trans (c8.mono z.size);have s:=(c8.block _ i6).trans a8;obtain⟨w2,b3⟩:∃w2,w2=w1.alloc (.cells #[.slice none 0 0,.slice none 0 0,.slice none 0 0,.slice none 0 0,.slice none 0 0,.slice none 0 0,.slice none 0 0,.slice none 0 0,.slice none 0 0] 118):=⟨_,rfl⟩;have b6:Hid (w1.alloc (.cells #[.slice none 0 0,.slice none 0 0,.slice none 0 0,.slice none 0 0,.slice none 0 0,.slice none 0 0,.slice none 0 0,.slice none 0 0,.slice none 0 0] 118)=w2):=b3.symm;have a7:Below w1.heap.size w1 w2:=by rw[b3];exact ae w1 _
  have h9:w2.heap[w1.heap.size]? =some (.cells #[.slice none 0 0,.slice none 0 0,.slice none 0 0,.slice none 0 0,.slice none 0 0,.slice none 0 0,.slice none 0 0,.slice none 0 0,.slice none 0 0] 118 (0,0)):=by rw[b3];exact heap_alloc_new w1 _
  clear b3;have B2:Below w.heap.size w w2:=B1.trans (a7.mono B1.size);have m1:=B1.size;have m:=(a7.block j (aC r)).trans r;have c0:=(a7.block _ (aC s)).trans s;obtain⟨dS,c6,c7,g9,h0⟩:=d.out.dS;have HB:=zY w0 w2 w1.heap.size (Ja h9) (HH.out.mV.trans (B2.mono j0)) (by omega) G E D (kK fs) d.out.Vl a M L dS d.out.VY d.out.VD c6 c7;have b0:w2.cell? ⟨j,0,none⟩=some (.slice G E D):=(af m).trans rfl;have b1:w2.cell? ⟨j,1,none⟩=some (.slice a M L):=(af m).trans rfl;have e3:=aC m;have l5:j<w1.heap.size:=aC r;have m0:w.heap.size<w1.heap.size:=aC s;generalize k6:w1.heap.size=mb at*;clear s r;go_upto_region 5 with fail
  rw[b6.out];clear b6
  go_wp2_with(go_at_call 25;refine HB.mono ?_)
  clear HB;rintro e N ⟨f,fn',fc',bo,bn,bc,C,R,X,K,B,F,rfl,⟨hlens,hLo⟩,hfl,hbl',hb3⟩;have B3:Below w.heap.size w N:=B2.trans (hb3.mono (by omega));have S:N.heap[j]? =some (.cells #[.slice G E D,.slice a M L] 67 (0,0)):=(hb3.block j (by omega)).trans m;have a0:=(hb3.block w.heap.size (by omega)).trans c0;have k8:mb<N.heap.size:=by obtain⟨_,_,_,_,_,_,_,h,_⟩:=hLo;exact aC h
  obtain⟨w4,b4⟩:∃w4,w4=N.alloc (.cells #[.slice f fn' fc',.slice bo bn bc] 67):=⟨_,rfl⟩;have b7:Hid (N.alloc (.cells #[.slice f fn' fc',.slice bo bn bc] 67)=w4):=b4.symm;have Q:Below N.heap.size N w4:=by rw[b4];exact ae N _
  have h7:w4.heap[N.heap.size]? =some (.cells #[.slice f fn' fc',.slice bo bn bc] 67 (0,0)):=by rw[b4];exact heap_alloc_new N _
  clear b4;have B4:Below w.heap.size w w4:=B3.trans (Q.mono B3.size);have S4:UE w0 w w.heap.size j N.heap.size mb #[.int .i64 5,.int .i64 x,.int .i64 y,.string (aa I),.string (aa J),.slice lo ln lc] (.slice G E D) (.slice a M L) (.slice f fn' fc') (.slice bo bn bc) C R X K B F w4:=⟨B4,⟨(Q.block _ (aC a0)).trans a0,(Q.block j (aC S)).trans S,h7⟩,hLo.ag Q⟩;generalize l8:N.heap.size=ib at*;have m2:=S4.low.size;have a1:∀ {v:World},Below w.heap.size w v->Below w0.heap.size w0 v:=λhv=>HH.out.mV.trans (hv.mono j0);obtain⟨oc,e5⟩:∃oc:Array Value,oc= #[.int .i64 5,.int .i64 x,.int .i64 y,.string (aa I),.string (aa J),.slice lo ln lc]:=⟨_,rfl⟩;obtain⟨t,a9⟩:∃t,t=tK fs ts I J:=⟨_,rfl⟩;rw[<-e5]at S4;have A:t.1.length<=1000:=by rw[a9];exact PO
  have c5:∀v:World,UE w0 w w.heap.size j ib mb oc (.slice G E D) (.slice a M L) (.slice f fn' fc') (.slice bo bn bc) C R X K B F v->Calls prog 35 #[.agg #[.slice f fn' fc',.slice bo bn bc],.string (aa I),.string (aa J)] v λe w'=>BG v t e w':=λv H=>by
   rw[a9];have hF:=H.lo;obtain⟨_,_,_,_,_,_,_,_,_,_,_,_,_,hF⟩:=hF;exact RP v fs f fn' fc' (IZ hF.each hfl d.out.texts) ts bo bn bc (Mk H.lo hbl' d.out.Uu c6 c7 g9 h0) I J
  have e8:∀v:World,Below w.heap.size w v->Calls prog 36 #[.agg #[.slice G E D,.slice a M L],.string (aa I),.string (aa J)] v λe w'=>BG v t e w':=λv hv=>by
   rw[a9];exact Jl v fs G E D (d.out.texts.ag (a1 hv)) d.out.args ts a M L (d.out.Uu.ag (a1 hv)) I J
  have a4:∀ {v:World},UE w0 w w.heap.size j ib mb oc (.slice G E D) (.slice a M L) (.slice f fn' fc') (.slice bo bn bc) C R X K B F v->(v.cell? ⟨w.heap.size,0,none⟩=some (.int .i64 5)/\v.cell? ⟨w.heap.size,3,none⟩=some (.string (aa I))/\v.cell? ⟨w.heap.size,4,none⟩=some (.string (aa J)))/\(v.cell? ⟨j,0,none⟩=some (.slice G E D)/\v.cell? ⟨j,1,none⟩=some (.slice a M L))/\(v.cell? ⟨ib,0,none⟩=some (.slice f fn' fc')/\v.cell? ⟨ib,1,none⟩=some (.slice bo bn bc))/\w.heap.size<v.heap.size/\j<v.heap.size/\ib<v.heap.size/\wb<v.heap.size:=fun {v} H=>by
   have h1:=H.bf.op;rw[e5]at h1;have hz:=H.low.size;exact⟨⟨(af h1).trans rfl,(af h1).trans rfl,(af h1).trans rfl⟩,⟨(af H.bf.b).trans rfl,(af H.bf.b).trans rfl⟩,⟨(af H.bf.i).trans rfl,(af H.bf.i).trans rfl⟩,ai H.bf.op,ai H.bf.b,ai H.bf.i,by omega⟩
  have j4:Hid _:=hlens;clear hLo hlens hfl hbl' hb3 S a0 m c0 b0 b1 e3 h9 c8 a7 h7 Q B4 B3 B2 B1 c6 c7 g9 h0 d a9 e5 a8 i6 z;obtain⟨⟨o0,o3,o4⟩,⟨b0,b1⟩,⟨i0,i1⟩,U,V,Y,Z⟩:=a4 S4;go_upto_region 7 with fail
  rw[b7.out];clear b7;go_upto_region 27 with(go_at_call 35;refine(c5 _ S4).mono ?_;rintro e w5 ⟨a3,sn1,sc1,rfl,hr1,hb5⟩)
  clear o0 o3 o4 b0 b1 i0 i1 U V Y Z;have S5:=S4.ag hb5;obtain⟨⟨o0,o3,o4⟩,⟨b0,b1⟩,⟨i0,i1⟩,U,V,Y,Z⟩:=a4 S5;have m3:=hb5.size;go_upto_region 28 with(go_at_call 35;refine(c5 _ S5).mono ?_;rintro e w6 ⟨b5,sn2,sc2,rfl,hr2,hb6⟩)
  clear o0 o3 o4 b0 b1 i0 i1 U V Y Z;have S6:=S5.ag hb6;obtain⟨⟨o0,o3,o4⟩,⟨b0,b1⟩,⟨i0,i1⟩,U,V,Y,Z⟩:=a4 S6;have k2:=hb6.size;go_upto_region 29 with(go_at_call 36;refine(e8 _ S6.low).mono ?_;rintro e w7 ⟨j2,sn3,sc3,rfl,hr3,hb7⟩)
  clear o0 o3 o4 b0 b1 i0 i1 U V Y Z;have S7:=S6.ag hb7;have m4:=hb7.size;have b9:=hb6.trans (hb7.mono k2);have O1:w7.ownsRow w4.heap.size 3 1 (.slice a3 sn1 sc1) t.1.length (aL t.1):=aA hr1 λg hg=>b9.block g (World.ownsRow.lt hr1 g hg).2;have O2:w7.ownsRow w5.heap.size 3 1 (.slice b5 sn2 sc2) t.1.length (aL t.1):=aA hr2 λg hg=>hb7.block g (World.ownsRow.lt hr2 g hg).2;have j6:∀g,(Value.slice a3 sn1 sc1).ownBlock=some g->g<w5.heap.size:=λg hg=>(World.ownsRow.lt hr1 g hg).2;have e9:∀y:World,Below w7.heap.size w7 y->Calls prog 37 #[.slice a3 sn1 sc1,.slice j2 sn3 sc3] y λe w'=>e=.returned (.bool true)/\Below y.heap.size y w':=λy hy=>xu y _ _ t.1 ((jr O1 A).ag hy) ((jr hr3 A).ag hy);have g4:∀y:World,Below w7.heap.size w7 y->Calls prog 37 #[.slice b5 sn2 sc2,.slice j2 sn3 sc3] y λe w'=>e=.returned (.bool true)/\Below y.heap.size y w':=λy hy=>xu y _ _ t.1 ((jr O2 A).ag hy) ((jr hr3 A).ag hy);have c3:Hid _:=O1;have c4:Hid _:=O2;have g5:Hid _:=S7;clear S4 S5 S6 S7 O1 O2 hr1 hr2 hr3 b9 hb5 hb6 hb7 c5 e8 a4;go_upto_region 32 with(first
   |(go_at_call 37;refine(e9 w7 (Below.refl _ _)).mono ?_;clear e9;rintro e m8 ⟨rfl,hb12⟩)
   |(go_at_call 37;refine(g4 _ hb12).mono ?_;clear g4;rintro e m9 ⟨rfl,hb13⟩;have l:=hb12.trans (hb13.mono hb12.size))
   |(go_at_call 12;refine(Rq _ _).mono ?_;rintro e wz ⟨rfl,rfl⟩))
  have a6:=g5.out.ag l;have TW:NG w wb w4.heap.size w5.heap.size (.slice a3 sn1 sc1) (.slice b5 sn2 sc2) t.1 _:=⟨aA c3.out λg hg=>l.block g (World.ownsRow.lt c3.out g hg).2,aA c4.out λg hg=>l.block g (World.ownsRow.lt c4.out g hg).2,j6,by omega,by omega,e6⟩;have k9:=a6.low.size;have l0:=l.size;have K1:=uF _ wb _ _ _ es (HH.out.bk.ag a6.low) (by omega) a3 sn1 sc1 t.1 (qP TW.r1 (by omega)) A (TW.sep HH.out.bk);have a5:Hid _:=TW;have o:Hid _:=a6;clear TW a6 l hb13 hb12 c3 c4 g5;go_upto_region 33 with(go_at_call 38;refine K1.mono ?_;rintro e k5 ⟨rfl,e1,hbk15,hf15,hB15,hk15⟩)
  clear K1;obtain⟨i9,b2⟩:=a5.out.next HH.out.bk hf15 hk15;have K2:=uF k5 wb _ _ _ (es++ [e1]) hbk15 (by rw[List.length_append,List.length_singleton];omega) b5 sn2 sc2 t.1 (qP i9 (by omega)) A b2;go_upto_region 34 with(go_at_call 38;refine K2.mono ?_;rintro e j3 ⟨rfl,e2,hbk16,hf16,hB16,hk16⟩)
  clear K2;have i2:∀(q:Nat) (u:Array Value) (T:TypeId) (fz:Nat × Nat),wz.heap[q]? =some (.cells u T fz)->T≠85->T≠40->(T=3->q<w4.heap.size)->j3.heap[q]? =wz.heap[q]? :=λq u T fz hq h1 h2 h3=>by
   have f1:=hk15 q u T fz hq h1 h2 λe=>by
    obtain⟨g1,_,c',g3⟩:=qO a5.out.r1 e;rw[hq]at g3;cases g3;have:=h3 rfl;omega
   refine(hk16 q u T fz (f1.trans hq) h1 h2 λe=> ?_).trans f1;obtain⟨g1,_,c',g3⟩:=qO a5.out.r2 e;rw[hq]at g3;cases g3;have:=h3 rfl;have:=a5.out.a2;omega
  have O:=o.out.lo.Tc i2;have WH:=yQ w0 j3 mb C R X K B F O j4.out.2 (((a1 o.out.low).trans (hB15.mono h8)).trans (hB16.mono h8)) (by omega);clear O
  go_wp2_with(go_at_call 39;refine WH.mono ?_;rintro e n0 ⟨rfl,hB17,hk17,hs17⟩)
  go_ret;have k0:=hB15.size;refine⟨rfl,(((o.out.low.mono (le_of_lt e6)).trans hB15).trans hB16).trans (hB17.mono (by omega)),λq u T fz hq h1 h2=> ?_,es++ [e1]++ [e2],by simp,hbk16.whole hk17⟩;have j7:=aC hq;have g6:=o.out.low.block q j7;have j5:=i2 q u T fz (g6.trans hq) h1 h2 λ_=>by omega
  exact(hB17.block q (by omega)).trans (j5.trans g6)
theorem zM.move{w x:World}{b a n:Nat}(h:zM w b a n)(hb:x.heap[b]? =w.heap[b]?):zM x b a n:=by
 intro i p;obtain⟨k,y,z,s,t,lo,r,q,d,e,f,g,l,m,o⟩:=h i p;have c:∀j,x.cell? ⟨b,j,none⟩=w.cell? ⟨b,j,none⟩:=λj=>World.cell?_of_block hb;exact⟨k,y,z,s,t,lo,r,q,(c _).trans d,(c _).trans e,(c _).trans f,(c _).trans g,(c _).trans l,(c _).trans m,o⟩
theorem Mx(w:World):Calls prog 7 #[] w λe w'=>e=.returned (.slice (some ⟨w.heap.size+1,0,none⟩) 9 9)/\Below w.heap.size w w'/\(∃cs,w'.heap[w.heap.size+1]? =some (.cells cs 44 (0,0)))/\zM w' (w.heap.size+1) 0 9:=by
 go_enter Tryz.func7,Tryz.ntmps7
 go_wp2_with fail
 go_ret;refine⟨rfl,az w _ _,⟨_,(rM w _ _).1.2⟩, ?_⟩;refine Pj (w.alloc _) _ _ (by simp[size_alloc]) λi a=> ?_
 match i,a with
 |0,_|1,_|2,_|3,_|4,_|5,_|6,_|7,_|8,_=>exact⟨_,_,_,_,_,_,_,_,rfl,rfl,rfl,rfl,rfl,rfl,by decide,by decide⟩
theorem JA{w w':World}{wb:Nat}{g0 g1 g2:Value}{es:List TE}(h:nM w wb g0 g1 g2 es){e:Ending}(b:e=.returned (.bool true))(hb:Below w.heap.size w w'):wF w wb g0 g1 g2 es e w':=by
 obtain⟨_,_,_,a,_⟩:=h.row;exact⟨b,hb.mono (le_of_lt (ai a)),gF hb _ _,es,by omega,h.ag hb⟩
theorem wF.pre{w x w':World}{wb:Nat}{g0 g1 g2:Value}{es:List TE}{e:Ending}(h:nM w wb g0 g1 g2 es)(hb:Below w.heap.size w x)(p:wF x wb g0 g1 g2 es e w'):wF w wb g0 g1 g2 es e w':=by
 obtain⟨_,_,_,j,_⟩:=h.row;obtain⟨o,k,l,d,m,n⟩:=p;refine⟨o,(hb.mono (le_of_lt (ai j))).trans k,λq c T i g a b=> ?_,d,m,n⟩;have f:=hb.block q (aC g);exact(l q c T i (f.trans g) a b).trans f
theorem QK{w0 w:World}{wb:Nat}{a0:Option Addr}{c a:Nat}{g1 g2:Value}{es:List TE}(h:jJ w0 w wb a0 c a g1 g2 es)(g:es.length<=3000000)(x y:Int)(j: -9223372036854775808<=x)(k:x<=9223372036854775807)(s t:ByteArray)(lo:Option Addr)(m l:Nat):
  Calls prog 13 #[.pointer (some ⟨wb,0,none⟩),.agg #[.int .i64 5,.int .i64 x,.int .i64 y,.string s,.string t,.slice lo m l]] w λe w'=>wF w wb (.slice a0 c a) g1 g2 es e w':=by
 obtain⟨_,_,_,r,_⟩:=h.bk.row;have i:=ai r;have v:w.cell? ⟨wb,0,none⟩=some (.slice a0 c a):=(af r).trans rfl;by_cases q:c=0
 ·subst q;exact(Ig w wb (.slice a0 0 a) a (.inr ⟨a0,rfl⟩) v i 5 x y s t lo m l).mono λe w' ⟨u,hb⟩=>JA h.bk u hb
 obtain⟨b,n,rfl,f,d⟩:=h.Sy.resolve_left q;obtain⟨o,rfl⟩:∃o,s=aa o:=⟨s.toList,oq s⟩;obtain⟨p,rfl⟩:∃p,t=aa p:=⟨t.toList,oq t⟩;exact Lg w0 w wb b n c a g1 g2 es h g (by omega) f d x y j k o p lo m l
theorem PV{w0 w:World}{wb:Nat}{a0:Option Addr}{j i:Nat}{g1 g2:Value}{es:List TE}(h:jJ w0 w wb a0 j i g1 g2 es)(b:es.length<=3000000)(x y:Int)(c: -9223372036854775808<=x)(d:x<=9223372036854775807)(s t:ByteArray)(lo:Option Addr)(g f:Nat):
  Calls prog 8 #[.pointer (some ⟨wb,0,none⟩),.agg #[.int .i64 5,.int .i64 x,.int .i64 y,.string s,.string t,.slice lo g f]] w λe w'=>wF w wb (.slice a0 j i) g1 g2 es e w':=by
 have a:=ae w (.cells #[.int .i64 5,.int .i64 x,.int .i64 y,.string s,.string t,.slice lo g f] 44);have k:=QK (h.ag a) b x y c d s t lo g f;have l:Hid _:=h.bk;clear h;go_enter Tryz.func8,Tryz.ntmps8
 go_wp2_with(go_at_call 13;refine k.mono ?_;rintro e w2 ⟨rfl,h2⟩)
 go_ret;exact wF.pre l.out a ⟨rfl,h2⟩
theorem JZ{w:World}{wb:Nat}{g0 g1 g2:Value}(h:w.heap[wb]? =some (.cells #[g0,g1,g2,.slice none 0 0,.slice none 0 0,.slice none 0 0,.slice none 0 0,.slice none 0 0] 40 (0,0))):nM w wb g0 g1 g2 []:=
 ⟨⟨none,0,0,h,World.ownsRow_nil _ _ _ _⟩,λi e a=>by simp at a⟩
theorem Je(w:World)(a0 a1 a2 Q:Option Addr)(o q l1 r l2 u n cap:Nat)(hn:n<=1048576)(V:o<=1048576)(I:o=0\/∃b c,a0=some ⟨b,c,none⟩/\b<w.heap.size/\jg w b c o)(m:n=0\/∃b c,Q=some ⟨b,c,none⟩/\b<w.heap.size/\zM w b c n):
  Calls prog 5 #[.agg #[.slice a0 o q,.slice a1 l1 r,.slice a2 l2 u],.slice Q n cap,.int .i64 5,.int .i64 5] w λe w'=>e=.returned (.bool true)/\Below w.heap.size w w':=by
 have L:Hid _:=I;clear I;go_enter Tryz.func5,Tryz.ntmps5
 go_wp2_with(first
  |(go_at_call 6;refine(Ra _).mono ?_;rintro e w2 ⟨rfl,hb2,f,hbs2⟩)
  |(go_at_call 7;refine(Mx _).mono ?_;rintro e w3 ⟨rfl,hb3,⟨ocs,hoc3⟩,hops3⟩))
 have K:Below w.heap.size w w2:=((Below.refl _ w).alloc (le_refl _) _).trans (hb2.mono (by simp[size_alloc]));have Y:=hb2.size;have Z:=hb3.size;simp only[size_alloc]at hoc3 hops3 Y Z f hbs2;have G:jJ w2 (w2.alloc (.cells #[.slice (some ⟨w.heap.size+1+16,0,none⟩) 2 2,.slice (some ⟨w.heap.size+1+17,0,none⟩) 1 1,.slice (some ⟨w.heap.size+1+19,0,none⟩) 1 1,.slice none 0 0,.slice none 0 0,.slice none 0 0,.slice none 0 0,.slice none 0 0] 40)) w2.heap.size (some ⟨w.heap.size+1+16,0,none⟩) 2 2 (.slice (some ⟨w.heap.size+1+17,0,none⟩) 1 1) (.slice (some ⟨w.heap.size+1+19,0,none⟩) 1 1) []:=
  ⟨le_refl _,ae w2 _,JZ (heap_alloc_new w2 _),by omega,.inr ⟨_,_,rfl,f,hbs2⟩⟩
 have v:=G.ag hb3;have B3:Below w.heap.size w w3:=(K.alloc K.size _).trans (hb3.mono (by simp[size_alloc];omega));have R:w3.heap[w.heap.size]? =some (.cells #[.slice a0 o q,.slice a1 l1 r,.slice a2 l2 u] 26 (0,0)):=
  (hb3.block _ (by simp[size_alloc];omega)).trans ((Below.heap_alloc _ _ _ (by omega)).trans ((hb2.block _ (by simp[size_alloc])).trans (heap_alloc_new w _)))
 clear hb2 hb3 K G hbs2 f;go_loopw [11] (λB wr=>∃(i:Nat) (es:List TE),i<=9/\B=.int .i64 i/\es.length<=2*i/\jJ w2 wr w2.heap.size (some ⟨w.heap.size+1+16,0,none⟩) 2 2 (.slice (some ⟨w.heap.size+1+17,0,none⟩) 1 1) (.slice (some ⟨w.heap.size+1+19,0,none⟩) 1 1) es/\Below w2.heap.size w3 wr/\wr.heap[w2.heap.size+1+1]? =some (.cells ocs 44 (0,0))) (λB _=>9- (intOf B).toNat)
 case atStart=>exact⟨0,[],by omega,rfl,by simp,v,Below.refl _ _,hoc3⟩
 case round=>
  obtain⟨i,es,hi,rfl,a6,l,g,a⟩:=hrel;have T:=g.size;have a8:=aC a;by_cases X:i<9
  ·clear m R;obtain⟨k,x,y,s,t,lo,ln,lc,q0,q1,q2,q3,q4,q5,z,A⟩:=(hops3.move (a.trans hoc3.symm)) i X;simp only[Nat.zero_add]at q0 q1 q2 q3 q4 q5;clear hops3 v;by_cases U:k=5
   ·subst U;have M:=PV l (by omega) x y z A s t lo ln lc;have N:Hid _:=l;clear l
    go_wp2_with(go_at_call 8;refine M.mono ?_;rintro e w4 ⟨rfl,hb4,hk4,es',hl4,hbk4⟩)
    go_roundw
    case rel=>exact⟨i+1,es',by omega,by go_num,by omega,N.out.next hb4 hbk4,g.trans hb4,(hk4 _ _ _ _ a (by decide) (by decide)).trans a⟩
    case measure=>simp[intOf];omega
   ·have j:k<5\/5<k:=by omega
    rcases j with j|j
    ·go_wp2_with fail
     go_roundw
     case rel=>exact⟨i+1,es,by omega,by go_num,by omega,l,g,a⟩
     case measure=>simp[intOf];omega
    ·go_wp2_with fail
     go_roundw
     case rel=>exact⟨i+1,es,by omega,by go_num,by omega,l,g,a⟩
     case measure=>simp[intOf];omega
  ·generalize a3:wr=wq at*;clear a3;have p:=(g.block _ (by omega)).trans R;have z0:wq.cell? ⟨w.heap.size,0,none⟩=some (.slice a0 o q):=(uw p).trans rfl;have z1:wq.cell? ⟨w.heap.size,1,none⟩=some (.slice a1 l1 r):=(uw p).trans rfl;have z2:wq.cell? ⟨w.heap.size,2,none⟩=some (.slice a2 l2 u):=(uw p).trans rfl;have C:Below w.heap.size w wq:=B3.trans (g.mono (by omega));clear hops3 g R p B3 v l a hoc3;obtain⟨W,J⟩:∃W,W=wq.alloc (.cells #[.slice a0 o q,.slice a1 l1 r,.slice a2 l2 u,.slice none 0 0,.slice none 0 0,.slice none 0 0,.slice none 0 0,.slice none 0 0] 40):=⟨_,rfl⟩;have H:jJ wq W wq.heap.size a0 o q (.slice a1 l1 r) (.slice a2 l2 u) []:=by
    refine⟨le_refl _,by rw[J];exact ae wq _,JZ (by rw[J];exact heap_alloc_new wq _),V, ?_⟩;rcases L.out with h|⟨b,c,e,hl,hB⟩
    ·exact .inl h
    ·exact .inr ⟨b,c,e,by have:=C.size;omega,hB.ag C hl⟩
   have D:∀P:World->Prop,P W->P (wq.alloc (.cells #[.slice a0 o q,.slice a1 l1 r,.slice a2 l2 u,.slice none 0 0,.slice none 0 0,.slice none 0 0,.slice none 0 0,.slice none 0 0] 40)):=by intro P h;rw[<-J];exact h
   clear J
   go_wp2_with fail
   go_loopw [14] (λB wx=>∃(i:Nat) (es:List TE),i<=n/\B=.int .i64 i/\es.length<=2*i/\jJ wq wx wq.heap.size a0 o q (.slice a1 l1 r) (.slice a2 l2 u) es) (λB _=>n- (intOf B).toNat)
   case atStart=>exact⟨0,[],Nat.zero_le _,rfl,by simp,D (λx=>jJ wq x wq.heap.size a0 o q (.slice a1 l1 r) (.slice a2 l2 u) []) H⟩
   case round=>
    clear z0 z1 z2 D H;obtain⟨i2,E,a7,rfl,a4,d⟩:=hrel;have a5:=d.mV.size;have F:=C.size;by_cases f:i2<n
    ·obtain⟨b,c,rfl,S,hO⟩:∃b c,Q=some ⟨b,c,none⟩/\b<w.heap.size/\zM w b c n:=by
      rcases m with h|h
      ·omega
      ·exact h
     obtain⟨k,x,y,s,t,lo,ln,lc,q0,q1,q2,q3,q4,q5,z,A⟩:=(hO.move ((d.mV.block b (by omega)).trans (C.block b S))) i2 f;have T:b<wr.heap.size:=by omega
     clear m hO;by_cases U:k=5
     ·subst U;have M:=PV d (by omega) x y z A s t lo ln lc;have O:Hid _:=d;clear d
      go_wp2_with(first
       |(go_at_call 8;refine M.mono ?_;rintro e w4 ⟨rfl,hb4,hk4,es',hl4,hbk4⟩)
       |(go_at_call 9;refine(xG w4 _ _ _ _ es' hbk4 (by omega)).mono ?_;rintro e w5 ⟨rfl,hb5⟩))
      go_roundw
      case rel=>exact⟨i2+1,es',by omega,by go_num,by omega,(O.out.next hb4 hbk4).ag hb5⟩
      case measure=>simp[intOf];omega
     ·have j:k<5\/5<k:=by omega
      rcases j with j|j
      ·go_wp2_with fail
       go_roundw
       case rel=>exact⟨i2+1,E,by omega,by go_num,by omega,d⟩
       case measure=>simp[intOf];omega
      ·go_wp2_with fail
       go_roundw
       case rel=>exact⟨i2+1,E,by omega,by go_num,by omega,d⟩
       case measure=>simp[intOf];omega
    ·have BF:=C.trans (d.mV.mono F);clear d
     go_wp2_with fail
     go_ret;exact⟨rfl,BF⟩
theorem MQ(w:World)(a0 a1 a2 l:Option Addr)(f i l1 j l2 k n cap:Nat)(p:n<=1048576)(m:f<=1048576)(g:f=0\/∃b a,a0=some ⟨b,a,none⟩/\b<w.heap.size/\jg w b a f)(d:n=0\/∃b a,l=some ⟨b,a,none⟩/\b<w.heap.size/\zM w b a n):
  Calls prog 4 #[.agg #[.slice a0 f i,.slice a1 l1 j,.slice a2 l2 k],.slice l n cap] w λe w'=>e=.returned (.bool true)/\Below w.heap.size w w':=by
 have c:=ae w (.cells #[.slice a0 f i,.slice a1 l1 j,.slice a2 l2 k] 26);have o:=Je (w.alloc (.cells #[.slice a0 f i,.slice a1 l1 j,.slice a2 l2 k] 26)) a0 a1 a2 l f i l1 j l2 k n cap p m (by
  rcases g with h|⟨b,a,h1,h2,h3⟩
  ·exact .inl h
  ·exact .inr ⟨b,a,h1,by have:=c.size;omega,h3.ag c h2⟩) (by
  rcases d with h|⟨b,a,h1,h2,h3⟩
  ·exact .inl h
  ·exact .inr ⟨b,a,h1,by have:=c.size;omega,h3.move (c.block b h2)⟩)
 clear g d;go_enter Tryz.func4,Tryz.ntmps4
 go_wp2_with(go_at_call 5;refine o.mono ?_;rintro e w2 ⟨rfl,hb2⟩)
 go_ret;exact⟨rfl,c.trans (hb2.mono c.size)⟩
end Go.Proofs.YtdifpeaklamhnaaGreatDoor

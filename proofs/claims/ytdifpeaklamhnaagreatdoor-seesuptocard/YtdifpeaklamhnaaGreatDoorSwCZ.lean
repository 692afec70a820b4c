import Derived.Test.YtdifpeaklamhnaaGreatDoorRvQZ
import Derived.Test.YtdifpeaklamhnaaGreatDoorRsFZ
import Derived.Test.YtdifpeaklamhnaaGreatDoorSeD
set_option linter.unusedVariables false
set_option linter.unusedSimpArgs false
set_option maxRecDepth 100000
set_option maxHeartbeats 0
namespace Go.Proofs.YtdifpeaklamhnaaGreatDoor
open Go.Proofs.Tryz
open Go.RowKit
open World (size_drew size_alloc ownsRow_nil)
theorem rO{E:Nat}{y wo w7:World}{L:Obj}{O k J c n:Nat}{a:Option Addr}{x w:Nat}{T u:TypeId}{F d:List Value}{cs:Array Value}(K:wo.heap[O]? =some (.cells cs u (0,0)))(own:wo.ownsRow (O+1) T E (.slice a x w) n F)(l:Below O y wo)
  (b:(wo.alloc L).drew.grownBy w7 (Value.slice a x w).ownBlock) (f:w7.ownsRow (O+1) T E (.slice (some ⟨J,0,none⟩) (n+1) c) (n+1) (F++d)) (v:Value):
  w7.heap[O]? =some (.cells cs u (0,0))/\(w7.setCell ⟨O,k,none⟩ v).heap[O]? =some (.cells (cs.setIfInBounds k v) u (0,0))/\
  (w7.setCell ⟨O,k,none⟩ v).ownsRow (O+1) T E (.slice (some ⟨J,0,none⟩) (n+1) c) (n+1) (F++d)/\Below O y (w7.setCell ⟨O,k,none⟩ v)/\
  ∀(j:Nat) (t:TypeId) (v':Value) (m:Nat) (G:List Value),t≠T->wo.ownsRow (O+1) t j v' m G->(w7.setCell ⟨O,k,none⟩ v).ownsRow (O+1) t j v' m G:=by
 have A:=ai K;have B:=b.size;simp only[size_drew,size_alloc]at B;have D:(Value.slice a x w).ownBlock≠some O:=λe=>by have:=(own.lt _ e).1;omega
 have ag:∀g,g<wo.heap.size->(Value.slice a x w).ownBlock≠some g->w7.heap[g]? =wo.heap[g]? :=λg M N=>
  (b.block g (by simp only[size_drew,size_alloc];omega) (λe=>N e.symm)).trans (Below.heap_alloc _ _ _ M)
 have o:w7.heap[O]? =some (.cells cs u (0,0)):=(ag O A D).trans K;refine⟨o,by simp[World.setCell,Array.getElem?_modify,o],ownsRow_setCell_below f (by show O<O+1;omega) _, ?_,λj t v' m G P i=> ?_⟩
 ·suffices h:Below O y w7 from h.setCell (p:=⟨O,k,none⟩) (Nat.le_refl _) _
  refine⟨b.os.trans l.os,b.tape.trans l.tape,b.output.trans l.output,by have:=l.size;omega,λg Q=> ?_⟩;exact(ag g (by omega) (λe=>by have:=(own.lt _ e).1;omega)).trans (l.block g Q)
 ·refine ownsRow_setCell_below (aA i λq r=>ag q (i.lt q r).2 λe=> ?_) (by show O<O+1;omega) _;rcases own.2 with⟨h,_⟩|⟨g1,R,H,h,_,C,_⟩
  ·rw[h]at e;cases e
  ·rw[h]at e;cases e;rcases i.2 with⟨z,_⟩|⟨U,S,I,z,_,s,_⟩
   ·rw[z]at r;cases r
   ·rw[z]at r;cases r;rw[C]at s;cases s;exact P rfl
theorem xY{x:World}{b:Nat}{a0 a1 a2 a3 a4 a5:Value}{T:TypeId}(h:x.heap[b]? =some (.cells #[a0,a1,a2,a3,a4,a5] T (0,0))):(x.cell? ⟨b,0,none⟩=some a0/\x.cell? ⟨b,1,none⟩=some a1/\x.cell? ⟨b,2,none⟩=some a2/\x.cell? ⟨b,3,none⟩=some a3/\x.cell? ⟨b,4,none⟩=some a4/\x.cell? ⟨b,5,none⟩=some a5)/\x.frozen? ⟨b,2,none⟩=false/\x.frozen? ⟨b,3,none⟩=false:=by
 simp[World.cell?,World.frozen?,h]
theorem PW{w:World}{b n:Nat}{a:Option Addr}{d c:Nat}{xs:List Bs}(h:w.ownsRow b 9 1 (.slice a d c) n (xs.map λl=>Value.string (aa l)))(k:n=xs.length/\xs.length<=1000):eD w (.slice a d c) xs:=by
 obtain⟨e,m,f⟩:=rG h;refine⟨a,c,by rw[e,k.1],by unfold maxLen;omega, ?_⟩;rcases f with h|⟨g,rfl,_,hg,hc⟩
 ·exact .inl (List.length_eq_zero_iff.mp (by omega))
 ·exact .inr ⟨g,0,rfl,hg,λi l j=>by rw[Nat.zero_add];exact hc i _ (by rw[List.getElem?_map,j];rfl)⟩
def Sq(W:World)(O:Nat)(fv:Value)(user:Bs)(ax:List dL)(row:List aj)(i:Nat)(wr:World):Prop:=∃(a1:Option Addr) (n1 c1:Nat) (a2:Option Addr) (n2 c2:Nat),wr.heap[O]? =some (.cells #[fv,.string (aa user),.slice a1 n1 c1,.slice a2 n2 c2,.slice none 0 0,.int .i64 0] 232 (0,0))/\wr.ownsRow (O+1) 9 1 (.slice a1 n1 c1) i (Ho (ax.take i))/\wr.ownsRow (O+1) 56 3 (.slice a2 n2 c2) i (jK (row.take i))/\Below O W wr
structure Sr(w:World)(xb k n:Nat)(fo:Option Addr)(fnn fc:Nat)(r:iE)(row:List aj):Prop where
 base:∃tb tn tc pb pn pc,w.heap[xb]? =some (.cells #[.slice fo fnn fc,.slice (some ⟨tb,0,none⟩) tn tc,.slice (some ⟨pb,0,none⟩) pn pc] 200 (0,0))/\k<tn/\k<pn/\tb<w.heap.size/\pb<w.heap.size/\w.cell? ⟨tb,k*6+1,none⟩=some (.slice r.co r.cn r.cc)/\w.cell? ⟨tb,k*6+2,none⟩=some (.slice r.ro r.rn r.rc)/\w.cell? ⟨pb,k,none⟩=some (.slice (some ⟨r.g,0,none⟩) (post r.tr).length r.cap)
 ax:dM w (.slice r.co r.cn r.cc) r.t.ax
 rows:RowsIn w (.slice r.ro r.rn r.rc) r.t.rows
 row:r.t.rows[n]? =some row
 k4:k<4
theorem Gi(w:World)(V k n:Nat)(N:Option Addr)(m M:Nat)(z:List RF)(g0:jk w (.slice N m M) z)(hK:ug z)(r:iE)(row:List aj)(hS:Sr w V k n N m M r row)(hP:qw w r)(C:qx (RF.list z) (r.t,r.x))(f:Bs)(hu:f.length<=30):
  Calls prog 138 #[.pointer (some ⟨V,0,none⟩),.string (aa f),.int .i64 (k:Int),.int .i64 (n:Int)] w λe w'=>e=.returned (.bool (jQ (RF.list z) f r.x row))/\Below w.heap.size w w':=by
 obtain⟨i1,k2,j0,j1,j2⟩:=info_parts ER;obtain⟨i2,k3,j3,j4,c3⟩:=info_parts yM;have J:=List.mem_of_getElem? hS.row;obtain⟨v,c5,b2,k8⟩:=KC hK.tX C hu J;have S:=C.rows.2.2 row J;have j7:=C.rows.2.1;have h0:=C.rows.1;have c6:=Jo [114,111,119] S;have Q:row.length=r.t.ax.length:=by
  by_cases h:row.length=r.t.ax.length
  ·exact h
  ·have:=uU row r.t.ax h;rw[this]at S;cases S
 have T:=gZ r.t.ax [] (by have:=C.VU;simp only[bJ,Bool.and_eq_true]at this;have h:=this.1.1.1;unfold bG at h;rw[Bool.and_eq_true]at h;exact h.2);have h8:=(sM (by have:=C.VU;simp only[bJ,Bool.and_eq_true]at this;exact this.1.1.1)).2;have s:Hid (jQ (RF.list z) f r.x row=true↔v=aV true):=by rw[Hid,jQ,b2];exact beq_iff_eq
 obtain⟨sb,h7⟩:∃sb,sb=jQ (RF.list z) f r.x row:=⟨_,rfl⟩;rw[<-h7]at s ⊢;clear h7 b2;obtain⟨t,x,tr,g,a,co,cn,cc,ro,rn,rc,uo,un,uc⟩:=r;obtain⟨⟨tb,tn,tc,pb,pn,pc,Z,m6,m5,h9,k6,e7,e8,cp⟩,hC,hR,D,n4⟩:=hS;simp only at hP C hC hR D e7 e8 cp s c5 j7 h0 c6 Q T h8 J S ⊢;obtain⟨ao,cap,he,m4,k5,hz⟩:=hC
 cases he;obtain⟨n3,m2,he,g5,i4⟩:=hR
 cases he;have g6:n<t.rows.length:=(List.getElem?_eq_some_iff.mp D).1;obtain⟨e0,b4,rfl,h5,h6⟩:∃b l,ro=some ⟨b,l,none⟩/\b<w.heap.size/\∀(i:Nat) (r:List aj),t.rows[i]? =some r->∃ro rn rc,w.cell? ⟨b,l+i,none⟩=some (.slice ro rn rc)/\aO w (.slice ro rn rc) r:=by
  rcases i4 with h|h
  ·rw[h]at g6;simp at g6
  ·exact h
 obtain⟨xo,xn,xc,cr,o6,n0,l4,l5,i3⟩:=h6 n row D
 cases l4;have b3:=ai Z;obtain⟨W,hW⟩:∃W,W=w.alloc (.cells #[.slice N m M,.string (aa f),.slice none 0 0,.slice none 0 0,.slice none 0 0,.int .i64 0] 232):=⟨_,rfl⟩;have a7:Hid (w.alloc (.cells #[.slice N m M,.string (aa f),.slice none 0 0,.slice none 0 0,.slice none 0 0,.int .i64 0] 232)=W):=hW.symm;have c0:=ae w (.cells #[.slice N m M,.string (aa f),.slice none 0 0,.slice none 0 0,.slice none 0 0,.int .i64 0] 232);have e9:=heap_alloc_new w (.cells #[.slice N m M,.string (aa f),.slice none 0 0,.slice none 0 0,.slice none 0 0,.int .i64 0] 232);rw[<-hW]at c0 e9;have n7:W.heap.size=w.heap.size+1:=by rw[hW];exact size_alloc _ _
 have I0:Sq W w.heap.size (.slice N m M) f t.ax row 0 W:=⟨none,0,0,none,0,0,e9,ownsRow_nil _ _ _ _,ownsRow_nil _ _ _ _,Below.refl _ _⟩;have x0:w.cell? ⟨V,0,none⟩=some (.slice N m M):=(af Z).trans rfl;have HZ:Hid _:=hz;have i8:Hid _:=i3;have e1:Hid _:=Z;have i7:Hid (jk w (.slice N m M) z):=g0;have HP:Hid (qw w ⟨t,x,tr,g,a,co,t.ax.length,cc,some ⟨e0,b4,none⟩,t.rows.length,rc,uo,un,uc⟩):=hP;have i6:Hid _:=c6;have a9:Hid _:=Q;have i5:Hid _:=c5;clear hW hz i4 i3 k5 g5 l5 Z T h6 g0 hP c6 c5 S D J k8 Q;go_enter Tryz.func138,Tryz.ntmps138
 go_wp2_with fail
 rw[a7.out];clear a7 x0;go_loopg [10] t.ax.length (λgk iv wr=>∃i:Nat,gk=t.ax.length- i/\i<=t.ax.length/\iv=.int .i64 i/\Sq W w.heap.size (.slice N m M) f t.ax row i wr)
 case atStart=>exact⟨0,rfl,Nat.zero_le _,rfl,I0⟩
 case round=>
  clear I0;obtain⟨i,k1,hi,rfl,a1,n1,c1,a2,n2,c2,hO,A,E,X⟩:=hrel;subst k1;generalize l0:wr=wo at*;clear l0;have i9:=ai hO;obtain⟨⟨o0,o1,o2,o3,o4,o5⟩,f2,f3⟩:=xY hO;have B:Below w.heap.size w wo:=c0.trans X;have P:=(B.block V b3).trans e1.out;have y0:wo.cell? ⟨V,1,none⟩=some (.slice (some ⟨tb,0,none⟩) tn tc):=(af P).trans rfl;have y1:=(B.cell (p:=⟨tb,k*6+1,none⟩) h9).trans e7;have m9:V<wo.heap.size:=by omega
  have m8:tb<wo.heap.size:=by omega
  by_cases R:i<t.ax.length
  ·obtain⟨b,l,rfl,hb,hc⟩:∃b l,co=some ⟨b,l,none⟩/\b<w.heap.size/\∀(i:Nat) (c:dL),t.ax[i]? =some c->(w.cell? ⟨b,l+i*3,none⟩=some (.string (aa c.1))/\w.cell? ⟨b,l+i*3+1,none⟩=some (.string (aa c.2.1))/\w.cell? ⟨b,l+i*3+2,none⟩=some (.int .i64 c.2.2))/\c.1.length<=maxLen/\c.2.1.length<=maxLen:=by
    rcases HZ.out with h|h
    ·rw[h]at R;simp at R
    ·exact h
   obtain⟨c,a0⟩:∃c,c=t.ax[i]:=⟨_,rfl⟩;obtain⟨⟨p0,p1,_⟩,_⟩:=hc i c (by rw[a0];exact List.getElem?_eq_getElem R);have q0:=(B.cell (p:=⟨b,l+i*3,none⟩) hb).trans p0;have j6:b<wo.heap.size:=by omega
   have g2:c.1.length<=1000:=h8 c (by rw[a0];exact List.getElem_mem R);have j8:(aa c.1).size<=1000:=by rw[aF];exact g2
   have b1:=KJ c.1;have e4:Hid (Ho (t.ax.take (i+1))=Ho (t.ax.take i)++ [.string (aa (jw++ [46]++c.1))]):=by
    rw[Hid,List.take_succ_eq_append_getElem R,<-a0];simp[Ho,dO]
   have I:∀o:Obj,(wo.alloc o).drew.ownsRow (w.heap.size+1) 9 1 (.slice a1 n1 c1) i (Ho (t.ax.take i)):=λo=>World.ownsRow.drew (World.ownsRow.alloc A o);clear hc p0 a0;obtain⟨nm,g8⟩:∃x,x=jw++ [46]++c.1:=⟨_,rfl⟩;rw[<-g8]at b1 e4;have j9:¬9223372036854775807<4+(aa c.1).size:=by omega
   have k0:¬9223372036854775807<(ByteArray.mk #[114,111,119,46]).size+(aa c.1).size:=by show¬9223372036854775807<4+(aa c.1).size;omega
   have b5:Hid _:=hO;have b6:Hid _:=A;have e3:Hid _:=E;clear g8 A E hO g2 p1;go_upto_region 5 with fail
   go_cut [9] (λs9 wx=>s9=.pointer (some ⟨w.heap.size,0,none⟩)/\∃(b7:Option Addr) (c9 b8:Nat),wx.heap[w.heap.size]? =some (.cells #[.slice N m M,.string (aa f),.slice b7 c9 b8,.slice a2 n2 c2,.slice none 0 0,.int .i64 0] 232 (0,0))/\wx.ownsRow (w.heap.size+1) 9 1 (.slice b7 c9 b8) (i+1) (Ho (t.ax.take (i+1)))/\wx.ownsRow (w.heap.size+1) 56 3 (.slice a2 n2 c2) i (jK (row.take i))/\Below w.heap.size W wx)
   case first=>
    go_region_law (refine step_append_lies _ rfl (.tmp 37) (.tmp 51) 52 rfl (w.heap.size+1) 9 i1 _ 1 16 Tryz.underlying52 k2 j0 j1 j2 rfl (by decide) (.slice a1 n1 c1) i (Ho (t.ax.take i)) (by simp[Act.eval]) (I _) ⟨wo.heap.size,0,none⟩ 1 1 [.string (aa nm)] (by simp[Act.eval]) rfl (World.news_of_block (mh wo _)) (by intro u hu;simp at hu;subst hu;rfl) (by decide) (by unfold maxLen;omega) (by omega) (by simp;omega) (wo.heap.size+1) (by simp) ?_;intro g7 O w7 q j g1 g4;have kO:=(rO (k:=2) b5.out b6.out X j q (.slice none 0 0)).1;have j5:=ai kO;obtain⟨⟨r0,r1,r2,r3,r4,r5⟩,l7,l8⟩:=xY kO)
    all_goals(go_wp2_with fail;go_meet)
    all_goals
     obtain⟨_,A1,A2,A3,A4⟩:=rO (k:=2) b5.out b6.out X j q (.slice (some ⟨g7,0,none⟩) (i+1) O);exact⟨rfl,_,_,_,A1,by rw[e4.out];exact A2,A4 3 56 _ _ _ (by decide) e3.out,A3⟩
   case rest=>
    obtain⟨rfl,b7,c9,b8,Y,U,H,b9⟩:=hcut;clear o0 o1 o2 o3 o4 o5 f2 f3 y0 y1 q0 I P;generalize k9:wc=w8 at*;clear k9;have m3:=ai Y;obtain⟨⟨o0,o1,o2,o3,o4,o5⟩,f2,f3⟩:=xY Y;have K:Below w.heap.size w w8:=c0.trans b9;have y0:w8.cell? ⟨V,1,none⟩=some (.slice (some ⟨tb,0,none⟩) tn tc):=(af ((K.block V b3).trans e1.out)).trans rfl;have y1:=(K.cell (p:=⟨tb,k*6+2,none⟩) h9).trans e8;have y2:=(K.cell (p:=⟨e0,b4+n,none⟩) h5).trans cr;have n9:V<w8.heap.size:=by omega
    have n8:tb<w8.heap.size:=by omega
    have n6:e0<w8.heap.size:=by omega
    have a3:i<row.length:=by have:=a9.out;omega
    obtain⟨qb,qo,rfl,c8,g9⟩:∃b l,xo=some ⟨b,l,none⟩/\b<w.heap.size/\∀(i:Nat) (c:aj),row[i]? =some c->w.cell? ⟨b,l+i*3,none⟩=some (.int .i64 c.1)/\w.cell? ⟨b,l+i*3+1,none⟩=some (.int .i64 c.2.1)/\w.cell? ⟨b,l+i*3+2,none⟩=some (.string (aa c.2.2)):=by
     rcases i8.out with h|h
     ·rw[h]at a3;simp at a3
     ·exact h
    obtain⟨d,c4⟩:∃d,d=row[i]:=⟨_,rfl⟩;obtain⟨u0,u1,u2⟩:=g9 i d (by rw[c4];exact List.getElem?_eq_getElem a3);have v0:=(K.cell (p:=⟨qb,qo+i*3,none⟩) c8).trans u0;have v1:=(K.cell (p:=⟨qb,qo+i*3+1,none⟩) c8).trans u1;have v2:=(K.cell (p:=⟨qb,qo+i*3+2,none⟩) c8).trans u2;have n5:qb<w8.heap.size:=by omega
    have e5:Hid (jK (row.take (i+1))=jK (row.take i)++ [.int .i64 d.1,.int .i64 d.2.1,.string (aa d.2.2)]):=by
     rw[Hid,List.take_succ_eq_append_getElem a3,<-c4,oz];rfl
    obtain⟨dk,dn,ds⟩:=d;simp only at v0 v1 v2 e5;have I:∀o:Obj,(w8.alloc o).drew.ownsRow (w.heap.size+1) 56 3 (.slice a2 n2 c2) i (jK (row.take i)):=λo=>World.ownsRow.drew (World.ownsRow.alloc H o);have a8:Hid _:=Y;have e2:Hid _:=U;have b0:Hid _:=H;clear Y U H u0 u1 u2 g9 c4 X b5 b6 e3 B j6 j8 b1 j9 k0;go_upto_region 6 with fail
    go_region_law (refine step_append_lies _ rfl (.tmp 59) (.tmp 74) 57 rfl (w.heap.size+1) 56 i2 _ 3 32 Tryz.underlying57 k3 j3 j4 c3 rfl (by decide) (.slice a2 n2 c2) i (jK (row.take i)) (by simp[Act.eval]) (I _) ⟨w8.heap.size,0,none⟩ 1 1 [.int .i64 dk,.int .i64 dn,.string (aa ds)] (by simp[Act.eval]) rfl (World.news_of_block (mh w8 _)) (by intro u hu;simp at hu;rcases hu with rfl|rfl|rfl<;>rfl) (by decide) (by unfold maxLen;omega) (by omega) (by simp;omega) (w8.heap.size+1) (by simp) ?_;intro g7 O w7 q j g1 g4;have kO:=(rO (k:=3) a8.out b0.out b9 j q (.slice none 0 0)).1;have j5:=ai kO;obtain⟨⟨r0,r1,r2,r3,r4,r5⟩,l7,l8⟩:=xY kO)
    all_goals(go_wp2_with fail)
    all_goals go_roundg (t.ax.length- (i+1))
    all_goals first
     |omega
     |(obtain⟨_,A1,A2,A3,A4⟩:=rO (k:=3) a8.out b0.out b9 j q (.slice (some ⟨g7,0,none⟩) (i+1) O)
       exact⟨i+1,rfl,by omega,by go_num,_,_,_,_,_,_,A1,A4 1 9 _ _ _ (by decide) e2.out,by rw[e5.out];exact A2,A3⟩)
  ·have k4:i=t.ax.length:=by omega
   subst k4;have k7:row.length=t.ax.length:=a9.out;rw[List.take_length]at A;rw[List.take_of_length_le (by omega)]at E;have y2:wo.cell? ⟨V,2,none⟩=some (.slice (some ⟨pb,0,none⟩) pn pc):=(af P).trans rfl;have y3:=(B.cell (p:=⟨pb,k,none⟩) k6).trans cp;have m7:pb<wo.heap.size:=by omega
   obtain⟨pm,a5⟩:∃pm,(post tr).length=pm+1:=⟨(post tr).length- 1,by have:=mF tr;omega⟩;obtain⟨cs,tX,a4, -,G,c7⟩:=HP.out;simp only at a4 G c7;have a6:=a4.small;have L:=ae wo (rA g (post tr).length a);have g3:=(L.block _ i9).trans hO;have e6:Calls prog 75 #[.pointer (some ⟨w.heap.size,0,none⟩),.agg #[.slice (some ⟨g,0,none⟩) (pm+1) a],.int .i64 (pm:Int),.slice none 0 0] (wo.alloc (rA g (pm+1) a)) λe w'=>e=.returned (iy v)/\Below (wo.alloc (rA g (pm+1) a)).heap.size (wo.alloc (rA g (pm+1) a)) w':=by
    have BX:Below w.heap.size w (wo.alloc (rA g (post tr).length a)):=B.trans (L.mono B.size);have i0:bg bA (t.ax.map (dO [114,111,119]),[]) (RF.list (z.take z.length)) tr=.ok x:=by
     have h:=C.UH;simp only at h;rw[List.take_length];unfold eG at h;rw[c7]at h;simp only at h;unfold mJ at h;split at h
     ·cases h
     next y hy=>
     split at h
     ·cases h
     ·cases h;exact hy
    have h1:eD (wo.alloc (rA g (post tr).length a)) (.slice a1 n1 c1) ((t.ax.map (dO [114,111,119])).map Prod.fst):=eD.ag (PW (xs:=(t.ax.map (dO [114,111,119])).map Prod.fst) (by simpa[Ho,jw,Function.comp_def]using A) (by simp;omega)) L;have h2:aO (wo.alloc (rA g (post tr).length a)) (.slice a2 n2 c2) row:=(wK (by rw[k7];exact E) (by omega)).ag L;have h3:=VS (qt:=true) hK hu (fv:=.slice N m M) (cv:=.slice a1 n1 c1) (lv:=.slice a2 n2 c2) (rb:=w.heap.size) 300 z.length (t.ax.map (dO [114,111,119])) row [] tr x (wo.alloc (rA g (post tr).length a)) g a (post tr) tX cs ((post tr).length- 1) ((a4.ag BX)) (dF tr) G (λh=>by cases h) (i7.out.ag BX) i0 (λ_=>C.quiet) ⟨i6.out,.inr ⟨h1,h2,by simp;omega⟩⟩ none 0 0 [] trivial (wo.alloc (rA g (post tr).length a)) [] (v,0,[]) i5.out ⟨none,0,0,g3,ownsRow_nil _ _ _ _⟩ (Below.refl _ _) ⟨⟨none,0,rfl,by simp,.inl rfl⟩,λh=>absurd rfl h⟩;have h4:((((post tr).length- 1:Nat)):Int)=(pm:Int):=by rw[a5];simp
    unfold RV at h3;rw[h4,a5]at h3;exact h3.mono λe w' h=>⟨h.1,h.2.2⟩
   rw[a5]at y3 a6 L;have Bx:Below w.heap.size w (wo.alloc (rA g (pm+1) a)):=B.trans (L.mono B.size);clear a4 G c7 g3 A E a5;go_upto_region 9 with(go_at_call 75;refine e6.mono ?_;rintro e w2 ⟨rfl,c3⟩)
   clear e6 y0 y1 y2 y3 o0 o1 o2 o3 o4 o5 f2 f3;have F:Below w.heap.size w w2:=Bx.trans (c3.mono Bx.size);obtain⟨l9,m0,m1⟩:=v;by_cases h3:l9=3
   ·subst h3;by_cases h1:m0=1
    ·subst h1;by_cases he:(aa m1).toList= []
     ·have HB:Hid (sb=true):=by
       refine s.out.mpr ?_;rw[au]at he;rw[he];rfl
      clear s;go_region_with(go_at_call 130;refine(bS _ _).mono ?_;rintro e w3 ⟨rfl,rfl⟩);all_goals(go_wp2_with fail;go_ret)
      all_goals exact⟨by rw[HB.out];rfl,(show Below w.heap.size w _ from by first|exact(F.trans ((az w2 _ _).mono F.size)).drew|exact F.trans ((az w2 _ _).mono F.size))⟩
     ·have HB:Hid (sb=false):=by
       rw[Hid,Bool.eq_false_iff];intro e;have:=s.out.mp e;rw[au]at he;cases this;exact he rfl
      clear s;go_region_with(go_at_call 130;refine(bS _ _).mono ?_;rintro e w3 ⟨rfl,rfl⟩);all_goals(go_wp2_with fail;go_ret)
      all_goals exact⟨by rw[HB.out];rfl,(show Below w.heap.size w _ from by first|exact(F.trans ((az w2 _ _).mono F.size)).drew|exact F.trans ((az w2 _ _).mono F.size))⟩
    ·have HB:Hid (sb=false):=by
      rw[Hid,Bool.eq_false_iff];intro e;exact h1 (congrArg (λp:aj=>p.2.1) (s.out.mp e))
     clear s;go_region_with(go_at_call 130;refine(bS _ _).mono ?_;rintro e w3 ⟨rfl,rfl⟩);all_goals(go_wp2_with fail;go_ret)
     all_goals exact⟨by rw[HB.out];rfl,(show Below w.heap.size w _ from by first|exact(F.trans ((az w2 _ _).mono F.size)).drew|exact F.trans ((az w2 _ _).mono F.size))⟩
   ·have HB:Hid (sb=false):=by
     rw[Hid,Bool.eq_false_iff];intro e;exact h3 (congrArg (λp:aj=>p.1) (s.out.mp e))
    clear s;go_region_with(go_at_call 130;refine(bS _ _).mono ?_;rintro e w3 ⟨rfl,rfl⟩);all_goals(go_wp2_with fail;go_ret)
    all_goals exact⟨by rw[HB.out];rfl,(show Below w.heap.size w _ from by first|exact(F.trans ((az w2 _ _).mono F.size)).drew|exact F.trans ((az w2 _ _).mono F.size))⟩
structure wH(w:World)(xb k:Nat)(fo:Option Addr)(fnn fc:Nat)(r:iE):Prop where
 base:∃tb tn tc pb pn pc,w.heap[xb]? =some (.cells #[.slice fo fnn fc,.slice (some ⟨tb,0,none⟩) tn tc,.slice (some ⟨pb,0,none⟩) pn pc] 200 (0,0))/\k<tn/\k<pn/\tb<w.heap.size/\pb<w.heap.size/\w.cell? ⟨tb,k*6+1,none⟩=some (.slice r.co r.cn r.cc)/\w.cell? ⟨tb,k*6+2,none⟩=some (.slice r.ro r.rn r.rc)/\w.cell? ⟨pb,k,none⟩=some (.slice (some ⟨r.g,0,none⟩) (post r.tr).length r.cap)/\w.cell? ⟨tb,k*6+5,none⟩=some (.slice r.uo r.un r.uc)
 ax:dM w (.slice r.co r.cn r.cc) r.t.ax
 rows:RowsIn w (.slice r.ro r.rn r.rc) r.t.rows
 eZ:eD w (.slice r.uo r.un r.uc) r.t.eZ
 Wi:qw w r
 k4:k<4
theorem wH.ag{w x:World}{d k:Nat}{f:Option Addr}{a e:Nat}{r:iE}(h:wH w d k f a e r)(hb:Below w.heap.size w x):wH x d k f a e r:=by
 obtain⟨⟨b,D,C,i,B,A,g,j,l,c,m,n,o,q,s⟩,t,v,y,u,z⟩:=h;exact⟨⟨b,D,C,i,B,A,(hb.block d (ai g)).trans g,j,l,by have:=hb.size;omega,by have:=hb.size;omega,(hb.cell (p:=⟨b,_,none⟩) c).trans n,(hb.cell (p:=⟨b,_,none⟩) c).trans o,(hb.cell (p:=⟨i,_,none⟩) m).trans q,(hb.cell (p:=⟨b,_,none⟩) c).trans s⟩,t.ag hb,v.ag hb,y.ag hb,u.ag hb,z⟩
theorem wH.Wj{w:World}{d k n:Nat}{c:Option Addr}{a b:Nat}{r:iE}{row:List aj}(h:wH w d k c a b r)(u:r.t.rows[n]? =some row):Sr w d k n c a b r row:=by
 obtain⟨⟨z,B,A,v,y,x,e,f,g,i,j,l,m,o,C⟩,p,q,E,D,s⟩:=h;exact⟨⟨z,B,A,v,y,x,e,f,g,i,j,l,m,o⟩,p,q,u,s⟩
theorem ma.Wn{w0 w:World}{E:Nat}{l:List wB}{q:List iE}(h:ma w0 w E l q):∃f a d,jk w (.slice f a d) (l.map (·.1))/\(∃W T,w.heap[E]? =some (.cells #[.slice f a d,W,T] 200 (0,0)))/\∀(k:Nat) (r:iE),q[k]? =some r->wH w E k f a d r:=by
 obtain⟨f,a,d,D,V,U,po,S,R,⟨Y,u⟩,i,⟨b,K,m⟩,F,L,Z,B⟩:=h;refine⟨f,a,d,tH b K m,⟨_,_,i⟩,λk r p=> ?_⟩;have x:=(List.getElem?_eq_some_iff.mp p).1;obtain⟨c,n⟩:=B r (List.mem_of_getElem? p);have s:∀j,j<6->∀v,(tJ r)[j]? =some v->∃o,D=some ⟨o,0,none⟩/\o<w.heap.size/\V=q.length/\w.cell? ⟨o,k*6+j,none⟩=some v:=λj N v P=>by
  rcases F.2 with⟨_,X⟩|⟨g,cap,J,e,_,M,_⟩
  ·omega
  ·cases e;exact⟨g,rfl,ai M,rfl,(F.cellAt _ (by omega)).trans ((nH q k r j p N).trans P)⟩
 obtain⟨o,rfl,A,rfl,G⟩:=s 1 (by omega) _ rfl;obtain⟨C,t,_,_,H⟩:=s 2 (by omega) _ rfl
 cases t;obtain⟨C,t,_,_,I⟩:=s 5 (by omega) _ rfl
 cases t;obtain⟨O, -,hp|⟨Q,rfl,_,y,z⟩⟩:=rG L
 ·omega
 refine⟨⟨o,_,U,Q,S,R,i,x,by omega,A,y,G,H,z k _ (by rw[pQ,List.getElem?_map,p];rfl),I⟩,c.ax.ag u,c.rows.ag u,c.eZ.ag u,n,by omega⟩
def VL(w:World)(o:Except Int (List Fn × List (aJ × Ex)))(e:Ending)(w':World):Prop:=Below w.heap.size w w'/\
 ((∃(n:Int) (p:Option Addr),o=.error n/\n≠0/\e=.returned (.tuple #[.pointer p,.int .i64 n]))\/
  (∃(l:List wB) (tl:List iE) (xb:Nat) (w0:World),o=.ok (bW l,fB tl)/\e=.returned (.tuple #[.pointer (some ⟨xb,0,none⟩),.int .i64 0])/\ma w0 w' xb l tl/\ug (l.map (·.1))))
theorem Gl(w:World)(g:List mM)(q:Option Addr)(p o:Nat)(A:fT w (.slice q p o) g)(b:∀f∈g,f.2.1.length<=maxLen)(i:List aJ)(d:Option Addr)(s r:Nat)(j:jI w (.slice d s r) i)(a:Bs):
  Calls prog 73 #[.agg #[.slice q p o,.slice d s r],.string (aa a)] w λe w'=>VL w (mR a (dz g i)) e w':=by
 have c:=ae w (.cells #[.slice q p o,.slice d s r] 67);by_cases z:30<a.length
 ·have y:30<(aa a).size:=by rw[aF];exact z
  have B:decide ((30:Int)<((aa a).size:Int))=true:=by simp;omega
  have k:Hid (mR a (dz g i)=.error 9):=by rw[Hid,mR,if_pos z]
  clear A j b;go_enter Tryz.func73,Tryz.ntmps73
  go_wp2_with fail
  exact bodyPost_ret (v:=.tuple #[.pointer none,.int .i64 9]) (by simp[results,Tryz.results73,go_sem]) rfl ⟨c,.inl ⟨9,none,k.out,by decide,rfl⟩⟩
 ·have y:(aa a).size<=30:=by rw[aF];omega
  have B:decide ((30:Int)<((aa a).size:Int))=false:=by simp;omega
  have k:Hid (mR a (dz g i)=dz g i):=by rw[Hid,mR,if_neg z]
  have m:=CS (w.alloc (.cells #[.slice q p o,.slice d s r] 67)) g q p o (A.ag c) b i d s r (j.ag c);clear A j b;go_enter Tryz.func73,Tryz.ntmps73
  go_wp2_with(go_at_call 27;refine m.mono ?_)
  clear m;rintro e w2 ⟨h,⟨n,xb,ho,hn,rfl⟩|⟨l,tls,xb,ho,rfl,hBT,hok⟩⟩
  ·have t:Below w.heap.size w w2:=c.trans (h.mono (by simp[size_alloc]));have x:Hid (mR a (dz g i)=.error n):=k.out.trans ho;clear ho h k
   go_wp2_with fail
   exact bodyPost_ret (v:=.tuple #[.pointer (some ⟨xb,0,none⟩),.int .i64 n]) (by simp[results,Tryz.results73,go_sem]) rfl ⟨t,.inl ⟨n,_,x.out,hn,rfl⟩⟩
  ·have t:Below w.heap.size w w2:=c.trans (h.mono (by simp[size_alloc]));have x:Hid (mR a (dz g i)=.ok (bW l,fB tls)):=k.out.trans ho;have u:Hid _:=hBT;clear ho h k hBT
   go_wp2_with fail
   exact bodyPost_ret (v:=.tuple #[.pointer (some ⟨xb,0,none⟩),.int .i64 0]) (by simp[results,Tryz.results73,go_sem]) rfl ⟨t,.inr ⟨l,tls,xb,_,x.out,rfl,u.out,hok⟩⟩
theorem zk(w:World)(g k:Nat)(m:Option Addr)(c l:Nat)(r:iE)(h:wH w g k m c l r)(a:Bs):
  Calls prog 80 #[.pointer (some ⟨g,0,none⟩),.string (aa a),.int .i64 (k:Int)] w λe w'=>e=.returned (.bool (aW r.t.eZ a))/\w'=w:=by
 obtain⟨⟨x,z,y,G,I,H,f,A,B,C,D,n,o,p,E⟩,q,u,i,s,F⟩:=h;have J:w.cell? ⟨g,1,none⟩=some (.slice (some ⟨x,0,none⟩) z y):=(af f).trans rfl;have v:=ai f;have b:=Hz w _ r.t.eZ (aa a) i;rw[au]at b;obtain⟨d,j⟩:∃d,d=aW r.t.eZ a:=⟨_,rfl⟩;rw[<-j]at b ⊢;clear j q u i s n o p f;go_enter Tryz.func80,Tryz.ntmps80
 go_wp2_with(go_at_call 114;refine b.mono ?_;rintro e w2 ⟨rfl,rfl⟩)
 go_ret;exact⟨rfl,rfl⟩
theorem zw(w:World)(C k:Nat)(Y:Option Addr)(F X:Nat)(f:List RF)(M:jk w (.slice Y F X) f)(hK:ug f)(r:iE)(hS:wH w C k Y F X r)(H:qx (RF.list f) (r.t,r.x))(a:Bs)(U:a.length<=30):
  Calls prog 81 #[.pointer (some ⟨C,0,none⟩),.string (aa a),.int .i64 (k:Int)] w λe w'=>∃y v s,e=.returned (.slice y v s)/\w'.ownsRow w.heap.size 3 1 (.slice y v s) (aN (jQ (RF.list f) a r.x) 0 r.t.rows).length (aL (aN (jQ (RF.list f) a r.x) 0 r.t.rows))/\Below w.heap.size w w':=by
 obtain⟨i0,hi,a2,a3,a4⟩:=info_parts qK;have B:=H.rows.1;have D:∀(x:World) (n:Nat) (h:n<r.t.rows.length),Below w.heap.size w x->Calls prog 138 #[.pointer (some ⟨C,0,none⟩),.string (aa a),.int .i64 (k:Int),.int .i64 (n:Int)] x λe w'=>e=.returned (.bool (jQ (RF.list f) a r.x r.t.rows[n]))/\Below x.heap.size x w':=λx n h hx=>
  Gi x C k n Y F X f (M.ag hx) hK r _ ((hS.ag hx).Wj (List.getElem?_eq_getElem h)) (hS.Wi.ag hx) H a U
 obtain⟨P,K⟩:∃P,P=jQ (RF.list f) a r.x:=⟨_,rfl⟩;rw[<-K]at D ⊢;obtain⟨⟨tb,tn,tc,pb,pn,pc,Z,h2,h3,h4,h5,h6,h7,h8,h9⟩,hC,hR,hU,a0,hk⟩:=hS;obtain⟨ao,a5,he, -, -⟩:=hR;rw[he]at h7;have a1:=ai Z;obtain⟨rows,I⟩:∃z,z=r.t.rows:=⟨_,rfl⟩;have J:Hid (∀(x:World) (n:Nat) (h:n<rows.length),Below w.heap.size w x->Calls prog 138 #[.pointer (some ⟨C,0,none⟩),.string (aa a),.int .i64 (k:Int),.int .i64 (n:Int)] x λe w'=>e=.returned (.bool (P rows[n]))/\Below x.heap.size x w'):=by subst I;exact D
 simp only at B;rw[<-I]at h7 B ⊢;have V:Hid _:=Z;clear D K hC hU a0 H M hK h8 h9 h6 he I Z;go_enter Tryz.func81,Tryz.ntmps81
 go_wp2_with fail
 go_loopw [7,8] (λsv iv wr=>∃(i v s:Nat) (y:Option Addr),i<=rows.length/\sv=.slice y v s/\iv=.int .i64 i/\wr.ownsRow w.heap.size 3 1 (.slice y v s) (aN P 0 (rows.take i)).length (aL (aN P 0 (rows.take i)))/\Below w.heap.size w wr) (λ_ iv _=>rows.length- (intOf iv).toNat)
 case atStart=>exact⟨0,0,0,none,Nat.zero_le _,rfl,rfl,ownsRow_nil _ _ _ _,Below.refl _ _⟩
 case round=>
  obtain⟨i,v,s,y,a7,rfl,rfl,d,G⟩:=hrel;have S:=G.size;have y1:wr.cell? ⟨C,1,none⟩=some (.slice (some ⟨tb,0,none⟩) tn tc):=(af ((G.block C a1).trans V.out)).trans rfl;have y2:=(G.cell (p:=⟨tb,k*6+2,none⟩) h4).trans h7;have a9:C<wr.heap.size:=by omega
  have a8:tb<wr.heap.size:=by omega
  by_cases Q:i<rows.length
  ·have W:=J.out wr i Q G;have A:Hid (aN P 0 (rows.take (i+1))=aN P 0 (rows.take i)++(if P rows[i]then [((i:Nat):Int)]else [])):=by
    rw[Hid,List.take_succ_eq_append_getElem Q,nV,List.length_take,Nat.min_eq_left (by omega),Nat.zero_add]
   have O:=lT P (rows.take i) 0;rw[List.length_take]at O;obtain⟨p,hp⟩:∃p,p=P rows[i]:=⟨_,rfl⟩;rw[<-hp]at W A;obtain⟨L,hL⟩:∃L,L=aN P 0 (rows.take i):=⟨_,rfl⟩;rw[<-hL]at A d O;clear hp hL
   cases p with
   |true=>
    rw[if_pos rfl]at A
    go_wp2_with(first
     |(go_at_call 138;refine W.mono ?_;rintro e w2 ⟨rfl,hb2⟩;have b:=aA d (x:=w2) λg hg=>hb2.block g (d.lt g hg).2)
     |(at_builtin;refine wpList_append_own _ rfl (.tmp 29) (.tmp 31) 42 rfl w.heap.size 3 i0 (.int .i64 0) 1 8 Tryz.underlying42 hi a2 a3 a4 rfl (by decide) _ _ _ rfl (b.alloc _) ⟨w2.heap.size,0,none⟩ 1 1 [.int .i64 ((i:Nat):Int)] rfl rfl ?c1 ?c2 ?c3 ?c4 ?c5 ?_))
    case c1=>
     intro j u T
     match j,T with
     |0,T=>simp at T;subst T;simp[Addr.add]
    case c2=>intro u U;simp at U;subst U;rfl
    case c3=>unfold maxLen;omega
    case c4=>omega
    case c5=>have:=hb2.size;simp;omega
    ·intro v' w3 c o _;obtain⟨E,n',l,rfl⟩:∃E n' l,v'=.slice E n' l:=by
      rcases c.2 with⟨e,_⟩|⟨q,l,a6,e,_⟩<;>exact⟨_,_,_,e⟩
     have R:w3.ownsRow w.heap.size 3 1 (.slice E n' l) (aN P 0 (rows.take (i+1))).length (aL (aN P 0 (rows.take (i+1)))):=by
      rw[A.out];simp only[aL,List.map_append,List.map_cons,List.map_nil,List.length_append,List.length_cons,List.length_nil]at c ⊢;exact c
     have m:=G.trans (hb2.mono S);have RB:Below w.heap.size w w3:=(m.alloc m.size _).grown o (by have:=m.size;simp;omega) (λk hk=>(b.lt k hk).1);clear c o b A
     go_wp2
     go_roundw
     case rel=>exact⟨i+1,_,_,_,by omega,rfl,by go_num,R,RB⟩
     case measure=>simp[intOf];omega
   |false=>
    rw[if_neg Bool.false_ne_true,List.append_nil]at A
    go_wp2_with(go_at_call 138;refine W.mono ?_;rintro e w2 ⟨rfl,hb2⟩)
    have b:=aA d (x:=w2) λg hg=>hb2.block g (d.lt g hg).2;have R:Hid (w2.ownsRow w.heap.size 3 1 (.slice y v s) (aN P 0 (rows.take (i+1))).length (aL (aN P 0 (rows.take (i+1))))):=by rw[Hid,A.out];exact b
    have m:=G.trans (hb2.mono S);clear b A d;go_roundw
    case rel=>exact⟨i+1,v,s,y,by omega,rfl,by go_num,R.out,m⟩
    case measure=>simp[intOf];omega
  ·have N:rows.take i=rows:=List.take_of_length_le (by omega);rw[N]at d;have HS:Hid (wr.ownsRow w.heap.size 3 1 (.slice y v s) (aN P 0 rows).length (aL (aN P 0 rows))):=d;clear d N
   go_wp2_with fail
   go_ret;exact⟨y,v,s,rfl,HS.out,G⟩
theorem Ni(a:List iE):(fB a).map (λb=>b.1.name)=a.map (λr=>r.t.name):=by simp[fB]
theorem Sg{a:List iE}{k:Nat}{c:aJ × Ex}(h:(fB a)[k]? =some c):∃r,a[k]? =some r/\c=(r.t,r.x):=by
 rw[fB,List.getElem?_map]at h
 cases b:a[k]? with
 |none=>rw[b]at h;cases h
 |some r=>rw[b]at h;exact⟨r,rfl,(Option.some.inj h).symm⟩
theorem GJ(a:List (aJ × Ex))(l:Bs):dH a l=(a.map λb=>b.1.name).findIdx? (λn=>n==l):=by
 rw[dH,List.findIdx?_map];rfl
theorem ma.Uw{w0 w:World}{p:Nat}{l:List wB}{j:List iE}(h:ma w0 w p l j):∃a f d,w.cell? ⟨p,1,none⟩=some (.slice a f d)/\yj w (.slice a f d) (j.map λr=>r.t.name):=by
 obtain⟨y,s,x,a,f,d,C,B,A,_,k,_,o,_,z,_⟩:=h;refine⟨a,f,d,(af k).trans rfl, ?_⟩;rcases o.2 with⟨e,m⟩|⟨g,cap,q,e,_,u,_⟩
 ·cases e;exact⟨none,0,by simp[m],by simp;omega,.inl (by rw[List.length_eq_zero_iff.mp m];rfl)⟩
 ·cases e;refine⟨_,_,by rw[List.length_map],by simp;omega,.inr ⟨g,rfl,ai u,λi n b=> ?_⟩⟩;rw[List.getElem?_map]at b
  cases c:j[i]? with
  |none=>rw[c]at b;cases b
  |some r=>
   rw[c]at b;have v:=(List.getElem?_eq_some_iff.mp c).1;have:=(o.cellAt (i*6+0) (by omega)).trans (nH j i r 0 c (by omega));rw[Nat.add_zero]at this;rw[this,<-Option.some.inj b];rfl
theorem Jl(w:World)(s:List mM)(L:Option Addr)(K J:Nat)(hv:fT w (.slice L K J) s)(d:∀f∈s,f.2.1.length<=maxLen)(I:List aJ)(m:Option Addr)(R Q:Nat)(G:jI w (.slice m R Q) I)(a name:Bs):
  Calls prog 36 #[.agg #[.slice L K J,.slice m R Q],.string (aa a),.string (aa name)] w λe w'=>BG w (tK s I a name) e w':=by
 have b:=ae w (.cells #[.slice L K J,.slice m R Q] 67);have Z:=Gl _ s L K J (hv.ag b) d I m R Q (G.ag b) a;clear hv G d;go_enter Tryz.func36,Tryz.ntmps36
 go_wp2_with(go_at_call 73;refine Z.mono ?_)
 clear Z;rintro e w2 ⟨h,⟨n,p,ho,hn,rfl⟩|⟨l,tls,xb,w0,ho,rfl,hBT,hok⟩⟩
 ·have o:Below w.heap.size w w2:=b.trans (h.mono b.size);have c:Hid (tK s I a name=qC n):=Gw ho;have a0:(n==0)=false:=by simpa using hn
  clear ho h b
  go_wp2_with fail
  go_ret2;rw[c.out];exact⟨none,0,0,rfl,ownsRow_nil _ _ _ _,o⟩
 have o:Below w.heap.size w w2:=b.trans (h.mono b.size);have c:Hid (tK s I a name=_):=KM (name:=name) ho;obtain⟨h1,W⟩:=Cj ho;have i:=vT h1;obtain⟨Y,tn,X,H,F⟩:=hBT.Uw;obtain⟨go,gn,gc,A,⟨tv,pv,B⟩,g⟩:=hBT.Wn;have a2:=ai B;have q:=uQ w2 xb Y tn X _ H F name;have D:(tls.map λr=>r.t.name).findIdx? (λn=>n==name)=dH (fB tls) name:=by rw[GJ,Ni]
 rw[D]at q;simp only at c i;clear h b H F D ho h1 B
 cases u:dH (fB tls) name with
 |none=>
  rw[u]at q c;rw[show zJ (none:Option Nat)= -1 from rfl]at q;clear u hBT g i
  go_wp2_with(go_at_call 79;refine q.mono ?_;rintro e w3 ⟨rfl,hb3⟩)
  go_ret2;rw[c.out];exact⟨none,0,0,rfl,ownsRow_nil _ _ _ _,o.trans (hb3.mono o.size)⟩
 |some k=>
  rw[u]at q c;rw[show zJ (some k)=(k:Int)from rfl]at q;have E:k<(fB tls).length:=by
   rw[dH]at u;exact(List.findIdx?_eq_some_iff_getElem.mp u).1
  obtain⟨te,j⟩:∃te,(fB tls)[k]? =some te:=⟨_,List.getElem?_eq_getElem E⟩;obtain⟨r,hr,rfl⟩:=Sg j;have z:=i _ (List.mem_of_getElem? j);have V:=g k r hr;simp only[j]at c;have a1:¬((k:Int)<0):=by omega
  clear u hBT g i j hr E;have T:∀x:World,Below w2.heap.size w2 x->Calls prog 80 #[.pointer (some ⟨xb,0,none⟩),.string (aa a),.int .i64 (k:Int)] x λe w'=>e=.returned (.bool (aW r.t.eZ a))/\w'=x:=λx M=>zk x xb k go gn gc r (V.ag M) a;have v:∀x:World,Below w2.heap.size w2 x->Calls prog 81 #[.pointer (some ⟨xb,0,none⟩),.string (aa a),.int .i64 (k:Int)] x λe w'=>∃P O N,e=.returned (.slice P O N)/\w'.ownsRow x.heap.size 3 1 (.slice P O N) (aN (jQ (bW l) a r.x) 0 r.t.rows).length (aL (aN (jQ (bW l) a r.x) 0 r.t.rows))/\Below x.heap.size x w':=λx M=>zw x xb k go gn gc _ (A.ag M) hok r (V.ag M) z a W;obtain⟨Ls,y⟩:∃Ls,Ls=aN (jQ (bW l) a r.x) 0 r.t.rows:=⟨_,rfl⟩;rw[<-y]at v c;obtain⟨U,C⟩:∃U,U=aW r.t.eZ a:=⟨_,rfl⟩;rw[<-C]at T c;clear y C V A z
  cases U with
  |false=>
   rw[if_neg Bool.false_ne_true]at c
   go_wp2_with(first
    |(go_at_call 79;refine q.mono ?_;rintro e w3 ⟨rfl,hb3⟩)
    |(go_at_call 80;refine(T _ hb3).mono ?_;rintro e w4 ⟨rfl,rfl⟩))
   go_ret2;rw[c.out];exact⟨none,0,0,rfl,ownsRow_nil _ _ _ _,o.trans (hb3.mono o.size)⟩
  |true=>
   rw[if_pos rfl]at c
   go_wp2_with(first
    |(go_at_call 79;refine q.mono ?_;rintro e w3 ⟨rfl,hb3⟩)
    |(go_at_call 80;refine(T _ hb3).mono ?_;rintro e w4 ⟨rfl,rfl⟩)
    |(go_at_call 81;refine(v _ hb3).mono ?_;rintro e w5 ⟨P,O,N,rfl,hown,hb5⟩))
   go_ret2;rw[c.out];have S:=o.trans (hb3.mono o.size);exact⟨P,O,N,rfl,qP hown S.size,S.trans (hb5.mono S.size)⟩
end Go.Proofs.YtdifpeaklamhnaaGreatDoor

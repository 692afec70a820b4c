import Derived.Test.YtdifpeaklamhnaaGreatDoorRvGZ
set_option linter.unusedVariables false
set_option linter.unusedSimpArgs false
set_option maxRecDepth 100000
set_option maxHeartbeats 0
namespace Go.Proofs.YtdifpeaklamhnaaGreatDoor
open Go.Proofs.Tryz
open Go.RowKit
open Below (kn refl)
open Nat (lt_of_lt_of_le le_of_lt)
open World (cell?_of_block size_alloc)
def iD(rb:Nat)(w:World)(v:Value)(cs:List au):Prop:=aR w v cs/\(cs≠ []->∀ao n cap,v=.slice ao n cap->∀b o,ao=some ⟨b,o,none⟩->b<rb\/∃cur fz,w.heap[b]? =some (.cells cur 56 fz))
theorem dU.VS{w:World}{v:Value}{cs:List au}(h:dU w v cs)(rb:Nat):iD rb w v cs:=⟨h.1,λ_ a n cap e b o c=>.inr (h.2 a n cap e b o c)⟩
theorem iD.move{rb:Nat}{w x:World}{v:Value}{cs:List au}(h:iD rb w v cs)(E:w.heap.size<=x.heap.size)(n:∀g,g<w.heap.size->(g<rb\/∃a j,w.heap[g]? =some (.cells a 56 j))->x.heap[g]? =w.heap[g]?):iD rb x v cs:=by
 obtain⟨⟨q,cap,m,t,u⟩,p⟩:=h;refine⟨⟨q,cap,m,t, ?_⟩,λc r F l e b o s=> ?_⟩
 ·by_cases c:cs= []
  ·exact .inl c
  ·obtain⟨b,d,e,A,y⟩:=u.resolve_left c;have k:=n b A (p c _ _ _ m b d e);refine .inr ⟨b,d,e,by omega,λi f z=> ?_⟩;obtain⟨B,C,D⟩:=y i f z;exact⟨(cell?_of_block k).trans B,(cell?_of_block k).trans C,(cell?_of_block k).trans D⟩
 ·rcases p c _ _ _ e b o s with h|⟨a,j,hb⟩
  ·exact .inl h
  ·exact .inr ⟨a,j,(n b (af hb) (.inr ⟨a,j,hb⟩)).trans hb⟩
theorem iD.ah{rb:Nat}{w x:World}{v:Value}{cs:List au}(h:iD rb w v cs)(hb:Below w.heap.size w x):iD rb x v cs:=h.move hb.size λg a _=>hb.block g a
theorem iD.dJ{rb:Nat}{w x:World}{v:Value}{cs:List au}(h:iD rb w v cs)(k:Kr rb w x):iD rb x v cs:=h.move k.size λg _ a=>by
 rcases a with h|⟨cur,fz,h⟩
 ·exact k.1.block g h
 ·exact(k.2 _ _ _ _ h (by decide) (by decide)).trans h.symm
def Ql(w0:World)(g n cap rb:Nat)(fv:Value)(user:Bs)(cv lv:Value)(ao:Option Addr)(an ac:Nat)(args:List au)(f:Ev)(q:Nat)(e:Ex):Prop:=∀(x:World) (ns:List Bs) (r:Rs),f e ns=some r->RW x rb fv user cv lv ns 0->Below w0.heap.size w0 x->iD rb x (.slice ao an ac) args->RV rb g n cap q ao an ac x λe w'=>iB rb fv user cv lv r x e w'
def Vz(w0:World)(g n cap rb:Nat)(fv:Value)(user:Bs)(cv lv:Value)(ao:Option Addr)(an ac q:Nat):Prop:=∀(x:World) (ns:List Bs) (k:Int),k≠0->RW x rb fv user cv lv ns k->Below w0.heap.size w0 x->RV rb g n cap q ao an ac x λe w'=>e=.returned (ja bO)/\Below x.heap.size x w'
theorem RW.kr{x y w0:World}{rb:Nat}(b:Below w0.heap.size w0 x)(a:w0.heap.size<=rb)(k:Kr rb x y):Below w0.heap.size w0 y:=b.trans (k.1.mono a)
structure Vy(rb:Nat)(x y:World)(g n cap:Nat)(tx:Bs)(br:Bool)(bo:Option Addr)(on c2:Nat)(ty:Int)(fv:Value)(user:Bs)(cv lv:Value)(m1:List Bs)(k:Int)(v:au)(cb:Nat):Prop where
 vb:lQ rb x y g n cap tx br bo on c2 ty
 rw:RW y rb fv user cv lv m1 k
 bx:y.heap[cb]? =some (jY v)
 lt:x.heap.size+1+1<cb
theorem ME{w0:World}{g cap n i:Nat}{l:List Tr}{t:Tr}{bo:Option Addr}{c2:Nat}{ty:Int}{is:List Nat}(hN:Qu w0 g i t bo c2 ty is l)(e7:i<n){x:World}{rb:Nat}{B:Value}{j:Bs}{A D:Value}{ns:List Bs}(hR:RW x rb B j A D ns 0)(w:Below w0.heap.size w0 x)(C:w0.heap.size<=rb){O:Option Addr}{N M:Nat}{args:List au}(hA:iD rb x (.slice O N M) args)(b7:t.br=true)(b8:t.tx=yQ){f:Ev}{a b c:Ex}{S T J:Nat}(F:is= [S,T,J])
  (O0:Ql w0 g n cap rb B j A D O N M args f S a) (O1:Ql w0 g n cap rb B j A D O N M args f T b) (O2:Ql w0 g n cap rb B j A D O N M args f J c) (F2:Vz w0 g n cap rb B j A D O N M J)
  (v:au) (k:Int) (m1:List Bs) (hf:f a ns=some (v,k,m1)) (a7:sH 3 v/\(k≠0->v=bO)) (r:Rs) (Q:TS f [a,b,c] ns=some r):
  RV rb g n cap i O N M x λe w'=>iB rb B j A D r x e w':=by
 obtain⟨q0,q1,q2,q3⟩:=hN.at' _ (w.trans ((az x (xI g n cap) (aC 0 0 ⟨#[]⟩)).mono w.size));have hg:g<x.heap.size:=lt_of_lt_of_le hN.lt w.size;have R:=hR.lt;have h3:t.ops.length=3:=by rw[<-hN.len,F];rfl
 obtain⟨m,b6,b5,c7,H⟩:=hN.op 0 S (by rw[F];rfl);obtain⟨e5,X,_,_,Z⟩:=hN.op 1 T (by rw[F];rfl);obtain⟨e6,Y,_,_,a3⟩:=hN.op 2 J (by rw[F];rfl);rw[b6]at X Y
 cases X
 cases Y;subst b6;rw[h3]at q2 c7;rw[b7]at q1;rw[b8]at q0;have e1:aa yQ=⟨#[105,102]⟩:=rfl;have b4:=dA x (xI g n cap) (aC 0 0 ⟨#[]⟩) (DN yQ true (some ⟨m,0,none⟩) 3 c2 ty);have hV:=qY (rb:=rb) (x:=x) (by omega) g n cap yQ true (some ⟨m,0,none⟩) 3 c2 ty;rw[e1]at q0;have HC:∀y:World,Below x.heap.size x y->RV rb g n cap S O N M y λe w'=>e=.returned (ja v)/\RW w' rb B j A D m1 k/\Kr rb y w':=λy I=>O0 y ns (v,k,m1) hf (hR.ah I) (w.trans (I.mono w.size)) (hA.ah I);obtain⟨f5,g5⟩:=(hR.ah b4).cells;have p0:=H _ (w.trans (b4.mono w.size));have e4:m<x.heap.size:=lt_of_lt_of_le b5 w.size;simp only[DN,e1]at f5 g5 p0;rw[TS,hf]at Q;simp only at Q;have L:v=aW true->∀y:World,Kr rb x y->RW y rb B j A D m1 k->RV rb g n cap T O N M y λe w'=>iB rb B j A D r y e w':=by
  intro hv y ky s;have G:k=0:=by
   rcases Decidable.em (k=0)with h|h
   ·exact h
   ·have:=a7.2 h;rw[hv]at this;exact absurd this (by decide)
  subst G;rw[if_neg (by simp),if_pos hv]at Q;exact O1 y m1 r Q s (RW.kr w C ky) (hA.dJ ky)
 have K:v≠aW true->∀y:World,Kr rb x y->RW y rb B j A D m1 k->RV rb g n cap J O N M y λe w'=>iB rb B j A D r y e w':=by
  intro hv y ky s;by_cases G:k=0
  ·subst G;rw[if_neg (by simp),if_neg hv]at Q;exact O2 y m1 r Q s (RW.kr w C ky) (hA.dJ ky)
  ·rw[if_pos G]at Q;have c8:r=(bO,k,m1):=(Option.some.inj Q).symm;refine(F2 y m1 k G s (RW.kr w C ky)).mono λe w' ⟨h1,h2⟩=> ?_;rw[c8];exact⟨h1,s.ah h2,kn h2 (le_of_lt s.lt)⟩
 have z:Hid (∀y:World,lQ rb x y g n cap yQ true (some ⟨m,0,none⟩) 3 c2 ty->y.cell? ⟨x.heap.size,0,none⟩=some (.slice (some ⟨g,0,none⟩) n cap)/\y.cell? ⟨x.heap.size+1+1,2,none⟩=some (.slice (some ⟨m,0,none⟩) 3 c2)/\y.cell? ⟨m,0,none⟩=some (.int .i64 (S:Int))/\y.cell? ⟨m,1,none⟩=some (.int .i64 (T:Int))/\y.cell? ⟨m,2,none⟩=some (.int .i64 (J:Int))):=λy I=>⟨I.cells.2.1,I.cells.2.2.1.2.2.1,H y (RW.kr w C I.kr),Z y (RW.kr w C I.kr),a3 y (RW.kr w C I.kr)⟩;have c9:=a7.1.three;clear a7 Q hf O0 O1 O2 F2 H Z a3 hN hA hR b5 w F b8 b7 h3;go_enter Tryz.func75,Tryz.ntmps75;go_upto_region 11 with fail
 have a6:=(hV.ah (kn (ae _ (aC 0 0 ⟨#[]⟩)) (by simp only[size_alloc];omega))).drew;have k3:=heap_alloc_new (((x.alloc (xI g n cap)).alloc (aC 0 0 ⟨#[]⟩)).alloc (DN yQ true (some ⟨m,0,none⟩) 3 c2 ty)) (aC 0 0 ⟨#[]⟩);simp only[size_alloc]at k3;go_cut [10] (λe2 wx=>∃E:Nat,e2=.pointer (some ⟨E,0,none⟩)/\Vy rb x wx g n cap yQ true (some ⟨m,0,none⟩) 3 c2 ty B j A D m1 k v E)
 case first=>
  go_region_held2 (λy=>y.cell? ⟨x.heap.size,0,none⟩=some (.slice (some ⟨g,0,none⟩) n cap)/\y.cell? ⟨x.heap.size+1+1,2,none⟩=some (.slice (some ⟨m,0,none⟩) 3 c2)/\y.cell? ⟨m,0,none⟩=some (.int .i64 (S:Int))/\y.cell? ⟨m,1,none⟩=some (.int .i64 (T:Int))/\y.cell? ⟨m,2,none⟩=some (.int .i64 (J:Int))) (first|exact z.out _ hV|exact z.out _ hV.drew|exact z.out _ a6|exact b3|exact z.out _ (u.mq (le_of_lt R) (by omega) _ _ _)|exact z.out _ (u.ah (kn (ae _ _) a8)))
   (first
    |(go_at_call 75;refine(HC _ ?_).mono ?_;exact(Ck x _ _ _ _).drew;rintro e w2 ⟨rfl,hR2,kr2⟩;have u:=a6.ah kr2;have a8:=le_of_lt hR2.lt;have U:=kr2.2 _ _ _ _ k3 (by decide) (by decide);obtain⟨⟨z0,V,z2⟩,g1,g2,g3⟩:=aJ U;have lz:=af U;have b3:=z.out _ u)
    |(go_at_call 75;refine(HC _ ?_).mono ?_;exact(dA x _ _ _).drew;rintro e w2 ⟨rfl,hR2,kr2⟩;have u:=hV.drew.ah kr2;have a8:=le_of_lt hR2.lt;have b3:=z.out _ u))
  ·go_wp2_with fail
   go_meet;exact⟨w2.heap.size,rfl,u.ah (kn (ae _ _) a8),hR2.ah (ae _ _),heap_alloc_new _ _,by have:=u.cells.1.2.2;omega⟩
  ·go_wp2_with fail
   go_meet;exact⟨_,rfl,u.mq (le_of_lt R) (by omega) _ _ _,hR2.mq U _ _ _,kQ U _ _ _,by omega⟩
 case rest=>
  obtain⟨E,rfl,W⟩:=hcut;obtain⟨⟨l0,l1,l2⟩,a0,⟨n0,n1,n2,n3⟩,⟨r0,r1,r2⟩,c4,c5,c6⟩:=W.vb.cells;have lz:=af W.bx;have KB:=λ(y:World) (hb:Below wc.heap.size wc y)=>(⟨W.vb.ah (kn hb (le_of_lt W.rw.lt)),W.rw.ah hb⟩:lQ rb x y g n cap yQ true (some ⟨m,0,none⟩) 3 c2 ty/\RW y rb B j A D m1 k);clear HC hV a6 k3 f5 g5 p0 q0 q1 q2 q3;have a4:∀y:World,Calls prog 130 #[.bool true] y λe w'=>e=.returned (.agg #[.int .i64 3,.int .i64 1,.string ⟨#[]⟩])/\w'=y.alloc (aC 3 1 ⟨#[]⟩):=eu true;obtain⟨⟨z0,V,z2⟩,_⟩:=aJ W.bx;go_upto_region 12 with fail
  go_cut [60] (λe3 wx=>(∃b:Bool,e3=.bool b/\yl b v)/\Hid (Below wc.heap.size wc wx))
  case first=>
   clear L K KB;have a5:∀o:Obj,Hid (Below wc.heap.size wc (wc.alloc o).drew):=λo=>(ae wc o).drew;rcases c9 with rfl|⟨d,rfl⟩
   ·replace z0:wc.cell? ⟨E,0,none⟩=some (.int .i64 0):=z0;replace V:wc.cell? ⟨E,1,none⟩=some (.int .i64 0):=V;replace z2:wc.cell? ⟨E,2,none⟩=some (.string ⟨#[]⟩):=z2;go_region_with(go_at_call 130;refine(a4 _).mono ?_;rintro e w3 ⟨rfl,rfl⟩);all_goals(go_wp2_with fail;go_meet)
    all_goals exact⟨⟨false,rfl,by decide,by decide⟩,a5 _⟩
   ·cases d
    ·replace z0:wc.cell? ⟨E,0,none⟩=some (.int .i64 3):=z0;replace V:wc.cell? ⟨E,1,none⟩=some (.int .i64 0):=V;replace z2:wc.cell? ⟨E,2,none⟩=some (.string ⟨#[]⟩):=z2;go_region_with(go_at_call 130;refine(a4 _).mono ?_;rintro e w3 ⟨rfl,rfl⟩);all_goals(go_wp2_with fail;go_meet)
     all_goals exact⟨⟨false,rfl,by decide,by decide⟩,a5 _⟩
    ·replace z0:wc.cell? ⟨E,0,none⟩=some (.int .i64 3):=z0;replace V:wc.cell? ⟨E,1,none⟩=some (.int .i64 1):=V;replace z2:wc.cell? ⟨E,2,none⟩=some (.string ⟨#[]⟩):=z2;go_region_with(go_at_call 130;refine(a4 _).mono ?_;rintro e w3 ⟨rfl,rfl⟩);all_goals(go_wp2_with fail;go_meet)
     all_goals exact⟨⟨true,rfl,λ_=>rfl,λ_=>rfl⟩,a5 _⟩
  case rest=>
   obtain⟨⟨b,rfl,HB⟩,HW⟩:=hcut;obtain⟨P,s⟩:=KB _ HW.out;have b2:=s.ah (refl _ _).drew;obtain⟨⟨e8,e9,g0⟩,b0,⟨b9,c0,c1,c3⟩, -, -⟩:=P.cells;have a9:Hid (∀y:World,lQ rb x y g n cap yQ true (some ⟨m,0,none⟩) 3 c2 ty->∀a0 a1 a2:Value,(((y.setCell ⟨x.heap.size+1,0,none⟩ a0).setCell ⟨x.heap.size+1,1,none⟩ a1).setCell ⟨x.heap.size+1,2,none⟩ a2).cell? ⟨x.heap.size,0,none⟩=some (.slice (some ⟨g,0,none⟩) n cap)/\(((y.setCell ⟨x.heap.size+1,0,none⟩ a0).setCell ⟨x.heap.size+1,1,none⟩ a1).setCell ⟨x.heap.size+1,2,none⟩ a2).cell? ⟨x.heap.size+1+1,2,none⟩=some (.slice (some ⟨m,0,none⟩) 3 c2)/\(((y.setCell ⟨x.heap.size+1,0,none⟩ a0).setCell ⟨x.heap.size+1,1,none⟩ a1).setCell ⟨x.heap.size+1,2,none⟩ a2).cell? ⟨m,0,none⟩=some (.int .i64 (S:Int))/\(((y.setCell ⟨x.heap.size+1,0,none⟩ a0).setCell ⟨x.heap.size+1,1,none⟩ a1).setCell ⟨x.heap.size+1,2,none⟩ a2).cell? ⟨m,1,none⟩=some (.int .i64 (T:Int))/\(((y.setCell ⟨x.heap.size+1,0,none⟩ a0).setCell ⟨x.heap.size+1,1,none⟩ a1).setCell ⟨x.heap.size+1,2,none⟩ a2).cell? ⟨m,2,none⟩=some (.int .i64 (J:Int))):=λy I a0 a1 a2=>by
    obtain⟨s0,s1,s2,s3,s4⟩:=z.out y I;have c:∀q o:Nat,q≠x.heap.size+1->(((y.setCell ⟨x.heap.size+1,0,none⟩ a0).setCell ⟨x.heap.size+1,1,none⟩ a1).setCell ⟨x.heap.size+1,2,none⟩ a2).cell? ⟨q,o,none⟩=y.cell? ⟨q,o,none⟩:=λq o hq=>cell?_of_block (bF y _ _ _ _ _ hq);exact⟨(c _ _ (by omega)).trans s0,(c _ _ (by omega)).trans s1,(c _ _ (by omega)).trans s2,(c _ _ (by omega)).trans s3,(c _ _ (by omega)).trans s4⟩
   cases b with
   |true=>
    have HX:=L (HB.mp rfl);clear L K KB W z0 V z2;go_upto_region 13 with fail
    go_region_held2 (λy=>y.cell? ⟨x.heap.size,0,none⟩=some (.slice (some ⟨g,0,none⟩) n cap)/\y.cell? ⟨x.heap.size+1+1,2,none⟩=some (.slice (some ⟨m,0,none⟩) 3 c2)/\y.cell? ⟨m,0,none⟩=some (.int .i64 (S:Int))/\y.cell? ⟨m,1,none⟩=some (.int .i64 (T:Int))/\y.cell? ⟨m,2,none⟩=some (.int .i64 (J:Int))) (first|exact z.out _ P|exact z.out _ P.drew|exact z.out _ p|exact a9.out _ p _ _ _)
     (first
      |(go_at_call 75;refine(HX _ P.drew.kr b2).mono ?_;rintro e w5 ⟨rfl,hR5,kr5⟩;have p:=P.drew.ah kr5;obtain⟨⟨m0,e0,m2⟩,b0,⟨b9,c0,c1,c3⟩,⟨r0,r1,r2⟩,c4,c5,c6⟩:=p.cells))
    all_goals go_wp2_with fail
    all_goals
     refine bodyPost_ret (v:=.agg #[.int .i64 r.1.1,.int .i64 r.1.2.1,.string (aa r.1.2.2)]) (by simp[results,Tryz.results75,go_sem,r0,r1,r2]) rfl ?_;exact iB.end rfl R hR5 p.kr (by omega) p.b1 _ _ _
   |false=>
    have HX:=K (λh=>Bool.false_ne_true (HB.mpr h));clear L K KB W z0 V z2;go_upto_region 14 with fail
    go_region_held2 (λy=>y.cell? ⟨x.heap.size,0,none⟩=some (.slice (some ⟨g,0,none⟩) n cap)/\y.cell? ⟨x.heap.size+1+1,2,none⟩=some (.slice (some ⟨m,0,none⟩) 3 c2)/\y.cell? ⟨m,0,none⟩=some (.int .i64 (S:Int))/\y.cell? ⟨m,1,none⟩=some (.int .i64 (T:Int))/\y.cell? ⟨m,2,none⟩=some (.int .i64 (J:Int))) (first|exact z.out _ P|exact z.out _ P.drew|exact z.out _ p|exact a9.out _ p _ _ _)
     (first
      |(go_at_call 75;refine(HX _ P.drew.kr b2).mono ?_;rintro e w5 ⟨rfl,hR5,kr5⟩;have p:=P.drew.ah kr5;obtain⟨⟨m0,e0,m2⟩,b0,⟨b9,c0,c1,c3⟩,⟨r0,r1,r2⟩,c4,c5,c6⟩:=p.cells))
    all_goals go_wp2_with fail
    all_goals
     refine bodyPost_ret (v:=.agg #[.int .i64 r.1.1,.int .i64 r.1.2.1,.string (aa r.1.2.2)]) (by simp[results,Tryz.results75,go_sem,r0,r1,r2]) rfl ?_;exact iB.end rfl R hR5 p.kr (by omega) p.b1 _ _ _
structure BS(rb:Nat)(x y:World)(g n cap:Nat)(tx:Bs)(bo:Option Addr)(on c2:Nat)(ty:Int):Prop where
 kr:Kr rb x y
 b0:y.heap[x.heap.size]? =some (xI g n cap)
 b1:y.heap[x.heap.size+1]? =some (DN tx true bo on c2 ty)
 b2:y.heap[x.heap.size+1+1]? =some (aC 0 0 ⟨#[]⟩)
section
variable {rb : Nat} {x y z : World} {g n cap : Nat} {tx : Bs} {bo : Option Addr} {on c2 : Nat} {ty : Int}
theorem BS.ah(h:BS rb x y g n cap tx bo on c2 ty)(k:Kr rb y z):BS rb x z g n cap tx bo on c2 ty:=
 ⟨h.kr.trans k,k.2 _ _ _ _ h.b0 (by decide) (by decide),k.2 _ _ _ _ h.b1 (by decide) (by decide),k.2 _ _ _ _ h.b2 (by decide) (by decide)⟩
theorem BS.drew(h:BS rb x y g n cap tx bo on c2 ty):BS rb x y.drew g n cap tx bo on c2 ty:=⟨⟨h.kr.1.drew,h.kr.2⟩,h.b0,h.b1,h.b2⟩
theorem BS.mq(h:BS rb x y g n cap tx bo on c2 ty){b:Nat}(a:rb<=x.heap.size)(hb:x.heap.size+1+1<b)(a0 a1 a2:Value):BS rb x (((y.setCell ⟨b,0,none⟩ a0).setCell ⟨b,1,none⟩ a1).setCell ⟨b,2,none⟩ a2) g n cap tx bo on c2 ty:=
 ⟨h.kr.mq a (by omega) _ _ _,(bF _ _ _ _ _ _ (by omega)).trans h.b0,(bF _ _ _ _ _ _ (by omega)).trans h.b1,(bF _ _ _ _ _ _ (by omega)).trans h.b2⟩
theorem JM(a:rb<=x.heap.size):BS rb x (((x.alloc (xI g n cap)).alloc (DN tx true bo on c2 ty)).alloc (aC 0 0 ⟨#[]⟩)) g n cap tx bo on c2 ty:=by
 obtain⟨b,c,d⟩:=NK x (xI g n cap) (DN tx true bo on c2 ty) (aC 0 0 ⟨#[]⟩);exact⟨kn (dA x _ _ _) a,b,c,d⟩
theorem BS.cells(h:BS rb x y g n cap tx bo on c2 ty):(x.heap.size<y.heap.size/\x.heap.size+1<y.heap.size/\x.heap.size+1+1<y.heap.size)/\y.cell? ⟨x.heap.size,0,none⟩=some (.slice (some ⟨g,0,none⟩) n cap)/\y.cell? ⟨x.heap.size+1,2,none⟩=some (.slice bo on c2)/\
  (y.cell? ⟨x.heap.size+1+1,0,none⟩=some (.int .i64 0)/\y.cell? ⟨x.heap.size+1+1,1,none⟩=some (.int .i64 0)/\y.cell? ⟨x.heap.size+1+1,2,none⟩=some (.string ⟨#[]⟩))/\(y.frozen? ⟨x.heap.size+1+1,0,none⟩=false/\y.frozen? ⟨x.heap.size+1+1,1,none⟩=false/\y.frozen? ⟨x.heap.size+1+1,2,none⟩=false):=
 ⟨⟨af h.b0,af h.b1,af h.b2⟩,(ag h.b0).trans rfl,(bB h.b1).1.2.2.1,aJ h.b2⟩
structure UA(rb:Nat)(x wr y:World)(g n cap:Nat)(tx:Bs)(bo:Option Addr)(on c2:Nat)(ty:Int)(fv:Value)(user:Bs)(cv lv:Value)(m1:List Bs)(k:Int)(v:au)(cb:Nat):Prop where
 vb:BS rb x y g n cap tx bo on c2 ty
 rw:RW y rb fv user cv lv m1 k
 bx:y.heap[cb]? =some (jY v)
 lt:x.heap.size+1+1<cb
end
def JD(val k:Int)(mr:List Bs)(r:Rs):Prop:=(k≠0->r=(bO,k,mr))/\(k=0->(val=1/\r=(bO,0,mr))\/(val=2/\r=(aW true,0,mr))\/(val=0/\r=(aW false,0,mr)))
def wJ(nZ:Int)(last:au):Int:=if last=bO then 1 else nZ
theorem Dh{w0:World}{g cap n i0:Nat}{l:List Tr}{t:Tr}{bo:Option Addr}{c2:Nat}{ty:Int}{is:List Nat}(hN:Qu w0 g i0 t bo c2 ty is l){x:World}{rb:Nat}{M:Value}{c:Bs}{L O:Value}{ns:List Bs}(hR:RW x rb M c L O ns 0)(hB:Below w0.heap.size w0 x)(a9:w0.heap.size<=rb){ao:Option Addr}{an ac:Nat}{args:List au}(hA:iD rb x (.slice ao an ac) args){f:Ev}{b:List Ex}(I:t.ops.length=b.length)(c9:0<b.length)
  (HO:∀(m q:Nat) (h:m<b.length),is[m]? =some q->Ql w0 g n cap rb M c L O ao an ac args f q b[m]) (hE:∀e∈b,BU f e/\e.ty=3) (r:Rs) (hr:rR f (aW false) (aW true) b ns=some r):
  Calls prog 129 #[.pointer (some ⟨rb,0,none⟩),.agg #[.slice (some ⟨g,0,none⟩) n cap],.agg #[.string ⟨#[97,110,100]⟩,.bool true,.slice bo t.ops.length c2,.int .u8 ty],.slice ao an ac] x λe w'=>iB rb M c L O r x e w':=by
 have D:=hR.lt;have e2:b.length<=1000:=by rw[<-I];exact hN.Oq
 have e1:is.length=b.length:=by rw[hN.len,I]
 obtain⟨C,b6,b5,b7,_⟩:=hN.op 0 (is[0]'(by omega)) (List.getElem?_eq_getElem (by omega));subst b6;rw[I]at b7 ⊢;have J:∀(m q:Nat),is[m]? =some q->∀y,Kr rb x y->y.cell? ⟨C,m,none⟩=some (.int .i64 (q:Int)):=λm q S y ky=>by
  obtain⟨b',e,_,_,h⟩:=hN.op m q S
  cases e;exact h y (RW.kr hB a9 ky)
 have c8:C<x.heap.size:=lt_of_lt_of_le b5 hB.size;have X:=dA x (xI g n cap) (DN hAnd true (some ⟨C,0,none⟩) b.length c2 ty) (aC 0 0 ⟨#[]⟩);have hV:=JM (rb:=rb) (x:=x) (g:=g) (n:=n) (cap:=cap) (tx:=hAnd) (bo:=some ⟨C,0,none⟩) (on:=b.length) (c2:=c2) (ty:=ty) (by omega);have K:∀(m q:Nat) (h:m<b.length),is[m]? =some q->∀(y:World) (E:List Bs) (v:au) (k:Int) (m1:List Bs),f b[m] E=some (v,k,m1)->Kr rb x y->RW y rb M c L O E 0->RV rb g n cap q ao an ac y λe w'=>e=.returned (ja v)/\RW w' rb M c L O m1 k/\Kr rb y w':=λm q h S y E v k m1 hf ky b4=>HO m q h S y E (v,k,m1) hf b4 (RW.kr hB a9 ky) (hA.dJ ky);have W:=hR.ah X;clear HO hA hN hB hR;go_enter Tryz.func129,Tryz.ntmps129;go_upto_block 0 with fail
 go_cut [10] (λc6 wx=>∃(a3 k:Int) (P:List Bs),c6=.int .i64 a3/\BS rb x wx g n cap hAnd (some ⟨C,0,none⟩) b.length c2 ty/\RW wx rb M c L O P k/\JD a3 k P r)
 case first=>
  have a4:Hid (rR f (aW false) (aW true) b ns=some r):=hr;clear hr
  go_wp2_with fail
  go_loopg [10,11] b.length (λgk vv iv wr=>∃(i:Nat) (a:au) (E:List Bs),gk=b.length- i/\i<=b.length/\vv=.int .i64 (wJ 2 a)/\iv=.int .i64 (i:Int)/\(a=bO\/a=aW true)/\BS rb x wr g n cap hAnd (some ⟨C,0,none⟩) b.length c2 ty/\RW wr rb M c L O E 0/\Hid (rR f (aW false) a (b.drop i) E=some r))
  case atStart=>exact⟨0,aW true,ns,rfl,Nat.zero_le _,rfl,rfl,.inr rfl,hV,W,a4⟩
  case round=>
   obtain⟨i,a,E,b8,hi,rfl,rfl,Z,p,o,HU⟩:=hrel;subst b8;clear hV W a4 X;obtain⟨⟨l0,l1,l2⟩,a0,n2,⟨r0,r1,r2⟩,b0,b1,b3⟩:=p.cells;have e3:=p.kr.size;by_cases a1:i<b.length
   ·have S:is[i]? =some (is[i]'(by omega)):=List.getElem?_eq_getElem (by omega);obtain⟨q,hq⟩:∃q,q=is[i]'(by omega):=⟨_,rfl⟩;rw[<-hq]at S;clear hq;rw[List.drop_eq_getElem_cons a1]at HU;obtain⟨v,k,m1,Y,a6,a7⟩:=zX HU.out;obtain⟨c4,c5⟩:sH 3 v/\(k≠0->v=bO):=by
     have H:=hE b[i] (List.getElem_mem a1);have g:=H.1 E _ Y;rw[H.2]at g;exact g
    have HC:∀y:World,Below wr.heap.size wr y->RV rb g n cap q ao an ac y λe w'=>e=.returned (ja v)/\RW w' rb M c L O m1 k/\Kr rb y w':=λy hy=>K i q a1 S y E v k m1 Y (p.kr.trans (kn hy (by omega))) (o.ah hy);have R:Hid (∀y:World,BS rb x y g n cap hAnd (some ⟨C,0,none⟩) b.length c2 ty->y.cell? ⟨x.heap.size,0,none⟩=some (.slice (some ⟨g,0,none⟩) n cap)/\y.cell? ⟨x.heap.size+1,2,none⟩=some (.slice (some ⟨C,0,none⟩) b.length c2)/\y.cell? ⟨C,i,none⟩=some (.int .i64 (q:Int))):=λy hy=>⟨hy.cells.2.1,hy.cells.2.2.1,J i q S y hy.kr⟩;have c0:=J i q S wr p.kr;have e0:C<wr.heap.size:=by omega
    have k3:=heap_alloc_new wr (aC 0 0 ⟨#[]⟩);have U:=(p.ah (kn (ae _ (aC 0 0 ⟨#[]⟩)) (le_of_lt o.lt))).drew;generalize a8:wJ 2 a=lvv at*;have T:Hid (wJ 2 a=lvv):=a8;clear a8 HU Y hE K J;go_upto_region 8 with fail
    go_cut [12] (λc7 wy=>∃G:Nat,c7=.pointer (some ⟨G,0,none⟩)/\UA rb x wr wy g n cap hAnd (some ⟨C,0,none⟩) b.length c2 ty M c L O m1 k v G)
    case first=>
     go_region_held2 (λy=>y.cell? ⟨x.heap.size,0,none⟩=some (.slice (some ⟨g,0,none⟩) n cap)/\y.cell? ⟨x.heap.size+1,2,none⟩=some (.slice (some ⟨C,0,none⟩) b.length c2)/\y.cell? ⟨C,i,none⟩=some (.int .i64 (q:Int))) (first|exact R.out _ p|exact R.out _ p.drew|exact R.out _ U|exact a5|exact R.out _ (u.mq (le_of_lt D) (by omega) _ _ _)|exact R.out _ (u.ah (kn (ae _ _) a2)))
      (first
       |(go_at_call 75;refine(HC _ ?_).mono ?_;exact(ae wr _).drew;rintro e w2 ⟨rfl,hR2,kr2⟩;have u:=U.ah kr2;have a2:=le_of_lt hR2.lt;have N:=kr2.2 _ _ _ _ k3 (by decide) (by decide);obtain⟨⟨z0,Q,z2⟩,e4,e5,e6⟩:=aJ N;have lz:=af N;have a5:=R.out _ u)
       |(go_at_call 75;refine(HC _ ?_).mono ?_;exact(refl _ wr).drew;rintro e w2 ⟨rfl,hR2,kr2⟩;have u:=p.drew.ah kr2;have a2:=le_of_lt hR2.lt;have a5:=R.out _ u))
     ·go_wp2_with fail
      go_meet;exact⟨w2.heap.size,rfl,u.ah (kn (ae _ _) a2),hR2.ah (ae _ _),heap_alloc_new _ _,by have:=u.cells.1.2.2;omega⟩
     ·go_wp2_with fail
      go_meet;exact⟨_,rfl,u.mq (le_of_lt D) (by omega) _ _ _,hR2.mq N _ _ _,kQ N _ _ _,by omega⟩
    case rest=>
     obtain⟨G,rfl,V⟩:=hcut;obtain⟨⟨z0,Q,z2⟩,_⟩:=aJ V.bx;obtain⟨f5,g5⟩:=V.rw.cells;have c1:=V.rw.lt;have lz:=af V.bx;have HD:Hid _:=V.vb;have F:Hid _:=V.rw;have A:Hid _:=a6;have B:Hid _:=a7;clear HC R p U o k3 a0 n2 r0 r1 r2 b0 b1 b3 c0 V a6 a7;have z:a=bO/\lvv=1\/a=aW true/\lvv=2:=by
      rcases Z with h|h
      ·exact .inl ⟨h,by rw[<-T.out,h];rfl⟩
      ·exact .inr ⟨h,by rw[<-T.out,h];rfl⟩
     clear T Z;by_cases s:k=0
     ·subst s;rcases c4.three with rfl|⟨d,rfl⟩
      ·replace z0:wc.cell? ⟨G,0,none⟩=some (.int .i64 0):=z0;replace Q:wc.cell? ⟨G,1,none⟩=some (.int .i64 0):=Q;have HN:Hid (rR f (aW false) bO (b.drop (i+1)) m1=some r):=B.out rfl (by decide);clear A B;rcases z with⟨rfl,rfl⟩|⟨rfl,rfl⟩
       all_goals
        go_wp2_with fail
        go_roundg (b.length- (i+1))
        case rel=>exact⟨i+1,bO,m1,rfl,by omega,rfl,by go_num,.inl rfl,HD.out,F.out,HN⟩
        case measure=>omega
      ·cases d
       ·replace z0:wc.cell? ⟨G,0,none⟩=some (.int .i64 3):=z0;replace Q:wc.cell? ⟨G,1,none⟩=some (.int .i64 0):=Q;have w:Hid (r=(aW false,0,m1)):=A.out (.inr rfl);clear A B;rcases z with⟨rfl,rfl⟩|⟨rfl,rfl⟩
        all_goals
         go_wp2_with fail
         go_meet;exact⟨_,0,m1,rfl,HD.out,F.out,λe=>absurd rfl e,λ_=>.inr (.inr ⟨rfl,w.out⟩)⟩
       ·replace z0:wc.cell? ⟨G,0,none⟩=some (.int .i64 3):=z0;replace Q:wc.cell? ⟨G,1,none⟩=some (.int .i64 1):=Q;have HN:Hid (rR f (aW false) a (b.drop (i+1)) m1=some r):=B.out rfl (by decide);clear A B;rcases z with⟨rfl,rfl⟩|⟨rfl,rfl⟩
        ·go_wp2_with fail
         go_roundg (b.length- (i+1))
         case rel=>exact⟨i+1,bO,m1,rfl,by omega,rfl,by go_num,.inl rfl,HD.out,F.out,HN⟩
         case measure=>omega
        ·go_wp2_with fail
         go_roundg (b.length- (i+1))
         case rel=>exact⟨i+1,aW true,m1,rfl,by omega,rfl,by go_num,.inr rfl,HD.out,F.out,HN⟩
         case measure=>omega
     ·have b9:(k==0)=false:=by simpa using s
      have c3:=c5 s;subst c3;replace z0:wc.cell? ⟨G,0,none⟩=some (.int .i64 0):=z0;replace Q:wc.cell? ⟨G,1,none⟩=some (.int .i64 0):=Q;have w:Hid (r=(bO,k,m1)):=A.out (.inl s);clear A B;rcases z with⟨rfl,rfl⟩|⟨rfl,rfl⟩
      all_goals
       go_wp2_with fail
       go_meet;exact⟨_,k,m1,rfl,HD.out,F.out,λ_=>w.out,λe=>absurd e s⟩
   ·have w:Hid (r=(a,0,E)):=by
     have:=HU.out;rw[List.drop_of_length_le (by omega),rR]at this;exact(Option.some.inj this).symm
    have j:JD (wJ 2 a) 0 E r:=⟨λe=>absurd rfl e,λ_=>by
     rw[w.out];rcases Z with rfl|rfl
     ·exact .inl ⟨rfl,rfl⟩
     ·exact .inr (.inl ⟨rfl,rfl⟩)⟩
    clear HU w hE K J
    go_wp2_with fail
    go_meet;exact⟨_,0,E,rfl,p,o,j⟩
 case rest=>
  obtain⟨a3,k,P,rfl,p,o,j⟩:=hcut;obtain⟨⟨l0,l1,l2⟩,a0,n2,⟨r0,r1,r2⟩,b0,b1,b3⟩:=p.cells;obtain⟨f5,g5⟩:=o.cells;have c1:=o.lt;clear K hV W X hr hE J;by_cases s:k=0
  ·subst s;rcases j.2 rfl with⟨rfl,H⟩|⟨rfl,H⟩|⟨rfl,H⟩
   ·have w:Hid (r=(bO,0,P)):=H;clear H j
    go_wp2_with fail
    refine bodyPost_ret (v:=.agg #[.int .i64 0,.int .i64 0,.string ⟨#[]⟩]) (by simp[results,Tryz.results129,go_sem,r0,r1,r2]) rfl ?_;rw[w.out];exact iB.end rfl D o p.kr (by omega) p.b2 _ _ _
   ·have w:Hid (r=(aW true,0,P)):=H;have HT:∀y:World,Calls prog 130 #[.bool true] y λe w'=>e=.returned (.agg #[.int .i64 3,.int .i64 1,.string ⟨#[]⟩])/\w'=y.alloc (aC 3 1 ⟨#[]⟩):=eu true;clear H j
    go_wp2_with(go_at_call 130;refine(HT _).mono ?_;rintro e w3 ⟨rfl,rfl⟩)
    refine bodyPost_ret (v:=.agg #[.int .i64 3,.int .i64 1,.string ⟨#[]⟩]) (by simp[results,Tryz.results129,go_sem,r0,r1,r2,l2]) rfl ?_;rw[w.out];have h:=iB.end (r:=(aW true,0,P)) rfl D o p.kr (show x.heap.size<=x.heap.size+1+1 by omega) p.b2 (.int .i64 3) (.int .i64 1) (.string ⟨#[]⟩);exact⟨rfl,h.2.1.ah (ae _ _),h.2.2.trans (kn (ae _ _) (le_of_lt h.2.1.lt))⟩
   ·have w:Hid (r=(aW false,0,P)):=H;have HT:∀y:World,Calls prog 130 #[.bool false] y λe w'=>e=.returned (.agg #[.int .i64 3,.int .i64 0,.string ⟨#[]⟩])/\w'=y.alloc (aC 3 0 ⟨#[]⟩):=eu false;clear H j
    go_wp2_with(go_at_call 130;refine(HT _).mono ?_;rintro e w3 ⟨rfl,rfl⟩)
    refine bodyPost_ret (v:=.agg #[.int .i64 3,.int .i64 0,.string ⟨#[]⟩]) (by simp[results,Tryz.results129,go_sem,r0,r1,r2,l2]) rfl ?_;rw[w.out];have h:=iB.end (r:=(aW false,0,P)) rfl D o p.kr (show x.heap.size<=x.heap.size+1+1 by omega) p.b2 (.int .i64 3) (.int .i64 0) (.string ⟨#[]⟩);exact⟨rfl,h.2.1.ah (ae _ _),h.2.2.trans (kn (ae _ _) (le_of_lt h.2.1.lt))⟩
  ·have b9:(k==0)=false:=by simpa using s
   have w:Hid (r=(bO,k,P)):=j.1 s;clear j
   go_wp2_with fail
   refine bodyPost_ret (v:=.agg #[.int .i64 0,.int .i64 0,.string ⟨#[]⟩]) (by simp[results,Tryz.results129,go_sem,r0,r1,r2]) rfl ?_;rw[w.out];exact iB.end rfl D o p.kr (by omega) p.b2 _ _ _
theorem Gc{w0:World}{g cap n i0:Nat}{l:List Tr}{t:Tr}{bo:Option Addr}{c2:Nat}{ty:Int}{is:List Nat}(hN:Qu w0 g i0 t bo c2 ty is l){x:World}{rb:Nat}{M:Value}{c:Bs}{L O:Value}{ns:List Bs}(hR:RW x rb M c L O ns 0)(hB:Below w0.heap.size w0 x)(a9:w0.heap.size<=rb){ao:Option Addr}{an ac:Nat}{args:List au}(hA:iD rb x (.slice ao an ac) args){f:Ev}{b:List Ex}(I:t.ops.length=b.length)(c9:0<b.length)
  (HO:∀(m q:Nat) (h:m<b.length),is[m]? =some q->Ql w0 g n cap rb M c L O ao an ac args f q b[m]) (hE:∀e∈b,BU f e/\e.ty=3) (r:Rs) (hr:rR f (aW true) (aW false) b ns=some r):
  Calls prog 129 #[.pointer (some ⟨rb,0,none⟩),.agg #[.slice (some ⟨g,0,none⟩) n cap],.agg #[.string ⟨#[111,114]⟩,.bool true,.slice bo t.ops.length c2,.int .u8 ty],.slice ao an ac] x λe w'=>iB rb M c L O r x e w':=by
 have D:=hR.lt;have e2:b.length<=1000:=by rw[<-I];exact hN.Oq
 have e1:is.length=b.length:=by rw[hN.len,I]
 obtain⟨C,b6,b5,b7,_⟩:=hN.op 0 (is[0]'(by omega)) (List.getElem?_eq_getElem (by omega));subst b6;rw[I]at b7 ⊢;have J:∀(m q:Nat),is[m]? =some q->∀y,Kr rb x y->y.cell? ⟨C,m,none⟩=some (.int .i64 (q:Int)):=λm q S y ky=>by
  obtain⟨b',e,_,_,h⟩:=hN.op m q S
  cases e;exact h y (RW.kr hB a9 ky)
 have c8:C<x.heap.size:=lt_of_lt_of_le b5 hB.size;have X:=dA x (xI g n cap) (DN hOr true (some ⟨C,0,none⟩) b.length c2 ty) (aC 0 0 ⟨#[]⟩);have hV:=JM (rb:=rb) (x:=x) (g:=g) (n:=n) (cap:=cap) (tx:=hOr) (bo:=some ⟨C,0,none⟩) (on:=b.length) (c2:=c2) (ty:=ty) (by omega);have K:∀(m q:Nat) (h:m<b.length),is[m]? =some q->∀(y:World) (E:List Bs) (v:au) (k:Int) (m1:List Bs),f b[m] E=some (v,k,m1)->Kr rb x y->RW y rb M c L O E 0->RV rb g n cap q ao an ac y λe w'=>e=.returned (ja v)/\RW w' rb M c L O m1 k/\Kr rb y w':=λm q h S y E v k m1 hf ky b4=>HO m q h S y E (v,k,m1) hf b4 (RW.kr hB a9 ky) (hA.dJ ky);have W:=hR.ah X;clear HO hA hN hB hR;go_enter Tryz.func129,Tryz.ntmps129;go_upto_block 0 with fail
 go_cut [10] (λc6 wx=>∃(a3 k:Int) (P:List Bs),c6=.int .i64 a3/\BS rb x wx g n cap hOr (some ⟨C,0,none⟩) b.length c2 ty/\RW wx rb M c L O P k/\JD a3 k P r)
 case first=>
  have a4:Hid (rR f (aW true) (aW false) b ns=some r):=hr;clear hr
  go_wp2_with fail
  go_loopg [10,11] b.length (λgk vv iv wr=>∃(i:Nat) (a:au) (E:List Bs),gk=b.length- i/\i<=b.length/\vv=.int .i64 (wJ 0 a)/\iv=.int .i64 (i:Int)/\(a=bO\/a=aW false)/\BS rb x wr g n cap hOr (some ⟨C,0,none⟩) b.length c2 ty/\RW wr rb M c L O E 0/\Hid (rR f (aW true) a (b.drop i) E=some r))
  case atStart=>exact⟨0,aW false,ns,rfl,Nat.zero_le _,rfl,rfl,.inr rfl,hV,W,a4⟩
  case round=>
   obtain⟨i,a,E,b8,hi,rfl,rfl,Z,p,o,HU⟩:=hrel;subst b8;clear hV W a4 X;obtain⟨⟨l0,l1,l2⟩,a0,n2,⟨r0,r1,r2⟩,b0,b1,b3⟩:=p.cells;have e3:=p.kr.size;by_cases a1:i<b.length
   ·have S:is[i]? =some (is[i]'(by omega)):=List.getElem?_eq_getElem (by omega);obtain⟨q,hq⟩:∃q,q=is[i]'(by omega):=⟨_,rfl⟩;rw[<-hq]at S;clear hq;rw[List.drop_eq_getElem_cons a1]at HU;obtain⟨v,k,m1,Y,a6,a7⟩:=zX HU.out;obtain⟨c4,c5⟩:sH 3 v/\(k≠0->v=bO):=by
     have H:=hE b[i] (List.getElem_mem a1);have g:=H.1 E _ Y;rw[H.2]at g;exact g
    have HC:∀y:World,Below wr.heap.size wr y->RV rb g n cap q ao an ac y λe w'=>e=.returned (ja v)/\RW w' rb M c L O m1 k/\Kr rb y w':=λy hy=>K i q a1 S y E v k m1 Y (p.kr.trans (kn hy (by omega))) (o.ah hy);have R:Hid (∀y:World,BS rb x y g n cap hOr (some ⟨C,0,none⟩) b.length c2 ty->y.cell? ⟨x.heap.size,0,none⟩=some (.slice (some ⟨g,0,none⟩) n cap)/\y.cell? ⟨x.heap.size+1,2,none⟩=some (.slice (some ⟨C,0,none⟩) b.length c2)/\y.cell? ⟨C,i,none⟩=some (.int .i64 (q:Int))):=λy hy=>⟨hy.cells.2.1,hy.cells.2.2.1,J i q S y hy.kr⟩;have c0:=J i q S wr p.kr;have e0:C<wr.heap.size:=by omega
    have k3:=heap_alloc_new wr (aC 0 0 ⟨#[]⟩);have U:=(p.ah (kn (ae _ (aC 0 0 ⟨#[]⟩)) (le_of_lt o.lt))).drew;generalize a8:wJ 0 a=lvv at*;have T:Hid (wJ 0 a=lvv):=a8;clear a8 HU Y hE K J;go_upto_region 8 with fail
    go_cut [12] (λc7 wy=>∃G:Nat,c7=.pointer (some ⟨G,0,none⟩)/\UA rb x wr wy g n cap hOr (some ⟨C,0,none⟩) b.length c2 ty M c L O m1 k v G)
    case first=>
     go_region_held2 (λy=>y.cell? ⟨x.heap.size,0,none⟩=some (.slice (some ⟨g,0,none⟩) n cap)/\y.cell? ⟨x.heap.size+1,2,none⟩=some (.slice (some ⟨C,0,none⟩) b.length c2)/\y.cell? ⟨C,i,none⟩=some (.int .i64 (q:Int))) (first|exact R.out _ p|exact R.out _ p.drew|exact R.out _ U|exact a5|exact R.out _ (u.mq (le_of_lt D) (by omega) _ _ _)|exact R.out _ (u.ah (kn (ae _ _) a2)))
      (first
       |(go_at_call 75;refine(HC _ ?_).mono ?_;exact(ae wr _).drew;rintro e w2 ⟨rfl,hR2,kr2⟩;have u:=U.ah kr2;have a2:=le_of_lt hR2.lt;have N:=kr2.2 _ _ _ _ k3 (by decide) (by decide);obtain⟨⟨z0,Q,z2⟩,e4,e5,e6⟩:=aJ N;have lz:=af N;have a5:=R.out _ u)
       |(go_at_call 75;refine(HC _ ?_).mono ?_;exact(refl _ wr).drew;rintro e w2 ⟨rfl,hR2,kr2⟩;have u:=p.drew.ah kr2;have a2:=le_of_lt hR2.lt;have a5:=R.out _ u))
     ·go_wp2_with fail
      go_meet;exact⟨w2.heap.size,rfl,u.ah (kn (ae _ _) a2),hR2.ah (ae _ _),heap_alloc_new _ _,by have:=u.cells.1.2.2;omega⟩
     ·go_wp2_with fail
      go_meet;exact⟨_,rfl,u.mq (le_of_lt D) (by omega) _ _ _,hR2.mq N _ _ _,kQ N _ _ _,by omega⟩
    case rest=>
     obtain⟨G,rfl,V⟩:=hcut;obtain⟨⟨z0,Q,z2⟩,_⟩:=aJ V.bx;obtain⟨f5,g5⟩:=V.rw.cells;have c1:=V.rw.lt;have lz:=af V.bx;have HD:Hid _:=V.vb;have F:Hid _:=V.rw;have A:Hid _:=a6;have B:Hid _:=a7;clear HC R p U o k3 a0 n2 r0 r1 r2 b0 b1 b3 c0 V a6 a7;have z:a=bO/\lvv=1\/a=aW false/\lvv=0:=by
      rcases Z with h|h
      ·exact .inl ⟨h,by rw[<-T.out,h];rfl⟩
      ·exact .inr ⟨h,by rw[<-T.out,h];rfl⟩
     clear T Z;by_cases s:k=0
     ·subst s;rcases c4.three with rfl|⟨d,rfl⟩
      ·replace z0:wc.cell? ⟨G,0,none⟩=some (.int .i64 0):=z0;replace Q:wc.cell? ⟨G,1,none⟩=some (.int .i64 0):=Q;have HN:Hid (rR f (aW true) bO (b.drop (i+1)) m1=some r):=B.out rfl (by decide);clear A B;rcases z with⟨rfl,rfl⟩|⟨rfl,rfl⟩
       all_goals
        go_wp2_with fail
        go_roundg (b.length- (i+1))
        case rel=>exact⟨i+1,bO,m1,rfl,by omega,rfl,by go_num,.inl rfl,HD.out,F.out,HN⟩
        case measure=>omega
      ·cases d
       ·replace z0:wc.cell? ⟨G,0,none⟩=some (.int .i64 3):=z0;replace Q:wc.cell? ⟨G,1,none⟩=some (.int .i64 0):=Q;have HN:Hid (rR f (aW true) a (b.drop (i+1)) m1=some r):=B.out rfl (by decide);clear A B;rcases z with⟨rfl,rfl⟩|⟨rfl,rfl⟩
        ·go_wp2_with fail
         go_roundg (b.length- (i+1))
         case rel=>exact⟨i+1,bO,m1,rfl,by omega,rfl,by go_num,.inl rfl,HD.out,F.out,HN⟩
         case measure=>omega
        ·go_wp2_with fail
         go_roundg (b.length- (i+1))
         case rel=>exact⟨i+1,aW false,m1,rfl,by omega,rfl,by go_num,.inr rfl,HD.out,F.out,HN⟩
         case measure=>omega
       ·replace z0:wc.cell? ⟨G,0,none⟩=some (.int .i64 3):=z0;replace Q:wc.cell? ⟨G,1,none⟩=some (.int .i64 1):=Q;have w:Hid (r=(aW true,0,m1)):=A.out (.inr rfl);clear A B;rcases z with⟨rfl,rfl⟩|⟨rfl,rfl⟩
        all_goals
         go_wp2_with fail
         go_meet;exact⟨_,0,m1,rfl,HD.out,F.out,λe=>absurd rfl e,λ_=>.inr (.inl ⟨rfl,w.out⟩)⟩
     ·have b9:(k==0)=false:=by simpa using s
      have c3:=c5 s;subst c3;replace z0:wc.cell? ⟨G,0,none⟩=some (.int .i64 0):=z0;replace Q:wc.cell? ⟨G,1,none⟩=some (.int .i64 0):=Q;have w:Hid (r=(bO,k,m1)):=A.out (.inl s);clear A B;rcases z with⟨rfl,rfl⟩|⟨rfl,rfl⟩
      all_goals
       go_wp2_with fail
       go_meet;exact⟨_,k,m1,rfl,HD.out,F.out,λ_=>w.out,λe=>absurd e s⟩
   ·have w:Hid (r=(a,0,E)):=by
     have:=HU.out;rw[List.drop_of_length_le (by omega),rR]at this;exact(Option.some.inj this).symm
    have j:JD (wJ 0 a) 0 E r:=⟨λe=>absurd rfl e,λ_=>by
     rw[w.out];rcases Z with rfl|rfl
     ·exact .inl ⟨rfl,rfl⟩
     ·exact .inr (.inr ⟨rfl,rfl⟩)⟩
    clear HU w hE K J
    go_wp2_with fail
    go_meet;exact⟨_,0,E,rfl,p,o,j⟩
 case rest=>
  obtain⟨a3,k,P,rfl,p,o,j⟩:=hcut;obtain⟨⟨l0,l1,l2⟩,a0,n2,⟨r0,r1,r2⟩,b0,b1,b3⟩:=p.cells;obtain⟨f5,g5⟩:=o.cells;have c1:=o.lt;clear K hV W X hr hE J;by_cases s:k=0
  ·subst s;rcases j.2 rfl with⟨rfl,H⟩|⟨rfl,H⟩|⟨rfl,H⟩
   ·have w:Hid (r=(bO,0,P)):=H;clear H j
    go_wp2_with fail
    refine bodyPost_ret (v:=.agg #[.int .i64 0,.int .i64 0,.string ⟨#[]⟩]) (by simp[results,Tryz.results129,go_sem,r0,r1,r2]) rfl ?_;rw[w.out];exact iB.end rfl D o p.kr (by omega) p.b2 _ _ _
   ·have w:Hid (r=(aW true,0,P)):=H;have HT:∀y:World,Calls prog 130 #[.bool true] y λe w'=>e=.returned (.agg #[.int .i64 3,.int .i64 1,.string ⟨#[]⟩])/\w'=y.alloc (aC 3 1 ⟨#[]⟩):=eu true;clear H j
    go_wp2_with(go_at_call 130;refine(HT _).mono ?_;rintro e w3 ⟨rfl,rfl⟩)
    refine bodyPost_ret (v:=.agg #[.int .i64 3,.int .i64 1,.string ⟨#[]⟩]) (by simp[results,Tryz.results129,go_sem,r0,r1,r2,l2]) rfl ?_;rw[w.out];have h:=iB.end (r:=(aW true,0,P)) rfl D o p.kr (show x.heap.size<=x.heap.size+1+1 by omega) p.b2 (.int .i64 3) (.int .i64 1) (.string ⟨#[]⟩);exact⟨rfl,h.2.1.ah (ae _ _),h.2.2.trans (kn (ae _ _) (le_of_lt h.2.1.lt))⟩
   ·have w:Hid (r=(aW false,0,P)):=H;have HT:∀y:World,Calls prog 130 #[.bool false] y λe w'=>e=.returned (.agg #[.int .i64 3,.int .i64 0,.string ⟨#[]⟩])/\w'=y.alloc (aC 3 0 ⟨#[]⟩):=eu false;clear H j
    go_wp2_with(go_at_call 130;refine(HT _).mono ?_;rintro e w3 ⟨rfl,rfl⟩)
    refine bodyPost_ret (v:=.agg #[.int .i64 3,.int .i64 0,.string ⟨#[]⟩]) (by simp[results,Tryz.results129,go_sem,r0,r1,r2,l2]) rfl ?_;rw[w.out];have h:=iB.end (r:=(aW false,0,P)) rfl D o p.kr (show x.heap.size<=x.heap.size+1+1 by omega) p.b2 (.int .i64 3) (.int .i64 0) (.string ⟨#[]⟩);exact⟨rfl,h.2.1.ah (ae _ _),h.2.2.trans (kn (ae _ _) (le_of_lt h.2.1.lt))⟩
  ·have b9:(k==0)=false:=by simpa using s
   have w:Hid (r=(bO,k,P)):=j.1 s;clear j
   go_wp2_with fail
   refine bodyPost_ret (v:=.agg #[.int .i64 0,.int .i64 0,.string ⟨#[]⟩]) (by simp[results,Tryz.results129,go_sem,r0,r1,r2]) rfl ?_;rw[w.out];exact iB.end rfl D o p.kr (by omega) p.b2 _ _ _
theorem Ja{w0:World}{g cap n i:Nat}{l:List Tr}{t:Tr}{bo:Option Addr}{c2:Nat}{ty:Int}{is:List Nat}(E:Qu w0 g i t bo c2 ty is l)(U:i<n){x:World}{rb:Nat}{D:Value}{a:Bs}{C G:Value}{ns:List Bs}(F:RW x rb D a C G ns 0)(k:Below w0.heap.size w0 x)(H:w0.heap.size<=rb){B:Option Addr}{A w:Nat}{args:List au}(O:iD rb x (.slice B A w) args)(p:t.br=true)(u:t.tx=hAnd){f:Ev}{j:List Ex}(b:t.ops.length=j.length)(s:0<j.length)
  (L:∀(m q:Nat) (h:m<j.length),is[m]? =some q->Ql w0 g n cap rb D a C G B A w args f q j[m]) (P:∀e∈j,BU f e/\e.ty=3) (r:Rs) (R:rR f (aW false) (aW true) j ns=some r):
  RV rb g n cap i B A w x λe w'=>iB rb D a C G r x e w':=by
 obtain⟨S,q1,q2,q3⟩:=E.at' _ (k.trans ((az x (xI g n cap) (aC 0 0 ⟨#[]⟩)).mono k.size));have hg:g<x.heap.size:=lt_of_lt_of_le E.lt k.size;have I:=F.lt;have K:∀y:World,Below x.heap.size x y->Calls prog 129 #[.pointer (some ⟨rb,0,none⟩),.agg #[.slice (some ⟨g,0,none⟩) n cap],.agg #[.string ⟨#[97,110,100]⟩,.bool true,.slice bo t.ops.length c2,.int .u8 ty],.slice B A w] y λe w'=>iB rb D a C G r y e w':=λy J=>
  Dh E (F.ah J) (k.trans (J.mono k.size)) H (O.ah J) b s L P r R
 have o:=dA x (xI g n cap) (aC 0 0 ⟨#[]⟩) (DN hAnd true bo t.ops.length c2 ty);have Q:=qY (rb:=rb) (x:=x) (by omega) g n cap hAnd true bo t.ops.length c2 ty;obtain⟨f5,N⟩:=(F.ah o).cells;rw[p]at q1;rw[u]at S;have M:aa hAnd=⟨#[97,110,100]⟩:=rfl;rw[M]at S;simp only[DN,M]at f5 N;obtain⟨on,d⟩:∃z,z=t.ops.length:=⟨_,rfl⟩;rw[<-d]at f5 N o K Q;rw[<-d]at q2;clear d E F O k L P R u p b;go_enter Tryz.func75,Tryz.ntmps75
 go_wp2_with(go_at_call 129;refine(K _ ?_).mono ?_;exact dA x _ _ _;rintro e w5 ⟨rfl,hR5,kr5⟩;have c:=Q.ah kr5;obtain⟨⟨m0,V,m2⟩,T,⟨W,X,Y,Z⟩,⟨r0,r1,r2⟩,a0,a1,a2⟩:=c.cells)
 refine bodyPost_ret (v:=.agg #[.int .i64 r.1.1,.int .i64 r.1.2.1,.string (aa r.1.2.2)]) (by simp[results,Tryz.results75,go_sem,r0,r1,r2]) rfl ?_;exact iB.end rfl I hR5 c.kr (by omega) c.b1 _ _ _
theorem MF{w0:World}{g cap n i:Nat}{l:List Tr}{t:Tr}{bo:Option Addr}{c2:Nat}{ty:Int}{is:List Nat}(E:Qu w0 g i t bo c2 ty is l)(U:i<n){x:World}{rb:Nat}{D:Value}{a:Bs}{C G:Value}{ns:List Bs}(F:RW x rb D a C G ns 0)(k:Below w0.heap.size w0 x)(H:w0.heap.size<=rb){B:Option Addr}{A w:Nat}{args:List au}(O:iD rb x (.slice B A w) args)(p:t.br=true)(u:t.tx=hOr){f:Ev}{j:List Ex}(b:t.ops.length=j.length)(s:0<j.length)
  (L:∀(m q:Nat) (h:m<j.length),is[m]? =some q->Ql w0 g n cap rb D a C G B A w args f q j[m]) (P:∀e∈j,BU f e/\e.ty=3) (r:Rs) (R:rR f (aW true) (aW false) j ns=some r):
  RV rb g n cap i B A w x λe w'=>iB rb D a C G r x e w':=by
 obtain⟨S,q1,q2,q3⟩:=E.at' _ (k.trans ((az x (xI g n cap) (aC 0 0 ⟨#[]⟩)).mono k.size));have hg:g<x.heap.size:=lt_of_lt_of_le E.lt k.size;have I:=F.lt;have K:∀y:World,Below x.heap.size x y->Calls prog 129 #[.pointer (some ⟨rb,0,none⟩),.agg #[.slice (some ⟨g,0,none⟩) n cap],.agg #[.string ⟨#[111,114]⟩,.bool true,.slice bo t.ops.length c2,.int .u8 ty],.slice B A w] y λe w'=>iB rb D a C G r y e w':=λy J=>
  Gc E (F.ah J) (k.trans (J.mono k.size)) H (O.ah J) b s L P r R
 have o:=dA x (xI g n cap) (aC 0 0 ⟨#[]⟩) (DN hOr true bo t.ops.length c2 ty);have Q:=qY (rb:=rb) (x:=x) (by omega) g n cap hOr true bo t.ops.length c2 ty;obtain⟨f5,N⟩:=(F.ah o).cells;rw[p]at q1;rw[u]at S;have M:aa hOr=⟨#[111,114]⟩:=rfl;rw[M]at S;simp only[DN,M]at f5 N;obtain⟨on,d⟩:∃z,z=t.ops.length:=⟨_,rfl⟩;rw[<-d]at f5 N o K Q;rw[<-d]at q2;clear d E F O k L P R u p b;go_enter Tryz.func75,Tryz.ntmps75
 go_wp2_with(go_at_call 129;refine(K _ ?_).mono ?_;exact dA x _ _ _;rintro e w5 ⟨rfl,hR5,kr5⟩;have c:=Q.ah kr5;obtain⟨⟨m0,V,m2⟩,T,⟨W,X,Y,Z⟩,⟨r0,r1,r2⟩,a0,a1,a2⟩:=c.cells)
 refine bodyPost_ret (v:=.agg #[.int .i64 r.1.1,.int .i64 r.1.2.1,.string (aa r.1.2.2)]) (by simp[results,Tryz.results75,go_sem,r0,r1,r2]) rfl ?_;exact iB.end rfl I hR5 c.kr (by omega) c.b1 _ _ _
theorem RW.move{w x:World}{rb:Nat}{f:Value}{a:Bs}{d n:Value}{ns:List Bs}{k:Int}(h:RW w rb f a d n ns k)(m:∀(g:Nat) (b:Array Value) (T:TypeId) (o:Nat × Nat),w.heap[g]? =some (.cells b T o)->T=9\/T=232->x.heap[g]? =w.heap[g]?):RW x rb f a d n ns k:=by
 obtain⟨s,r,q,i,j⟩:=h;refine⟨s,r,q,(m _ _ _ _ i (.inr rfl)).trans i,aA j λg l=> ?_⟩;rcases j.2 with⟨e,_⟩|⟨t,cap,c,e,_,p,_⟩
 ·cases e;cases l
 ·cases e;cases l;exact m _ _ _ _ p (.inl rfl)
theorem RW.grown{w x y:World}{rb:Nat}{j:Value}{a:Bs}{i m:Value}{ns:List Bs}{k:Int}(h:RW w rb j a i m ns k)(hb:Below w.heap.size w x){v:Value}{b n size:Nat}{s:List Value}(q:w.ownsRow b 56 size v n s)(p:x.grownBy y v.ownBlock):RW y rb j a i m ns k:=by
 refine(h.ah hb).move λg o T t e r=>p.block g (af e) λc=> ?_;rcases q.2 with⟨d,_⟩|⟨u,cap,f,d,_,l,_⟩
 ·rw[d]at c;cases c
 ·rw[d]at c;cases c;have:=(hb.block _ (af l)).trans l;rw[e]at this;cases this;rcases r with h|h<;>cases h
theorem lQ.more{rb:Nat}{x y z:World}{g n cap:Nat}{tx:Bs}{a:Bool}{bo:Option Addr}{on c2:Nat}{ty:Int}(h:lQ rb x y g n cap tx a bo on c2 ty)(b:rb<=x.heap.size)(hb:Below (x.heap.size+3) y z):lQ rb x z g n cap tx a bo on c2 ty:=
 ⟨h.kr.more b (hb.mono (by omega)),(hb.block _ (by omega)).trans h.b0,(hb.block _ (by omega)).trans h.b1,(hb.block _ (by omega)).trans h.b2⟩
def Nq(fv:Value)(user:Bs)(cv lv:Value)(rb:Nat)(cs:List au)(k:Int)(n1:List Bs)(wx:World)(v:Value)(bn:Bool):Prop:=RW wx rb fv user cv lv n1 k/\(k=0->dU wx v cs/\bn=bu cs)
def Hr(f:Ev)(es:List Ex)(fv:Value)(user:Bs)(cv lv:Value)(rb:Nat)(cs:List au)(k:Int)(n1:List Bs)(wx:World)(i:Nat)(d:List au)(bn:Bool):Prop:=(∃ni,RW wx rb fv user cv lv ni 0/\oO d (fE f (es.drop i) ni)=some (cs,k,n1)/\bn=bu d)\/(k≠0/\RW wx rb fv user cv lv n1 k)
theorem Eh(d:List au)(v:au):bu (d++ [v])=(bu d||(v.1==0)):=by
 induction d with
 |nil=>simp[bu]
 |cons c d ih=>simp[bu,ih,Bool.or_assoc]
theorem Mh{x wc w2 h:World}{rb g n cap:Nat}{tx:Bs}{M:Bool}{bo:Option Addr}{on c2:Nat}{ty:Int}{J:Value}{k:Bs}{I L:Value}{E:Option Addr}{D C:Nat}{ns:List Bs}{f:Bs}{o:Obj}{v':Value}(p:lQ rb x wc g n cap tx M bo on c2 ty)(P:rb<x.heap.size)(w:wc.heap[rb]? =some (.cells #[J,.string (aa k),I,L,.slice E D C,.int .i64 0] 232 (0,0)))(j:wc.ownsRow (rb+1) 9 1 (.slice E D C) ns.length (bD ns))(b:Below wc.heap.size wc w2)(y:(w2.alloc o).grownBy h (Value.slice E D C).ownBlock)(G:h.ownsRow (rb+1) 9 1 v' (ns.length+1) (bD ns++ [.string (aa f)])):
  (∀(g:Nat) (a:Array Value) (T:TypeId) (c:Nat × Nat),wc.heap[g]? =some (.cells a T c)->T≠9->h.heap[g]? =some (.cells a T c))/\∀a0 a1 a2:Value,RW ((((h.setCell ⟨rb,4,none⟩ v').setCell ⟨x.heap.size+1,0,none⟩ a0).setCell ⟨x.heap.size+1,1,none⟩ a1).setCell ⟨x.heap.size+1,2,none⟩ a2) rb J k I L (ns++ [f]) 0/\Kr rb x ((((h.setCell ⟨rb,4,none⟩ v').setCell ⟨x.heap.size+1,0,none⟩ a0).setCell ⟨x.heap.size+1,1,none⟩ a1).setCell ⟨x.heap.size+1,2,none⟩ a2):=by
 have Q:=b.size;have ah:∀g,g<wc.heap.size->(Value.slice E D C).ownBlock≠some g->h.heap[g]? =wc.heap[g]? :=λg m F=>
  (y.block g (by simp only[size_alloc];omega) (λe=>F e.symm)).trans (((ae w2 o).block g (by omega)).trans (b.block g m))
 have d:∀(g:Nat) (a:Array Value) (T:TypeId) (c:Nat × Nat),wc.heap[g]? =some (.cells a T c)->T≠9->h.heap[g]? =some (.cells a T c):=λg a T c e N=>by
  refine(ah g (af e) λA=> ?_).trans e;rcases j.2 with⟨v,_⟩|⟨K,cap,i,v,_,u,_⟩
  ·rw[v]at A;cases A
  ·rw[v]at A;cases A;rw[u]at e;cases e;exact N rfl
 have kr:=d rb _ _ _ w (by decide);have S:=d _ _ _ _ p.b1 (by decide);refine⟨d,λa0 a1 a2=> ?_⟩;have l:∀g,g≠rb->g≠x.heap.size+1->((((h.setCell ⟨rb,4,none⟩ v').setCell ⟨x.heap.size+1,0,none⟩ a0).setCell ⟨x.heap.size+1,1,none⟩ a1).setCell ⟨x.heap.size+1,2,none⟩ a2).heap[g]? =h.heap[g]? :=λg m F=>by
  rw[bF _ _ _ _ _ _ F,Below.heap_setCell _ _ _ _ m]
 have z:∃t s r,v'=.slice t s r:=by
  rcases G.2 with⟨e,_⟩|⟨K,cap,i,e,_⟩<;>exact⟨_,_,_,e⟩
 obtain⟨t,s,r,rfl⟩:=z;have R:=p.kr.size;have H:=y.size;simp only[size_alloc]at H;refine⟨⟨t,s,r, ?_, ?_⟩,⟨?_, ?_, ?_, ?_, ?_⟩,λg a T c e t1 t2=> ?_⟩
 ·rw[bF _ _ _ _ _ _ (by omega)];simp[World.setCell,Array.getElem?_modify,kr]
 ·have e:bD (ns++ [f])=bD ns++ [.string (aa f)]:=by simp[bD]
  rw[e,List.length_append];refine aA G λq B=> ?_;rcases G.2 with⟨e,_⟩|⟨K,cap,i,e,_,u,_⟩
  ·cases e;cases B
  ·cases e;cases B;exact l _ (λe=>by subst e;rw[kr]at u;cases u) (λe=>by subst e;rw[S]at u;cases u)
 ·exact y.os.trans (b.os.trans p.kr.1.os)
 ·exact y.tape.trans (b.tape.trans p.kr.1.tape)
 ·exact y.output.trans (b.output.trans p.kr.1.output)
 ·simp only[World.size_setCell];omega
 ·intro q B;rw[l q (by omega) (by omega),ah q (by omega) (λe=>by have:=(j.lt _ e).1;omega)];exact p.kr.1.block q B
 ·have O:=af e;have m:=p.kr.2 g a T c e t1 t2;refine(l g (λv=> ?_) (by omega)).trans (d g a T c m t1);subst v;rw[w]at m;cases m;exact t2 rfl
end Go.Proofs.YtdifpeaklamhnaaGreatDoor

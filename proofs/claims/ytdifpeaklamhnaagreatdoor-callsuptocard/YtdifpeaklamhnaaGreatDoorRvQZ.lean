import Derived.Test.YtdifpeaklamhnaaGreatDoorRvKZ
import Derived.Test.YtdifpeaklamhnaaGreatDoorEwNZ
set_option linter.unusedVariables false
set_option linter.unusedSimpArgs false
set_option maxRecDepth 100000
set_option maxHeartbeats 0
namespace Go.Proofs.YtdifpeaklamhnaaGreatDoor
open Go.Proofs.Tryz
open Go.RowKit
open Nat (le_of_lt)
open List (getElem?_eq_getElem mem_append_left)
def Sk(rfs:List RF)(cs:List au)(n1:List Bs)(r:Rs)(rb:Nat)(fv:Value)(user:Bs)(cv lv:Value)(x:World)(tx:Bs):Prop:=
 (∃(j:Nat) (rf:RF),aV (RF.list rfs) tx=some j/\rfs[j]? =some rf/\∀(g n cap:Nat) (y:World) (lo:Option Addr) (ln lc:Nat),Kr rb x y->(∃b fn fc,fv=.slice (some ⟨b,0,none⟩) fn fc/\y.cell? ⟨b,j*5+2,none⟩=some (.slice (some ⟨g,0,none⟩) n cap))->RW y rb fv user cv lv n1 0->dU y (.slice lo ln lc) cs->RV rb g n cap (n- 1) lo ln lc y λe w'=>iB rb fv user cv lv r y e w')\/
 (aV (RF.list rfs) tx=none/\((tx=nK/\r=(aW (bu cs),0,n1))\/(tx=oL/\∃c,cs= [c]/\QE c=true/\aP c.2.1=true/\n1.length<=1000000/\r=(c,0,n1++ [fV c]))\/
  (tx≠nK/\tx≠oL/\((bu cs=true/\r=(bO,0,n1))\/(bu cs=false/\∀(y:World) (v:Value),aR y v cs->RW y rb fv user cv lv n1 0->Calls prog 132 #[.pointer (some ⟨rb,0,none⟩),.string (aa tx),v] y λe w'=>iB rb fv user cv lv r y e w')))))
theorem zK{w0:World}{g cap n i0:Nat}{l:List Tr}{t:Tr}{bo:Option Addr}{c2:Nat}{ty:Int}{is:List Nat}(hN:Qu w0 g i0 t bo c2 ty is l)(q4:i0<n){x:World}{o:Nat}{fv:Value}{a:Bs}{P Q:Value}{ns:List Bs}(hR:RW x o fv a P Q ns 0)(hB:Below w0.heap.size w0 x)(e5:w0.heap.size<=o){ao:Option Addr}{an ac:Nat}{args:List au}(hA:iD o x (.slice ao an ac) args)(k0:t.br=true)(H:t.tx≠hAnd)(e9:t.tx≠hOr)(g0:t.tx≠yQ){f:Ev}{C:List Ex}(a4:t.ops.length=C.length)
  (HO:∀(m q:Nat) (h:m<C.length),is[m]? =some q->Ql w0 g n cap o fv a P Q ao an ac args f q C[m]) (HF:∀(m q:Nat),is[m]? =some q->Vz w0 g n cap o fv a P Q ao an ac q) (cs:List au) (k:Int) (T:List Bs) (hv:fE f C ns=some (cs,k,T)) (r:Rs) (h4:k≠0->r=(bO,k,T)) {U:Option Addr} {s S:Nat} (k6:fv=.slice U s S) {b9:List RF} (i8:lN w0 fv b9) (hT:k=0->Sk b9 cs T r o fv a P Q x t.tx):
  RV o g n cap i0 ao an ac x λe w'=>iB o fv a P Q r x e w':=by
 subst k6;obtain⟨n5,k8,m8,m9,n4⟩:=info_parts EP;obtain⟨q0,q1,q2,q3⟩:=hN.at' _ (hB.trans ((az x (xI g n cap) (aC 0 0 ⟨#[]⟩)).mono hB.size));have hg:g<x.heap.size:=Nat.lt_of_lt_of_le hN.lt hB.size;have L:=hR.lt;have r3:C.length<=1000:=by rw[<-a4];exact hN.Oq
 have p9:is.length=C.length:=by rw[hN.len,a4]
 have w:=dA x (xI g n cap) (aC 0 0 ⟨#[]⟩) (DN t.tx true bo C.length c2 ty);have hV:=qY (rb:=o) (x:=x) (by omega) g n cap t.tx true bo C.length c2 ty;obtain⟨f5,g5⟩:=(hR.ah w).cells;rw[k0]at q1;rw[a4]at q2;have t1:((aa t.tx).toList== [97,110,100])=false:=by rw[aj];exact beq_eq_false_iff_ne.mpr H
 have t2:((aa t.tx).toList== [111,114])=false:=by rw[aj];exact beq_eq_false_iff_ne.mpr e9
 have t3:((aa t.tx).toList== [105,102])=false:=by rw[aj];exact beq_eq_false_iff_ne.mpr g0
 have HB:Hid (∀y,Kr o x y->Below w0.heap.size w0 y):=λy ky=>RW.kr hB e5 ky;have e0:∀(m q:Nat),is[m]? =some q->∃bb,bo=some ⟨bb,0,none⟩/\bb<x.heap.size/\C.length<=c2/\∀y,Kr o x y->y.cell? ⟨bb,m,none⟩=some (.int .i64 (q:Int)):=λm q hm=>by
  obtain⟨b',e,h1,h2,h⟩:=hN.op m q hm;exact⟨b',e,Nat.lt_of_lt_of_le h1 hB.size,by rw[<-a4];exact h2,λy ky=>h y (RW.kr hB e5 ky)⟩
 have c7:∀(m q:Nat) (h:m<C.length),is[m]? =some q->∀(y:World) (ni:List Bs) (v:au) (kk:Int) (m1:List Bs),f C[m] ni=some (v,kk,m1)->Kr o x y->RW y o (.slice U s S) a P Q ni 0->RV o g n cap q ao an ac y λe w'=>e=.returned (ja v)/\RW w' o (.slice U s S) a P Q m1 kk/\Kr o y w':=λm q h hm y ni v kk m1 hf ky b3=>HO m q h hm y ni (v,kk,m1) hf b3 (RW.kr hB e5 ky) (hA.dJ ky);have c0:∀(m q:Nat),is[m]? =some q->∀(y:World),k≠0->Kr o x y->RW y o (.slice U s S) a P Q T k->RV o g n cap q ao an ac y λe w'=>e=.returned (ja bO)/\RW w' o (.slice U s S) a P Q T k/\Kr o y w':=λm q hm y hk ky b3=>(HF m q hm y T k hk b3 (RW.kr hB e5 ky)).mono λe w' ⟨h1,h2⟩=>⟨h1,b3.ah h2,Below.kn h2 (le_of_lt b3.lt)⟩;have c9:=hR.ah w;have hJ:=Bj hv;obtain⟨tx,a8⟩:∃z,z=t.tx:=⟨_,rfl⟩;rw[<-a8]at f5 g5 w hV q0 t1 t2 t3 c9 hT;clear HO HF hA hN hB hR H e9 g0 a8 hv;go_enter Tryz.func75,Tryz.ntmps75;go_upto_block 1 with fail
 go_cut [11,12] (λn9 o0 wx=>∃(lo:Option Addr) (ln lc:Nat) (J:Bool),n9=.slice lo ln lc/\o0=.bool J/\lQ o x wx g n cap tx true bo C.length c2 ty/\Nq (.slice U s S) a P Q o cs k T wx (.slice lo ln lc) J)
 case first=>
  go_wp2_with fail
  go_loopg [11,12,13] C.length (λgk o4 o5 iv wr=>∃(i kn kc:Nat) (ko:Option Addr) (d:List au) (J:Bool),gk=C.length- i/\i<=C.length/\d.length=i/\o4=.slice ko kn kc/\o5=.bool J/\iv=.int .i64 (i:Int)/\wr.ownsRow (x.heap.size+3) 56 3 (.slice ko kn kc) i (mM d)/\lQ o x wr g n cap tx true bo C.length c2 ty/\Hid (Hr f C (.slice U s S) a P Q o cs k T wr i d J))
  case atStart=>exact⟨0,0,0,none,[],false,rfl,Nat.zero_le _,rfl,rfl,rfl,rfl,World.ownsRow_nil _ _ _ _,hV,.inl ⟨ns,c9,hJ,rfl⟩⟩
  case round=>
   obtain⟨i,kn,kc,ko,d,J,k7,hi,hd,rfl,rfl,rfl,a2,K,HN⟩:=hrel;subst k7;clear hV c9 hJ w f5 g5 q0 q1 q2 q3;obtain⟨⟨l0,l1,l2⟩,a0,⟨n0,H,n2,n3⟩,⟨r0,r1,r2⟩,M,N,O⟩:=K.cells;have r6:=K.kr.size;by_cases i5:i<C.length
   ·have hm:is[i]? =some (is[i]'(by omega)):=getElem?_eq_getElem (by omega);obtain⟨q,hq⟩:∃q,q=is[i]'(by omega):=⟨_,rfl⟩;rw[<-hq]at hm;clear hq;obtain⟨bb,rfl,p3,p6,b7⟩:=e0 i q hm;obtain⟨v,kk,m1,HC,HV⟩:∃(v:au) (kk:Int) (m1:List Bs),(∀y:World,Below wr.heap.size wr y->RV o g n cap q ao an ac y λe w'=>e=.returned (ja v)/\RW w' o (.slice U s S) a P Q m1 kk/\Kr o y w')/\Hid (∀y,RW y o (.slice U s S) a P Q m1 kk->Hr f C (.slice U s S) a P Q o cs k T y (i+1) (d++ [v]) (J||(v.1==0))):=by
     rcases HN.out with⟨ni,E,Z,Y⟩|⟨hk,E⟩
     ·rw[List.drop_eq_getElem_cons i5]at Z;obtain⟨v,kk,m1,k4,k9,l4⟩:=yU Z;refine⟨v,kk,m1,λy hy=>c7 i q i5 hm y ni v kk m1 k4 (K.kr.trans (Below.kn hy (le_of_lt E.lt))) (E.ah hy),λy hy=> ?_⟩;by_cases a1:kk=0
      ·subst a1;exact .inl ⟨m1,hy,l4 rfl,by rw[Eh,Y]⟩
      ·have:=k9 a1
       cases this;exact .inr ⟨a1,hy⟩
     ·exact⟨bO,k,T,λy hy=>c0 i q hm y hk (K.kr.trans (Below.kn hy (le_of_lt E.lt))) (E.ah hy),λy hy=>.inr ⟨hk,hy⟩⟩
    have l8:o<wr.heap.size:=by rcases HN.out with⟨ni,E,_⟩|⟨_,E⟩<;>exact E.lt
    have HS:Hid (∀y:World,lQ o x y g n cap tx true (some ⟨bb,0,none⟩) C.length c2 ty->y.cell? ⟨x.heap.size,0,none⟩=some (.slice (some ⟨g,0,none⟩) n cap)/\y.cell? ⟨x.heap.size+1+1,2,none⟩=some (.slice (some ⟨bb,0,none⟩) C.length c2)/\y.cell? ⟨bb,i,none⟩=some (.int .i64 (q:Int))):=λy hy=>⟨hy.cells.2.1,hy.cells.2.2.1.2.2.1,b7 y hy.kr⟩;have l7:=b7 wr K.kr;have p5:bb<wr.heap.size:=by omega
    have k3:=heap_alloc_new wr (aC 0 0 ⟨#[]⟩);have g7:=(K.ah (Below.kn (ae _ (aC 0 0 ⟨#[]⟩)) (le_of_lt l8))).drew;clear HN c7 c0 e0 b7;go_upto_region 20 with fail
    go_cut [14] (λo1 wy=>∃cb:Nat,o1=.pointer (some ⟨cb,0,none⟩)/\lQ o x wy g n cap tx true (some ⟨bb,0,none⟩) C.length c2 ty/\RW wy o (.slice U s S) a P Q m1 kk/\(wy.heap[cb]? =some (jY v)/\wr.heap.size<=cb)/\wy.ownsRow (x.heap.size+3) 56 3 (.slice ko kn kc) i (mM d))
    case first=>
     go_region_held2 (λy=>y.cell? ⟨x.heap.size,0,none⟩=some (.slice (some ⟨g,0,none⟩) n cap)/\y.cell? ⟨x.heap.size+1+1,2,none⟩=some (.slice (some ⟨bb,0,none⟩) C.length c2)/\y.cell? ⟨bb,i,none⟩=some (.int .i64 (q:Int))) (first|exact HS.out _ K|exact HS.out _ K.drew|exact HS.out _ g7|exact h9|exact HS.out _ (W.mq (le_of_lt L) (by omega) _ _ _)|exact HS.out _ (W.ah (Below.kn (ae _ _) e4)))
      (first
       |(go_at_call 75;refine(HC _ ?_).mono ?_;exact(ae wr _).drew;rintro e w2 ⟨rfl,hR2,kr2⟩;have W:=g7.ah kr2;have e4:=le_of_lt hR2.lt;have e7:=kr2.2 _ _ _ _ k3 (by decide) (by decide);obtain⟨⟨z0,z1,z2⟩,s3,s4,s5⟩:=aJ e7;have lz:=af e7;have h9:=HS.out _ W;have b6:=rH (World.ownsRow.drew (a2.alloc (aC 0 0 ⟨#[]⟩))) kr2 (by decide) (by decide))
       |(go_at_call 75;refine(HC _ ?_).mono ?_;exact(Below.refl _ wr).drew;rintro e w2 ⟨rfl,hR2,kr2⟩;have W:=K.drew.ah kr2;have e4:=le_of_lt hR2.lt;have h9:=HS.out _ W;have b6:=rH (World.ownsRow.drew a2) kr2 (by decide) (by decide)))
     ·go_wp2_with fail
      go_meet;exact⟨w2.heap.size,rfl,W.ah (Below.kn (ae _ _) e4),hR2.ah (ae _ _),⟨heap_alloc_new _ _,by have:=kr2.size;simpa using this⟩,b6.alloc _⟩
     ·go_wp2_with fail
      go_meet;exact⟨_,rfl,W.mq (le_of_lt L) (by omega) _ _ _,hR2.mq e7 _ _ _,⟨kQ e7 _ _ _,Nat.le_refl _⟩,aA b6 λq hq=>bF _ _ _ _ _ _ (by have:=(a2.lt q hq).2;omega)⟩
    case rest=>
     obtain⟨cb,rfl,V,F,⟨I,p7⟩,a3⟩:=hcut;obtain⟨⟨z0,z1,z2⟩,_⟩:=aJ I;have lz:=af I;have i7:=F.lt;have i6:(Value.slice ko kn kc).ownBlock≠some cb:=λe=>by have:=(a2.lt cb e).2;omega
     obtain⟨vk,vn,vs⟩:=v;simp only at z0 z1 z2;have p8:=V.cells.1.2.2;clear HC HS K g7 k3 a0 n0 H n2 n3 r0 r1 r2 M N O l7 a2
     go_wp2_with(at_builtin;refine wpList_append_own _ rfl (.tmp 93) (.tmp 95) 57 rfl (x.heap.size+3) 56 n5 (.agg #[.int .i64 0,.int .i64 0,.string ⟨#[]⟩]) 3 32 Tryz.underlying57 k8 m8 m9 n4 rfl (by decide) _ _ _ rfl (a3.alloc _) ⟨wc.heap.size,0,none⟩ 1 1 [.int .i64 vk,.int .i64 vn,.string (aa vs)] rfl rfl ?c1 ?c2 ?c3 ?c4 ?c5 ?_)
     case c2=>exact⟨rfl,rfl,rfl⟩
     case c3=>unfold maxLen;omega
     case c4=>omega
     case c5=>omega
     intro v' w3 B A _;obtain⟨a7,n',D,rfl⟩:∃a7 n' D,v'=.slice a7 n' D:=by
      rcases B.2 with⟨e,_⟩|⟨q,D,h6,e,_⟩<;>exact⟨_,_,_,e⟩
     have R:w3.ownsRow (x.heap.size+3) 56 3 (.slice a7 n' D) (i+1) (mM (d++ [(vk,vn,vs)])):=by
      rw[oH];exact B
     have RK:RW w3 o (.slice U s S) a P Q m1 kk:=F.grown (ae wc _) a3 A;have RB:lQ o x w3 g n cap tx true (some ⟨bb,0,none⟩) C.length c2 ty:=V.more (le_of_lt L) (((Below.refl _ wc).alloc (by omega) _).grown A (by simp;omega) (λk hk=>(a3.lt k hk).1));have g8:w3.heap[cb]? =some (jY (vk,vn,vs)):=(A.block cb (by simp;omega) (λe=>i6 e.symm)).trans (((ae wc _).block cb lz).trans I);obtain⟨⟨y0,y1,y2⟩,_⟩:=aJ g8;have ly:=af g8;have i3:(d++ [(vk,vn,vs)]).length=i+1:=by simp[hd]
     have c8:Hid (Hr f C (.slice U s S) a P Q o cs k T w3 (i+1) (d++ [(vk,vn,vs)]) (J||(vk==0))):=HV.out w3 RK;clear B A a3 I g8 V F HV z0 z1 z2 i6
     cases J
     ·rw[Bool.false_or]at c8
      go_wp2_with fail
      go_roundg (C.length- (i+1))
      case rel=>exact⟨i+1,_,_,_,_,_,rfl,by omega,i3,rfl,rfl,by go_num,R,RB,c8⟩
      case measure=>omega
     ·rw[Bool.true_or]at c8
      go_wp2_with fail
      go_roundg (C.length- (i+1))
      case rel=>exact⟨i+1,_,_,_,_,_,rfl,by omega,i3,rfl,rfl,by go_num,R,RB,c8⟩
      case measure=>omega
   ·have HE:Nq (.slice U s S) a P Q o cs k T wr (.slice ko kn kc) J:=by
     rcases HN.out with⟨ni,E,Z,Y⟩|⟨hk,E⟩
     ·rw[List.drop_of_length_le (by omega),fE,oO,if_neg (by simp),List.append_nil]at Z
      cases Z;exact⟨E,λ_=>⟨yH (by rw[hd];exact a2) (by omega),Y⟩⟩
     ·exact⟨E,λe=>absurd e hk⟩
    clear HN c7 c0 e0 a2
    go_wp2_with fail
    go_meet;exact⟨_,_,_,_,rfl,rfl,K,HE⟩
 case rest=>
  obtain⟨lo,ln,lc,J,rfl,rfl,K,hE⟩:=hcut;obtain⟨⟨l0,l1,l2⟩,a0,⟨n0,H,n2,n3⟩,⟨r0,r1,r2⟩,M,N,O⟩:=K.cells;obtain⟨j7,j8⟩:=hE.1.cells;have i7:=hE.1.lt;clear hV c9 hJ w f5 g5 q0 q1 q2 q3 c7 c0 e0;by_cases a1:k=0
  ·subst a1;obtain⟨h7,g3⟩:=hE.2 rfl;have a9:Hid (J=bu cs):=g3;clear g3;have b2:=hE.1;have hT:=hT rfl;have g6:=eT wc.drew (.slice none 0 0) (.slice none 0 0) ⟨#[]⟩ U s S b9 ((i8.ah (HB.out wc K.kr)).ah (Below.refl _ _).drew) tx;have p0:wc.cell? ⟨o,0,none⟩=some (.slice U s S):=by
    obtain⟨_,_,_,hb,_⟩:=b2;exact(ag hb).trans rfl
   obtain⟨fi,h0⟩:∃z,z=Aa (aV (RF.list b9) tx):=⟨_,rfl⟩;rw[<-h0]at g6;have g4:Hid _:=h0;clear h0 hE h4 a0 n0 H n2 n3 r0 r1 r2 M N O l0 l1 l2;obtain⟨⟨l0,l1,l2⟩,a0,⟨n0,H,n2,n3⟩,⟨r0,r1,r2⟩,M,N,O⟩:=K.cells;go_upto_region 25 with fail
   generalize m4:wc=wo at*;clear m4;go_cut [15] (λo2 wx=>o2=.int .i64 fi/\Hid (Below wo.heap.size wo wx))
   case first=>
    clear hT;go_region_with(go_at_call 67;refine g6.mono ?_;rintro e w2 ⟨rfl,w⟩;replace w:=iA w);all_goals(go_wp2_with fail;go_meet)
    all_goals exact⟨rfl,w⟩
   case rest=>
    obtain⟨rfl,HW⟩:=hcut;have V:=K.ah (Below.kn HW.out (le_of_lt i7));have F:=b2.ah HW.out;have b4:=h7.ah HW.out;have e6:=F.lt;clear K b2 h7 g6 p0 j7 j8 a0 n0 H n2 n3 r0 r1 r2 M N O l0 l1 l2;obtain⟨⟨l0,l1,l2⟩,a0,⟨n0,H,n2,n3⟩,⟨r0,r1,r2⟩,M,N,O⟩:=V.cells;rcases hT with⟨j,rf,Z,a6,HV⟩|⟨Z,hT⟩
    ·have h3:fi=(j:Int):=by rw[g4.out,Z];rfl
     subst h3;have q5:=(List.getElem?_eq_some_iff.mp a6).1;obtain⟨o9,o6,e2,h8,h|⟨fb,e3,k5,i4⟩⟩:=i8.ah (HB.out wc V.kr)
     ·subst h;simp at a6
     cases e2;subst e3;have i1:=i4 j rf a6;have i2:=i1;obtain⟨g2,b0,p1,o8, -, -,h5, -, -,l5, -, -, -⟩:=i2;obtain⟨p,hp⟩:∃p,(post rf.t).length=p+1:=⟨(post rf.t).length- 1,by have:=mX rf.t;omega⟩;rw[hp]at h5 l5;have I:=ae wc (xI g2 (p+1) b0);have HX:=HV g2 (p+1) b0 _ lo ln lc (V.kr.trans (Below.kn I (le_of_lt e6))) ⟨fb,_,_,rfl,(I.cell (p:=⟨fb,j*5+2,none⟩) k5).trans h5⟩ (F.ah I) (b4.ah I);rw[Nat.add_sub_cancel]at HX;have p0:wc.cell? ⟨o,0,none⟩=some (.slice (some ⟨fb,0,none⟩) b9.length S):=by
      obtain⟨_,_,_,hb,_⟩:=F;exact(ag hb).trans rfl
     have j9:=V.ah (Below.kn I (le_of_lt e6));clear HV i1 i4 Z a6 hp a9
     go_wp2_with(go_at_call 75;refine HX.mono ?_;rintro e w5 ⟨rfl,hR5,kr5⟩;have X:=j9.ah kr5;obtain⟨⟨m0,j3,m2⟩,j6,⟨n7,H,e9,g0⟩,⟨r0,r1,r2⟩,M,N,O⟩:=X.cells)
     refine bodyPost_ret (v:=.agg #[.int .i64 r.1.1,.int .i64 r.1.2.1,.string (aa r.1.2.2)]) (by simp[results,Tryz.results75,go_sem,r0,r1,r2]) rfl ?_;exact iB.end rfl L hR5 X.kr (by omega) X.b1 _ _ _
    ·have h3:fi= -1:=by rw[g4.out,Z];rfl
     subst h3;rcases hT with⟨rfl,he⟩|⟨rfl,c,rfl,g9,i9,r5,he⟩|⟨j1,j2,hT⟩
     ·have HE:Hid (r=(aW J,0,T)):=by rw[Hid,he,a9.out]
      have j5:=eu J;have e1:aa nK=⟨#[105,115,110,117,108,108]⟩:=rfl;rw[e1]at n0;clear he
      go_wp2_with(go_at_call 130;refine(j5 _).mono ?_;rintro e w3 ⟨rfl,rfl⟩)
      refine bodyPost_ret (v:=.agg #[.int .i64 3,.int .i64 (gB J),.string ⟨#[]⟩]) (by simp[results,Tryz.results75,go_sem,r0,r1,r2,l1]) rfl ?_;rw[HE.out];have h:=iB.end (r:=(aW J,0,T)) rfl L F V.kr (show x.heap.size<=x.heap.size+1 by omega) V.b1 (.int .i64 3) (.int .i64 (gB J)) (.string ⟨#[]⟩);exact⟨rfl,h.2.1.ah (ae _ _),h.2.2.trans (Below.kn (ae _ _) (le_of_lt h.2.1.lt))⟩
     ·obtain⟨n6,l9,m5,m6,m7⟩:=info_parts CJ;have HE:Hid (r=(c,0,T++ [fV c])):=he;have e1:aa oL=⟨#[110,111,116,101]⟩:=rfl;rw[e1]at n0;obtain⟨b,g1,D,j0,p2,u0,u1,u2⟩:=vz b4.1 0 (by simp);obtain⟨h6,fz,G⟩:=b4.2 _ _ _ rfl b g1 (by cases j0;rfl)
      cases j0;simp only[List.getElem_cons_zero,Nat.zero_mul,Nat.add_zero]at u0 u1 u2;obtain⟨no,nn,nc,b5,a5⟩:=F;have p4:wc.cell? ⟨o,4,none⟩=some (.slice no nn nc):=(ag b5).trans rfl;simp only[aP,Bool.and_eq_true,decide_eq_true_eq]at i9;simp only[QE,Bool.and_eq_true,decide_eq_true_eq]at g9;have c6:=λy:World=>Di c.1 c.2.1 c.2.2 y (by omega) (by omega) g9.2;obtain⟨ck,cn,cl⟩:=c;simp only at u0 u1 u2 c6;obtain⟨o3,a8⟩:∃z,z=fV (ck,cn,cl):=⟨_,rfl⟩;rw[<-a8]at HE;simp only[<-a8]at c6;clear he a8 g9 i9 a9 b4 g4
      go_wp2_with(first
       |(go_at_call 131;refine(c6 _).mono ?_;rintro e w2 ⟨rfl,w⟩;have n8:=(w.cell (p:=⟨o,4,none⟩) e6).trans p4;have m3:=w.size;have e4:=Nat.lt_of_lt_of_le e6 m3;have b8:=aA a5 (x:=w2) (λg hg=>w.block g (a5.lt g hg).2))
       |(at_builtin;refine wpList_append_own _ rfl (.tmp 154) (.tmp 156) 52 rfl (o+1) 9 n6 (.string ⟨#[]⟩) 1 16 Tryz.underlying52 l9 m5 m6 m7 rfl (by decide) _ _ _ rfl (b8.alloc _) ⟨w2.heap.size,0,none⟩ 1 1 [.string (aa o3)] rfl rfl ?d1 ?d2 ?d3 ?d4 ?d5 ?_))
      case d1=>
       intro j u Z
       match j,Z with
       |0,Z=>simp at Z;subst Z;simp[Addr.add]
      case d2=>intro u hu;simp at hu;subst hu;rfl
      case d3=>unfold maxLen;omega
      case d4=>omega
      case d5=>simp;omega
      intro v' w3 B A _;obtain⟨a7,n',o7,rfl⟩:∃a7 n' D,v'=.slice a7 n' D:=by
       rcases B.2 with⟨e,_⟩|⟨q,D,h6,e,_⟩<;>exact⟨_,_,_,e⟩
      obtain⟨e8,j4⟩:=Mh V L b5 a5 w A B;have k1:=e8 _ _ _ _ b5 (by decide);have k2:=e8 _ _ _ _ G (by decide);have k3:=e8 _ _ _ _ V.b1 (by decide);have q7:=af k1;have q8:=af k2;have q9:=af k3;have v0:w3.cell? ⟨b,g1,none⟩=some (.int .i64 ck):=(World.cell?_of_block (k2.trans G.symm)).trans u0;have v1:w3.cell? ⟨b,g1+1,none⟩=some (.int .i64 cn):=(World.cell?_of_block (k2.trans G.symm)).trans u1;have v2:w3.cell? ⟨b,g1+2,none⟩=some (.string (aa cl)):=(World.cell?_of_block (k2.trans G.symm)).trans u2;obtain⟨⟨s0,s1,s2⟩,r7,r8,r9⟩:=aJ k3;have y4:w3.cell? ⟨o,4,none⟩=some (.slice no nn nc):=(ag k1).trans rfl;have yf:w3.frozen? ⟨o,4,none⟩=false:=by simp[World.frozen?,k1]
      have r4:b≠o:=λe=>by subst e;rw[b5]at G;cases G
      clear B A a5 b8 b5 e8 c6 u0 u1 u2 p4 n8 r0 r1 r2 M N O k1 k2 k3 G w
      go_wp2
      refine bodyPost_ret (v:=.agg #[.int .i64 ck,.int .i64 cn,.string (aa cl)]) (by simp[results,Tryz.results75,go_sem,s0,s1,s2]) rfl ?_;rw[HE.out];obtain⟨A1,A2⟩:=j4 (.int .i64 ck) (.int .i64 cn) (.string (aa cl));exact⟨rfl,A1,A2⟩
     ·have u1:((aa tx).toList== [105,115,110,117,108,108])=false:=by rw[aj];exact beq_eq_false_iff_ne.mpr j1
      have u2:((aa tx).toList== [110,111,116,101])=false:=by rw[aj];exact beq_eq_false_iff_ne.mpr j2
      clear j1 j2;rcases hT with⟨ha,he⟩|⟨ha,HH⟩
      ·have Y:J=_:=a9.out.trans ha;subst Y;have HE:Hid (r=(bO,0,T)):=he;clear he ha
       go_wp2_with fail
       refine bodyPost_ret (v:=.agg #[.int .i64 0,.int .i64 0,.string ⟨#[]⟩]) (by simp[results,Tryz.results75,go_sem,r0,r1,r2]) rfl ?_;rw[HE.out];exact iB.end rfl L F V.kr (by omega) V.b1 _ _ _
      ·have Y:J=_:=a9.out.trans ha;subst Y;have HX:=HH _ _ b4.1 F;clear HH ha
       go_wp2_with(go_at_call 132;refine HX.mono ?_;rintro e w5 ⟨rfl,hR5,kr5⟩;have X:=V.ah kr5;obtain⟨⟨m0,j3,m2⟩,j6,⟨n7,H,e9,g0⟩,⟨r0,r1,r2⟩,M,N,O⟩:=X.cells)
       refine bodyPost_ret (v:=.agg #[.int .i64 r.1.1,.int .i64 r.1.2.1,.string (aa r.1.2.2)]) (by simp[results,Tryz.results75,go_sem,r0,r1,r2,j3]) rfl ?_;have h:=iB.end (r:=r) rfl L hR5 X.kr (show x.heap.size<=x.heap.size+1 by omega) X.b1 (.int .i64 r.1.1) (.int .i64 r.1.2.1) (.string (aa r.1.2.2));exact⟨rfl,h.2.1.ah (ae _ _),h.2.2.trans (Below.kn (ae _ _) (le_of_lt h.2.1.lt))⟩
  ·have q6:(k==0)=false:=by simpa using a1
   have HE:Hid (r=(bO,k,T)):=h4 a1;clear hT h4;have b2:=hE.1;clear hE
   go_wp2_with fail
   refine bodyPost_ret (v:=.agg #[.int .i64 0,.int .i64 0,.string ⟨#[]⟩]) (by simp[results,Tryz.results75,go_sem,r0,r1,r2]) rfl ?_;rw[HE.out];exact iB.end rfl L b2 K.kr (by omega) K.b1 _ _ _
theorem vo:∀a b:Bs,(Op.bytesLess a b=decide (Lib.compareBytes a b<0))/\(Op.bytesLess b a=decide (0<Lib.compareBytes a b))
 | [],[]=>⟨rfl,rfl⟩
 | [],_::_=>⟨rfl,rfl⟩
 |_::_,[]=>⟨rfl,rfl⟩
 |a::xs,b::ys=>by
  obtain⟨i,j⟩:=vo xs ys;have f:Op.bytesLess (a::xs) (b::ys)=(decide (a<b)||(a==b&&Op.bytesLess xs ys)):=rfl;have g:Op.bytesLess (b::ys) (a::xs)=(decide (b<a)||(b==a&&Op.bytesLess ys xs)):=rfl;rw[f,g,i,j,Lib.compareBytes];by_cases h:a<b
  ·have l:¬b<a:=λc=>absurd (UInt8.lt_trans h c) (UInt8.lt_irrefl a);have d:(b==a)=false:=by rw[beq_eq_false_iff_ne];intro e;subst e;exact UInt8.lt_irrefl _ h
   rw[if_pos h];simp[h,l,d]
  ·rw[if_neg h];by_cases c:b<a
   ·have d:(a==b)=false:=by rw[beq_eq_false_iff_ne];intro e;subst e;exact UInt8.lt_irrefl _ c
    rw[if_pos c];simp[h,c,d]
   ·have k:a=b:=UInt8.le_antisymm (UInt8.not_lt.mp c) (UInt8.not_lt.mp h);subst k;rw[if_neg c];simp
theorem JO(h:Bs)(n:Int)(a b:Bool)(c:a=decide (n<0))(d:b=decide (0<n)):vB h n=aW (Ey h a b):=by
 subst c d;unfold vB Ey;rcases Int.lt_trichotomy n 0 with hn|hn|hn
 ·have a1:(n==0)=false:=by rw[beq_eq_false_iff_ne];omega
  have a2:decide (n<0)=true:=by simpa using hn
  have a3:decide (0<n)=false:=by rw[decide_eq_false_iff_not];omega
  have a4:decide (n<=0)=true:=by rw[decide_eq_true_eq];omega
  rw[a1,a2,a3,a4];split<;>(try rfl);split<;>rfl
 ·subst hn;split<;>(try rfl);split<;>rfl
 ·have a1:(n==0)=false:=by rw[beq_eq_false_iff_ne];omega
  have a2:decide (n<0)=false:=by rw[decide_eq_false_iff_not];omega
  have a3:decide (0<n)=true:=by simpa using hn
  have a4:decide (n<=0)=false:=by rw[decide_eq_false_iff_not];omega
  rw[a1,a2,a3,a4];split<;>(try rfl);split<;>rfl
theorem JN(n m:Int):decide (n<m)=decide (Lib.compareInt n m<0)/\decide (m<n)=decide (0<Lib.compareInt n m):=by
 unfold Lib.compareInt;by_cases h:n<m
 ·rw[if_pos h];simp[h];omega
 ·rw[if_neg h];by_cases a:n>m
  ·rw[if_pos a];simp[h];omega
  ·rw[if_neg a];simp[h];omega
theorem Oa{t:Int}{a b:au}(j:sH t a)(hb:sH t b)(l:a.1≠0)(f:b.1≠0)(h:Bs):vB h (uj a b)=aW (Ey h (mK a b) (mK b a)):=by
 have num:∀(k n m:Int),k≠2->vB h (uj (k,n,[]) (k,m,[]))=aW (Ey h (mK (k,n,[]) (k,m,[])) (mK (k,m,[]) (k,n,[]))):=λk n m g=>by
  have e:uj (k,n,[]) (k,m,[])=Lib.compareInt n m:=by
   have c:Lib.compareInt k k=0:=by unfold Lib.compareInt;rw[if_neg (by omega),if_neg (by omega)]
   simp only[uj,aM,c,if_true,Lib.compareBytes];split<;>simp_all
  rw[e];refine JO h _ _ _ ?_ ?_
  ·rw[mK,if_neg g];exact(JN n m).1
  ·rw[mK,if_neg g];exact(JN n m).2
 rcases j with rfl|⟨rfl,n,rfl,_⟩|⟨rfl,s,rfl,_⟩|⟨rfl,d,rfl⟩
 ·exact absurd rfl l
 ·rcases hb.one with rfl|⟨m,rfl,_⟩
  ·exact absurd rfl f
  ·exact num 1 n m (by decide)
 ·rcases hb.two with rfl|⟨u,rfl,_⟩
  ·exact absurd rfl f
  ·have e:uj (2,0,s) (2,0,u)=Lib.compareBytes s u:=by
    have c:Lib.compareInt 2 2=0:=by decide
    have i:Lib.compareInt 0 0=0:=by decide
    simp only[uj,aM,c,i,if_true];split<;>simp_all
   rw[e];exact JO h _ _ _ (by rw[mK,if_pos rfl];exact(vo s u).1) (by rw[mK,if_pos rfl];exact(vo s u).2)
 ·rcases hb.three with rfl|⟨d',rfl⟩
  ·exact absurd rfl f
  ·exact num 3 (gB d) (gB d') (by decide)
theorem OZ{a:au}(b:sH 3 a)(c:a.1≠0):xN a=Uf a:=by
 rcases b.three with rfl|⟨d,rfl⟩
 ·exact absurd rfl c
 ·cases d<;>rfl
theorem ve{i:Nat}{c:Value}{a:Bs}{b f:Value}{g:List Bs}{y w':World}{e:Ending}{v:au}(d:RW y i c a b f g 0)(h:e=.returned (ja v)/\Below y.heap.size y w'):iB i c a b f (v,0,g) y e w':=⟨h.1,d.ah h.2,Below.kn h.2 (le_of_lt d.lt)⟩
theorem JZ:∀ {cs:List au},bu cs=false->∀c∈cs,c.1≠0
 | [],_,c,h=>by simp at h
 |d::cs,ha,c,h=>by
  simp only[bu,Bool.or_eq_false_iff,beq_eq_false_iff_ne]at ha;rcases List.mem_cons.mp h with rfl|h
  ·exact ha.1
  ·exact JZ ha.2 c h
theorem Gd{h:Bs}{O:List Int}{cs:List au}(J:h≠hAnd)(K:h≠hOr)(L:h≠yQ)(M:h≠oL)(N:h≠nK)(f:bK h O≠0)(s:DK O cs)(P:bu cs=false)(R:cs.length<=1000){v:au}{k:Int}(d:qm h cs=some (v,k)){y:World}{r:Nat}{B:Value}{j:Bs}{A C:Value}{D:List Bs}{w:Value}(n:aR y w cs)(z:RW y r B j A C D 0):
  Calls prog 132 #[.pointer (some ⟨r,0,none⟩),.string (aa h),w] y λe w'=>iB r B j A C (v,k,D) y e w':=by
 have i:=JZ P;unfold bK at f;by_cases t:h= [43]\/h= [45]\/h= [42]\/h= [47]
 ·rw[if_pos t]at f;unfold ig at f;split at f
  ·next e=>
   subst e;obtain⟨a,b,rfl,g,o⟩:=Rt s;have l:=i a (by simp);have u:=i b (by simp);have E:h≠xJ:=by rcases t with rfl|rfl|rfl|rfl<;>decide
   have F:EU h=false:=by rcases t with rfl|rfl|rfl|rfl<;>decide
   have Q:LP h=true:=by rcases t with rfl|rfl|rfl|rfl<;>decide
   rw[qm,if_neg E]at d;simp only[Hz,F,Q,g.bd.2.2,o.bd.2.2,Bool.and_self,if_true,if_false,Bool.false_eq_true]at d;rw[if_neg λe=>e.elim l u]at d;have:=IX y r B j A C D z w a b n l u g.bd.2.2 o.bd.2.2 h t;rw[Option.some.inj d]at this;exact this
  ·exact absurd rfl f
 ·rw[if_neg t]at f;by_cases x:h= [61]\/h= [60]\/h= [60,61]
  ·rw[if_pos x]at f;have E:h≠xJ:=by rcases x with rfl|rfl|rfl<;>decide
   have F:EU h=true:=by rcases x with rfl|rfl|rfl<;>decide
   unfold nU at f;split at f
   ·next p q=>
    split at f
    ·next e=>
     subst e;obtain⟨a,b,rfl,g,o⟩:=Rt s;have l:=i a (by simp);have u:=i b (by simp);rw[qm,if_neg E]at d;simp only[Hz,F,if_true]at d;rw[if_neg λe=>e.elim l u]at d
     cases d;rw[Oa g o l u h];exact(Gg y r w a b n l u h x).mono λe w' h=>ve z h
    ·exact absurd rfl f
   ·exact absurd rfl f
  ·rw[if_neg x]at f;rw[if_neg λe=>e.elim J K]at f;by_cases G:h= [110,111,116]
   ·rw[if_pos G]at f;unfold ig at f;split at f
    ·next e=>
     subst e G;obtain⟨a,rfl,g⟩:=CX s;have l:=i a (by simp);have e:qm [110,111,116] [a]=some (if a.1=0 then bO else xN a,0):=rfl;rw[e,if_neg l]at d
     cases d;rw[OZ g l];exact(Gi y r w a n l).mono λe w' h=>ve z h
    ·exact absurd rfl f
   ·rw[if_neg G,if_neg (show¬h= [105,115,110,117,108,108]from N),if_neg (show¬h= [105,102]from L)]at f;by_cases H:h= [108,101,110]
    ·rw[if_pos H]at f;unfold ig at f;split at f
     ·next e=>
      subst e H;obtain⟨a,rfl,g⟩:=CX s;have l:=i a (by simp);have e:qm [108,101,110] [a]=some (if a.1=0 then bO else(1,(a.2.2.length:Int),[]),0):=rfl;rw[e,if_neg l]at d
      cases d;exact(Gh y r w a n l).mono λe w' h=>ve z h
     ·exact absurd rfl f
    ·rw[if_neg H]at f;by_cases I:h= [99,97,116]
     ·rw[if_pos I]at f;unfold kF at f;split at f
      ·next e=>
       subst I;unfold qm at d;rw[if_pos (show [99,97,116]=xJ from rfl),if_pos (oz s),if_neg (by rw[P];exact Bool.false_ne_true)]at d;obtain⟨m,S⟩:∃m,cs.length=m+1:=by
        cases cs with
        |nil=>cases O with
         |nil=>simp at e
         |cons _ _=>exact absurd s id
        |cons c cs=>exact⟨cs.length,rfl⟩
       have:=Gf y r B j A C D z w cs n i m S R (oz s);rw[Option.some.inj d]at this;exact this
      ·exact absurd rfl f
     ·rw[if_neg I,if_neg (show¬h= [110,111,116,101]from M)]at f;exact absurd rfl f
theorem Iy{b:List RF}(c:∀r∈b,bM r.fn.name=false){h:Bs}(hb:bM h=true):aV (RF.list b) h=none:=by
 unfold aV;rw[List.findIdx?_eq_none_iff];intro fn a;rw[RF.list,List.mem_map]at a;obtain⟨r,d,rfl⟩:=a;rw[beq_eq_false_iff_ne];intro e;have:=c r d;rw[e,hb]at this
 cases this
theorem MN{n:List RF}(N:∀r∈n,bM r.fn.name=false){h:Bs}{g:List Int}{cs:List au}{u:List Bs}{r:Rs}(hb:bM h=true)(D:h≠hAnd)(E:h≠hOr)(F:h≠yQ)(m:bK h g≠0)(l:DK g cs)(O:cs.length<=1000)(i:(if h=oL then zk u cs else match qm h cs with|none=>none|some (v,C)=>some (v,C,u))=some r)(R:Nat)(J:Value)(o:Bs)(H Q:Value)(x:World):Sk n cs u r R J o H Q x h:=by
 refine .inr ⟨Iy N hb, ?_⟩;by_cases p:h=oL
 ·subst p;rw[if_pos rfl]at i;obtain⟨c,rfl,z,P,B⟩:=Bo i;refine .inr (.inl ⟨rfl,c,rfl,z, ?_,P,B⟩)
  cases g with
  |nil=>exact absurd l id
  |cons t g=>exact l.1.bd.2.2
 rw[if_neg p]at i;split at i
 ·cases i
 next v C d=>
 have B:r=(v,C,u):=(Option.some.inj i).symm;subst B;by_cases q:h=nK
 ·subst q;refine .inl ⟨rfl, ?_⟩;have e:bK nK g=FM g:=rfl;rw[e]at m;obtain⟨t,rfl⟩:∃t,g= [t]:=by
   unfold FM at m;split at m
   ·exact⟨_,rfl⟩
   ·exact absurd rfl m
  obtain⟨c,rfl,M⟩:=CX l;have I:qm nK [c]=some (aW (c.1==0),0):=rfl;rw[I]at d
  cases d;simp[bu]
 ·refine .inr (.inr ⟨q,p, ?_⟩)
  cases s:bu cs with
  |false=>exact .inr ⟨rfl,λy w A L=>Gd D E F p q m l s O d A L⟩
  |true=>
   refine .inl ⟨rfl, ?_⟩
   suffices hs:qm h cs=some (bO,0)by
    rw[hs]at d;cases d;rfl
   unfold qm at d ⊢;by_cases G:h=xJ
   ·rw[if_pos G,if_pos (oz l),if_pos s]
   ·rw[if_neg G]at d ⊢;split at d
    ·next c=>
     have f:c.1=0:=by simpa[bu]using s
     unfold SK at d ⊢;rw[if_neg q]at d ⊢;by_cases j:h=LC
     ·rw[if_pos j,if_pos f]
     ·rw[if_neg j]at d ⊢;by_cases k:h=LB
      ·rw[if_pos k,if_pos f]
      ·rw[if_neg k]at d;cases d
    ·next a b=>
     have f:a.1=0\/b.1=0:=by simpa[bu]using s
     unfold Hz at d ⊢;by_cases j:EU h=true
     ·rw[if_pos j,if_pos f]
     ·rw[if_neg j]at d ⊢;by_cases k:LP h=true
      ·rw[if_pos k]at d ⊢;split at d
       ·next K=>rw[if_pos K,if_pos f]
       ·cases d
      ·rw[if_neg k]at d;cases d
    ·cases d
theorem OM{H:List Int}{fns n:List Fn}{t:Tr}{e:Ex}(K:ny t)(hb:t.br=false)(h:aY bi ([],H) fns t=.ok e){g:Bs}{args:List au}{N:Nat}{ns:List Bs}{r:Rs}(i:nz n g (N+1) [] args e ns=some r):∃v,MQ g args t.tx=some v/\r=(v,0,ns)/\t.tx.length<=32:=by
 obtain⟨k,a,J,Q⟩:=t;obtain⟨R,x,O⟩:=K hb;have y:J=false:=hb;have A:k=aQ a:=O;subst y A;have b:fU a=true:=x;show∃v,MQ g args a=some v/\r=(v,0,ns)/\a.length<=32;have s:(a== [40])=false:=by
  rw[Bool.eq_false_iff];intro e;rw[beq_iff_eq]at e;subst e;exact absurd b (by decide)
 have u:(a== [41])=false:=by
  rw[Bool.eq_false_iff];intro e;rw[beq_iff_eq]at e;subst e;exact absurd b (by decide)
 have G:jG a=false:=by
  rw[Bool.eq_false_iff];intro e;rw[(vP e).1]at b;cases b
 rw[aY,if_neg Bool.false_ne_true]at h;have f:aQ a=if dQ a then 3 else if cz a then 4 else if iC a then 7 else if aS a then 5 else if jO a then 6 else 0:=by
  unfold aQ;rw[s,u,G];rfl
 unfold MQ
 cases l:dQ a with
 |true=>
  have B:aQ a=3:=by rw[f,l];rfl
  rw[B,if_neg (by decide),if_neg (by decide)]at h
  cases h;have j:r=((1,bi a,[]),0,ns):=by simpa[dx,fQ,nz]using i.symm
  exact⟨_,rfl,by rw[j,(Kb l).1],by have:=(FL l).1;omega⟩
 |false=>
  rw[l,if_neg Bool.false_ne_true]at f;rw[if_neg Bool.false_ne_true]
  cases o:cz a with
  |true=>
   have C:aQ a=4:=by rw[f,o];rfl
   rw[C,if_neg (by decide),if_neg (by decide)]at h
   cases h;have j:r=((2,0,(a.drop 1).take (a.length- 1- 1)),0,ns):=by simpa[dx,fQ,nz]using i.symm
   have I:=o;simp only[cz,Bool.and_eq_true,decide_eq_true_eq]at I;exact⟨_,by rw[if_pos rfl],j,I.1.1.1.2⟩
  |false=>
   rw[o,if_neg Bool.false_ne_true]at f;rw[if_neg Bool.false_ne_true]
   cases m:iC a with
   |true=>
    have F:aQ a=7:=by rw[f,m];rfl
    rw[F,if_neg (by decide),if_pos rfl]at h;obtain⟨c,rfl,L,M⟩:=uI m;unfold xO at h;split at h
    ·cases h
    next ty P=>
    cases h;have q:jS [36,c]=((c.toNat- 49:Nat):Int):=by
     rw[jS,m,if_pos rfl];show((c.toNat:Int)- 49)=_;omega
    rw[if_neg (by simp[xD]),if_neg (by simp[xC]),if_neg (by simp[qZ]),if_pos (by rw[q];omega),q];have d:qP (qO args ((c.toNat- 49:Nat):Int)) ns=some r:=by
     simpa[wV,nz]using i
    rw[qO,if_pos (by omega),Int.toNat_natCast]at d
    cases w:args[c.toNat- 49]? with
    |none=>rw[w]at d;cases d
    |some v=>rw[w]at d;exact⟨v,by rw[Int.toNat_natCast];exact w,(Option.some.inj d).symm,by simp⟩
   |false=>
    rw[m,if_neg Bool.false_ne_true]at f
    cases p:aS a with
    |true=>
     have D:aQ a=5:=by rw[f,p];rfl
     have j:jh a=true:=by
      have z:=(kW p).2.2.2.2.1;rw[fU,l,o,m,z]at b;simpa using b
     rw[D,if_neg (by decide),if_neg (by decide)]at h
     cases h;unfold jh at j;simp only[Bool.or_eq_true,beq_iff_eq]at j;rcases j with(rfl|rfl)|rfl
     ·exact⟨aW true,by rw[if_neg (by decide),if_pos (by decide)],by simpa[dx,fQ,nz,aW]using i.symm,by decide⟩
     ·exact⟨aW false,by rw[if_neg (by decide),if_neg (by decide),if_pos (by decide)],by simpa[dx,fQ,nz,aW]using i.symm,by decide⟩
     ·exact⟨(2,0,g),by rw[if_pos (by decide)],by simpa[dx,tX,nz]using i.symm,by decide⟩
    |false=>
     have j:jh a=false:=by
      rw[Bool.eq_false_iff];intro e;rw[uQ e]at p;cases p
     have z:jO a=true:=by
      rw[fU,l,o,m,j]at b;simpa using b
     have E:aQ a=6:=by rw[f,p,z];rfl
     rw[E,if_pos rfl]at h
     cases h
mutual
theorem FD:∀t:Tr,(∀y∈post t,ny y)->Fit UC t
 | .mk k tx br ops,h=>by
  rw[post]at h;exact .mk (λhb=>(h (.mk k tx br ops) (by simp) hb).2.2) (vH ops λy a=>h y (mem_append_left _ a))
theorem vH:∀a:List Tr,(∀y∈bV a,ny y)->Fits UC a
 | [],_=>.nil
 |t::a,h=>by
  rw[bV]at h;exact .cons (FD t λy b=>h y (mem_append_left _ b)) (vH a λy b=>h y (List.mem_append_right _ b))
end
theorem RF.take(a:List RF)(i:Nat):RF.list (a.take i)=(RF.list a).take i:=by simp[RF.list,List.map_take]
theorem Jc{a:List RF}{i:Nat}{fn:Fn}(h:(RF.list a)[i]? =some fn):∃b,a[i]? =some b/\b.fn=fn:=by
 rw[RF.list,List.getElem?_map]at h
 cases c:a[i]? with
 |none=>rw[c]at h;cases h
 |some b=>rw[c]at h;exact⟨b,rfl,Option.some.inj h⟩
theorem uU.uT{a:List RF}(h:uU a):rT (RF.list a):=λi fn f=>by
 obtain⟨b,d,rfl⟩:=Jc f;obtain⟨c,e⟩:=h.Vx i b d;rw[RF.take]at c;exact⟨⟨b.t,FD _ e,c⟩,h.BK b (List.mem_of_getElem? d)⟩
theorem KD{ps:Sc}{fns:List Fn} :∀ {b:List Tr} {a:List Ex},bW bi ps fns b=.ok a->b.length=a.length/\∀(m:Nat) (t:Tr),b[m]? =some t->∃e,a[m]? =some e/\aY bi ps fns t=.ok e
 | [],a,h=>by rw[bW]at h;cases h;exact⟨rfl,λm t h=>by simp at h⟩
 |t::b,a,h=>by
  rw[bW]at h;split at h
  ·cases h
  ·next x i=>
   split at h
   ·cases h
   ·next k d=>
    cases h;obtain⟨f,g⟩:=KD d;refine⟨by simp[f],λm j c=> ?_⟩
    cases m with
    |zero=>simp at c;subst c;exact⟨x,rfl,i⟩
    |succ m=>simpa using g m j (by simpa using c)
theorem Lr{fns:List Fn}{j:Nat}{h:Bs}{i:Nat}(a:aV (fns.take j) h=some i):aV fns h=some i:=by
 unfold aV at a ⊢;rw[List.findIdx?_eq_some_iff_getElem]at a ⊢;obtain⟨e,c,d⟩:=a;have b:i<fns.length:=by rw[List.length_take]at e;omega
 refine⟨b,by simpa using c,λk f=>by simpa using d k f⟩
theorem BR{f:Ev} :∀(a:List Ex) (ns:List Bs) (cs:List au) (k:Int) (n:List Bs),fE f a ns=some (cs,k,n)->cs.length<=a.length
 | [],ns,cs,k,n,h=>by rw[fE]at h;cases h;simp
 |e::a,ns,cs,k,n,h=>by
  rw[fE]at h;split at h
  ·cases h
  split at h
  ·cases h;simp
  split at h
  ·cases h
  next b d g c=>
  split at h
  ·cases h;simp
  ·cases h;have:=BR a _ _ _ _ c;simp;omega
theorem Pq{t:Tr}{m:Nat}{o:Tr}(e:t.ops[m]? =some o)(d:∀y∈post t,ny y):∀y∈post o,ny y:=λy f=>by
 obtain⟨k,i,g,c⟩:=t;refine d y ?_;rw[post];refine mem_append_left _ ?_;have:∀(b:List Tr) (m:Nat),b[m]? =some o->y∈bV b:=by
  intro b
  induction b with
  |nil=>intro m h;simp at h
  |cons a b ih=>
   intro m h;rw[bV]
   cases m with
   |zero=>simp at h;subst h;exact mem_append_left _ f
   |succ m=>exact List.mem_append_right _ (ih m (by simpa using h))
 exact this c m e
theorem VK{D:List RF}(hK:uU D){s:Bs}(hu:s.length<=30){fv cv lv:Value}{rb:Nat} :∀(N j:Nat) (G:List Int) (t:Tr) (e:Ex) (w0:World) (g cap:Nat) (l:List Tr) (uT:Nat->Int) (vs:List Value) (i:Nat),iL w0 g cap l uT vs->l[i]? =some t->(∀y∈post t,ny y)->w0.heap.size<=rb->lN w0 fv D->aY bi ([],G) (RF.list (D.take j)) t=.ok e->∀(ao:Option Addr) (an Z:Nat) (args:List au),DK G args->Ql w0 g l.length cap rb fv s cv lv ao an Z args (nz (RF.list D) s N [] args) i e:=by
 intro N
 induction N with
 |zero=>intro j G t e w0 g cap l uT vs i _ _ _ _ _ _ ao an Z args _ x ns r hr;cases hr
 |succ N ih=>
  intro j G t e w0 g cap l uT vs i hN hi hL A F w ao an Z args ha x ns r f hR hB hA;have E:i<l.length:=(List.getElem?_eq_some_iff.mp hi).1;obtain⟨bo,c2,is,u⟩:=hN.nat hi
  cases a2:t.br with
  |false=>
   obtain⟨v,V,rfl,hl⟩:=OM (hL t (List.mem_of_getElem? (dE t))) a2 w f;exact Gn u E hR hB hA.1 a2 (by unfold maxLen;omega) v V
  |true=>
   have g3:=w;obtain⟨k,W,br,C⟩:=t;have a7:br=true:=a2;subst a7;rw[aY,if_pos rfl]at w;unfold uY at w;split at w
   ·cases w
   next B b0=>
   obtain⟨z,c6⟩:=KD b0;have e7:C.length<=1000:=u.Oq;have Y:∀(m q:Nat) (h:m<B.length),is[m]? =some q->Ql w0 g l.length cap rb fv s cv lv ao an Z args (nz (RF.list D) s N [] args) q B[m]:=λm q h hm=>by
    obtain⟨hq,a4⟩:=u.ix m q hm;have b6:m<C.length:=by omega
    have ho:(Tr.mk k W true C).ops[m]? =some C[m]:=getElem?_eq_getElem b6;rw[ho]at a4;obtain⟨e',a9,e5⟩:=c6 m C[m] (getElem?_eq_getElem b6);rw[getElem?_eq_getElem h]at a9;rw[Option.some.inj a9];exact ih j G C[m] e' w0 g cap l uT vs q hN a4 (Pq ho hL) A F e5 ao an Z args ha
   have HF:∀(m q:Nat),is[m]? =some q->Vz w0 g l.length cap rb fv s cv lv ao an Z q:=λm q hm y g5 S e3 a0 O=>by
    obtain⟨hq,a4⟩:=u.ix m q hm;have b9:q<l.length:=by omega
    obtain⟨e8,e9,g4,a6⟩:=hN.nat (getElem?_eq_getElem b9);exact Dn a6 b9 e3 a0 O ao an Z
   have hm:=zV b0 (vH C λy hy=>hL y (by rw[post];exact mem_append_left _ hy));have HE:∀e∈B,BU (nz (RF.list D) s N [] args) e:=λe he=>Vq (RF.list D) s hu hK.uT N j ([],G) [] args e (by rw[<-RF.take];exact hm e he) trivial ha;unfold pQ at w;split at w
   ·next hb=>
    split at w
    ·cases w
    next o=>
    cases w;rw[nz,if_neg (by omega),if_neg (by decide),if_neg (by decide),if_neg (by decide),if_pos rfl]at f;unfold lD at f;by_cases n1:W=hAnd
    ·rw[if_pos n1]at f;subst n1;obtain⟨h3,_⟩:=ou (n:=3) (ts:=B.map Ex.ty) o;have L:0<B.length:=by
      rcases B with _|⟨a,B⟩
      ·exact absurd rfl o
      ·simp
     exact Ja u E hR hB A hA rfl rfl z L Y (λe he=>⟨HE e he,rD rfl 3 h3 e he⟩) r f
    rw[if_neg n1]at f;by_cases n2:W=hOr
    ·rw[if_pos n2]at f;subst n2;obtain⟨h3,_⟩:=ou (n:=3) (ts:=B.map Ex.ty) o;have L:0<B.length:=by
      rcases B with _|⟨a,B⟩
      ·exact absurd rfl o
      ·simp
     exact MF u E hR hB A hA rfl rfl z L Y (λe he=>⟨HE e he,rD rfl 3 h3 e he⟩) r f
    rw[if_neg n2]at f;by_cases n3:W=yQ
    ·rw[if_pos n3]at f;subst n3;obtain⟨a,b,c,rfl⟩:∃a b c,B= [a,b,c]:=by
      rcases B with _|⟨a,_|⟨b,_|⟨c,_|⟨d,l⟩⟩⟩⟩
      ·exact absurd rfl o
      ·exact absurd rfl o
      ·exact absurd rfl o
      ·exact⟨a,b,c,rfl⟩
      ·exact absurd rfl o
     have b1:=f;rw[TS]at f;split at f
     ·cases f
     next v S m1 hf=>
     have e2:=u.len;have b5:is.length=3:=by rw[e2];exact z
     obtain⟨j0,j1,j2,J⟩:∃j0 j1 j2,is= [j0,j1,j2]:=by
      rcases is with _|⟨j0,_|⟨j1,_|⟨j2,_|⟨j3,is⟩⟩⟩⟩<;>simp at b5
      exact⟨j0,j1,j2,rfl⟩
     have e4:a.ty=3:=by
      have e:bK yQ ([a,b,c].map Ex.ty)=if a.ty=3/\b.ty=c.ty then b.ty else 0:=rfl
      rw[e]at o;by_cases h':a.ty=3/\b.ty=c.ty
      ·exact h'.1
      ·rw[if_neg h']at o;exact absurd rfl o
     have K:=HE a (by simp) ns _ hf;rw[e4]at K;exact ME u E hR hB A hA rfl rfl J (Y 0 j0 (by simp) (by rw[J];rfl)) (Y 1 j1 (by simp) (by rw[J];rfl)) (Y 2 j2 (by simp) (by rw[J];rfl)) (HF 2 j2 (by rw[J];rfl)) v S m1 hf K r b1
    rw[if_neg n3]at f;split at f
    ·cases f
    next cs S n' V=>
    have M:=F;obtain⟨fo,c4,P,_⟩:=M;refine zK u E hR hB A hA rfl n1 n2 n3 z Y HF cs S n' V r (λQ=> ?_) P F λQ=> ?_
    ·rw[if_pos Q]at f;exact(Option.some.inj f).symm
    ·rw[if_neg (λh=>h Q)]at f;exact MN hK.free hb n1 n2 n3 o (zY B HE ns cs S n' V Q) (by have:=BR B ns cs S n' V;omega) f rb fv s cv lv x
   ·next hb=>
    have a1:bM W=false:=by simpa using hb
    unfold og at w;split at w
    ·cases w
    next i' b3=>
    split at w
    ·cases w
    next fn H=>
    split at w
    ·next o=>
     cases w;rw[RF.take]at b3;have b4:=Lr b3;obtain⟨c3,I,_⟩:=jE b4;have e1:c3=fn:=by
      rw[RF.take,List.getElem?_take]at H;split at H
      ·rw[I]at H;exact Option.some.inj H
      ·cases H
     subst e1;rw[nz,if_neg (by omega),if_neg (by decide),if_neg (by decide),if_neg (by decide),if_neg (by decide),if_pos rfl,Eu,I]at f;simp only at f;split at f
     ·cases f
     next cs S n' V=>
     have M:=F;obtain⟨fo,c4,P,h8,hz⟩:=M;obtain⟨T,R,rfl⟩:=Jc I;refine zK u E hR hB A hA rfl (λe=> ?_) (λe=> ?_) (λe=> ?_) z Y HF cs S n' V r (λQ=> ?_) P F λQ=> ?_
     ·have e:W=hAnd:=e;subst e;cases a1
     ·have e:W=hOr:=e;subst e;cases a1
     ·have e:W=yQ:=e;subst e;cases a1
     ·rw[if_pos Q]at f;exact(Option.some.inj f).symm
     ·rw[if_neg (λh=>h Q)]at f;refine .inl ⟨i',T,b4,R,λg2 n2 U y lo ln lc ky a3 a0 c9=> ?_⟩;rcases hz with h|⟨b,hb0,hbl,hfa⟩
      ·subst h;simp at R
      subst hb0;obtain⟨gb,e6,a5,X, -, -,c1, -, -,c0,b8,b7, -⟩:=hfa i' T R;obtain⟨b',g1,g0,b2,e0⟩:=a3;rw[P]at b2
      cases b2;have O:=RW.kr hB A ky;have a8:=(O.cell (p:=⟨b,i'*5+2,none⟩) hbl).trans c1;rw[e0]at a8
      cases a8;have c5:iL w0 g2 U (post T.t) X a5:=⟨b8,b7,c0,λt w=>Nat.le_trans (lI w) c0⟩;obtain⟨c8,c7⟩:=hK.Vx i' T R;have K:=zY B HE ns cs S n' V Q;rw[o]at K;exact ih i' T.fn.args T.t T.fn.body w0 g2 U (post T.t) X a5 ((post T.t).length- 1) c5 (dE _) c7 A F c8 lo ln lc cs K y n' r f a0 O (c9.VS rb)
    ·cases w
end Go.Proofs.YtdifpeaklamhnaaGreatDoor

import Derived.Test.YtdifpeaklamhnaaGreatDoorRtKZ
import Derived.Test.YtdifpeaklamhnaaGreatDoorBaB
set_option linter.unusedVariables false
set_option linter.unusedSimpArgs false
set_option maxRecDepth 100000
set_option maxHeartbeats 0
namespace Go.Proofs.YtdifpeaklamhnaaGreatDoor
open Go.Proofs.Tryz
open Go.RowKit
open World (size_alloc setCell)
open Below (refl)
open Value (string int)
open List (all_cons length_map)
theorem TJ(N:Nat)(hN:BD N)(T:Tr)(w:World)(co:Option Addr)(cn cc:Nat)(r:Option Addr)(G F:Nat)(args:Bs)(E:Option Addr)(f D:Nat)(ps:Sc)(a:List RF)(g cap:Nat)(l:List Tr)(ty:Nat->Int)(cs:List Value)(i:Nat)(a8:∀y∈T.ops,SizeOf.sizeOf y<=N)
  (a2:nN w co cn cc r G F (.slice E f D) ps.1 a) (hK:nZ ps args a) (u:iY w g cap l ty cs) (hi:l[i]? =some T) (a3:T.br=true) (a5:bB (RF.list a) T.tx=none):
  Calls prog 119 #[.agg #[.slice co cn cc,.slice r G F,.string (aa args),.slice E f D],.agg #[.slice (some ⟨g,0,none⟩) l.length cap],.int .i64 i] w λe w'=>e=.returned (.bool (lK a T))/\Below w.heap.size w w':=by
 obtain⟨Y,Z,is,q0,q1,q2,q3,I,J,a9⟩:=u.at hi;rw[a3]at q1;have g0:=(List.getElem?_eq_some_iff.mp hi).1;have e9:=u.lt;have e2:=u.cap;have g5:=u.small;have P:Hid (lK a T=((!fK T.tx&&pJ a (bB (RF.list a) T.tx))&&qj a T.ops)):=by
  obtain⟨k,tx,br,g6⟩:=T;have:br=true:=a3;subst this;rw[Hid,lK];rfl
 have g2:T.ops.length<=1000:=by
  have h1:=vK u hi;omega
 have c3:Hid _:=a9;have s:Hid _:=I;have U:Hid _:=J;have V:Hid _:=a2;have c1:Hid _:=u;obtain⟨W,hW⟩:∃W,W=((w.alloc (.cells #[.slice co cn cc,.slice r G F,.string (aa args),.slice E f D] 214)).alloc (.cells #[.slice (some ⟨g,0,none⟩) l.length cap] 102)).alloc (.cells #[.string (aa T.tx),.bool true,.slice Y T.ops.length Z,.int .u8 (ty i)] 183):=⟨_,rfl⟩;have H:Hid (((w.alloc (.cells #[.slice co cn cc,.slice r G F,.string (aa args),.slice E f D] 214)).alloc (.cells #[.slice (some ⟨g,0,none⟩) l.length cap] 102)).alloc (.cells #[.string (aa T.tx),.bool true,.slice Y T.ops.length Z,.int .u8 (ty i)] 183)=W):=hW.symm;have c:Below w.heap.size w W:=by rw[hW];exact jo w _ _ _
 have h3:=fP (w:=w) (o:=(.cells #[.slice co cn cc,.slice r G F,.string (aa args),.slice E f D] 214)) (o':=(.cells #[.slice (some ⟨g,0,none⟩) l.length cap] 102)) (o2:=(.cells #[.string (aa T.tx),.bool true,.slice Y T.ops.length Z,.int .u8 (ty i)] 183)) (refl _ _);rw[<-hW]at h3;have g3:W.heap.size=w.heap.size+3:=by rw[hW];simp[size_alloc]
 have n:∀x:World,Below W.heap.size W x->(x.cell? ⟨w.heap.size+2,0,none⟩=some (.string (aa T.tx))/\x.cell? ⟨w.heap.size+2,2,none⟩=some (.slice Y T.ops.length Z))/\(x.cell? ⟨w.heap.size,0,none⟩=some (.slice co cn cc)/\x.cell? ⟨w.heap.size,1,none⟩=some (.slice r G F)/\x.cell? ⟨w.heap.size,2,none⟩=some (.string (aa args))/\x.cell? ⟨w.heap.size,3,none⟩=some (.slice E f D))/\x.cell? ⟨w.heap.size+1,0,none⟩=some (.slice (some ⟨g,0,none⟩) l.length cap):=by
  intro x S;have b0:=(S.block w.heap.size (by omega)).trans h3.1;have b1:=(S.block (w.heap.size+1) (by omega)).trans h3.2.1;have b2:=(S.block (w.heap.size+2) (by omega)).trans h3.2.2.1;exact⟨⟨(af b2).trans rfl,(af b2).trans rfl⟩,⟨(af b0).trans rfl,(af b0).trans rfl,(af b0).trans rfl,(af b0).trans rfl⟩,(af b1).trans rfl⟩
 clear hW h3;clear a9 I J a2 u hi;obtain⟨fi,B⟩:∃fi,fi=bB (RF.list a) T.tx:=⟨_,rfl⟩;have c7:fi=none:=B.trans a5;have O:Calls prog 67 #[.agg #[.slice co cn cc,.slice r G F,.string (aa args),.slice E f D],.string (aa T.tx)] W λe w'=>e=.returned (.int .i64 (zJ fi))/\Below W.heap.size W w':=by
  rw[B];exact fI W _ _ _ E f D a (V.out.ag c).fns T.tx
 obtain⟨ld,R⟩:∃b,b=fK T.tx:=⟨_,rfl⟩;have M:∀x:World,Calls prog 114 #[.slice (some ⟨x.heap.size,0,none⟩) 6 6,.string (aa T.tx)] (x.alloc (.cells (kZ.map λt=>string (aa t)).toArray 9)) λe w'=>e=.returned (.bool ld)/\w'=x.alloc (.cells (kZ.map λt=>string (aa t)).toArray 9):=by
  intro x;rw[R,<-yR];exact uk kZ 6 rfl (by omega) _ _ (heap_alloc_new x _) T.tx
 rw[<-B,<-R]at P;have e3:Hid _:=B;obtain⟨⟨x0,x2⟩,⟨y0,y1,y2,y3⟩,y4⟩:=n W (refl _ _);clear B R a5;subst c7;go_enter Tryz.func119,Tryz.ntmps119;go_upto_region 3 with fail
 rw[H.out];clear H q0 q1 q2 q3
 cases ld with
 |true=>
  have HF:Hid (lK a T=false):=by rw[Hid,P.out];rfl
  go_wp2_with(first
   |(go_at_call 67;refine O.mono ?_;rintro e v ⟨rfl,hb5⟩;obtain⟨⟨b4,b5⟩,⟨b6,b7,b8,b9⟩,c0⟩:=n v hb5;have c5:w.heap.size+2<v.heap.size:=(by have:=hb5.size;omega);have c4:w.heap.size<v.heap.size:=(by omega))
   |(go_at_call 114;refine(M _).mono ?_;rintro e w7 ⟨rfl,rfl⟩))
  go_ret;exact⟨ay HF.out.symm,c.trans ((hb5.alloc hb5.size _).mono c.size)⟩
 |false=>
  have g1:zJ none= -1:=rfl;have X:Hid (lK a T=qj a T.ops):=by rw[Hid,P.out];rfl
  go_wp2_with(first
   |(go_at_call 67;refine O.mono ?_;rintro e v ⟨rfl,hb5⟩;obtain⟨⟨b4,b5⟩,⟨b6,b7,b8,b9⟩,c0⟩:=n v hb5;have c5:w.heap.size+2<v.heap.size:=(by have:=hb5.size;omega);have c4:w.heap.size<v.heap.size:=(by omega))
   |(go_at_call 114;refine(M _).mono ?_;rintro e w7 ⟨rfl,rfl⟩))
  clear b4 b5 b6 b7 b8 b9 c0 x0 x2 y0 y1 y2 y3 y4 O M;go_loopg [10] T.ops.length (λgk jv wx=>∃j:Nat,gk=T.ops.length- j/\j<=T.ops.length/\jv=.int .i64 j/\Below v.heap.size v wx/\Hid (qj a T.ops=(T.ops.drop j).all (lK a)))
  case atStart=>exact⟨0,rfl,Nat.zero_le _,rfl,ae v _,by rw[Hid,ze];rfl⟩
  case round=>
   obtain⟨j,c8,hj,rfl,Q,HQ⟩:=hrel;subst c8;generalize e0:wr=wj at*;clear e0;have d:Below W.heap.size W wj:=hb5.trans (Q.mono hb5.size);obtain⟨⟨x0,x2⟩,⟨y0,y1,y2,y3⟩,y4⟩:=n wj d;have g4:=d.size;have e5:w.heap.size<wj.heap.size:=by omega
   have e4:w.heap.size+1<wj.heap.size:=by omega
   have e6:w.heap.size+2<wj.heap.size:=by omega
   by_cases C:j<T.ops.length
   ·obtain⟨b,rfl,c6,e8,A⟩:∃b,Y=some ⟨b,0,none⟩/\b<w.heap.size/\T.ops.length<=Z/\∀(m q:Nat),is[m]? =some q->w.cell? ⟨b,m,none⟩=some (.int .i64 (q:Int)):=by
     rcases c3.out with h|h
     ·rw[h]at C;simp at C
     ·exact h
    have hq:=List.getElem?_eq_getElem (l:=is) (i:=j) (by have:=s.out;omega);obtain⟨c9,a6⟩:=U.out j _ hq;have a0:wj.cell? ⟨b,j,none⟩=some (.int .i64 ((is[j]'(by have:=s.out;omega):Nat):Int)):=((c.trans (d.mono c.size)).cell (p:=⟨b,j,none⟩) c6).trans (A j _ hq);have e7:b<wj.heap.size:=by have:=c.size;omega
    have K:l[is[j]'(by have:=s.out;omega)]? =some T.ops[j]:=by rw[a6];exact List.getElem?_eq_getElem C
    have L:SizeOf.sizeOf T.ops[j]<=N:=a8 _ (List.getElem_mem C);have HC:∀x:World,Below wj.heap.size wj x->Calls prog 119 #[.agg #[.slice co cn cc,.slice r G F,.string (aa args),.slice E f D],.agg #[.slice (some ⟨g,0,none⟩) l.length cap],.int .i64 ((is[j]'(by have:=s.out;omega):Nat):Int)] x λe w'=>e=.returned (.bool (lK a T.ops[j]))/\Below wj.heap.size wj w':=by
     intro x S;have b3:Below w.heap.size w x:=(c.trans (d.mono c.size)).trans (S.mono (c.trans (d.mono c.size)).size);exact(hN T.ops[j] x co cn cc r G F args E f D ps a g cap l ty cs _ L (V.out.ag b3) hK (c1.out.ag b3) K).mono λe w' h=>⟨h.1,S.trans (h.2.mono S.size)⟩
    have HD:Hid ((T.ops.drop j).all (lK a)=(lK a T.ops[j]&&(T.ops.drop (j+1)).all (lK a))):=by rw[Hid,List.drop_eq_getElem_cons C,all_cons]
    obtain⟨qv,a7⟩:∃q,q=lK a T.ops[j]:=⟨_,rfl⟩;rw[<-a7]at HC HD;obtain⟨iq,a4⟩:∃q,q=is[j]'(by have:=s.out;omega):=⟨_,rfl⟩;rw[<-a4]at HC a0;clear a7 a4 A hq c9 a6 K L;go_upto_region 10 with fail
    go_cut [11] (λe1 wx=>e1=.bool qv/\Below wj.heap.size wj wx)
    case first=>
     go_region_with(go_at_call 119;refine(HC _ ?_).mono ?_;(first|exact refl _ wj|exact(refl _ wj).drew);rintro e w3 ⟨rfl,hb3⟩);all_goals(go_wp2_with fail;go_meet)
     all_goals exact⟨rfl,by first|exact hb3|exact hb3.drew⟩
    case rest=>
     obtain⟨rfl,a1⟩:=hcut;have BF:Below w.heap.size w wc:=(c.trans (d.mono c.size)).trans (a1.mono (c.trans (d.mono c.size)).size);have BN:Below v.heap.size v wc:=Q.trans (a1.mono Q.size)
     cases qv with
     |true=>
      have z:Hid (qj a T.ops=(T.ops.drop (j+1)).all (lK a)):=by rw[Hid,HQ.out,HD.out];rfl
      go_wp2_with fail
      go_roundg (T.ops.length- (j+1))
      case measure=>omega
      case rel=>exact⟨j+1,rfl,by omega,by go_num,BN,z⟩
     |false=>
      have z:Hid (lK a T=false):=by rw[Hid,X.out,HQ.out,HD.out];rfl
      go_wp2_with fail
      go_ret;exact⟨ay z.out.symm,BF⟩
   ·have z:Hid (lK a T=true):=by rw[Hid,X.out,HQ.out,List.drop_of_length_le (by omega)];rfl
    have BF:Below w.heap.size w wj:=c.trans (d.mono c.size)
    go_wp2_with fail
    go_ret;exact⟨ay z.out.symm,BF⟩
theorem TK(N:Nat)(hN:BD N)(T:Tr)(w:World)(co:Option Addr)(cn cc:Nat)(s:Option Addr)(P O:Nat)(args:Bs)(L:Option Addr)(z H:Nat)(ps:Sc)(a:List RF)(g cap:Nat)(l:List Tr)(ty:Nat->Int)(cs:List Value)(i:Nat)(c8:∀y∈T.ops,SizeOf.sizeOf y<=N)
  (b6:nN w co cn cc s P O (.slice L z H) ps.1 a) (hK:nZ ps args a) (A:iY w g cap l ty cs) (hi:l[i]? =some T) (b8:T.br=true) (G:Nat) (c6:bB (RF.list a) T.tx=some G):
  Calls prog 119 #[.agg #[.slice co cn cc,.slice s P O,.string (aa args),.slice L z H],.agg #[.slice (some ⟨g,0,none⟩) l.length cap],.int .i64 i] w λe w'=>e=.returned (.bool (lK a T))/\Below w.heap.size w w':=by
 obtain⟨ao,c2,is,q0,q1,q2,q3,R,S,c9⟩:=A.at hi;rw[b8]at q1;have h6:=(List.getElem?_eq_some_iff.mp hi).1;have h5:=A.lt;have g3:=A.cap;have i1:=A.small;have K:Hid (lK a T=((!fK T.tx&&pJ a (bB (RF.list a) T.tx))&&qj a T.ops)):=by
  obtain⟨k,tx,br,i2⟩:=T;have:br=true:=b8;subst this;rw[Hid,lK];rfl
 have h8:T.ops.length<=1000:=by
  have h1:=vK A hi;omega
 have e3:Hid _:=c9;have v:Hid _:=R;have a9:Hid _:=S;have Y:Hid _:=b6;have e2:Hid _:=A;obtain⟨W,hW⟩:∃W,W=((w.alloc (.cells #[.slice co cn cc,.slice s P O,.string (aa args),.slice L z H] 214)).alloc (.cells #[.slice (some ⟨g,0,none⟩) l.length cap] 102)).alloc (.cells #[.string (aa T.tx),.bool true,.slice ao T.ops.length c2,.int .u8 (ty i)] 183):=⟨_,rfl⟩;have Q:Hid (((w.alloc (.cells #[.slice co cn cc,.slice s P O,.string (aa args),.slice L z H] 214)).alloc (.cells #[.slice (some ⟨g,0,none⟩) l.length cap] 102)).alloc (.cells #[.string (aa T.tx),.bool true,.slice ao T.ops.length c2,.int .u8 (ty i)] 183)=W):=hW.symm;have c:Below w.heap.size w W:=by rw[hW];exact jo w _ _ _
 have h3:=fP (w:=w) (o:=(.cells #[.slice co cn cc,.slice s P O,.string (aa args),.slice L z H] 214)) (o':=(.cells #[.slice (some ⟨g,0,none⟩) l.length cap] 102)) (o2:=(.cells #[.string (aa T.tx),.bool true,.slice ao T.ops.length c2,.int .u8 (ty i)] 183)) (refl _ _);rw[<-hW]at h3;have h9:W.heap.size=w.heap.size+3:=by rw[hW];simp[size_alloc]
 have n:∀x:World,Below W.heap.size W x->(x.cell? ⟨w.heap.size+2,0,none⟩=some (.string (aa T.tx))/\x.cell? ⟨w.heap.size+2,2,none⟩=some (.slice ao T.ops.length c2))/\(x.cell? ⟨w.heap.size,0,none⟩=some (.slice co cn cc)/\x.cell? ⟨w.heap.size,1,none⟩=some (.slice s P O)/\x.cell? ⟨w.heap.size,2,none⟩=some (.string (aa args))/\x.cell? ⟨w.heap.size,3,none⟩=some (.slice L z H))/\x.cell? ⟨w.heap.size+1,0,none⟩=some (.slice (some ⟨g,0,none⟩) l.length cap):=by
  intro x hx;have b0:=(hx.block w.heap.size (by omega)).trans h3.1;have b1:=(hx.block (w.heap.size+1) (by omega)).trans h3.2.1;have b2:=(hx.block (w.heap.size+2) (by omega)).trans h3.2.2.1;exact⟨⟨(af b2).trans rfl,(af b2).trans rfl⟩,⟨(af b0).trans rfl,(af b0).trans rfl,(af b0).trans rfl,(af b0).trans rfl⟩,(af b1).trans rfl⟩
 clear hW h3;clear c9 R S b6 A hi;obtain⟨fi,D⟩:∃fi,fi=bB (RF.list a) T.tx:=⟨_,rfl⟩;have e6:fi=some G:=D.trans c6;have J:Calls prog 67 #[.agg #[.slice co cn cc,.slice s P O,.string (aa args),.slice L z H],.string (aa T.tx)] W λe w'=>e=.returned (.int .i64 (zJ fi))/\Below W.heap.size W w':=by
  rw[D];exact fI W _ _ _ L z H a (Y.out.ag c).fns T.tx
 obtain⟨ld,a1⟩:∃b,b=fK T.tx:=⟨_,rfl⟩;have I:∀x:World,Calls prog 114 #[.slice (some ⟨x.heap.size,0,none⟩) 6 6,.string (aa T.tx)] (x.alloc (.cells (kZ.map λt=>string (aa t)).toArray 9)) λe w'=>e=.returned (.bool ld)/\w'=x.alloc (.cells (kZ.map λt=>string (aa t)).toArray 9):=by
  intro x;rw[a1,<-yR];exact uk kZ 6 rfl (by omega) _ _ (heap_alloc_new x _) T.tx
 rw[<-D,<-a1]at K;have e1:Hid _:=D;obtain⟨⟨x0,x2⟩,⟨y0,y1,y2,y3⟩,y4⟩:=n W (refl _ _);clear D a1 c6;subst e6;go_enter Tryz.func119,Tryz.ntmps119;go_upto_region 3 with fail
 rw[Q.out];clear Q q0 q1 q2 q3
 cases ld with
 |true=>
  have HF:Hid (lK a T=false):=by rw[Hid,K.out];rfl
  go_wp2_with(first
   |(go_at_call 67;refine J.mono ?_;rintro e u ⟨rfl,hb5⟩;obtain⟨⟨a2,a3⟩,⟨a4,a5,a6,a7⟩,a8⟩:=n u hb5;have b7:w.heap.size+2<u.heap.size:=(by have:=hb5.size;omega);have b5:w.heap.size<u.heap.size:=(by omega))
   |(go_at_call 114;refine(I _).mono ?_;rintro e w7 ⟨rfl,rfl⟩))
  go_ret;exact⟨ay HF.out.symm,c.trans ((hb5.alloc hb5.size _).mono c.size)⟩
 |false=>
  have h7:zJ (some G)=(G:Int):=rfl;obtain⟨f,M,_⟩:=jB e1.out.symm;rw[RF.list,List.getElem?_map]at M;obtain⟨r,hr⟩:∃r,a[G]? =some r:=by
   cases hq:a[G]? with
   |none=>rw[hq]at M;cases M
   |some r=>exact⟨r,rfl⟩
  have c5:G<a.length:=(List.getElem?_eq_some_iff.mp hr).1;have X:Hid (pJ a (some G)=r.fn.body.quiet):=by rw[Hid,pJ,hr]
  obtain⟨g6,g2,e5,h4,c3⟩:=Y.out.fns
  cases e5;obtain⟨fb,rfl,b9,c1⟩:∃b,L=some ⟨b,0,none⟩/\b<w.heap.size/\∀(i:Nat) (rf:RF),a[i]? =some rf->wC w b i rf:=by
   rcases c3 with h'|h'
   ·rw[h']at c5;simp at c5
   ·exact h'
  obtain⟨gb,g1,g5,g4,_,_,_,_,f4,_⟩:=c1 G r hr;obtain⟨qv,F⟩:∃q,q=r.fn.body.quiet:=⟨_,rfl⟩;rw[<-F]at f4 X;clear F c1 c3 M hr
  cases qv with
  |false=>
   have HF:Hid (lK a T=false):=by rw[Hid,K.out,X.out];rfl
   go_wp2_with(first
    |(go_at_call 67;refine J.mono ?_;rintro e u ⟨rfl,hb5⟩;obtain⟨⟨a2,a3⟩,⟨a4,a5,a6,a7⟩,a8⟩:=n u hb5;have b7:w.heap.size+2<u.heap.size:=(by have:=hb5.size;omega);have b5:w.heap.size<u.heap.size:=(by omega);have z4:=((c.trans (hb5.mono c.size)).cell (p:=⟨fb,G*5+4,none⟩) b9).trans f4;have c0:fb<u.heap.size:=(by omega))
    |(go_at_call 114;refine(I _).mono ?_;rintro e w7 ⟨rfl,rfl⟩))
   go_ret;exact⟨ay HF.out.symm,c.trans ((hb5.alloc hb5.size _).mono c.size)⟩
  |true=>
   have b3:Hid (lK a T=qj a T.ops):=by rw[Hid,K.out,X.out];rfl
   go_wp2_with(first
    |(go_at_call 67;refine J.mono ?_;rintro e u ⟨rfl,hb5⟩;obtain⟨⟨a2,a3⟩,⟨a4,a5,a6,a7⟩,a8⟩:=n u hb5;have b7:w.heap.size+2<u.heap.size:=(by have:=hb5.size;omega);have b5:w.heap.size<u.heap.size:=(by omega);have z4:=((c.trans (hb5.mono c.size)).cell (p:=⟨fb,G*5+4,none⟩) b9).trans f4;have c0:fb<u.heap.size:=(by omega))
    |(go_at_call 114;refine(I _).mono ?_;rintro e w7 ⟨rfl,rfl⟩))
   clear a2 a3 a4 a5 a6 a7 a8 x0 x2 y0 y1 y2 y3 y4 J I z4 f4;go_loopg [10] T.ops.length (λgk jv wx=>∃j:Nat,gk=T.ops.length- j/\j<=T.ops.length/\jv=.int .i64 j/\Below u.heap.size u wx/\Hid (qj a T.ops=(T.ops.drop j).all (lK a)))
   case atStart=>exact⟨0,rfl,Nat.zero_le _,rfl,ae u _,by rw[Hid,ze];rfl⟩
   case round=>
    obtain⟨j,e7,hj,rfl,Z,HQ⟩:=hrel;subst e7;generalize e9:wr=wj at*;clear e9;have d:Below W.heap.size W wj:=hb5.trans (Z.mono hb5.size);obtain⟨⟨x0,x2⟩,⟨y0,y1,y2,y3⟩,y4⟩:=n wj d;have i0:=d.size;have g8:w.heap.size<wj.heap.size:=by omega
    have g7:w.heap.size+1<wj.heap.size:=by omega
    have g9:w.heap.size+2<wj.heap.size:=by omega
    by_cases E:j<T.ops.length
    ·obtain⟨b,rfl,e4,h2,C⟩:∃b,ao=some ⟨b,0,none⟩/\b<w.heap.size/\T.ops.length<=c2/\∀(m q:Nat),is[m]? =some q->w.cell? ⟨b,m,none⟩=some (.int .i64 (q:Int)):=by
      rcases e3.out with h|h
      ·rw[h]at E;simp at E
      ·exact h
     have hq:=List.getElem?_eq_getElem (l:=is) (i:=j) (by have:=v.out;omega);obtain⟨e8,c7⟩:=a9.out j _ hq;have a0:wj.cell? ⟨b,j,none⟩=some (.int .i64 ((is[j]'(by have:=v.out;omega):Nat):Int)):=((c.trans (d.mono c.size)).cell (p:=⟨b,j,none⟩) e4).trans (C j _ hq);have h0:b<wj.heap.size:=by have:=c.size;omega
     have U:l[is[j]'(by have:=v.out;omega)]? =some T.ops[j]:=by rw[c7];exact List.getElem?_eq_getElem E
     have V:SizeOf.sizeOf T.ops[j]<=N:=c8 _ (List.getElem_mem E);have HC:∀x:World,Below wj.heap.size wj x->Calls prog 119 #[.agg #[.slice co cn cc,.slice s P O,.string (aa args),.slice (some ⟨fb,0,none⟩) a.length H],.agg #[.slice (some ⟨g,0,none⟩) l.length cap],.int .i64 ((is[j]'(by have:=v.out;omega):Nat):Int)] x λe w'=>e=.returned (.bool (lK a T.ops[j]))/\Below wj.heap.size wj w':=by
      intro x hx;have e0:Below w.heap.size w x:=(c.trans (d.mono c.size)).trans (hx.mono (c.trans (d.mono c.size)).size);exact(hN T.ops[j] x co cn cc s P O args (some ⟨fb,0,none⟩) a.length H ps a g cap l ty cs _ V (Y.out.ag e0) hK (e2.out.ag e0) U).mono λe w' h=>⟨h.1,hx.trans (h.2.mono hx.size)⟩
     have HD:Hid ((T.ops.drop j).all (lK a)=(lK a T.ops[j]&&(T.ops.drop (j+1)).all (lK a))):=by rw[Hid,List.drop_eq_getElem_cons E,all_cons]
     obtain⟨qv,F⟩:∃q,q=lK a T.ops[j]:=⟨_,rfl⟩;rw[<-F]at HC HD;obtain⟨iq,c4⟩:∃q,q=is[j]'(by have:=v.out;omega):=⟨_,rfl⟩;rw[<-c4]at HC a0;clear F c4 C hq e8 c7 U V;go_upto_region 10 with fail
     go_cut [11] (λg0 wx=>g0=.bool qv/\Below wj.heap.size wj wx)
     case first=>
      go_region_with(go_at_call 119;refine(HC _ ?_).mono ?_;(first|exact refl _ wj|exact(refl _ wj).drew);rintro e w3 ⟨rfl,hb3⟩);all_goals(go_wp2_with fail;go_meet)
      all_goals exact⟨rfl,by first|exact hb3|exact hb3.drew⟩
     case rest=>
      obtain⟨rfl,b4⟩:=hcut;have BF:Below w.heap.size w wc:=(c.trans (d.mono c.size)).trans (b4.mono (c.trans (d.mono c.size)).size);have BN:Below u.heap.size u wc:=Z.trans (b4.mono Z.size)
      cases qv with
      |true=>
       have B:Hid (qj a T.ops=(T.ops.drop (j+1)).all (lK a)):=by rw[Hid,HQ.out,HD.out];rfl
       go_wp2_with fail
       go_roundg (T.ops.length- (j+1))
       case measure=>omega
       case rel=>exact⟨j+1,rfl,by omega,by go_num,BN,B⟩
      |false=>
       have B:Hid (lK a T=false):=by rw[Hid,b3.out,HQ.out,HD.out];rfl
       go_wp2_with fail
       go_ret;exact⟨ay B.out.symm,BF⟩
    ·have B:Hid (lK a T=true):=by rw[Hid,b3.out,HQ.out,List.drop_of_length_le (by omega)];rfl
     have BF:Below w.heap.size w wj:=c.trans (d.mono c.size)
     go_wp2_with fail
     go_ret;exact⟨ay B.out.symm,BF⟩
theorem uP(N:Nat):BD N:=by
 induction N using Nat.strongRecOn with
 |ind N ih=>
  intro t w co cn cc h r q args n b m ps a g cap l ty cs i v c o d p;have f:∀y∈t.ops,SizeOf.sizeOf y<=SizeOf.sizeOf t- 1:=by
   intro y x;obtain⟨k,A,u,j⟩:=t;have:=List.sizeOf_lt_of_mem (show y∈j from x);simp only[Tr.mk.sizeOf_spec];omega
  have B:0<SizeOf.sizeOf t:=by obtain⟨k,A,u,j⟩:=t;simp only[Tr.mk.sizeOf_spec];omega
  cases e:t.br with
  |false=>exact RA (SizeOf.sizeOf t- 1) (ih _ (by omega)) t w co cn cc h r q args n b m ps a g cap l ty cs i f c o d p e
  |true=>
   cases s:bB (RF.list a) t.tx with
   |none=>exact TJ (SizeOf.sizeOf t- 1) (ih _ (by omega)) t w co cn cc h r q args n b m ps a g cap l ty cs i f c o d p e s
   |some z=>exact TK (SizeOf.sizeOf t- 1) (ih _ (by omega)) t w co cn cc h r q args n b m ps a g cap l ty cs i f c o d p e z s
def UL(w:World)(ps:Sc)(fns:List Fn)(s:Bs)(e:Ending)(w':World):Prop:=Below w.heap.size w w'/\
 ((∃n:Int,eG bA ps fns s=.error n/\n≠0/\e=.returned (.tuple #[.agg #[.slice none 0 0],.int .u8 0,.int .i64 n]))\/
  (∃(x:Ex) (t:Tr) (g cap:Nat) (cs:List Value),eG bA ps fns s=.ok x/\iW s=some t/\bg bA ps fns t=.ok x/\(∀y∈post t,mQ y)/\e=.returned (.tuple #[.agg #[.slice (some ⟨g,0,none⟩) (post t).length cap],.int .u8 (mO x.ty),.int .i64 0])/\w.heap.size<=g/\iY w' g cap (post t) (lm bA ps fns (post t) (post t).length) cs))
theorem iY.other{w x:World}{g cap:Nat}{l:List Tr}{ty:Nat->Int}{cs:List Value}(h:iY w g cap l ty cs){b:Nat}{a0:Value}{o:Nat × Nat}(hb:w.heap[b]? =some (.cells #[a0] 102 o))(n:∀q,q≠b->x.heap[q]? =w.heap[q]?):iY x g cap l ty cs:=by
 have d:∀(T:TypeId) (c:Array Value) (f:Nat × Nat) (q:Nat),w.heap[q]? =some (.cells c T f)->T≠102->q≠b:=by
  intro T c f q a z e;subst e;rw[hb]at a;cases a;exact z rfl
 refine⟨aA h.own λq a=> ?_,λj t A=> ?_,h.small,h.Ou⟩
 ·rcases h.own.2 with⟨i,_⟩|⟨_,_,_,i,_,k,_⟩
  ·cases i
  ·cases i;cases a;exact n _ (d _ _ _ _ k (by decide))
 ·obtain⟨v,is,p,r,s,u,m,y⟩:=h.nodes j t A;refine⟨v,is,p,r,s,u,aA m λq a=> ?_,y⟩;rcases m.2 with⟨rfl,_⟩|⟨_,_,_,rfl,_,k,_⟩
  ·cases a
  ·cases a;exact n _ (d _ _ _ _ k (by decide))
theorem iY.drew{w:World}{g cap:Nat}{l:List Tr}{ty:Nat->Int}{cs:List Value}(h:iY w g cap l ty cs):iY w.drew g cap l ty cs:=⟨h.own,h.nodes,h.small,h.Ou⟩
theorem BP{w x y:World}{g:Nat}(h:Below w.heap.size w x)(c:w.heap.size<=g)(a:x.grownBy y (some g)):Below w.heap.size w y:=
 ⟨a.os.trans h.os,a.tape.trans h.tape,a.output.trans h.output,Nat.le_trans h.size a.size,λq b=>(a.block q (by have:=h.size;omega) (by simp;omega)).trans (h.block q b)⟩
theorem xe(w:World)(co:Option Addr)(cn cc:Nat)(O:Option Addr)(tn tc:Nat)(args:Bs)(fo:Option Addr)(B fc:Nat)(ps:Sc)(a:List RF)(h:nN w co cn cc O tn tc (.slice fo B fc) ps.1 a)(a2:args.length<=maxLen)(hK:nZ ps args a)(s:Bs):
  Calls prog 117 #[.agg #[.slice co cn cc,.slice O tn tc,.string (aa args),.slice fo B fc],.string (aa s)] w λe w'=>UL w ps (RF.list a) s e w':=by
 have HP:∀x:World,Calls prog 22 #[.string (aa s)] x λe w'=>KY x (iW s) e w':=by
  intro x;have:=CR (aa s) x;rw[au]at this;exact this
 go_enter Tryz.func117,Tryz.ntmps117
 go_wp2_with(go_at_call 22;refine(HP _).mono ?_)
 clear HP;rintro e w2 ⟨R,hres⟩;obtain⟨E,B2,e8⟩:=mG R;have Q:w2.heap[w.heap.size]? =some (.cells #[.slice co cn cc,.slice O tn tc,.string (aa args),.slice fo B fc] 214 (0,0)):=by
  rw[R.block _ (by simp only[size_alloc];omega),Below.heap_alloc _ _ _ (by simp only[size_alloc];omega)];exact heap_alloc_new w _
 obtain⟨⟨k0,k1,k2,k3⟩,_⟩:=bE Q;obtain⟨z0,g0⟩:=nP E;have c5:w.heap.size<w2.heap.size:=by omega
 have c6:w.heap.size+1<w2.heap.size:=by omega
 rcases hres with⟨ho,ao,m,cap,rfl⟩|⟨g,cap,n,cs,t,ho,hn,rfl,r,M⟩
 ·have HR:Hid (eG bA ps (RF.list a) s=.error 1):=by rw[Hid,eG,ho]
  have q0:=((ae (w2.setCell ⟨w.heap.size+1,0,none⟩ (.slice none 0 0)) (.cells #[.slice ao m cap] 102)).cell (p:=⟨w.heap.size+1,0,none⟩) (by simp[setCell];omega)).trans (rF E);clear ho R E Q
  go_wp2_with fail
  exact bodyPost_ret (v:=.tuple #[.agg #[.slice none 0 0],.int .u8 0,.int .i64 1]) (by simp[results,Tryz.results117,go_sem,q0]) rfl ⟨(B2.setCell (p:=⟨w.heap.size+1,0,none⟩) (by simp) _).alloc (by simp[setCell];omega) _,.inl ⟨1,HR.out,by decide,rfl⟩⟩
 ·obtain⟨d,o⟩:=M.nodes;have A:=M.texts;rw[Nat.zero_add]at o;rw[<-o]at r ⊢;have a4:(post t).length<=1000:=by omega
  have S:=r.lt g rfl;have a3:w.heap.size<=g:=by have:=S.1;simp only[size_alloc]at this;omega
  have e6:w.heap.size+1<g:=by have:=S.1;simp only[size_alloc]at this;omega
  have k:w2.ownsRow 0 183 4 (.slice (some ⟨g,0,none⟩) (post t).length cap) (post t).length cs:=kw r λ_ _=>Nat.zero_le _;have b:=ae w2 (.cells #[.slice (some ⟨g,0,none⟩) (post t).length cap] 102);have HC:=CY bA w (w2.alloc (.cells #[.slice (some ⟨g,0,none⟩) (post t).length cap] 102)) co cn cc O tn tc args fo B fc ps a h a2 hK (B2.trans (b.mono B2.size)) g cap a3 t cs (aA k λq hq=>b.block q (k.lt q hq).2) (d.ag b) A a4;have C:∀y∈post t,mQ y:=by
   intro y hy;obtain⟨j,hj⟩:=List.getElem?_of_mem hy;obtain⟨_,_,_,_,_,_,_,_,_,h7,_⟩:=d j y hj;exact h7
  have X:=(b.block _ c5).trans Q;have Y:=(b.block _ c6).trans E;have W:=heap_alloc_new w2 (.cells #[.slice (some ⟨g,0,none⟩) (post t).length cap] 102);have U:Below w.heap.size w (w2.alloc (.cells #[.slice (some ⟨g,0,none⟩) (post t).length cap] 102)):=B2.trans (b.mono B2.size);have c9:Hid _:=o;have b8:Hid _:=h;have a7:Hid _:=C;have b7:Hid _:=X;have c3:Hid _:=Y;have b6:Hid _:=W;have a5:Hid _:=U;have b4:0<(post t).length:=List.length_pos_of_mem (List.mem_of_getElem? (dF t));have L:eG bA ps (RF.list a) s=mJ (bg bA ps (RF.list a) t):=by rw[eG,ho]
  have a0:Hid _:=L;have c1:Hid _:=ho;have a6:Hid (∀y∈post t,y.ops.length<=1000):=λy hy=>by have:=nG hy;omega
  clear R E Q r M d o h C X Y W U L ho A k b
  go_wp2_with(go_at_call 192;refine HC.mono ?_)
  clear HC;rintro e Z ⟨f,hres⟩;have B4:Below w.heap.size w Z:=BP a5.out a3 f;have c7:=f.size;rw[size_alloc]at c7;have H:=(f.block w.heap.size (by simp[size_alloc];omega) (by simp;omega)).trans b7.out;have u:=(f.block (w.heap.size+1) (by simp[size_alloc];omega) (by simp;omega)).trans c3.out;have G:=(f.block w2.heap.size (by simp[size_alloc]) (by simp;omega)).trans b6.out;obtain⟨⟨k0,k1,k2,k3⟩,_⟩:=bE H;obtain⟨r0,c8⟩:=nP u;obtain⟨e0,e3⟩:=nP G;have e1:w.heap.size<Z.heap.size:=by omega
  have F:w.heap.size+1<Z.heap.size:=by omega
  have V:w2.heap.size<Z.heap.size:=by omega
  rcases hres with⟨n',l,b3,rfl⟩|⟨x,b1,l,rfl,K,J⟩
  ·have HR:Hid (eG bA ps (RF.list a) s=.error n'):=by rw[Hid,a0.out,l];rfl
   have e7:(n'==0)=false:=by simpa using b3
   clear H u G l f
   go_wp2_with fail
   exact bodyPost_ret (v:=.tuple #[.agg #[.slice none 0 0],.int .u8 0,.int .i64 n']) (by simp[results,Tryz.results117,go_sem,r0]) rfl ⟨B4.setCell (p:=⟨w.heap.size+1,0,none⟩) (by simp) _,.inl ⟨n',HR.out,b3,rfl⟩⟩
  ·have D:iY Z g cap (post t) (lm bA ps (RF.list a) (post t) (post t).length) b1:=⟨K,J,a4,a6.out⟩;have P:=xg Z co cn cc O tn tc args fo B fc ps a (b8.out.ag B4) hK g cap (post t) _ b1 D;have b5:((post t).length:Int)+lG ((post t).map (Dl a))=x.size:=by
    rw[vR bA ps (RF.list a) t x a7.out l];congr 2;exact List.map_congr_left λy _=>GI hK y
   rw[b5]at P;have i:Z.cell? ⟨g,((post t).length- 1)*4+3,none⟩=some (.int .u8 (mO x.ty)):=by
    obtain⟨_,_,_,_,_,_,q3,_⟩:=D.at (dF t);rw[q3,lm,if_pos (by omega),dF t];show some (int .u8 (SI (bg bA ps (RF.list a) t)))=_;rw[l];rfl
   obtain⟨sz,N⟩:∃z,z=x.size:=⟨_,rfl⟩;rw[<-N]at P;have b0:Hid _:=N;have a1:Hid _:=l;have a8:Hid _:=D;have b2:=D.cap;obtain⟨lt,I⟩:∃z,z=mO x.ty:=⟨_,rfl⟩;rw[<-I]at i;have b9:Hid _:=I;have c2:Hid (Z.heap[w.heap.size+1]? =some (.cells #[.slice none 0 0] 102 (0,0))):=u;clear b5 N H u G l f K J D I
   go_wp2_with(go_at_call 118;refine P.mono ?_)
   rintro e w5 ⟨rfl,hb5⟩;have B5:Below w.heap.size w w5:=B4.trans (hb5.mono B4.size);have e5:=(hb5.cell (p:=⟨w2.heap.size,0,none⟩) V).trans e0;have c4:=(hb5.block w2.heap.size V);have r5:=(hb5.cell (p:=⟨w.heap.size+1,0,none⟩) F).trans r0;have e9:w5.frozen? ⟨w.heap.size+1,0,none⟩=false:=(World.frozen?_of_block (hb5.block (w.heap.size+1) F)).trans c8;have l5:=(hb5.cell (p:=⟨g,((post t).length- 1)*4+3,none⟩) (by show g<_;have:=S.2;omega)).trans i;have e2:w.heap.size+1<w5.heap.size:=by have:=hb5.size;omega
   have e4:g<w5.heap.size:=by have:=hb5.size;have:=S.2;omega
   have a9:Hid (w5.heap[w.heap.size+1]? =some (.cells #[.slice none 0 0] 102 (0,0))):=(hb5.block (w.heap.size+1) F).trans c2.out;clear P k0 k1 k2 k3 r0 e0 i c4;by_cases c:300<sz
   ·have HR:Hid (eG bA ps (RF.list a) s=.error 4):=by rw[Hid,a0.out,a1.out,mJ,if_pos (by rw[<-b0.out];exact c)]
    have hd:decide (300<sz)=true:=decide_eq_true c;clear c
    go_wp2_with fail
    exact bodyPost_ret (v:=.tuple #[.agg #[.slice none 0 0],.int .u8 0,.int .i64 4]) (by simp[results,Tryz.results117,go_sem,r5]) rfl ⟨B5.setCell (p:=⟨w.heap.size+1,0,none⟩) (by simp) _,.inl ⟨4,HR.out,by decide,rfl⟩⟩
   ·have HR:Hid (eG bA ps (RF.list a) s=.ok x):=by rw[Hid,a0.out,a1.out,mJ,if_neg (by rw[<-b0.out];exact c)]
    have hd:decide (300<sz)=false:=decide_eq_false c;clear c;obtain⟨pm,T⟩:∃pm,(post t).length=pm+1:=⟨(post t).length- 1,by omega⟩;rw[T,Nat.add_sub_cancel]at l5;rw[T]at e5 b2 a4 ⊢;have c0:Hid _:=T;clear T b4;have q5:=rF (v:=.slice (some ⟨g,0,none⟩) (pm+1) cap) a9.out
    go_wp2_with fail
    go_region;all_goals(try go_wp2_with fail)
    all_goals refine bodyPost_ret (v:=.tuple #[.agg #[.slice (some ⟨g,0,none⟩) (pm+1) cap],.int .u8 lt,.int .i64 0]) (by simp[results,Tryz.results117,go_sem,q5]) rfl ?_
    all_goals
     have B6:=B5.setCell (p:=⟨w.heap.size+1,0,none⟩) (by simp) (.slice (some ⟨g,0,none⟩) (pm+1) cap);have N6:=(a8.out.ag hb5).other a9.out (x:=w5.setCell ⟨w.heap.size+1,0,none⟩ (.slice (some ⟨g,0,none⟩) (pm+1) cap)) λq hq=>Below.heap_setCell _ _ _ _ hq;exact⟨by first|exact B6|exact B6.drew,.inr ⟨x,t,g,cap,_,HR.out,c1.out,a1.out,a7.out,by rw[c0.out,<-b9.out],a3,by first|exact N6|exact N6.drew⟩⟩
abbrev wB:=RF × Nat × Nat
def nU(e:wB):List Value:=[.string (aa e.1.fn.name),.string (aa e.1.args),.slice (some ⟨e.2.1,0,none⟩) (post e.1.t).length e.2.2,.int .i64 e.1.fn.body.size,.bool e.1.fn.body.quiet]
def eY(l:List wB):List Value:=l.flatMap nU
theorem Gr(a b:List wB):eY (a++b)=eY a++eY b:=by simp[eY]
theorem xh:∀(l:List wB) (i:Nat) (e:wB) (j:Nat),l[i]? =some e->j<5->(eY l)[i*5+j]? =(nU e)[j]?
 | [],i,r,j,h,_=>by simp at h
 |a::rs,0,r,j,h,hj=>by
  simp at h;subst h;rw[Nat.zero_mul,Nat.zero_add,eY,List.flatMap_cons,List.getElem?_append_left (by simp[nU];omega)]
 |a::rs,i+1,r,j,h,hj=>by
  have:=xh rs i r j (by simpa using h) hj;have b:(nU a).length=5:=by simp[nU]
  rw[eY,List.flatMap_cons,List.getElem?_append_right (by rw[b];omega),b,show(i+1)*5+j- 5=i*5+j by omega];exact this
def lu(w:World)(e:wB):Prop:=∃(cs:List Value) (tX:Nat->Int),iY w e.2.1 e.2.2 (post e.1.t) tX cs/\tX ((post e.1.t).length- 1)=mO e.1.fn.body.ty
theorem lu.ag{w x:World}{e:wB}(h:lu w e)(hb:Below w.heap.size w x):lu x e:=by
 obtain⟨cs,tX,a,b⟩:=h;exact⟨cs,tX,a.ag hb,b⟩
theorem tH{w:World}{b:Nat}{l:List wB}{o:Option Addr}{a n:Nat}(h:w.ownsRow b 217 5 (.slice o a n) l.length (eY l))(q:l.length<=8)(s:∀e∈l,lu w e):jk w (.slice o a n) (l.map (·.1)):=by
 rcases h.2 with⟨e,p⟩|⟨g,cap,r,e,_,_,_⟩
 ·cases e;exact⟨none,0,by rw[length_map,p],by rw[length_map];exact q,.inl (by rw[List.length_eq_zero_iff.mp p];rfl)⟩
 ·cases e;refine⟨_,_,by rw[length_map],by rw[length_map];exact q,.inr ⟨g,rfl,(h.lt g rfl).2,λi x f=> ?_⟩⟩;rw[List.getElem?_map]at f
  cases d:l[i]? with
  |none=>rw[d]at f;cases f
  |some e=>
   rw[d]at f;have m:e.1=x:=Option.some.inj f;subst m;have u:=(List.getElem?_eq_some_iff.mp d).1;obtain⟨cs,tX,k,t⟩:=s e (List.mem_of_getElem? d);have c:∀j,j<5->w.cell? ⟨g,i*5+j,none⟩=(nU e)[j]? :=λj v=>(h.cellAt _ (by omega)).trans (xh l i e j d v);exact⟨e.2.1,e.2.2,cs,tX,c 0 (by omega),c 1 (by omega),c 2 (by omega),c 3 (by omega),c 4 (by omega),k.small,k.own,k.nodes,t⟩
structure ug(rfs:List RF):Prop where
 UG:∀r∈rfs,dW r.fn.body.ty
 Kk:∀r∈rfs,r.fn.args=aP r.args/\r.args.all dP=true
 free:∀r∈rfs,bM r.fn.name=false
 Bn:∀r∈rfs,0<=r.fn.body.size/\r.fn.body.size<=300
 UH:∀(i:Nat) (r:RF),rfs[i]? =some r->bg bA ([],r.fn.args) (RF.list (rfs.take i)) r.t=.ok r.fn.body/\∀y∈post r.t,mQ y
theorem ug.known{a:List RF}(h:ug a){args:Bs}(b:args.all dP=true){ax:List (Bs × Int)}(d:∀c∈ax,dW c.2)(e:∀c∈ax,iV c.1=true):nZ (ax,aP args) args a:=
 ⟨rfl,b,d,e,h.UG,h.Kk,h.free,h.Bn⟩
def uY(w:World)(xb:Nat)(l:List wB):Prop:=∃fo fnn fc,w.heap[xb]? =some (.cells #[.slice fo fnn fc,.slice none 0 0,.slice none 0 0] 200 (0,0))/\w.ownsRow (xb+1) 217 5 (.slice fo fnn fc) l.length (eY l)/\l.length<=8/\∀e∈l,lu w e
theorem Io(c:UInt8):(!(iT c.toNat==0))=dP c:=by
 cases h:dP c with
 |true=>
  have:=(kH h).1;have e:(iT c.toNat==0)=false:=by
   rw[beq_eq_false_iff_ne];rcases this with e|e|e<;>rw[e]<;>decide
  rw[e];rfl
 |false=>
  unfold dP at h;simp only[Bool.or_eq_false_iff,beq_eq_false_iff_ne]at h;have a:¬((c.toNat:Int)=110):=λe=>h.1.1 (UInt8.toNat_inj.mp (by simpa using Int.ofNat.inj e));have b:¬((c.toNat:Int)=116):=λe=>h.1.2 (UInt8.toNat_inj.mp (by simpa using Int.ofNat.inj e));have d:¬((c.toNat:Int)=98):=λe=>h.2 (UInt8.toNat_inj.mp (by simpa using Int.ofNat.inj e));simp[iT,a,b,d]
theorem tT(l:Bs):dQ l=(decide (l.length<=4)&&l.all dP):=by
 unfold dQ aP;congr 1
 induction l with
 |nil=>rfl
 |cons c cs ih=>
  simp only[List.map_cons,List.any_cons,all_cons,Bool.not_or];rw[ih];congr 1;have:=Io c;exact this
theorem LJ{fns:List Fn}(l:Bs):oG fns l=(aU l&& !iX l&& !aW gy l&&(bB fns l).isNone):=by
 unfold oG
 cases a:aU l with
 |false=>rfl
 |true=>rw[wJ,(kI a).1];rfl
end Go.Proofs.YtdifpeaklamhnaaGreatDoor

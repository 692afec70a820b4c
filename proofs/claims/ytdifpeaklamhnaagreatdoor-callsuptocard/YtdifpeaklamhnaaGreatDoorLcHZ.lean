import Derived.Test.YtdifpeaklamhnaaGreatDoorLcTZ
set_option linter.unusedVariables false
set_option linter.unusedSimpArgs false
set_option maxRecDepth 100000
set_option maxHeartbeats 0
namespace Go.Proofs.YtdifpeaklamhnaaGreatDoor
open Go.Proofs.Tryz
open Go.RowKit
open World (size_alloc new_ne)
open Below (refl)
open Nat (le_refl lt_of_lt_of_le le_of_lt)
theorem Ib(w0 w:World)(j b o n gc:Nat)(g1:Value)(b2 d Y a5:Nat)(es:List TE)(h:jM w0 w j (some ⟨b,o,none⟩) n gc g1 (some ⟨b2,d,none⟩) Y a5 es)(y1:es.length<=3000000)(hn:0<n)(m6:0<Y)(i8:b<w0.heap.size)(k9:iJ w0 b o n)(e9:b2<w0.heap.size)(k7:lM w0 b2 d Y)
  (x y:Int) (q5: -9223372036854775808<=x) (q6:x<=9223372036854775807) (q7: -9223372036854775808<=y) (o6:y<=9223372036854775807) (O P:Bs) (lo:Option Addr) (ln lc:Nat):
  Calls prog 13 #[.pointer (some ⟨j,0,none⟩),.agg #[.int .i64 4,.int .i64 x,.int .i64 y,.string (aa O),.string (aa P),.slice lo ln lc]] w λe w'=>wD w j (.slice (some ⟨b,o,none⟩) n gc) g1 (.slice (some ⟨b2,d,none⟩) Y a5) es e w':=by
 have p9:=h.small;have n6:=h.PP;have hk:=zt x n hn;have m2:=zt y Y m6;obtain⟨k,j0⟩:∃k,k=sw x n:=⟨_,rfl⟩;obtain⟨k2,b4⟩:∃k,k=sw y Y:=⟨_,rfl⟩;have k0:∀W:World,Calls prog 24 #[.int .i64 x,.int .i64 (n:Int)] W λe w'=>e=.returned (.int .i64 (k:Int))/\w'=W:=by
  intro W;rw[j0];exact zu x n W q5 q6 hn p9
 have a3:∀W:World,Calls prog 24 #[.int .i64 y,.int .i64 (Y:Int)] W λe w'=>e=.returned (.int .i64 (k2:Int))/\w'=W:=by
  intro W;rw[b4];exact zu y Y W q7 o6 m6 n6
 rw[<-j0]at hk;rw[<-b4]at m2;obtain⟨G,E,D,c,L,J,fs,ts,n1,j3,k8⟩:=k9 k hk;obtain⟨r,args,n3,g8,g6,n5,g7⟩:=k7 k2 m2;clear j0 b4 k9 k7;obtain⟨z7,z6,z5,c4,_⟩:=h.bk.row;have e4:=af c4;have l7:w.cell? ⟨j,0,none⟩=some (.slice (some ⟨b,o,none⟩) n gc):=(ag c4).trans rfl;have i5:w.cell? ⟨j,2,none⟩=some (.slice (some ⟨b2,d,none⟩) Y a5):=(ag c4).trans rfl;have m3:=h.lo;have n7:=h.ng.size;have l9:b<w.heap.size:=by omega
 have m0:b2<w.heap.size:=by omega
 have g4:=(h.ng.cell (p:=⟨b,_,none⟩) i8).trans n1;have g5:=(h.ng.cell (p:=⟨b,_,none⟩) i8).trans j3;have V:=(h.ng.cell (p:=⟨b2,_,none⟩) e9).trans n3;obtain⟨W,a8⟩:∃W,W=w.alloc (.cells #[.int .i64 4,.int .i64 x,.int .i64 y,.string (aa O),.string (aa P),.slice lo ln lc] 44):=⟨_,rfl⟩;have e7:Hid (w.alloc (.cells #[.int .i64 4,.int .i64 x,.int .i64 y,.string (aa O),.string (aa P),.slice lo ln lc] 44)=W):=a8.symm;have a1:Below w.heap.size w W:=by rw[a8];exact ae w _
 have c5:W.heap[w.heap.size]? =some (.cells #[.int .i64 4,.int .i64 x,.int .i64 y,.string (aa O),.string (aa P),.slice lo ln lc] 44 (0,0)):=by rw[a8];exact heap_alloc_new w _
 have p8:W.heap.size=w.heap.size+1:=by rw[a8];simp[size_alloc]
 clear a8;have n0:=aB c5;have o1:W.cell? ⟨w.heap.size,1,none⟩=some (.int .i64 x):=(ag c5).trans rfl;have g0:W.cell? ⟨j,0,none⟩=some (.slice (some ⟨b,o,none⟩) n gc):=(a1.cell (p:=⟨j,0,none⟩) e4).trans l7;have q0:W.cell? ⟨b,o+k*2,none⟩=some (.slice G E D):=(a1.cell (p:=⟨b,_,none⟩) l9).trans g4;have q1:W.cell? ⟨b,o+k*2+1,none⟩=some (.slice c L J):=(a1.cell (p:=⟨b,_,none⟩) l9).trans g5;have o5:j<W.heap.size:=by omega
 have l8:b<W.heap.size:=by omega
 have t:Hid _:=k8;have HH:Hid _:=h;have Z:Hid (qC w0 r/\r.cs=bZ args/\r.rn=args.length/\aR w0 (.slice r.ro r.rn r.rc) args):=⟨g8,g6,n5,g7⟩;have y3:((n:Int)==0)=false:=by simp;omega
 have r9:¬(n:Int)=0:=by omega
 obtain⟨ro,rn,rc,r0⟩:=r;dsimp only at V;clear n1 j3 k8 n3 g8 g6 n5 g7 h c4 g4 g5 i8 e9;go_enter Tryz.func13,Tryz.ntmps13;go_upto_region 3 with fail
 rw[e7.out];clear e7;go_cut [5] (λs5 wx=>∃s,s5=.pointer (some ⟨s,0,none⟩)/\Below W.heap.size W wx/\W.heap.size<=s/\wx.heap[s]? =some (.cells #[.slice G E D,.slice c L J] 67 (0,0)))
 case first=>
  have m7:=new_ne W ⟨j,0,none⟩ g0;have m8:=new_ne W ⟨w.heap.size,1,none⟩ o1;have m9:=new_ne W ⟨b,o+k*2,none⟩ q0;dsimp only at m7 m8 m9;clear a3 V i5
  go_region_held2 (λv=>v.cell? ⟨j,0,none⟩=some (.slice (some ⟨b,o,none⟩) n gc)/\v.cell? ⟨w.heap.size,1,none⟩=some (.int .i64 x)/\v.cell? ⟨b,o+k*2,none⟩=some (.slice G E D)/\v.cell? ⟨b,o+k*2+1,none⟩=some (.slice c L J)) (go_keep) (first|(go_at_call 24;refine(k0 _).mono ?_;rintro e w6 ⟨rfl,rfl⟩))
  all_goals(go_wp2_with fail;go_meet)
  all_goals exact⟨W.heap.size,by rw[p8],by first|exact(ae W _).drew|exact ae W _,le_refl _,heap_alloc_new W _⟩
 case rest=>
  obtain⟨s,rfl,i7,x9,S⟩:=hcut;generalize q4:wc=w1 at*;clear q4 o1 g0 q0 q1 o5 l8 k0 l7;have B1:Below w.heap.size w w1:=a1.trans (i7.mono a1.size);have U:=(i7.block _ n0).trans c5;obtain⟨w2,c9⟩:∃w2,w2=w1.alloc (.cells #[.slice none 0 0,.slice none 0 0,.slice none 0 0,.slice none 0 0,.slice none 0 0,.slice none 0 0,.slice none 0 0,.slice none 0 0,.slice none 0 0] 118):=⟨_,rfl⟩;have e5:Hid (w1.alloc (.cells #[.slice none 0 0,.slice none 0 0,.slice none 0 0,.slice none 0 0,.slice none 0 0,.slice none 0 0,.slice none 0 0,.slice none 0 0,.slice none 0 0] 118)=w2):=c9.symm;have c3:Below w1.heap.size w1 w2:=by rw[c9];exact ae w1 _
  have m4:w2.heap[w1.heap.size]? =some (.cells #[.slice none 0 0,.slice none 0 0,.slice none 0 0,.slice none 0 0,.slice none 0 0,.slice none 0 0,.slice none 0 0,.slice none 0 0,.slice none 0 0] 118 (0,0)):=by rw[c9];exact heap_alloc_new w1 _
  clear c9;have B2:Below w.heap.size w w2:=B1.trans (c3.mono B1.size);have y9:=B1.size;have I:=(c3.block s (aB S)).trans S;have g2:=(c3.block _ (aB U)).trans U;obtain⟨dL,i3,i4,l0,l4⟩:=t.out.dL;have HB:=sj w0 w2 w1.heap.size (za m4) (HH.out.ng.trans (B2.mono n7)) (by omega) G E D (jQ fs) t.out.TQ c L J dL t.out.VL t.out.Uo i3 i4;have b0:w2.cell? ⟨s,0,none⟩=some (.slice G E D):=(ag I).trans rfl;have b1:w2.cell? ⟨s,1,none⟩=some (.slice c L J):=(ag I).trans rfl;have i9:=aB I;have y0:s<w1.heap.size:=aB S;have y4:w.heap.size<w1.heap.size:=aB U;generalize r8:w1.heap.size=mb at*;clear U S;go_upto_region 5 with fail
  rw[e5.out];clear e5
  go_wp2_with(go_at_call 25;refine HB.mono ?_)
  clear HB;rintro e w3 ⟨a,fn',fc',bo,bn,bc,C,R,X,K,B,F,rfl,⟨hlens,hLo⟩,hfl,hbl',hb3⟩;have B3:Below w.heap.size w w3:=B2.trans (hb3.mono (by omega));have b3:w3.heap[s]? =some (.cells #[.slice G E D,.slice c L J] 67 (0,0)):=(hb3.block s (by omega)).trans I;have b5:=(hb3.block w.heap.size (by omega)).trans g2;have x2:mb<w3.heap.size:=by obtain⟨_,_,_,_,_,_,_,h,_⟩:=hLo;exact aB h
  obtain⟨w4,e3⟩:∃w4,w4=w3.alloc (.cells #[.slice a fn' fc',.slice bo bn bc] 67):=⟨_,rfl⟩;have e6:Hid (w3.alloc (.cells #[.slice a fn' fc',.slice bo bn bc] 67)=w4):=e3.symm;have a9:Below w3.heap.size w3 w4:=by rw[e3];exact ae w3 _
  have m1:w4.heap[w3.heap.size]? =some (.cells #[.slice a fn' fc',.slice bo bn bc] 67 (0,0)):=by rw[e3];exact heap_alloc_new w3 _
  clear e3;have B4:Below w.heap.size w w4:=B3.trans (a9.mono B3.size);have S4:JF w0 w j w.heap.size s w3.heap.size mb #[.int .i64 4,.int .i64 x,.int .i64 y,.string (aa O),.string (aa P),.slice lo ln lc] (.slice G E D) (.slice c L J) (.slice a fn' fc') (.slice bo bn bc) C R X K B F w4:=⟨B4,⟨(a9.block _ (aB b5)).trans b5,(a9.block s (aB b3)).trans b3,m1⟩,hLo.ah a9⟩;generalize y2:w3.heap.size=ib at*;have z0:=S4.low.size;have l5:sJ w0:=HH.out.Uy;have u:∀ {v:World},Below w.heap.size w v->Below w0.heap.size w0 v:=λhv=>HH.out.ng.trans (hv.mono n7);obtain⟨oc,j2⟩:∃oc:Array Value,oc= #[.int .i64 4,.int .i64 x,.int .i64 y,.string (aa O),.string (aa P),.slice lo ln lc]:=⟨_,rfl⟩;obtain⟨M,c7⟩:∃M,M=lW fs ts O P args:=⟨_,rfl⟩;rw[<-j2]at S4;have y8:M.2.1.length<=300:=by rw[c7];exact Le
  have h7:∀(A:List Ln) (v:World),JF w0 w j w.heap.size s ib mb oc (.slice G E D) (.slice c L J) (.slice a fn' fc') (.slice bo bn bc) A R X K B F v->A.length<=1099520000000->Calls prog 31 #[.pointer (some ⟨mb,0,none⟩),.slice ro rn rc] v λe w'=>∃(xo:Option Addr) (xn xc:Nat) (C2:List Ln),e=.returned (.slice xo xn xc)/\C2.length<=1/\JF w0 w j w.heap.size s ib mb oc (.slice G E D) (.slice c L J) (.slice a fn' fc') (.slice bo bn bc) (A++C2) R X K B F w'/\dU w' (.slice xo xn xc) args/\bR v w' lT/\v.heap.size<=w'.heap.size:=λA v f hl=>
   (LW w0 v mb A R X K B F f.lo (u f.low) ⟨ro,rn,rc,r0⟩ Z.out.1 hl).mono λe w' ⟨xo,xn,xc,C2,h1,h2,h3,h4,h5,h6⟩=>by
    refine⟨xo,xn,xc,C2,h1,h2,⟨f.low.trans (h5.mono (by omega)),f.bf.Ub h6,h3⟩, ?_,h6,h5.size⟩;obtain⟨_,_,_,_,_,_,_,_,hC,_⟩:=h3;exact Fz hC.each h4 Z.out.2.1 Z.out.2.2.1 Z.out.1.small
  have h8:∀(A:List Ln) (v:World) (xo:Option Addr) (xn xc:Nat),JF w0 w j w.heap.size s ib mb oc (.slice G E D) (.slice c L J) (.slice a fn' fc') (.slice bo bn bc) A R X K B F v->dU v (.slice xo xn xc) args->Calls prog 30 #[.agg #[.slice a fn' fc',.slice bo bn bc],.string (aa O),.string (aa P),.slice xo xn xc] v λe w'=>gM v M e w':=λA v xo xn xc f p4=>by
   rw[c7];have hF:=f.lo;obtain⟨_,_,_,_,_,_,_,_,_,_,_,_,_,hF⟩:=hF;exact vC v fs a fn' fc' (yZ hF.each hfl t.out.texts) ts bo bn bc (Bn f.lo hbl' t.out.RY i3 i4 l0 l4) O P args xo xn xc p4 (iR l5 (u f.low))
  have k1:∀v:World,Below w.heap.size w v->Calls prog 32 #[.agg #[.slice G E D,.slice c L J],.string (aa O),.string (aa P),.slice ro rn rc] v λe w'=>gM v M e w':=λv hv=>by
   rw[c7];exact Gb v fs G E D (t.out.texts.ah (u hv)) t.out.args ts c L J (t.out.RY.ah (u hv)) O P args ro rn rc (Z.out.2.2.2.ah (u hv))
  have m:∀ {A:List Ln} {v:World},JF w0 w j w.heap.size s ib mb oc (.slice G E D) (.slice c L J) (.slice a fn' fc') (.slice bo bn bc) A R X K B F v->(v.cell? ⟨w.heap.size,0,none⟩=some (.int .i64 4)/\v.cell? ⟨w.heap.size,2,none⟩=some (.int .i64 y)/\v.cell? ⟨w.heap.size,3,none⟩=some (.string (aa O))/\v.cell? ⟨w.heap.size,4,none⟩=some (.string (aa P)))/\(v.cell? ⟨s,0,none⟩=some (.slice G E D)/\v.cell? ⟨s,1,none⟩=some (.slice c L J))/\(v.cell? ⟨ib,0,none⟩=some (.slice a fn' fc')/\v.cell? ⟨ib,1,none⟩=some (.slice bo bn bc))/\(v.cell? ⟨j,2,none⟩=some (.slice (some ⟨b2,d,none⟩) Y a5)/\v.cell? ⟨b2,d+k2,none⟩=some (.slice ro rn rc))/\w.heap.size<v.heap.size/\s<v.heap.size/\ib<v.heap.size/\j<v.heap.size/\b2<v.heap.size:=fun {A v} f=>by
   have h1:=f.bf.op;rw[j2]at h1;have hz:=f.low.size;exact⟨⟨(ag h1).trans rfl,(ag h1).trans rfl,(ag h1).trans rfl,(ag h1).trans rfl⟩,⟨(ag f.bf.b).trans rfl,(ag f.bf.b).trans rfl⟩,⟨(ag f.bf.i).trans rfl,(ag f.bf.i).trans rfl⟩,⟨(f.low.cell (p:=⟨j,2,none⟩) e4).trans i5,(f.low.cell (p:=⟨b2,d+k2,none⟩) m0).trans V⟩,af f.bf.op,af f.bf.b,af f.bf.i,by omega,by omega⟩
  have p1:Hid _:=hlens;have x6:C.length<=1099514773504:=hlens.1;clear hLo hlens hfl hbl' hb3 b3 b5 I g2 b0 b1 i9 m4 i7 c3 m1 a9 B4 B3 B2 B1 i3 i4 l0 l4 t Z c7 j2 c5 n0 i5 V a1;obtain⟨⟨o0,o2,o3,o4⟩,⟨b0,b1⟩,⟨i0,i1⟩,⟨e0,e1⟩,z,j1,N,p5,p6⟩:=m S4;have s0:((Y:Int)==0)=false:=by simp;omega
  have s1:¬(Y:Int)=0:=by omega
  have s2:decide ((0:Int)<(Y:Int))=true:=by simp;omega
  go_upto_region 7 with fail
  rw[e6.out];clear e6;go_upto_region 16 with fail
  go_cut [16] (λr3 wx=>r3=.slice ro rn rc/\Hid (Below w4.heap.size w4 wx))
  case first=>
   go_region_held2 (λv=>v.cell? ⟨j,2,none⟩=some (.slice (some ⟨b2,d,none⟩) Y a5)/\v.cell? ⟨w.heap.size,2,none⟩=some (.int .i64 y)/\v.cell? ⟨b2,d+k2,none⟩=some (.slice ro rn rc)) (go_keep) (first|(go_at_call 24;refine(a3 _).mono ?_;rintro e w6 ⟨rfl,rfl⟩))
   all_goals(go_wp2_with fail;go_meet)
   all_goals exact⟨rfl,by first|exact(refl _ w4).drew|exact refl _ w4⟩
  case rest=>
   obtain⟨rfl,i2⟩:=hcut;generalize n9:wc=w5 at*;clear n9 o0 o2 o3 o4 b0 b1 i0 i1 e0 e1 z j1 N p5 p6 a3;have S5:=S4.ah i2.out;have x3:=i2.out.size;clear S4 i2;have h0:∀(A:List Ln) (v:World),JF w0 w j w.heap.size s ib mb oc (.slice G E D) (.slice c L J) (.slice a fn' fc') (.slice bo bn bc) A R X K B F v->v.cell? ⟨ib,0,none⟩=some (.slice a fn' fc')/\v.cell? ⟨ib,1,none⟩=some (.slice bo bn bc)/\v.cell? ⟨w.heap.size,3,none⟩=some (.string (aa O))/\v.cell? ⟨w.heap.size,4,none⟩=some (.string (aa P)):=λA v f=>⟨(m f).2.2.1.1,(m f).2.2.1.2,(m f).1.2.2.1,(m f).1.2.2.2⟩;have N:=(m S5).2.2.2.2.2.2.1;have z:=(m S5).2.2.2.2.1;have n9:=S5.low.size;have i6:∀l∈X,l.g<w5.heap.size/\mb<l.g:=λl hl=>by
    obtain⟨_,_,_,_,_,_,_,_,_,_,hX,_⟩:=S5.lo;exact⟨(hX.each l hl).row.lt,(hX.each l hl).lo⟩
   go_upto_region 17 with fail
   refine KT ib w.heap.size mb w5 a fn' fc' bo bn bc O P ro rn rc M args (λA v=>JF w0 w j w.heap.size s ib mb oc (.slice G E D) (.slice c L J) (.slice a fn' fc') (.slice bo bn bc) A R X K B F v) (λ_=>True) C (by omega) S5 trivial (λ_ _ _ h hb=>h.ah hb) (λ_ _ _ _ _ _ h hq hw=>h.box hq (by omega)) (λ_ _ _ _=>trivial) (λ_ _ _ _=>trivial) (λ_ _ _ _ _ _ _ _ _=>trivial) h0 h7 h8 N z _ _ _ _ _ _ _ _ _ _ _ _ _ _ _ _ _ _ _ _ _ _ _ _ _ _ _ _ _ _ _ _ _ _ _ _ _ _ _ _ _ _ _ _ _ _ _ _ _ _ _ _ _ _ _ _ _ _ _ _ _ _ _ _ _ _ _ _ _ _ _ _ _ _ _ _ _ _ _ _ _ _ _ _ _ _ _ _ _ _ _ _ _ _ _ _ _ _ _ _ _ _ _ _ _ _ _ _ _ _ _ _ _ _ _ _ _ _ _ _ _ _ _ _ _ _ _ _ _ _ _ _ _ _ _ _ _ _ _ _ _ _ _ _ _ _ _ _ _ _ _ _ _ _ _ _ _ _ _ _ _ _ _ _ _ _ _ _ _ _ _ _ _ _ _ _ _ _ _ _ _ _ _ _ _ _ _ _ _ _ _ _ _ _ _ _ _ _ _ _ _ _ _ _ _ _ _ _ _ _ _ _ _ _ _ _ _ _ _ _ _ _ _ _ _ _ _ _ _ _ _ _ _ _ _ _ _ _ _ _ _ _ _ _ _ _ _ _ _ _ _ _ _ _ _ _ _ _ _ _ _ _ _ _ _ _ _ _ _ _ _ _ _ _ _ _ _ _ _ _ _ ?_;intro s3 s4 s6 s7 s8 s9 u0 u1 u2 v143 u3 v145 v146 q1 b8 b7 b6 C1 w8 S8 x7 M8 _ y6;dsimp only;clear N z S5;have N:=(m S8).2.2.2.2.2.2.1;have z:=(m S8).2.2.2.2.1;have z1:=S8.low.size;have j3:=af M8.box;have p3:∀g,(Value.slice b8 b7 b6).ownBlock=some g->g<w8.heap.size:=λg hg=>(World.ownsRow.lt M8.row g hg).2;go_upto_region 18 with fail
   refine KU ib w.heap.size mb w8 a fn' fc' bo bn bc O P ro rn rc M args (λA v=>JF w0 w j w.heap.size s ib mb oc (.slice G E D) (.slice c L J) (.slice a fn' fc') (.slice bo bn bc) A R X K B F v) (λv=>Made w5.heap.size M q1 b8 b7 b6 v) C1 (by omega) S8 M8 (λ_ _ _ h hb=>h.ah hb) (λ_ _ _ _ _ _ h hq hw=>h.box hq (by omega)) (λ_ _ h hb=>h.ah hb) (λ_ _ h hk=>h.Ub hk) (λ_ _ _ h hq hw b0 b1 b2=>h.set hq (by omega) b0 b1 b2) h0 h7 h8 N z _ _ _ _ _ _ _ _ _ _ _ _ _ _ _ _ _ _ _ _ _ _ _ _ _ _ _ _ _ _ _ _ _ _ _ _ _ _ _ _ _ _ _ _ _ _ _ _ _ _ _ _ _ _ _ _ _ _ _ _ _ _ _ _ _ _ _ _ _ _ _ _ _ _ _ _ _ _ _ _ _ _ _ _ _ _ _ _ _ _ _ _ _ _ _ _ _ _ _ _ _ _ _ _ _ _ _ _ _ _ _ _ _ _ _ _ _ _ _ _ _ _ _ _ _ _ _ _ _ _ _ _ _ _ _ _ _ _ _ _ _ _ _ _ _ _ _ _ _ _ _ _ _ _ _ _ _ _ _ _ _ _ _ _ _ _ _ _ _ _ _ _ _ _ _ _ _ _ _ _ _ _ _ _ _ _ _ _ _ _ _ _ _ _ _ _ _ _ _ _ _ _ _ _ _ _ _ _ _ _ _ _ _ _ _ _ _ _ _ _ _ _ _ _ _ _ _ _ _ _ _ _ _ _ _ _ _ _ _ _ _ _ _ _ _ _ _ _ _ _ _ _ _ _ _ _ _ _ _ _ _ _ _ _ _ _ _ _ _ _ _ _ _ _ _ _ _ _ _ _ _ ?_;intro u4 u5 u6 u7 u8 u9 v0 v1 v2 v3 v4 v5 v6 q2 j7 j6 j5 C3 w9 S9 x8 M2 M1 y7;dsimp only;clear N z S8 M8 h7 h8 h0;have y5:=af M2.box;have z2:=S9.low.size;obtain⟨⟨o0,o2,o3,o4⟩,⟨b0,b1⟩,_,_,z,j1,_⟩:=m S9;have HR:=k1 w9 S9.low;clear k1;go_upto_region 19 with fail
   go_cut [23,24,25] (λr4 r5 r6 wx=>∃(q:Nat) (no:Option Addr) (nn nc:Nat),r4=.pointer (some ⟨q,0,none⟩)/\r5=.slice no nn nc/\r6=.int .i64 M.2.2/\Below w9.heap.size w9 wx/\Made w9.heap.size M q no nn nc wx)
   case first=>
    go_wp2_with(go_at_call 32;refine HR.mono ?_;rintro e z8 ⟨no,nn,nc,rfl,hrow,hb10⟩)
    go_meet;exact⟨_,no,nn,nc,rfl,rfl,rfl,hb10.alloc hb10.size _,zg hrow (le_refl _)⟩
   case rest=>
    obtain⟨q3,o9,o8,o7,rfl,rfl,rfl,a6,M3⟩:=hcut;generalize n8:wc=w11 at*;clear n8 o0 o2 o3 o4 b0 b1 z j1 HR m;have k5:=S9.ah a6;have N1:=M1.ah a6;have N2:=M2.ah a6;have c6:M.2.1.length<=maxLen:=by unfold maxLen;omega
    have k3:∀y:World,Below w11.heap.size w11 y->Calls prog 33 #[.slice b8 b7 b6,.slice o9 o8 o7] y λe w'=>e=.returned (.bool true)/\Below y.heap.size y w':=λy hy=>uO y _ _ M.2.1 ((uP N1.row c6).ah hy) ((uP M3.row c6).ah hy);have k4:∀y:World,Below w11.heap.size w11 y->Calls prog 33 #[.slice j7 j6 j5,.slice o9 o8 o7] y λe w'=>e=.returned (.bool true)/\Below y.heap.size y w':=λy hy=>uO y _ _ M.2.1 ((uP N2.row c6).ah hy) ((uP M3.row c6).ah hy);obtain⟨⟨c0,c1,c2⟩,_⟩:=aJ N1.box;obtain⟨⟨d0,d1,d2⟩,_⟩:=aJ N2.box;obtain⟨⟨f0,f1,f2⟩,_⟩:=aJ M3.box;have z4:=af N1.box;have q8:=af N2.box;have q9:=af M3.box;have h9:Hid _:=N2;have j9:Hid _:=N1;have j8:Hid _:=M3;have e8:Hid _:=k5;clear S9 M1 M2 k5 N1 N2 M3;go_upto_region 23 with(first
     |(go_at_call 33;refine(k3 w11 (refl _ _)).mono ?_;clear k3;rintro e z9 ⟨rfl,hb12⟩;obtain⟨⟨v7,v8,v9⟩,_⟩:=aJ (fe hb12 h9.out.box);obtain⟨⟨w7,x0,x1⟩,_⟩:=aJ (fe hb12 j8.out.box);have g9:=hb12.size;have o6:=lt_of_lt_of_le q8 g9;have z3:=lt_of_lt_of_le q9 g9)
     |(go_at_call 33;refine(k4 _ hb12).mono ?_;clear k4;rintro e A0 ⟨rfl,hb13⟩;have H:=hb12.trans (hb13.mono hb12.size))
     |(go_at_call 12;refine(Rp _ _).mono ?_;rintro e wz ⟨rfl,rfl⟩))
    have b9:=e8.out.ah H;have TW:Uv w j w5.heap.size w8.heap.size (.slice b8 b7 b6) (.slice j7 j6 j5) M.2.1 _:=⟨(j9.out.ah H).row,(h9.out.ah H).row,p3,by omega,by omega,e4⟩;have x4:=b9.low.size;have x5:=H.size;have K1:=si _ j _ _ _ es (HH.out.bk.ah b9.low) (by omega) b8 b7 b6 M.2.1 (oV TW.r1 (by omega)) (by omega) (TW.sep HH.out.bk);have a4:Hid _:=TW;have Q:Hid _:=b9;clear TW b9 H hb13 hb12 c0 c1 c2 d0 d1 d2 f0 f1 f2 j9 h9 j8 e8;go_upto_region 24 with(go_at_call 34;refine K1.mono ?_;rintro e r7 ⟨rfl,e1,hbk15,hf15,hB15,hk15⟩)
    clear K1;obtain⟨n4,c8⟩:=a4.out.next HH.out.bk hf15 hk15;have K2:=si r7 j _ _ _ (es++ [e1]) hbk15 (by rw[List.length_append,List.length_singleton];omega) j7 j6 j5 M.2.1 (oV n4 (by omega)) (by omega) c8;go_upto_region 34 with(go_at_call 34;refine K2.mono ?_;rintro e p0 ⟨rfl,e2,hbk16,hf16,hB16,hk16⟩)
    clear K2;have m5:∀(q:Nat) (a0:Array Value) (T:TypeId) (fz:Nat × Nat),wz.heap[q]? =some (.cells a0 T fz)->T≠82->T≠40->(T=9->q<w5.heap.size)->p0.heap[q]? =wz.heap[q]? :=λq a0 T fz hq h1 h2 h3=>by
     have f1:=hk15 q a0 T fz hq h1 h2 λe=>by
      obtain⟨g1,_,c',g3⟩:=mW a4.out.r1 e;rw[hq]at g3;cases g3;have:=h3 rfl;omega
     refine(hk16 q a0 T fz (f1.trans hq) h1 h2 λe=> ?_).trans f1;obtain⟨g1,_,c',g3⟩:=mW a4.out.r2 e;rw[hq]at g3;cases g3;have:=h3 rfl;have:=a4.out.a2;omega
    have a7:=Q.out.lo.UI (λl hl=>(i6 l hl).1) m5;have WH:=qM w0 p0 mb C3 R X K B F a7 ⟨by omega,p1.out.2.2⟩ (((u Q.out.low).trans (hB15.mono m3)).trans (hB16.mono m3)) (by omega);clear a7
    go_wp2_with(go_at_call 39;refine WH.mono ?_;rintro e A1 ⟨rfl,hB17,hk17,hs17⟩)
    go_ret;have j4:=hB15.size;refine⟨rfl,(((Q.out.low.mono (le_of_lt e4)).trans hB15).trans hB16).trans (hB17.mono (by omega)),λq a0 T fz hq h1 h2=> ?_,es++ [e1]++ [e2],by simp,step_fin a4.out HH.out.bk (by omega) (λl hl=>(i6 l hl).1) (λl hl=>(i6 l hl).2) (by omega) hf15 hf16 j4 hbk16 hk17 hs17⟩;have p7:=aB hq;have k6:=Q.out.low.block q p7;have p2:=m5 q a0 T fz (k6.trans hq) h1 h2 λ_=>by omega
    exact(hB17.block q (by omega)).trans (p2.trans k6)
def Ac(w:World)(b off n:Nat):Prop:=∀i,i<n->∃(k x y:Int) (s t:ByteArray) (lo:Option Addr) (ln lc:Nat),
 w.cell? ⟨b,off+i*6,none⟩=some (.int .i64 k)/\w.cell? ⟨b,off+i*6+1,none⟩=some (.int .i64 x)/\w.cell? ⟨b,off+i*6+2,none⟩=some (.int .i64 y)/\
 w.cell? ⟨b,off+i*6+3,none⟩=some (.string s)/\w.cell? ⟨b,off+i*6+4,none⟩=some (.string t)/\w.cell? ⟨b,off+i*6+5,none⟩=some (.slice lo ln lc)/\(-9223372036854775808<=x/\x<=9223372036854775807)/\ -9223372036854775808<=y/\y<=9223372036854775807
theorem Ac.move{w x:World}{b a n:Nat}(h:Ac w b a n)(hb:x.heap[b]? =w.heap[b]?):Ac x b a n:=by
 intro i p;obtain⟨k,y,z,s,t,lo,r,q,d,e,f,g,l,m,o⟩:=h i p;have c:∀j,x.cell? ⟨b,j,none⟩=w.cell? ⟨b,j,none⟩:=λj=>World.cell?_of_block hb;exact⟨k,y,z,s,t,lo,r,q,(c _).trans d,(c _).trans e,(c _).trans f,(c _).trans g,(c _).trans l,(c _).trans m,o⟩
theorem Pj(x:World)(cs:Array Value)(T:TypeId){b n:Nat}(hb:b=x.heap.size)(h:∀i,i<n->∃(k x y:Int) (s t:ByteArray) (lo:Option Addr) (d c:Nat),cs[i*6]? =some (.int .i64 k)/\cs[i*6+1]? =some (.int .i64 x)/\cs[i*6+2]? =some (.int .i64 y)/\
  cs[i*6+3]? =some (.string s)/\cs[i*6+4]? =some (.string t)/\cs[i*6+5]? =some (.slice lo d c)/\(-9223372036854775808<=x/\x<=9223372036854775807)/\ -9223372036854775808<=y/\y<=9223372036854775807):Ac (x.alloc (.cells cs T)) b 0 n:=by
 subst hb;have a:∀j,(x.alloc (.cells cs T)).cell? ⟨x.heap.size,j,none⟩=cs[j]? :=λj=>ui (heap_alloc_new x _);intro i q;obtain⟨k,y,z,s,t,lo,d,c,e,f,g,l,m,o,p⟩:=h i q;simp only[Nat.zero_add];exact⟨k,y,z,s,t,lo,d,c,(a _).trans e,(a _).trans f,(a _).trans g,(a _).trans l,(a _).trans m,(a _).trans o,p⟩
theorem Mm(w:World):Calls prog 7 #[] w λe w'=>e=.returned (.slice (some ⟨w.heap.size+1,0,none⟩) 9 9)/\Below w.heap.size w w'/\(∃cs,w'.heap[w.heap.size+1]? =some (.cells cs 44 (0,0)))/\Ac w' (w.heap.size+1) 0 9:=by
 go_enter Tryz.func7,Tryz.ntmps7
 go_wp2_with fail
 go_ret;refine⟨rfl,az w _ _,⟨_,(pz w _ _).1.2⟩, ?_⟩;refine Pj (w.alloc _) _ _ (by simp[size_alloc]) λi a=> ?_
 match i,a with
 |0,_|1,_|2,_|3,_|4,_|5,_|6,_|7,_|8,_=>exact⟨_,_,_,_,_,_,_,_,rfl,rfl,rfl,rfl,rfl,rfl,⟨by decide,by decide⟩,by decide,by decide⟩
theorem yY(w:World):lM (nS w (gY w.heap.size)) (w.heap.size+19) 0 1/\w.heap.size+19<(nS w (gY w.heap.size)).heap.size:=by
 have a:=ru (gY w.heap.size) w 18 _ rfl;have b:=ru (gY w.heap.size) w 19 _ rfl;refine⟨λi c=> ?_,aB b⟩;obtain rfl:i=0:=by omega
 refine⟨⟨some ⟨w.heap.size+18,0,none⟩,1,1,bZ [(1,8,[])]⟩,[(1,8,[])],(ag b).trans rfl,mF (cs:=bZ [(1,8,[])]) a rfl (by omega) (vw _) (yI _ 1 rfl),rfl,rfl,lC (cs:=[(1,8,[])]) a rfl (by show 1<=maxLen;unfold maxLen;omega)⟩
theorem QY(w:World):Calls prog 6 #[] w λe w'=>e=.returned (.agg #[.slice (some ⟨w.heap.size+16,0,none⟩) 2 2,.slice (some ⟨w.heap.size+17,0,none⟩) 1 1,.slice (some ⟨w.heap.size+19,0,none⟩) 1 1])/\Below w.heap.size w w'/\(w.heap.size+16<w'.heap.size/\iJ w' (w.heap.size+16) 0 2)/\w.heap.size+19<w'.heap.size/\lM w' (w.heap.size+19) 0 1:=
 (LU w).mono λe w' ⟨a,h2⟩=>by
  subst h2;exact⟨a,pJ _ w,⟨(wP w).2,(wP w).1⟩,(yY w).2,(yY w).1⟩
theorem Cj(w:World)(q b a n gc:Nat)(hW:w.cell? ⟨q,0,none⟩=some (.slice (some ⟨b,a,none⟩) n gc))(a3:q<w.heap.size)(hn:0<n)(e0:n<=1048576)(b4:b<w.heap.size)(a6:iJ w b a n)(a2:Option Addr)(c2:Nat)(b3:w.cell? ⟨q,2,none⟩=some (.slice a2 0 c2))(x y:Int)(e5: -9223372036854775808<=x)(e6:x<=9223372036854775807)(s t:ByteArray)(lo:Option Addr)(ln lc:Nat):
  Calls prog 13 #[.pointer (some ⟨q,0,none⟩),.agg #[.int .i64 4,.int .i64 x,.int .i64 y,.string s,.string t,.slice lo ln lc]] w λe w'=>e=.returned (.bool true)/\Below w.heap.size w w':=by
 have hk:=zt x n hn;obtain⟨k,a0⟩:∃k,k=sw x n:=⟨_,rfl⟩;have a4:∀W:World,Calls prog 24 #[.int .i64 x,.int .i64 (n:Int)] W λe w'=>e=.returned (.int .i64 (k:Int))/\w'=W:=by
  intro W;rw[a0];exact zu x n W e5 e6 hn e0
 rw[<-a0]at hk;obtain⟨Y,V,U,j,tl,tc,fs,ts,c1,c3,a5⟩:=a6 k hk;clear a0 a6;obtain⟨W,D⟩:∃W,W=w.alloc (.cells #[.int .i64 4,.int .i64 x,.int .i64 y,.string s,.string t,.slice lo ln lc] 44):=⟨_,rfl⟩;have P:Hid (w.alloc (.cells #[.int .i64 4,.int .i64 x,.int .i64 y,.string s,.string t,.slice lo ln lc] 44)=W):=D.symm;have u:Below w.heap.size w W:=by rw[D];exact ae w _
 have a1:W.heap[w.heap.size]? =some (.cells #[.int .i64 4,.int .i64 x,.int .i64 y,.string s,.string t,.slice lo ln lc] 44 (0,0)):=by rw[D];exact heap_alloc_new w _
 have e3:W.heap.size=w.heap.size+1:=by rw[D];simp[size_alloc]
 clear D;have e1:=aB a1;have o1:W.cell? ⟨w.heap.size,1,none⟩=some (.int .i64 x):=(ag a1).trans rfl;have g0:W.cell? ⟨q,0,none⟩=some (.slice (some ⟨b,a,none⟩) n gc):=(u.cell (p:=⟨q,0,none⟩) a3).trans hW;have q0:W.cell? ⟨b,a+k*2,none⟩=some (.slice Y V U):=(u.cell (p:=⟨b,_,none⟩) b4).trans c1;have q1:W.cell? ⟨b,a+k*2+1,none⟩=some (.slice j tl tc):=(u.cell (p:=⟨b,_,none⟩) b4).trans c3;have c4:q<W.heap.size:=by omega
 have b6:b<W.heap.size:=by omega
 have r:Hid _:=a5;have h1:((n:Int)==0)=false:=by simp;omega
 have e8:¬(n:Int)=0:=by omega
 have g2:W.cell? ⟨q,2,none⟩=some (.slice a2 0 c2):=(u.cell (p:=⟨q,2,none⟩) a3).trans b3;clear c1 c3 a5;go_enter Tryz.func13,Tryz.ntmps13;go_upto_region 3 with fail
 rw[P.out];clear P;go_cut [5] (λs5 wx=>∃l,s5=.pointer (some ⟨l,0,none⟩)/\Below W.heap.size W wx/\W.heap.size<=l/\wx.heap[l]? =some (.cells #[.slice Y V U,.slice j tl tc] 67 (0,0)))
 case first=>
  have b8:=new_ne W ⟨q,0,none⟩ g0;have b9:=new_ne W ⟨w.heap.size,1,none⟩ o1;have c0:=new_ne W ⟨b,a+k*2,none⟩ q0;dsimp only at b8 b9 c0
  go_region_held2 (λv=>v.cell? ⟨q,0,none⟩=some (.slice (some ⟨b,a,none⟩) n gc)/\v.cell? ⟨w.heap.size,1,none⟩=some (.int .i64 x)/\v.cell? ⟨b,a+k*2,none⟩=some (.slice Y V U)/\v.cell? ⟨b,a+k*2+1,none⟩=some (.slice j tl tc)) (go_keep) (first|(go_at_call 24;refine(a4 _).mono ?_;rintro e w6 ⟨rfl,rfl⟩))
  all_goals(go_wp2_with fail;go_meet)
  all_goals exact⟨W.heap.size,by rw[e3],by first|exact(ae W _).drew|exact ae W _,le_refl _,heap_alloc_new W _⟩
 case rest=>
  obtain⟨l,rfl,Z,g4,m⟩:=hcut;generalize e4:wc=w1 at*;clear e4 o1 g0 g2 q0 q1 c4 b6 a4;have B1:Below w.heap.size w w1:=u.trans (Z.mono u.size);have o:=(Z.block _ e1).trans a1;obtain⟨w2,L⟩:∃w2,w2=w1.alloc (.cells #[.slice none 0 0,.slice none 0 0,.slice none 0 0,.slice none 0 0,.slice none 0 0,.slice none 0 0,.slice none 0 0,.slice none 0 0,.slice none 0 0] 118):=⟨_,rfl⟩;have N:Hid (w1.alloc (.cells #[.slice none 0 0,.slice none 0 0,.slice none 0 0,.slice none 0 0,.slice none 0 0,.slice none 0 0,.slice none 0 0,.slice none 0 0,.slice none 0 0] 118)=w2):=L.symm;have J:Below w1.heap.size w1 w2:=by rw[L];exact ae w1 _
  have b7:w2.heap[w1.heap.size]? =some (.cells #[.slice none 0 0,.slice none 0 0,.slice none 0 0,.slice none 0 0,.slice none 0 0,.slice none 0 0,.slice none 0 0,.slice none 0 0,.slice none 0 0] 118 (0,0)):=by rw[L];exact heap_alloc_new w1 _
  clear L;have B2:Below w.heap.size w w2:=B1.trans (J.mono B1.size);have c:=(J.block l (aB m)).trans m;have Q:=(J.block _ (aB o)).trans o;obtain⟨dL,a7,a8,c8,c9⟩:=r.out.dL;have HB:=sj w w2 w1.heap.size (za b7) B2 B1.size Y V U (jQ fs) r.out.TQ j tl tc dL r.out.VL r.out.Uo a7 a8;have b0:w2.cell? ⟨l,0,none⟩=some (.slice Y V U):=(ag c).trans rfl;have b1:w2.cell? ⟨l,1,none⟩=some (.slice j tl tc):=(ag c).trans rfl;have b5:=aB c;have g5:l<w1.heap.size:=aB m;have h2:w.heap.size<w1.heap.size:=aB o;generalize e7:w1.heap.size=mb at*;clear o m;go_upto_region 5 with fail
  rw[N.out];clear N
  go_wp2_with(go_at_call 25;refine HB.mono ?_)
  clear HB;rintro e g ⟨A,fn',fc',bo,bn,bc,C,R,X,K,B,F,rfl,⟨hlens,hLo⟩,hfl,hbl',hb3⟩;have b2:fH g (.slice A fn' fc') fs:=by
   obtain⟨_,_,_,_,_,_,_,_,_,_,_,_,_,hF⟩:=hLo;exact yZ hF.each hfl r.out.texts
  have a9:jm g (.slice bo bn bc) ts:=Bn hLo hbl' r.out.RY a7 a8 c8 c9;have B3:Below w.heap.size w g:=B2.trans (hb3.mono (by have:=B1.size;omega));have E:g.heap[l]? =some (.cells #[.slice Y V U,.slice j tl tc] 67 (0,0)):=(hb3.block l (by omega)).trans c;have H:=(hb3.block w.heap.size (by omega)).trans Q;have g3:mb<g.heap.size:=by obtain⟨_,_,_,_,_,_,_,h,_⟩:=hLo;exact aB h
  obtain⟨I,M⟩:∃I,I=g.alloc (.cells #[.slice A fn' fc',.slice bo bn bc] 67):=⟨_,rfl⟩;have O:Hid (g.alloc (.cells #[.slice A fn' fc',.slice bo bn bc] 67)=I):=M.symm;have z:Below g.heap.size g I:=by rw[M];exact ae g _
  have G:I.heap[g.heap.size]? =some (.cells #[.slice A fn' fc',.slice bo bn bc] 67 (0,0)):=by rw[M];exact heap_alloc_new g _
  clear M;have S:Below w.heap.size w I:=B3.trans (z.mono B3.size);have d:=(z.block l (aB E)).trans E;have f:=(z.block _ (aB H)).trans H;have c6:Hid _:=hLo.ah z;have c5:Hid _:=hlens;have g1:Hid _:=b2.ah z;have e9:Hid _:=a9.ah z;have T:∀v:World,Below I.heap.size I v->(v.cell? ⟨w.heap.size,0,none⟩=some (.int .i64 4)/\v.cell? ⟨w.heap.size,3,none⟩=some (.string s))/\(v.cell? ⟨l,0,none⟩=some (.slice Y V U)/\v.cell? ⟨l,1,none⟩=some (.slice j tl tc))/\(v.cell? ⟨g.heap.size,0,none⟩=some (.slice A fn' fc')/\v.cell? ⟨g.heap.size,1,none⟩=some (.slice bo bn bc))/\w.heap.size<v.heap.size/\l<v.heap.size/\g.heap.size<v.heap.size/\v.cell? ⟨q,2,none⟩=some (.slice a2 0 c2)/\q<v.heap.size:=λv i=>
   ⟨⟨(ag ((i.block _ (aB f)).trans f)).trans rfl,(ag ((i.block _ (aB f)).trans f)).trans rfl⟩,⟨(ag ((i.block _ (aB d)).trans d)).trans rfl,(ag ((i.block _ (aB d)).trans d)).trans rfl⟩,⟨(ag ((i.block _ (aB G)).trans G)).trans rfl,(ag ((i.block _ (aB G)).trans G)).trans rfl⟩,lt_of_lt_of_le (aB f) i.size,lt_of_lt_of_le (aB d) i.size,lt_of_lt_of_le (aB G) i.size,((S.trans (i.mono S.size)).cell (p:=⟨q,2,none⟩) a3).trans b3,by have:=S.size;have:=i.size;omega⟩
  have c7:∀v:World,Below I.heap.size I v->Calls prog 39 #[.pointer (some ⟨mb,0,none⟩)] v λe w'=>e=.returned (.bool true)/\Below w.heap.size w w':=λv i=>
   (qM w v mb C R X K B F (bG.ah c6.out i) c5.out.2 (S.trans (i.mono S.size)) (by omega)).mono λe w' h=>⟨h.1,(S.trans (i.mono S.size)).trans (h.2.1.mono (by omega))⟩
  clear hLo hlens b2 a9 hfl hbl' hb3 E H c Q b0 b1 b5 b7 Z J;generalize g6:g.heap.size=ib at*;obtain⟨⟨o0,o3⟩,⟨b0,b1⟩,⟨i0,i1⟩,g7,g8,g9,e2,h0⟩:=T I (refl _ _);go_upto_region 7 with fail
  rw[O.out];clear O
  go_wp2_with(go_at_call 39;refine(c7 _ (refl _ _)).mono ?_;rintro e w8 ⟨rfl,hb8⟩)
  go_ret;exact⟨rfl,hb8⟩
theorem zO{w w':World}{d:Nat}{b g1 c:Value}{a:List TE}(h:nQ w d b g1 c a){e:Ending}(g:e=.returned (.bool true))(hb:Below w.heap.size w w'):wD w d b g1 c a e w':=by
 obtain⟨_,_,_,f,_⟩:=h.row;exact⟨g,hb.mono (le_of_lt (af f)),gH hb _ _,a,by omega,h.ah hb⟩
theorem wD.pre{w x w':World}{j:Nat}{g g1 i:Value}{d:List TE}{e:Ending}(h:nQ w j g g1 i d)(hb:Below w.heap.size w x)(u:wD x j g g1 i d e w'):wD w j g g1 i d e w':=by
 obtain⟨_,_,_,n,_⟩:=h.row;obtain⟨t,o,p,f,r,s⟩:=u;refine⟨t,(hb.mono (le_of_lt (af n))).trans o,λq c T m l a b=> ?_,f,r,s⟩;have k:=hb.block q (aB l);exact(p q c T m (k.trans l) a b).trans k
theorem QD{w0 w:World}{a:Nat}{a0:Option Addr}{d c:Nat}{g1:Value}{a2:Option Addr}{l2 f:Nat}{p:List TE}(h:jM w0 w a a0 d c g1 a2 l2 f p)(A:p.length<=3000000)(x y:Int)(l: -9223372036854775808<=x)(m:x<=9223372036854775807)(B: -9223372036854775808<=y)(C:y<=9223372036854775807)(s t:ByteArray)(lo:Option Addr)(r q:Nat):
  Calls prog 13 #[.pointer (some ⟨a,0,none⟩),.agg #[.int .i64 4,.int .i64 x,.int .i64 y,.string s,.string t,.slice lo r q]] w λe w'=>wD w a (.slice a0 d c) g1 (.slice a2 l2 f) p e w':=by
 obtain⟨_,_,_,u,_⟩:=h.bk.row;have k:=af u;have H:w.cell? ⟨a,0,none⟩=some (.slice a0 d c):=(ag u).trans rfl;have I:w.cell? ⟨a,2,none⟩=some (.slice a2 l2 f):=(ag u).trans rfl;by_cases F:d=0
 ·subst F;exact(Ic w a (.slice a0 0 c) c (.inr ⟨a0,rfl⟩) H k 4 x y s t lo r q).mono λe w' ⟨z,hb⟩=>zO h.bk z hb
 obtain⟨b,n,rfl,i,g⟩:=h.Sm.resolve_left F;by_cases G:l2=0
 ·subst G;exact(Cj w a b n d c H k (by omega) h.small (by have:=h.ng.size;omega) (g.ah h.ng i) a2 f I x y l m s t lo r q).mono λe w' ⟨z,hb⟩=>zO h.bk z hb
 obtain⟨b2,o,rfl,j,v⟩:=h.args.resolve_left G;obtain⟨D,rfl⟩:∃D,s=aa D:=⟨s.toList,oD s⟩;obtain⟨E,rfl⟩:∃E,t=aa E:=⟨t.toList,oD t⟩;exact Ib w0 w a b n d c g1 b2 o l2 f p h A (by omega) (by omega) i g j v x y l m B C D E lo r q
theorem PQ{w0 w:World}{l:Nat}{a0:Option Addr}{o m:Nat}{g1:Value}{a2:Option Addr}{l2 n:Nat}{b:List TE}(h:jM w0 w l a0 o m g1 a2 l2 n b)(c:b.length<=3000000)(x y:Int)(d: -9223372036854775808<=x)(f:x<=9223372036854775807)(g: -9223372036854775808<=y)(i:y<=9223372036854775807)(s t:ByteArray)(lo:Option Addr)(k j:Nat):
  Calls prog 8 #[.pointer (some ⟨l,0,none⟩),.agg #[.int .i64 4,.int .i64 x,.int .i64 y,.string s,.string t,.slice lo k j]] w λe w'=>wD w l (.slice a0 o m) g1 (.slice a2 l2 n) b e w':=by
 have a:=ae w (.cells #[.int .i64 4,.int .i64 x,.int .i64 y,.string s,.string t,.slice lo k j] 44);have p:=QD (h.ah a) c x y d f g i s t lo k j;have q:Hid _:=h.bk;clear h;go_enter Tryz.func8,Tryz.ntmps8
 go_wp2_with(go_at_call 13;refine p.mono ?_;rintro e w2 ⟨rfl,h2⟩)
 go_ret;exact wD.pre q.out a ⟨rfl,h2⟩
theorem NH{w:World}{c:Nat}{a g1 b:Value}(h:w.heap[c]? =some (.cells #[a,g1,b,.slice none 0 0,.slice none 0 0,.slice none 0 0,.slice none 0 0,.slice none 0 0] 40 (0,0))):nQ w c a g1 b []:=
 ⟨⟨none,0,0,h,World.ownsRow_nil _ _ _ _⟩,λi e d=>by simp at d⟩
theorem FU(w:World)(a0 a1 a2 V:Option Addr)(o r l1 u l2 v n cap:Nat)(hn:n<=1048576)(a3:o<=1048576)(a4:l2<=1048576)(hT:sJ w)(M:o=0\/∃b a,a0=some ⟨b,a,none⟩/\b<w.heap.size/\iJ w b a o)(L:l2=0\/∃b a,a2=some ⟨b,a,none⟩/\b<w.heap.size/\lM w b a l2)(m:n=0\/∃b a,V=some ⟨b,a,none⟩/\b<w.heap.size/\Ac w b a n):
  Calls prog 5 #[.agg #[.slice a0 o r,.slice a1 l1 u,.slice a2 l2 v],.slice V n cap,.int .i64 4,.int .i64 4] w λe w'=>e=.returned (.bool true)/\Below w.heap.size w w':=by
 have R:Hid _:=M;have Q:Hid _:=L;have HT:Hid _:=hT;clear M L hT;go_enter Tryz.func5,Tryz.ntmps5
 go_wp2_with(first
  |(go_at_call 6;refine(QY _).mono ?_;rintro e w2 ⟨rfl,hb2,⟨f,hbs2⟩,hlt3,has2⟩)
  |(go_at_call 7;refine(Mm _).mono ?_;rintro e w3 ⟨rfl,hb3,⟨ocs,hoc3⟩,hops3⟩))
 have N:Below w.heap.size w w2:=((refl _ w).alloc (le_refl _) _).trans (hb2.mono (by simp[size_alloc]));have a6:=hb2.size;have a7:=hb3.size;simp only[size_alloc]at hoc3 hops3 a6 a7 f hlt3 hbs2 has2;have J:jM w2 (w2.alloc (.cells #[.slice (some ⟨w.heap.size+1+16,0,none⟩) 2 2,.slice (some ⟨w.heap.size+1+17,0,none⟩) 1 1,.slice (some ⟨w.heap.size+1+19,0,none⟩) 1 1,.slice none 0 0,.slice none 0 0,.slice none 0 0,.slice none 0 0,.slice none 0 0] 40)) w2.heap.size (some ⟨w.heap.size+1+16,0,none⟩) 2 2 (.slice (some ⟨w.heap.size+1+17,0,none⟩) 1 1) (some ⟨w.heap.size+1+19,0,none⟩) 1 1 []:=
  ⟨le_refl _,ae w2 _,iR HT.out N,NH (heap_alloc_new w2 _),by omega,by omega,.inr ⟨_,_,rfl,f,hbs2⟩,.inr ⟨_,_,rfl,hlt3,has2⟩⟩
 have A:=J.ah hb3;have B3:Below w.heap.size w w3:=(N.alloc N.size _).trans (hb3.mono (by simp[size_alloc];omega));have X:w3.heap[w.heap.size]? =some (.cells #[.slice a0 o r,.slice a1 l1 u,.slice a2 l2 v] 26 (0,0)):=
  (hb3.block _ (by simp[size_alloc];omega)).trans ((Below.heap_alloc _ _ _ (by omega)).trans ((hb2.block _ (by simp[size_alloc])).trans (heap_alloc_new w _)))
 clear hb2 hb3 N J hbs2 has2 f hlt3;go_loopw [11] (λF wr=>∃(i:Nat) (z:List TE),i<=9/\F=.int .i64 i/\z.length<=2*i/\jM w2 wr w2.heap.size (some ⟨w.heap.size+1+16,0,none⟩) 2 2 (.slice (some ⟨w.heap.size+1+17,0,none⟩) 1 1) (some ⟨w.heap.size+1+19,0,none⟩) 1 1 z/\Below w2.heap.size w3 wr/\wr.heap[w2.heap.size+1+1]? =some (.cells ocs 44 (0,0))) (λF _=>9- (intOf F).toNat)
 case atStart=>exact⟨0,[],by omega,rfl,by simp,A,refl _ _,hoc3⟩
 case round=>
  obtain⟨i,z,hi,rfl,b1,l,g,c⟩:=hrel;have Z:=g.size;have b3:=aB c;by_cases a5:i<9
  ·clear m X;obtain⟨k,x,y,s,t,lo,ln,lc,q0,q1,q2,q3,q4,q5,⟨B,C⟩,D,E⟩:=(hops3.move (c.trans hoc3.symm)) i a5;simp only[Nat.zero_add]at q0 q1 q2 q3 q4 q5;clear hops3 A;by_cases hk:k=4
   ·subst hk;have S:=PQ l (by omega) x y B C D E s t lo ln lc;have T:Hid _:=l;clear l
    go_wp2_with(go_at_call 8;refine S.mono ?_;rintro e w4 ⟨rfl,hb4,hk4,es',hl4,hbk4⟩)
    go_roundw
    case rel=>exact⟨i+1,es',by omega,by go_num,by omega,T.out.next hb4 hbk4,g.trans hb4,(hk4 _ _ _ _ c (by decide) (by decide)).trans c⟩
    case measure=>simp[intOf];omega
   ·have j:k<4\/4<k:=by omega
    rcases j with j|j
    ·go_wp2_with fail
     go_roundw
     case rel=>exact⟨i+1,z,by omega,by go_num,by omega,l,g,c⟩
     case measure=>simp[intOf];omega
    ·go_wp2_with fail
     go_roundw
     case rel=>exact⟨i+1,z,by omega,by go_num,by omega,l,g,c⟩
     case measure=>simp[intOf];omega
  ·generalize a8:wr=wq at*;clear a8;have p:=(g.block _ (by omega)).trans X;have z0:wq.cell? ⟨w.heap.size,0,none⟩=some (.slice a0 o r):=(ui p).trans rfl;have z1:wq.cell? ⟨w.heap.size,1,none⟩=some (.slice a1 l1 u):=(ui p).trans rfl;have z2:wq.cell? ⟨w.heap.size,2,none⟩=some (.slice a2 l2 v):=(ui p).trans rfl;have q:Below w.heap.size w wq:=B3.trans (g.mono (by omega));clear hops3 g X p B3 A l c hoc3;obtain⟨W,O⟩:∃W,W=wq.alloc (.cells #[.slice a0 o r,.slice a1 l1 u,.slice a2 l2 v,.slice none 0 0,.slice none 0 0,.slice none 0 0,.slice none 0 0,.slice none 0 0] 40):=⟨_,rfl⟩;have K:jM wq W wq.heap.size a0 o r (.slice a1 l1 u) a2 l2 v []:=by
    refine⟨le_refl _,by rw[O];exact ae wq _,iR HT.out q,NH (by rw[O];exact heap_alloc_new wq _),a3,a4, ?_, ?_⟩
    ·rcases R.out with h|⟨b,a,e,hl,hB⟩
     ·exact .inl h
     ·exact .inr ⟨b,a,e,by have:=q.size;omega,hB.ah q hl⟩
    ·rcases Q.out with h|⟨b,a,e,hl,hB⟩
     ·exact .inl h
     ·exact .inr ⟨b,a,e,by have:=q.size;omega,hB.ah q hl⟩
   have G:∀P:World->Prop,P W->P (wq.alloc (.cells #[.slice a0 o r,.slice a1 l1 u,.slice a2 l2 v,.slice none 0 0,.slice none 0 0,.slice none 0 0,.slice none 0 0,.slice none 0 0] 40)):=by intro P h;rw[<-O];exact h
   clear O
   go_wp2_with fail
   go_loopw [14] (λF wx=>∃(i:Nat) (z:List TE),i<=n/\F=.int .i64 i/\z.length<=2*i/\jM wq wx wq.heap.size a0 o r (.slice a1 l1 u) a2 l2 v z) (λF _=>n- (intOf F).toNat)
   case atStart=>exact⟨0,[],Nat.zero_le _,rfl,by simp,G (λx=>jM wq x wq.heap.size a0 o r (.slice a1 l1 u) a2 l2 v []) K⟩
   case round=>
    clear z0 z1 z2 G K;obtain⟨i2,H,b2,rfl,a9,d⟩:=hrel;have b0:=d.ng.size;have I:=q.size;by_cases f:i2<n
    ·obtain⟨b,a,rfl,Y,hO⟩:∃b a,V=some ⟨b,a,none⟩/\b<w.heap.size/\Ac w b a n:=by
      rcases m with h|h
      ·omega
      ·exact h
     obtain⟨k,x,y,s,t,lo,ln,lc,q0,q1,q2,q3,q4,q5,⟨B,C⟩,D,E⟩:=(hO.move ((d.ng.block b (by omega)).trans (q.block b Y))) i2 f;have Z:b<wr.heap.size:=by omega
     clear m hO;by_cases hk:k=4
     ·subst hk;have S:=PQ d (by omega) x y B C D E s t lo ln lc;have U:Hid _:=d;clear d
      go_wp2_with(first
       |(go_at_call 8;refine S.mono ?_;rintro e w4 ⟨rfl,hb4,hk4,es',hl4,hbk4⟩)
       |(go_at_call 9;refine(yC w4 _ _ _ _ es' hbk4 (by omega)).mono ?_;rintro e w5 ⟨rfl,hb5⟩))
      go_roundw
      case rel=>exact⟨i2+1,es',by omega,by go_num,by omega,(U.out.next hb4 hbk4).ah hb5⟩
      case measure=>simp[intOf];omega
     ·have j:k<4\/4<k:=by omega
      rcases j with j|j
      ·go_wp2_with fail
       go_roundw
       case rel=>exact⟨i2+1,H,by omega,by go_num,by omega,d⟩
       case measure=>simp[intOf];omega
      ·go_wp2_with fail
       go_roundw
       case rel=>exact⟨i2+1,H,by omega,by go_num,by omega,d⟩
       case measure=>simp[intOf];omega
    ·have BF:=q.trans (d.ng.mono I);clear d
     go_wp2_with fail
     go_ret;exact⟨rfl,BF⟩
theorem Ii(w:World)(a0 a1 a2 m:Option Addr)(f j l1 k l2 l n cap:Nat)(s:n<=1048576)(o:f<=1048576)(p:l2<=1048576)(q:sJ w)(i:f=0\/∃b a,a0=some ⟨b,a,none⟩/\b<w.heap.size/\iJ w b a f)(g:l2=0\/∃b a,a2=some ⟨b,a,none⟩/\b<w.heap.size/\lM w b a l2)(d:n=0\/∃b a,m=some ⟨b,a,none⟩/\b<w.heap.size/\Ac w b a n):
  Calls prog 3 #[.agg #[.slice a0 f j,.slice a1 l1 k,.slice a2 l2 l],.slice m n cap] w λe w'=>e=.returned (.bool true)/\Below w.heap.size w w':=by
 have c:=ae w (.cells #[.slice a0 f j,.slice a1 l1 k,.slice a2 l2 l] 26);have r:=FU (w.alloc (.cells #[.slice a0 f j,.slice a1 l1 k,.slice a2 l2 l] 26)) a0 a1 a2 m f j l1 k l2 l n cap s o p (iR q c) (by
  rcases i with h|⟨b,a,h1,h2,h3⟩
  ·exact .inl h
  ·exact .inr ⟨b,a,h1,by have:=c.size;omega,h3.ah c h2⟩) (by
  rcases g with h|⟨b,a,h1,h2,h3⟩
  ·exact .inl h
  ·exact .inr ⟨b,a,h1,by have:=c.size;omega,h3.ah c h2⟩) (by
  rcases d with h|⟨b,a,h1,h2,h3⟩
  ·exact .inl h
  ·exact .inr ⟨b,a,h1,by have:=c.size;omega,h3.move (c.block b h2)⟩)
 clear i g d q;go_enter Tryz.func3,Tryz.ntmps3
 go_wp2_with(go_at_call 5;refine r.mono ?_;rintro e w2 ⟨rfl,hb2⟩)
 go_ret;exact⟨rfl,c.trans (hb2.mono c.size)⟩
end Go.Proofs.YtdifpeaklamhnaaGreatDoor

import Derived.Test.YtdifpeaklamhnaaGreatDoorLoS2Z
set_option linter.unusedVariables false
set_option linter.unusedSimpArgs false
set_option maxRecDepth 100000
set_option maxHeartbeats 0
namespace Go.Proofs.YtdifpeaklamhnaaGreatDoor
open Go.Proofs.Tryz
open Go.RowKit
open Below (refl)
def RS(f:Func):Code:=((f.body.bind (jP 12)).getD .skip)
theorem Jk(w0 w:World)(y:Nat)(lv:Array Value)(a:Option Addr)(ac:Nat)(K:List Ln)(hO:w.heap[y]? =some (.cells lv 118 (0,0)))(L9:lv[4]? =some (.slice a K.length ac))(hL:bC (rO KJ w0 3) w 50 290 3 rP y (.slice a K.length ac) K)
  (L4:Below w0.heap.size w0 w) (m6:w0.heap.size<=y) (M7:K.length<=2199023255552) (u1 u2 u4 u5 u6 u7 u8 u9 n1 n2 n3 M2 M3 n4 n5 n6 n7 n8 o2 p5 q6 r7 s9 v8 x0 x3 x4 x5 x6 x7 x8 x9 y0 y1 y2 y3 y4 y5 y7 y8 y9 z2 z3 z4 z5 z6 z7 z8 z9 A0 A1 A2 A3 A4 A5 A6 A7 A8 A9 B0 B1 B2 B3 B4 B5 B6 B7 B8 B9 C0 C1 C2 C3 C4 C5 C6 C7 C8 C9 D0 D1 D2 D3 D4 D5 D6 D7 D8 D9 E0 E1 E2 E3 E4 E5 E6 E7 I J L M N O Q R S T U V W X Y Z a0 a1 a2 a3 a4 a5 a6 a7 a8 a9 b0 b1 b2 b3 b4 b5 b6 b7 b8 b9 c3 c4 c5 c6 c7 c8 c9 e0 e1 e2 e3 e4 e5 e6 e7 e8 e9 g0 g1 g2 g3 g4 g5 g6 g7 g8 g9 h0 h1 h2 h3 h4 h5 h6 h7 h8 h9 i0 i1 i2 i3 i4 i5 i6 i7 i8 i9 j0 j1 j2 j3 j4 j5 j6 j7 j8 j9 k0 k1 k2 k3 k4 k5 k6 k7 k8 k9 l0 l4 l5 l7 n9 o0 o1 o3 o4 o5 o6 o7 o8 o9 p2 p3 p4 p6 p7 p8 p9 q0 q1 q2 q3 q4 q5 q7 q8 q9 r0 r1 r2 r3 r4 r5 r6 r8 r9 s0 s1 s2 s4 s5 s6 s7 s8 u0 u3 v0 v1 v2 v3 v4 v5 v6 v7 v9 w1 w2 w3 w4 w5 w6 w7 w8 w9 x1 x2 l8:Value) (K0:Act->World->Prop) (P:Ending->World->Prop)
  (m7:∀(M4 M5 M6 E8 E9 F0 v210 F1 v212 F2 F3 F4 F5 F6 F7 F8 F9 G0 G1 G2 G3 G4 G5 G6 G7 G8 G9 H0 v232 v233 H1 H2 H3 H4 H5 H6 H7 H8 H9 I1 I2 I3 I4 I5 I6 I7 I8 I9 J1 J2 J3 J4 J5 J6 J7 J8 J9 K1 K2 K3 K4 K5 K6 K7 K8 K9 L0 L1:Value) (wx:World),fB w wx y 50 3 rP Qo K K.length->K0 ⟨#[.pointer (some ⟨y,0,none⟩),u1,u2,.bool true,u4,u5,u6,u7,u8,u9,n1,n2,n3,M4,M5,M6,n4,n5,n6,n7,n8,o2,p5,q6,r7,s9,v8,x0,x3,x4,x5,x6,x7,x8,x9,y0,y1,y2,y3,y4,y5,y7,y8,y9,z2,z3,z4,z5,z6,z7,z8,z9,A0,A1,A2,A3,A4,A5,A6,A7,A8,A9,B0,B1,B2,B3,B4,B5,B6,B7,B8,B9,C0,C1,C2,C3,C4,C5,C6,C7,C8,C9,D0,D1,D2,D3,D4,D5,D6,D7,D8,D9,E0,E1,E2,E3,E4,E5,E6,E7,I,J,L,M,N,O,Q,R,S,T,U,V,W,X,Y,Z,a0,a1,a2,a3,a4,a5,a6,a7,a8,a9,b0,b1,b2,b3,b4,b5,b6,b7,b8,b9,c3,c4,c5,c6,c7,c8,c9,e0,e1,e2,e3,e4,e5,e6,e7,e8,e9,g0,g1,g2,g3,g4,g5,g6,g7,g8,g9,h0,h1,h2,h3,h4,h5,h6,h7,h8,h9,i0,i1,i2,i3,i4,i5,i6,i7,i8,i9,j0,j1,j2,j3,j4,j5,j6,j7,j8,j9,k0,k1,k2,k3,k4,k5,k6,k7,k8,k9,l0,l4,l5,l7,E8,E9,F0,v210,F1,v212,F2,F3,F4,F5,F6,F7,F8,F9,G0,G1,G2,G3,G4,G5,G6,G7,G8,G9,H0,v232,v233,H1,H2,H3,H4,H5,H6,H7,H8,H9,I1,I2,I3,I4,I5,I6,I7,I8,I9,J1,J2,J3,J4,J5,J6,J7,J8,J9,K1,K2,K3,K4,K5,K6,K7,K8,K9,L0,L1,l8],[]⟩ wx):
  Code.wp prog (RS Tryz.f82) (Exit.then K0 (bodyPost prog Tryz.f82 P)) ⟨#[.pointer (some ⟨y,0,none⟩),u1,u2,.bool true,u4,u5,u6,u7,u8,u9,n1,n2,n3,.int .i64 0,M2,M3,n4,n5,n6,n7,n8,o2,p5,q6,r7,s9,v8,x0,x3,x4,x5,x6,x7,x8,x9,y0,y1,y2,y3,y4,y5,y7,y8,y9,z2,z3,z4,z5,z6,z7,z8,z9,A0,A1,A2,A3,A4,A5,A6,A7,A8,A9,B0,B1,B2,B3,B4,B5,B6,B7,B8,B9,C0,C1,C2,C3,C4,C5,C6,C7,C8,C9,D0,D1,D2,D3,D4,D5,D6,D7,D8,D9,E0,E1,E2,E3,E4,E5,E6,E7,I,J,L,M,N,O,Q,R,S,T,U,V,W,X,Y,Z,a0,a1,a2,a3,a4,a5,a6,a7,a8,a9,b0,b1,b2,b3,b4,b5,b6,b7,b8,b9,c3,c4,c5,c6,c7,c8,c9,e0,e1,e2,e3,e4,e5,e6,e7,e8,e9,g0,g1,g2,g3,g4,g5,g6,g7,g8,g9,h0,h1,h2,h3,h4,h5,h6,h7,h8,h9,i0,i1,i2,i3,i4,i5,i6,i7,i8,i9,j0,j1,j2,j3,j4,j5,j6,j7,j8,j9,k0,k1,k2,k3,k4,k5,k6,k7,k8,k9,l0,l4,l5,l7,n9,o0,o1,o3,o4,o5,o6,o7,o8,o9,p2,p3,p4,p6,p7,p8,p9,q0,q1,q2,q3,q4,q5,q7,q8,q9,r0,r1,r2,r3,r4,r5,r6,r8,r9,s0,s1,s2,s4,s5,s6,s7,s8,u0,u3,v0,v1,v2,v3,v4,v5,v6,v7,v9,w1,w2,w3,w4,w5,w6,w7,w8,w9,x1,x2,l8],[]⟩ w:=by
 conv=>arg 2;whnf
 have L2:Hid _:=m7;have I0:fB w w y 50 3 rP Qo K 0:=fB.start hL;have HF:Hid _:=hL;have L3:Hid _:=(gZ hL).2;have HO:Hid _:=hO;have N4:=aB hO;clear m7 hL hO
 go_wp2_with fail
 go_loopg [3,13] K.length (λgk m4 kv wr=>∃k:Nat,gk=K.length- k/\k<=K.length/\m4=.bool true/\kv=.int .i64 (k:Int)/\fB w wr y 50 3 rP Qo K k)
 case atStart=>exact⟨0,rfl,Nat.zero_le _,rfl,rfl,I0⟩
 case round=>
  obtain⟨k,m0,hk,rfl,rfl,hI⟩:=hrel;subst m0;clear I0;generalize M1:wr=wo at*;clear M1;have D:=(hI.ah _ _ _ _ HO.out (by decide)).trans HO.out;have N5:=aB D;have y6:wo.cell? ⟨y,4,none⟩=some (.slice a K.length ac):=(ag D).trans L9;by_cases L8:k<K.length
  ·obtain⟨B,rfl,N2,⟨m5,A⟩,o⟩:∃B,a=some ⟨B,0,none⟩/\B<w.heap.size/\(∃m5,w.heap[B]? =some (.cells m5 290 (0,0)))/\∀(k:Nat) (l:Ln),K[k]? =some l->w.cell? ⟨B,k*2,none⟩=some (.slice (some ⟨l.g,0,none⟩) (l.n+3) (l.n+3))/\w.cell? ⟨B,k*2+1,none⟩=some (.slice l.wo l.n l.wc):=by
    rcases L3.out with h|h
    ·omega
    ·exact h
   obtain⟨⟨g,n,m,wk,cs⟩,hl⟩:∃l,K[k]? =some l:=⟨_,List.getElem?_eq_getElem L8⟩;have F:=hI.ah _ _ _ _ A (by decide);have p0:=(World.cell?_of_block (w:=w) (a:=⟨B,k*2,none⟩) F).trans (o k _ hl).1;have p1:=(World.cell?_of_block (w:=w) (a:=⟨B,k*2+1,none⟩) F).trans (o k _ hl).2;have m9:B<wo.heap.size:=aB (F.trans A);have q:=HF.out.each _ (List.mem_of_getElem? hl);have n0:y<=g:=by have:=q.lo;dsimp only at this;omega
   have z:=hI.more ((refl _ wo).alloc (Nat.le_refl _) (.cells #[.slice (some ⟨g,0,none⟩) (n+3) (n+3),.slice m n wk] 290)) (by omega);have J0:jK (wo.alloc (.cells #[.slice (some ⟨g,0,none⟩) (n+3) (n+3),.slice m n wk] 290)) (wo.alloc (.cells #[.slice (some ⟨g,0,none⟩) (n+3) (n+3),.slice m n wk] 290)) y 50 3 rP Qo ⟨g,n,m,wk,cs⟩ 0:=jK.start z hl;have x:=heap_alloc_new wo (.cells #[.slice (some ⟨g,0,none⟩) (n+3) (n+3),.slice m n wk] 290);clear o A F hI
   go_wp2_with fail
   generalize L6:wo.alloc (.cells #[.slice (some ⟨g,0,none⟩) (n+3) (n+3),.slice m n wk] 290)=W1 at*;generalize N6:wo.heap.size=xb at*;have L5:Below w0.heap.size w0 W1:=L4.trans (z.mD.mono m6);have m3:=aB x;clear p0 p1 m9 y6 D L6;go_loopg [3,15] (n+3) (λgk m4 iv wx=>∃i:Nat,gk=(n+3)- i/\i<=n+3/\m4=.bool true/\iv=.int .i64 (i:Int)/\jK W1 wx y 50 3 rP Qo ⟨g,n,m,wk,cs⟩ i)
   case atStart=>exact⟨0,rfl,Nat.zero_le _,rfl,rfl,J0⟩
   case round=>
    obtain⟨i,m0,hi,rfl,rfl,r⟩:=hrel;subst m0;clear J0;have m1:xb≠g:=λe=>by
     obtain⟨H,m8,_⟩:=z.todo k _ (Nat.le_refl _) hl;rw[e]at x;rw[x]at m8;cases m8
    have c:=(r.nZ xb m3 m1).trans x;have M0:=q.small;dsimp only at M0;have z0:wr.cell? ⟨xb,0,none⟩=some (.slice (some ⟨g,0,none⟩) (n+3) (n+3)):=(ag c).trans rfl;have z1:wr.cell? ⟨xb,1,none⟩=some (.slice m n wk):=(ag c).trans rfl;have G:=aB c;have E:g<wr.heap.size:=r.row.lt;by_cases N3:i<n+3
    ·by_cases L7:i<n
     ·obtain⟨b,f,rfl,hb,hc⟩:∃b f,m=some ⟨b,f,none⟩/\b<w0.heap.size/\∀j v,cs[j]? =some v->w0.cell? ⟨b,f+j,none⟩=some v:=by
       rcases q.want.1.2 with h|h
       ·dsimp only at h;omega
       ·exact h
      obtain⟨s,t,u,t0,t1,t2⟩:=q.want.2 i L7;have C:Below w0.heap.size w0 wr:=L5.trans (r.mD.mono m6);have c0:wr.cell? ⟨g,i*3,none⟩=some (.string s):=(r.row.cell (i:=i*3) (by dsimp only;omega)).trans (by rw[iw (by omega),iM t0]);have c1:wr.cell? ⟨g,i*3+1,none⟩=some (.string t):=(r.row.cell (i:=i*3+1) (by dsimp only;omega)).trans (by rw[iw (by omega),iM t1]);have H:wr.cell? ⟨g,i*3+2,none⟩=some (.int .i64 u):=(r.row.cell (i:=i*3+2) (by dsimp only;omega)).trans (by rw[iw (by omega),iM t2]);have d0:wr.cell? ⟨b,f+i*3,none⟩=some (.string s):=(C.cell (p:=⟨b,f+i*3,none⟩) hb).trans (hc _ _ t0);have d1:wr.cell? ⟨b,f+i*3+1,none⟩=some (.string t):=(C.cell (p:=⟨b,f+i*3+1,none⟩) hb).trans (hc _ _ t1);have d2:wr.cell? ⟨b,f+i*3+2,none⟩=some (.int .i64 u):=(C.cell (p:=⟨b,f+i*3+2,none⟩) hb).trans (hc _ _ t2);have M8:b<wr.heap.size:=by have:=C.size;omega
      clear hc t0 t1 t2;go_upto_region 36 with fail
      go_cut [3] (λs3 wx=>s3=.bool true/\Below wr.heap.size wr wx)
      case first=>
       go_region;all_goals(go_wp2_with fail;go_meet)
       all_goals exact⟨rfl,by first|exact refl _ _|exact(refl _ _).drew⟩
      case rest=>
       obtain⟨rfl,l9⟩:=hcut;have d:=r.more l9 (by omega);clear c0 d0 c1 d1 H d2 z0 z1 G E c;generalize m2:wc=wy at*;clear m2;have c:=(d.nZ xb m3 m1).trans x;have z0:wy.cell? ⟨xb,0,none⟩=some (.slice (some ⟨g,0,none⟩) (n+3) (n+3)):=(ag c).trans rfl;have G:=aB c;have E:g<wy.heap.size:=d.row.lt;have c0:=d.row.cell (i:=i*3) (by dsimp only;omega);have c1:=d.row.cell (i:=i*3+1) (by dsimp only;omega);have H:=d.row.cell (i:=i*3+2) (by dsimp only;omega);have f0:=d.row.frozen (i*3);have f1:=d.row.frozen (i*3+1);have f2:=d.row.frozen (i*3+2);dsimp only at c0 f0 c1 f1 H f2;clear c
       go_wp2_with fail
       go_roundg (n+3- (i+1))
       all_goals first
        |omega
        |exact⟨i+1,rfl,by omega,rfl,by go_num,d.FX n0 rfl rfl rfl⟩
     ·have M9:decide ((i:Int)<(n:Int))=false:=by simp;omega
      have N0:n<=i:=by omega
      have N1:decide (n<=i)=true:=by simp;omega
      have c0:wr.cell? ⟨g,i*3,none⟩=some (.string ⟨#[98,101,121,111,110,100]⟩):=(r.row.cell (i:=i*3) (by dsimp only;omega)).trans (by rw[iw (by omega),gW (by have:=q.len;dsimp only at this;dsimp only;omega),show(i*3) % 3=0 by omega];rfl);have c1:wr.cell? ⟨g,i*3+1,none⟩=some (.string ⟨#[]⟩):=(r.row.cell (i:=i*3+1) (by dsimp only;omega)).trans (by rw[iw (by omega),gW (by have:=q.len;dsimp only at this;dsimp only;omega),show(i*3+1) % 3=1 by omega];rfl);have H:wr.cell? ⟨g,i*3+2,none⟩=some (.int .i64 0):=(r.row.cell (i:=i*3+2) (by dsimp only;omega)).trans (by rw[iw (by omega),gW (by have:=q.len;dsimp only at this;dsimp only;omega),show(i*3+2) % 3=2 by omega];rfl);go_upto_region 36 with fail
      go_cut [3] (λs3 wx=>s3=.bool true/\Below wr.heap.size wr wx)
      case first=>
       go_region;all_goals(go_wp2_with fail;go_meet)
       all_goals exact⟨rfl,by first|exact refl _ _|exact(refl _ _).drew⟩
      case rest=>
       obtain⟨rfl,l9⟩:=hcut;have d:=r.more l9 (by omega);clear c0 c1 H z0 z1 G E c;generalize m2:wc=wy at*;clear m2;have c:=(d.nZ xb m3 m1).trans x;have z0:wy.cell? ⟨xb,0,none⟩=some (.slice (some ⟨g,0,none⟩) (n+3) (n+3)):=(ag c).trans rfl;have G:=aB c;have E:g<wy.heap.size:=d.row.lt;have c0:=d.row.cell (i:=i*3) (by dsimp only;omega);have c1:=d.row.cell (i:=i*3+1) (by dsimp only;omega);have H:=d.row.cell (i:=i*3+2) (by dsimp only;omega);have f0:=d.row.frozen (i*3);have f1:=d.row.frozen (i*3+1);have f2:=d.row.frozen (i*3+2);dsimp only at c0 f0 c1 f1 H f2;clear c
       go_wp2_with fail
       go_roundg (n+3- (i+1))
       all_goals first
        |omega
        |exact⟨i+1,rfl,by omega,rfl,by go_num,d.FX n0 rfl rfl rfl⟩
    ·obtain rfl:i=n+3:=by omega
     have hN:=z.next hl r HF.out.apart;clear r z
     go_wp2_with fail
     go_roundg (K.length- (k+1))
     all_goals first
      |omega
      |exact⟨k+1,rfl,by omega,rfl,by go_num,hN⟩
  ·obtain rfl:k=K.length:=by omega
   clear D
   go_wp2_with fail
   exact L2.out _ _ _ _ _ _ _ _ _ _ _ _ _ _ _ _ _ _ _ _ _ _ _ _ _ _ _ _ _ _ _ _ _ _ _ _ _ _ _ _ _ _ _ _ _ _ _ _ _ _ _ _ _ _ _ _ _ _ _ _ _ _ _ _ _ _ _ _ _ hI
structure uX(w w':World)(mb:Nat)(C X K:List Ln):Prop where
 c:∀l∈C,rM w' 56 3 Rw l
 x:∀l∈X,rM w' 9 1 Qp l
 k:∀l∈K,rM w' 50 3 Qo l
 ah:bR w w' [56,9,50]
 mD:Below mb w w'
 nZ:∀(q:Nat) (cur:Array Value) (fz:Nat × Nat),w.heap[q]? =some (.cells cur 9 fz)->(∀l∈X,q≠l.g)->w'.heap[q]? =w.heap[q]?
theorem MJ(w0 w:World)(g:Nat)(v1 v5 v6:Value)(a1:Option Addr)(u k:Nat)(a2:Option Addr)(v m:Nat)(a3:Option Addr)(x n:Nat)(C X K:List Ln)(I:w.heap[g]? =some (.cells #[.slice a1 u k,v1,.slice a2 v m,.slice none 0 0,.slice a3 x n,v5,v6,.slice none 0 0,.slice none 0 0] 118 (0,0)))
  (G:bC (rO Hq w0 3) w 56 227 3 nV g (.slice a1 u k) C) (J:bC (rO KL w0 1) w 9 294 1 rQ g (.slice a2 v m) X) (H:bC (rO KJ w0 3) w 50 290 3 rP g (.slice a3 x n) K)
  (T:Below w0.heap.size w0 w) (d:w0.heap.size<=g) (M:C.length<=2199023255552) (O:X.length<=2199023255552) (N:K.length<=2199023255552):
  Calls prog 82 #[.pointer (some ⟨g,0,none⟩)] w λe w'=>e=.returned (.bool true)/\uX w w' g C X K:=by
 have m9:=aB I;obtain⟨rfl,_⟩:=gZ G;obtain⟨rfl,_⟩:=gZ J;obtain⟨rfl,_⟩:=gZ H;have r:Hid _:=J;have p:Hid _:=H;have o:Hid _:=G;have B:Hid _:=I;clear J H I G;go_enter Tryz.func82,Tryz.ntmps82;go_upto_block 0 with fail
 refine GG w0 w g _ a1 k C B.out rfl o.out T d M _ _ _ _ _ _ _ _ _ _ _ _ _ _ _ _ _ _ _ _ _ _ _ _ _ _ _ _ _ _ _ _ _ _ _ _ _ _ _ _ _ _ _ _ _ _ _ _ _ _ _ _ _ _ _ _ _ _ _ _ _ _ _ _ _ _ _ _ _ _ _ _ _ _ _ _ _ _ _ _ _ _ _ _ _ _ _ _ _ _ _ _ _ _ _ _ _ _ _ _ _ _ _ _ _ _ _ _ _ _ _ _ _ _ _ _ _ _ _ _ _ _ _ _ _ _ _ _ _ _ _ _ _ _ _ _ _ _ _ _ _ _ _ _ _ _ _ _ _ _ _ _ _ _ _ _ _ _ _ _ _ _ _ _ _ _ _ _ _ _ _ _ _ _ _ _ _ _ _ _ _ _ _ _ _ _ _ _ _ _ _ _ _ _ _ _ _ _ _ _ _ _ _ _ _ _ _ _ _ _ _ _ _ _ _ _ _ _ _ _ _ _ _ _ _ _ _ _ _ _ _ _ _ _ _ _ _ _ _ _ _ _ _ _ _ _ _ _ _ _ _ _ _ _ _ _ _ _ _ _ _ _ _ _ _ _ _ _ _ _ _ _ ?_;intro v4 v5 v6 n3 n4 n5 n6 v20 v21 n7 n8 n9 o0 o1 o2 o3 o4 o5 o6 o7 o8 o9 p0 p1 v37 p2 p3 p4 p5 p6 p7 p8 p9 v46 q0 q1 q2 q3 v51 q4 v53 q5 q6 q7 q8 q9 r0 r1 r2 r3 r4 r5 r6 r7 r8 r9 s0 v70 s1 v72 s2 s3 v75 v76 s4 s5 s6 s7 w1 b;dsimp only;have t:Hid _:=r.out.eU b.ah (by decide) (by decide);have s:Hid _:=p.out.eU b.ah (by decide) (by decide);have i:Hid _:=(b.ah _ _ _ _ B.out (by decide)).trans B.out;have z:Below w0.heap.size w0 w1:=T.trans (b.mD.mono d);have h:Hid _:=b;clear r p B b o;go_upto_block 4 with fail
 refine GH w0 w1 g _ a2 m X i.out rfl t.out z d O _ _ _ _ _ _ _ _ _ _ _ _ _ _ _ _ _ _ _ _ _ _ _ _ _ _ _ _ _ _ _ _ _ _ _ _ _ _ _ _ _ _ _ _ _ _ _ _ _ _ _ _ _ _ _ _ _ _ _ _ _ _ _ _ _ _ _ _ _ _ _ _ _ _ _ _ _ _ _ _ _ _ _ _ _ _ _ _ _ _ _ _ _ _ _ _ _ _ _ _ _ _ _ _ _ _ _ _ _ _ _ _ _ _ _ _ _ _ _ _ _ _ _ _ _ _ _ _ _ _ _ _ _ _ _ _ _ _ _ _ _ _ _ _ _ _ _ _ _ _ _ _ _ _ _ _ _ _ _ _ _ _ _ _ _ _ _ _ _ _ _ _ _ _ _ _ _ _ _ _ _ _ _ _ _ _ _ _ _ _ _ _ _ _ _ _ _ _ _ _ _ _ _ _ _ _ _ _ _ _ _ _ _ _ _ _ _ _ _ _ _ _ _ _ _ _ _ _ _ _ _ _ _ _ _ _ _ _ _ _ _ _ _ _ _ _ _ _ _ _ _ _ _ _ _ _ _ _ _ _ _ _ _ _ _ _ _ _ _ _ _ _ ?_;intro v7 v8 v9 s8 s9 u0 u1 v85 u2 u3 u4 u5 u6 u7 u8 u9 v0 v2 v3 w4 w5 w6 U V W Y Z a0 a4 a5 a6 a7 a8 a9 b0 b1 b2 b3 b4 b5 b6 b7 b8 b9 c0 c1 c2 c3 c4 v127 c5 c6 c7 c8 c9 e0 e3 e4 e5 e6 e7 e8 e9 g0 g1 v143 w2 f;dsimp only;have D:Hid _:=s.out.eU f.ah (by decide) (by decide);have j:Hid _:=(f.ah _ _ _ _ i.out (by decide)).trans i.out;have F:Below w0.heap.size w0 w2:=z.trans (f.mD.mono d);have c:Hid _:=f;clear t s i f;have m8:=aB j.out;have y3:w2.cell? ⟨g,3,none⟩=some (.slice none 0 0):=(ag j.out).trans rfl
 go_wp2_with fail
 go_loopw [3,10] (λov iv wx=>ov=.bool true/\iv=.int .i64 0/\wx=w2) (λ_ _ _=>0)
 case atStart=>exact⟨rfl,rfl,rfl⟩
 case round=>
  obtain⟨rfl,rfl,Q⟩:=hrel
  cases Q;go_upto_block 12 with fail
  refine Jk w0 w2 g _ a3 n K j.out rfl D.out F d N _ _ _ _ _ _ _ _ _ _ _ _ _ _ _ _ _ _ _ _ _ _ _ _ _ _ _ _ _ _ _ _ _ _ _ _ _ _ _ _ _ _ _ _ _ _ _ _ _ _ _ _ _ _ _ _ _ _ _ _ _ _ _ _ _ _ _ _ _ _ _ _ _ _ _ _ _ _ _ _ _ _ _ _ _ _ _ _ _ _ _ _ _ _ _ _ _ _ _ _ _ _ _ _ _ _ _ _ _ _ _ _ _ _ _ _ _ _ _ _ _ _ _ _ _ _ _ _ _ _ _ _ _ _ _ _ _ _ _ _ _ _ _ _ _ _ _ _ _ _ _ _ _ _ _ _ _ _ _ _ _ _ _ _ _ _ _ _ _ _ _ _ _ _ _ _ _ _ _ _ _ _ _ _ _ _ _ _ _ _ _ _ _ _ _ _ _ _ _ _ _ _ _ _ _ _ _ _ _ _ _ _ _ _ _ _ _ _ _ _ _ _ _ _ _ _ _ _ _ _ _ _ _ _ _ _ _ _ _ _ _ _ _ _ _ _ _ _ _ _ _ _ _ _ _ _ _ _ _ _ _ _ _ _ _ _ _ _ _ _ _ _ ?_;intro n0 n1 n2 g2 g3 g4 v210 g5 v212 g6 g7 g8 g9 h1 h2 h3 h4 h5 h6 h7 h8 h9 i0 i1 i2 i3 i4 i5 v232 v233 i6 i7 i8 i9 j0 j1 j2 j3 j4 j5 j6 j7 j8 j9 k0 k1 k2 k3 k4 k5 k6 k7 k8 k9 l0 l4 l5 l7 l8 l9 m0 m1 m2 m3 m4 m5 m6 m7 w3 A;dsimp only;have a:Hid _:=A;clear A
  go_wp2_with fail
  go_ret;refine⟨rfl,λl L=> ?_,λl L=> ?_,a.out.all, ?_,(h.out.mD.trans c.out.mD).trans a.out.mD,λq y S P hn=> ?_⟩
  ·exact iP (iP (h.out.all l L) c.out.ah (by decide)) a.out.ah (by decide)
  ·exact iP (c.out.all l L) a.out.ah (by decide)
  ·exact((h.out.ah.mono (by decide)).trans (c.out.ah.mono (by decide))).trans (a.out.ah.mono (by decide))
  ·have E:=h.out.ah q y _ S P (by decide);have R:=c.out.nZ q (aB (E.trans P)) hn;exact(a.out.ah q y _ S ((R.trans E).trans P) (by decide)).trans (R.trans E)
abbrev KE:List TypeId:=[56,9,50,57,54,48]
theorem qM(w0 w:World)(a:Nat)(C R X K B F:List Ln)(V:bG w0 w a C R X K B F)(m:UD C R X K B F)(r:Below w0.heap.size w0 w)(b:w0.heap.size<=a):
  Calls prog 39 #[.pointer (some ⟨a,0,none⟩)] w λe w'=>e=.returned (.bool true)/\Below a w w'/\bR w w' KE/\∀(q:Nat) (f:Array Value) (i:Nat × Nat),w.heap[q]? =some (.cells f 9 i)->(∀l∈X,q≠l.g)->w'.heap[q]? =w.heap[q]? :=by
 obtain⟨vc,vr,vx,vk,vb,vf,⟨⟨a1,b1,O,rfl⟩,⟨a2,b2,P,rfl⟩,⟨a3,b3,Q,rfl⟩,⟨a4,b4,S,rfl⟩,⟨a5,b5,T,rfl⟩,⟨M,N,U,rfl⟩⟩,h,s,H,z,u,G,hF⟩:=V;obtain⟨l1,l2,l3,Y,Z,l6⟩:=m;have L:=MJ w0 w a _ _ _ a1 b1 O a3 b3 Q a4 b4 S C X K h s z u r b l1 l3 Y;have t:∀l∈C,l.n<=1048576:=λl j=>(s.each l j).small;have A:∀l∈X,l.n<=1048576:=λl j=>(z.each l j).small;have v:∀l∈K,l.n<=1048576:=λl j=>(u.each l j).small;have o:∀x:World,uX w x a C X K->Calls prog 83 #[.pointer (some ⟨a,0,none⟩)] x λe w'=>e=.returned (.bool true)/\bR x w' [57,54]/\Below a x w':=λx d=>
  LV w0 x a _ _ _ _ a2 b2 P a5 b5 T C R X K B ((d.ah _ _ _ _ h (by decide)).trans h) (H.eU d.ah (by decide) (by decide)) (G.eU d.ah (by decide) (by decide)) d.c t d.x A d.k v (r.trans (d.mD.mono b)) b l2 Z
 have J:∀x y:World,uX w x a C X K->bR x y [57,54]->Below a x y->Calls prog 84 #[.pointer (some ⟨a,0,none⟩)] y λe w'=>e=.returned (.bool true)/\Below a y w'/\bR y w' [48]:=λx y d I hb=>
  Mr w0 y a _ _ _ _ _ M N U F ((I _ _ _ _ ((d.ah _ _ _ _ h (by decide)).trans h) (by decide)).trans ((d.ah _ _ _ _ h (by decide)).trans h)) ((hF.eU d.ah (by decide) (by decide)).eU I (by decide) (by decide)) ((r.trans (d.mD.mono b)).trans (hb.mono b)) b l6
 clear h s H z u G hF;go_enter Tryz.func39,Tryz.ntmps39
 go_wp2_with(first
  |(go_at_call 82;refine L.mono ?_;rintro e w2 ⟨rfl,hs2⟩)
  |(go_at_call 83;refine(o _ hs2).mono ?_;rintro e w3 ⟨rfl,hk3,hb3⟩)
  |(go_at_call 84;refine(J _ _ hs2 hk3 hb3).mono ?_;rintro e w4 ⟨rfl,hb4,hk4⟩))
 go_ret;refine⟨rfl,(hs2.mD.trans hb3).trans hb4,((hs2.ah.mono (by decide)).trans (hk3.mono (by decide))).trans (hk4.mono (by decide)),λq f i D W=> ?_⟩;have p:=hs2.nZ q f i D W;have E:=hk3 q f _ i (p.trans D) (by decide);exact(hk4 q f _ i ((E.trans p).trans D) (by decide)).trans (E.trans p)
end Go.Proofs.YtdifpeaklamhnaaGreatDoor

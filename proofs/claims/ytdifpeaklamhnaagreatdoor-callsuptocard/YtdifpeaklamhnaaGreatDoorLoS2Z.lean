import Derived.Test.YtdifpeaklamhnaaGreatDoorLoMZ
import Derived.Deep.RegionHeld2
set_option linter.unusedVariables false
set_option linter.unusedSimpArgs false
set_option maxRecDepth 100000
set_option maxHeartbeats 0
namespace Go.Proofs.YtdifpeaklamhnaaGreatDoor
open Go.Proofs.Tryz
open Go.RowKit
open List (setIfInBounds_toArray set_cons_zero set_cons_succ)
open Below (refl)
open Nat (zero_le le_refl)
open World (cell?_of_block)
theorem Mr(w0 w:World)(A:Nat)(v0 v1 v2 v4 v5:Value)(a:Option Addr)(an ac:Nat)(F:List Ln)(hO:w.heap[A]? =some (.cells #[v0,v1,v2,.slice none 0 0,v4,v5,.slice a an ac,.slice none 0 0,.slice none 0 0] 118 (0,0)))
  (hF:bC (rO Sl w0 3) w 48 185 3 yM A (.slice a an ac) F) (h0:Below w0.heap.size w0 w) (X:w0.heap.size<=A) (b5:F.length<=2199023255552):
  Calls prog 84 #[.pointer (some ⟨A,0,none⟩)] w λe w'=>e=.returned (.bool true)/\Below A w w'/\bR w w' [48]:=by
 have c5:=aB hO;obtain⟨a8,a2⟩:=gZ hF;have I0:fB w w A 48 3 yM Rx F 0:=fB.start hF;have HF:Hid _:=hF;have a3:Hid _:=a2;subst a8;clear hF a2;go_enter Tryz.func84,Tryz.ntmps84
 go_wp2_with fail
 go_loopg [3,4] F.length (λgk U kv wr=>∃k:Nat,gk=F.length- k/\k<=F.length/\U=.bool true/\kv=.int .i64 (k:Int)/\fB w wr A 48 3 yM Rx F k)
 case atStart=>exact⟨0,rfl,zero_le _,rfl,rfl,I0⟩
 case round=>
  obtain⟨k,Q,hk,rfl,rfl,L⟩:=hrel;subst Q;clear I0;generalize b4:wr=wo at*;clear b4;have y:=(L.ah _ _ _ _ hO (by decide)).trans hO;have c6:=aB y;have y6:wo.cell? ⟨A,6,none⟩=some (.slice a F.length ac):=(ag y).trans rfl;by_cases b0:k<F.length
  ·obtain⟨C,rfl,c3,⟨W,B⟩,r⟩:∃C,a=some ⟨C,0,none⟩/\C<w.heap.size/\(∃W,w.heap[C]? =some (.cells W 185 (0,0)))/\∀(k:Nat) (l:Ln),F[k]? =some l->w.cell? ⟨C,k*2,none⟩=some (.slice (some ⟨l.g,0,none⟩) (l.n+3) (l.n+3))/\w.cell? ⟨C,k*2+1,none⟩=some (.slice l.wo l.n l.wc):=by
    rcases a3.out with h|h
    ·omega
    ·exact h
   obtain⟨⟨g,n,o,M,cs⟩,V⟩:∃l,F[k]? =some l:=⟨_,List.getElem?_eq_getElem b0⟩;have H:=L.ah _ _ _ _ B (by decide);have p0:=(cell?_of_block (w:=w) (a:=⟨C,k*2,none⟩) H).trans (r k _ V).1;have p1:=(cell?_of_block (w:=w) (a:=⟨C,k*2+1,none⟩) H).trans (r k _ V).2;have a0:C<wo.heap.size:=aB (H.trans B);have x:=HF.out.each _ (List.mem_of_getElem? V);have a1:A<=g:=by have:=x.lo;dsimp only at this;omega
   have J0:jK (wo.alloc (.cells #[.slice (some ⟨g,0,none⟩) (n+3) (n+3),.slice o n M] 185)) (wo.alloc (.cells #[.slice (some ⟨g,0,none⟩) (n+3) (n+3),.slice o n M] 185)) A 48 3 yM Rx ⟨g,n,o,M,cs⟩ 0:=jK.start (L.more ((refl _ wo).alloc (le_refl _) _) (by omega)) V;have E:=L.more ((refl _ wo).alloc (le_refl _) (.cells #[.slice (some ⟨g,0,none⟩) (n+3) (n+3),.slice o n M] 185)) (by omega);have z:=heap_alloc_new wo (.cells #[.slice (some ⟨g,0,none⟩) (n+3) (n+3),.slice o n M] 185);clear r B H L
   go_wp2_with fail
   generalize a7:wo.alloc (.cells #[.slice (some ⟨g,0,none⟩) (n+3) (n+3),.slice o n M] 185)=W1 at*;generalize c7:wo.heap.size=xb at*;have a6:Below w0.heap.size w0 W1:=h0.trans (E.mD.mono X);have T:=aB z;clear p0 p1 a0 y6 y a7;go_loopg [3,6] (n+3) (λgk U iv J=>∃i:Nat,gk=(n+3)- i/\i<=n+3/\U=.bool true/\iv=.int .i64 (i:Int)/\jK W1 J A 48 3 yM Rx ⟨g,n,o,M,cs⟩ i)
   case atStart=>exact⟨0,rfl,zero_le _,rfl,rfl,J0⟩
   case round=>
    obtain⟨i,Q,hi,rfl,rfl,q⟩:=hrel;subst Q;clear J0;have R:xb≠g:=λe=>by
     obtain⟨c,Y,_⟩:=q.row;have hx:=(E.todo k _ (le_refl _) V);obtain⟨K,Z,_⟩:=hx;rw[e]at z;rw[z]at Z;cases Z
    have d:=(q.nZ xb T R).trans z;have b1:=x.small;dsimp only at b1;have z0:wr.cell? ⟨xb,0,none⟩=some (.slice (some ⟨g,0,none⟩) (n+3) (n+3)):=(ag d).trans rfl;have z1:wr.cell? ⟨xb,1,none⟩=some (.slice o n M):=(ag d).trans rfl;have I:=aB d;have G:=q.row.lt;by_cases c4:i<n+3
    ·by_cases a9:i<n
     ·obtain⟨b,m,rfl,hb,Y⟩:∃b m,o=some ⟨b,m,none⟩/\b<w0.heap.size/\∀j v,cs[j]? =some v->w0.cell? ⟨b,m+j,none⟩=some v:=by
       rcases x.want.1.2 with h|h
       ·dsimp only at h;omega
       ·exact h
      obtain⟨s,t,u,t0,t1,t2⟩:=x.want.2 i a9;have D:Below w0.heap.size w0 wr:=a6.trans (q.mD.mono X);have N:wr.cell? ⟨g,i*3,none⟩=some (.string s):=(q.row.cell (i:=i*3) (by dsimp only;omega)).trans (by rw[iw (le_refl _),iM t0]);have O:wr.cell? ⟨g,i*3+1,none⟩=some (.string t):=(q.row.cell (i:=i*3+1) (by dsimp only;omega)).trans (by rw[iw (by omega),iM t1]);have K:wr.cell? ⟨g,i*3+2,none⟩=some (.string u):=(q.row.cell (i:=i*3+2) (by dsimp only;omega)).trans (by rw[iw (by omega),iM t2]);have d0:wr.cell? ⟨b,m+i*3,none⟩=some (.string s):=(D.cell (p:=⟨b,m+i*3,none⟩) hb).trans (Y _ _ t0);have d1:wr.cell? ⟨b,m+i*3+1,none⟩=some (.string t):=(D.cell (p:=⟨b,m+i*3+1,none⟩) hb).trans (Y _ _ t1);have d2:wr.cell? ⟨b,m+i*3+2,none⟩=some (.string u):=(D.cell (p:=⟨b,m+i*3+2,none⟩) hb).trans (Y _ _ t2);have b6:b<wr.heap.size:=by have:=D.size;omega
      clear Y t0 t1 t2;go_upto_region 9 with fail
      go_cut [3] (λs3 J=>s3=.bool true/\Below wr.heap.size wr J)
      case first=>
       go_region;all_goals(go_wp2_with fail;go_meet)
       all_goals exact⟨rfl,by first|exact refl _ _|exact(refl _ _).drew⟩
      case rest=>
       obtain⟨rfl,P⟩:=hcut;have f:=q.more P (by omega);clear N O K d0 d1 d2 z0 z1 I G q d;generalize S:wc=wy at*;clear S;have d:=(f.nZ xb T R).trans z;have z0:wy.cell? ⟨xb,0,none⟩=some (.slice (some ⟨g,0,none⟩) (n+3) (n+3)):=(ag d).trans rfl;have I:=aB d;have G:g<wy.heap.size:=f.row.lt;have N:=f.row.cell (i:=i*3) (by dsimp only;omega);have O:=f.row.cell (i:=i*3+1) (by dsimp only;omega);have K:=f.row.cell (i:=i*3+2) (by dsimp only;omega);have f0:=f.row.frozen (i*3);have f1:=f.row.frozen (i*3+1);have f2:=f.row.frozen (i*3+2);dsimp only at N O K f0 f1 f2;clear d
       go_wp2_with fail
       go_roundg (n+3- (i+1))
       all_goals first
        |omega
        |exact⟨i+1,rfl,by omega,rfl,by go_num,f.FX a1 rfl rfl rfl⟩
     ·have b7:decide ((i:Int)<(n:Int))=false:=by simp;omega
      have b8:n<=i:=by omega
      have b9:decide (n<=i)=true:=by simp;omega
      have N:wr.cell? ⟨g,i*3,none⟩=some (.string ⟨#[98,101,121,111,110,100]⟩):=(q.row.cell (i:=i*3) (by dsimp only;omega)).trans (by rw[iw (le_refl _),gW (by have:=x.len;dsimp only at this;dsimp only;omega),show i*3 % 3=0 by omega];rfl);have O:wr.cell? ⟨g,i*3+1,none⟩=some (.string ⟨#[]⟩):=(q.row.cell (i:=i*3+1) (by dsimp only;omega)).trans (by rw[iw (by omega),gW (by have:=x.len;dsimp only at this;dsimp only;omega),show(i*3+1) % 3=1 by omega];rfl);have K:wr.cell? ⟨g,i*3+2,none⟩=some (.string ⟨#[]⟩):=(q.row.cell (i:=i*3+2) (by dsimp only;omega)).trans (by rw[iw (by omega),gW (by have:=x.len;dsimp only at this;dsimp only;omega),show(i*3+2) % 3=2 by omega];rfl);go_upto_region 9 with fail
      go_cut [3] (λs3 J=>s3=.bool true/\Below wr.heap.size wr J)
      case first=>
       go_region;all_goals(go_wp2_with fail;go_meet)
       all_goals exact⟨rfl,by first|exact refl _ _|exact(refl _ _).drew⟩
      case rest=>
       obtain⟨rfl,P⟩:=hcut;have f:=q.more P (by omega);clear N O K z0 z1 I G q d;generalize S:wc=wy at*;clear S;have d:=(f.nZ xb T R).trans z;have z0:wy.cell? ⟨xb,0,none⟩=some (.slice (some ⟨g,0,none⟩) (n+3) (n+3)):=(ag d).trans rfl;have I:=aB d;have G:g<wy.heap.size:=f.row.lt;have N:=f.row.cell (i:=i*3) (by dsimp only;omega);have O:=f.row.cell (i:=i*3+1) (by dsimp only;omega);have K:=f.row.cell (i:=i*3+2) (by dsimp only;omega);have f0:=f.row.frozen (i*3);have f1:=f.row.frozen (i*3+1);have f2:=f.row.frozen (i*3+2);dsimp only at N O K f0 f1 f2;clear d
       go_wp2_with fail
       go_roundg (n+3- (i+1))
       all_goals first
        |omega
        |exact⟨i+1,rfl,by omega,rfl,by go_num,f.FX a1 rfl rfl rfl⟩
    ·obtain rfl:i=n+3:=by omega
     have hN:=E.next V q HF.out.apart;clear q E
     go_wp2_with fail
     go_roundg (F.length- (k+1))
     all_goals first
      |omega
      |exact⟨k+1,rfl,by omega,rfl,by go_num,hN⟩
  ·obtain rfl:k=F.length:=by omega
   have y7:wo.cell? ⟨A,7,none⟩=some (.slice none 0 0):=(ag y).trans rfl;have y8:wo.cell? ⟨A,8,none⟩=some (.slice none 0 0):=(ag y).trans rfl;have a4:=L.mD;have a5:Hid _:=L.ah;clear L y
   go_wp2_with fail
   go_loopw [3,7] (λov iv J=>ov=.bool true/\iv=.int .i64 0/\J=wo) (λ_ _ _=>0)
   case atStart=>exact⟨rfl,rfl,rfl⟩
   case round=>
    obtain⟨rfl,rfl,b2⟩:=hrel
    cases b2
    go_wp2_with fail
    go_loopw [3,10] (λov iv J=>ov=.bool true/\iv=.int .i64 0/\J=wo) (λ_ _ _=>0)
    case atStart=>exact⟨rfl,rfl,rfl⟩
    case round=>
     obtain⟨rfl,rfl,b3⟩:=hrel
     cases b3
     go_wp2_with fail
     go_ret;exact⟨rfl,a4,a5.out⟩
def Ul(f:Func):Code:=((f.body.bind (jP 0)).getD .skip)
theorem GG(w0 w:World)(N:Nat)(lv:Array Value)(a:Option Addr)(ac:Nat)(C:List Ln)(hO:w.heap[N]? =some (.cells lv 118 (0,0)))(B7:lv[0]? =some (.slice a C.length ac))(hL:bC (rO Hq w0 3) w 56 227 3 nV N (.slice a C.length ac) C)
  (B1:Below w0.heap.size w0 w) (x8:w0.heap.size<=N) (O4:C.length<=2199023255552) (u1 u2 u5 u6 u7 u8 u9 y1 y2 y3 y4 y5 y7 C1 C2 C3 C4 C5 C6 C7 C8 C9 D0 D1 D2 D3 D4 D5 D6 D7 D8 D9 E0 E1 E2 E3 E4 E5 E6 E7 E8 E9 F0 F1 F2 F3 F4 F5 F6 F7 F8 F9 G0 G1 G2 G3 G4 G5 G6 G7 G8 G9 H0 H1 H2 H3 H4 H5 H6 H7 H8 H9 I1 I2 I3 I4 I5 I6 y8 y9 z2 z3 z4 z5 z6 z7 z8 z9 A0 A1 A2 A3 A4 A5 A6 A7 A8 a0 a1 a2 a3 a4 a5 a6 a7 a8 a9 b0 b1 b2 b3 b4 b5 b6 b7 b8 b9 c3 c4 c5 c6 c7 c8 c9 e0 e1 e2 e3 e4 e5 e6 e7 e8 e9 g0 g1 g2 g3 g4 g5 g6 g7 g8 g9 h0 h1 h2 h3 h4 h5 h6 h7 h8 h9 i0 i1 i2 i3 i4 i5 i6 i7 i8 i9 j0 j1 j2 j3 j4 j5 j6 j7 j8 j9 k0 k1 k2 k3 k4 k5 k6 k7 k8 k9 l0 l4 l5 l7 l8 l9 m0 m1 m2 m3 m4 m5 m6 m7 m8 m9 n0 n1 n2 n3 n4 n5 n6 n7 n8 n9 o0 o1 o2 o3 o4 o5 o6 o7 o8 o9 p2 p3 p4 p5 p6 p7 p8 p9 q0 q1 q2 q3 q4 q5 q6 q7 q8 q9 r0 r1 r2 r3 r4 r5 r6 r7 r8 r9 s7 s8 s9 u0 u3 u4 v0 v1 v2 v3 v7 v8 v9 w1 w2 w3 w4 w5 w8 w9 x0 x1:Value) (K0:Act->World->Prop) (P:Ending->World->Prop)
  (Q:∀(v4 v5 v6 I7 I8 I9 J1 v20 v21 J2 J3 J4 J5 J6 J7 J8 J9 K1 K2 K3 K4 K5 K6 K7 v37 K8 K9 L0 L1 L2 L3 L4 L5 v46 L6 L7 L8 L9 v51 M0 v53 M1 M2 M3 M4 M5 M6 M7 M8 M9 N0 N1 N2 N3 N4 N5 N6 v70 N7 v72 N8 N9 v75 v76 O0 O1 O2 O3:Value) (wx:World),fB w wx N 56 3 nV Rw C C.length->K0 ⟨#[.pointer (some ⟨N,0,none⟩),u1,u2,.bool true,v4,v5,v6,u7,u8,u9,y1,y2,y3,y4,y5,y7,I7,I8,I9,J1,v20,v21,J2,J3,J4,J5,J6,J7,J8,J9,K1,K2,K3,K4,K5,K6,K7,v37,K8,K9,L0,L1,L2,L3,L4,L5,v46,L6,L7,L8,L9,v51,M0,v53,M1,M2,M3,M4,M5,M6,M7,M8,M9,N0,N1,N2,N3,N4,N5,N6,v70,N7,v72,N8,N9,v75,v76,O0,O1,O2,O3,y8,y9,z2,z3,z4,z5,z6,z7,z8,z9,A0,A1,A2,A3,A4,A5,A6,A7,A8,a0,a1,a2,a3,a4,a5,a6,a7,a8,a9,b0,b1,b2,b3,b4,b5,b6,b7,b8,b9,c3,c4,c5,c6,c7,c8,c9,e0,e1,e2,e3,e4,e5,e6,e7,e8,e9,g0,g1,g2,g3,g4,g5,g6,g7,g8,g9,h0,h1,h2,h3,h4,h5,h6,h7,h8,h9,i0,i1,i2,i3,i4,i5,i6,i7,i8,i9,j0,j1,j2,j3,j4,j5,j6,j7,j8,j9,k0,k1,k2,k3,k4,k5,k6,k7,k8,k9,l0,l4,l5,l7,l8,l9,m0,m1,m2,m3,m4,m5,m6,m7,m8,m9,n0,n1,n2,n3,n4,n5,n6,n7,n8,n9,o0,o1,o2,o3,o4,o5,o6,o7,o8,o9,p2,p3,p4,p5,p6,p7,p8,p9,q0,q1,q2,q3,q4,q5,q6,q7,q8,q9,r0,r1,r2,r3,r4,r5,r6,r7,r8,r9,s7,s8,s9,u0,u3,u4,v0,v1,v2,v3,v7,v8,v9,w1,w2,w3,w4,w5,w8,w9,x0,x1],[]⟩ wx):
  Code.wp prog (Ul Tryz.f82) (Exit.then K0 (bodyPost prog Tryz.f82 P)) ⟨#[.pointer (some ⟨N,0,none⟩),u1,u2,.bool true,.int .i64 0,u5,u6,u7,u8,u9,y1,y2,y3,y4,y5,y7,C1,C2,C3,C4,C5,C6,C7,C8,C9,D0,D1,D2,D3,D4,D5,D6,D7,D8,D9,E0,E1,E2,E3,E4,E5,E6,E7,E8,E9,F0,F1,F2,F3,F4,F5,F6,F7,F8,F9,G0,G1,G2,G3,G4,G5,G6,G7,G8,G9,H0,H1,H2,H3,H4,H5,H6,H7,H8,H9,I1,I2,I3,I4,I5,I6,y8,y9,z2,z3,z4,z5,z6,z7,z8,z9,A0,A1,A2,A3,A4,A5,A6,A7,A8,a0,a1,a2,a3,a4,a5,a6,a7,a8,a9,b0,b1,b2,b3,b4,b5,b6,b7,b8,b9,c3,c4,c5,c6,c7,c8,c9,e0,e1,e2,e3,e4,e5,e6,e7,e8,e9,g0,g1,g2,g3,g4,g5,g6,g7,g8,g9,h0,h1,h2,h3,h4,h5,h6,h7,h8,h9,i0,i1,i2,i3,i4,i5,i6,i7,i8,i9,j0,j1,j2,j3,j4,j5,j6,j7,j8,j9,k0,k1,k2,k3,k4,k5,k6,k7,k8,k9,l0,l4,l5,l7,l8,l9,m0,m1,m2,m3,m4,m5,m6,m7,m8,m9,n0,n1,n2,n3,n4,n5,n6,n7,n8,n9,o0,o1,o2,o3,o4,o5,o6,o7,o8,o9,p2,p3,p4,p5,p6,p7,p8,p9,q0,q1,q2,q3,q4,q5,q6,q7,q8,q9,r0,r1,r2,r3,r4,r5,r6,r7,r8,r9,s7,s8,s9,u0,u3,u4,v0,v1,v2,v3,v7,v8,v9,w1,w2,w3,w4,w5,w8,w9,x0,x1],[]⟩ w:=by
 conv=>arg 2;whnf
 have A9:Hid _:=Q;have I0:fB w w N 56 3 nV Rw C 0:=fB.start hL;have HF:Hid _:=hL;have B0:Hid _:=(gZ hL).2;have HO:Hid _:=hO;have P1:=aB hO;clear Q hL hO
 go_wp2_with fail
 go_loopg [3,4] C.length (λgk x5 kv wr=>∃k:Nat,gk=C.length- k/\k<=C.length/\x5=.bool true/\kv=.int .i64 (k:Int)/\fB w wr N 56 3 nV Rw C k)
 case atStart=>exact⟨0,rfl,zero_le _,rfl,rfl,I0⟩
 case round=>
  obtain⟨k,x3,hk,rfl,rfl,hI⟩:=hrel;subst x3;clear I0;generalize B9:wr=wo at*;clear B9;have X:=(hI.ah _ _ _ _ HO.out (by decide)).trans HO.out;have P2:=aB X;have y6:wo.cell? ⟨N,0,none⟩=some (.slice a C.length ac):=(ag X).trans B7;by_cases B6:k<C.length
  ·obtain⟨V,rfl,O9,⟨x7,R⟩,H⟩:∃V,a=some ⟨V,0,none⟩/\V<w.heap.size/\(∃x7,w.heap[V]? =some (.cells x7 227 (0,0)))/\∀(k:Nat) (l:Ln),C[k]? =some l->w.cell? ⟨V,k*2,none⟩=some (.slice (some ⟨l.g,0,none⟩) (l.n+3) (l.n+3))/\w.cell? ⟨V,k*2+1,none⟩=some (.slice l.wo l.n l.wc):=by
    rcases B0.out with h|h
    ·omega
    ·exact h
   obtain⟨⟨g,n,B,T,cs⟩,hl⟩:∃l,C[k]? =some l:=⟨_,List.getElem?_eq_getElem B6⟩;have Y:=hI.ah _ _ _ _ R (by decide);have p0:=(cell?_of_block (w:=w) (a:=⟨V,k*2,none⟩) Y).trans (H k _ hl).1;have p1:=(cell?_of_block (w:=w) (a:=⟨V,k*2+1,none⟩) Y).trans (H k _ hl).2;have y0:V<wo.heap.size:=aB (Y.trans R);have I:=HF.out.each _ (List.mem_of_getElem? hl);have Z:N<=g:=by have:=I.lo;dsimp only at this;omega
   have O:=hI.more ((refl _ wo).alloc (le_refl _) (.cells #[.slice (some ⟨g,0,none⟩) (n+3) (n+3),.slice B n T] 227)) (by omega);have J0:jK (wo.alloc (.cells #[.slice (some ⟨g,0,none⟩) (n+3) (n+3),.slice B n T] 227)) (wo.alloc (.cells #[.slice (some ⟨g,0,none⟩) (n+3) (n+3),.slice B n T] 227)) N 56 3 nV Rw ⟨g,n,B,T,cs⟩ 0:=jK.start O hl;have D:=heap_alloc_new wo (.cells #[.slice (some ⟨g,0,none⟩) (n+3) (n+3),.slice B n T] 227);clear H R Y hI
   go_wp2_with fail
   generalize B3:wo.alloc (.cells #[.slice (some ⟨g,0,none⟩) (n+3) (n+3),.slice B n T] 227)=W1 at*;generalize P3:wo.heap.size=xb at*;have B2:Below w0.heap.size w0 W1:=B1.trans (O.mD.mono x8);have K:=aB D;clear p0 p1 y0 y6 X B3;go_loopg [3,6] (n+3) (λgk x5 iv wx=>∃i:Nat,gk=(n+3)- i/\i<=n+3/\x5=.bool true/\iv=.int .i64 (i:Int)/\jK W1 wx N 56 3 nV Rw ⟨g,n,B,T,cs⟩ i)
   case atStart=>exact⟨0,rfl,zero_le _,rfl,rfl,J0⟩
   case round=>
    obtain⟨i,x3,hi,rfl,rfl,M⟩:=hrel;subst x3;clear J0;have J:xb≠g:=λe=>by
     obtain⟨U,x9,_⟩:=O.todo k _ (le_refl _) hl;rw[e]at D;rw[D]at x9;cases x9
    have m:=(M.nZ xb K J).trans D;have B8:=I.small;dsimp only at B8;have z0:wr.cell? ⟨xb,0,none⟩=some (.slice (some ⟨g,0,none⟩) (n+3) (n+3)):=(ag m).trans rfl;have z1:wr.cell? ⟨xb,1,none⟩=some (.slice B n T):=(ag m).trans rfl;have L:=aB m;have F:g<wr.heap.size:=M.row.lt;by_cases P0:i<n+3
    ·by_cases B5:i<n
     ·obtain⟨b,E,rfl,hb,hc⟩:∃b E,B=some ⟨b,E,none⟩/\b<w0.heap.size/\∀j v,cs[j]? =some v->w0.cell? ⟨b,E+j,none⟩=some v:=by
       rcases I.want.1.2 with h|h
       ·dsimp only at h;omega
       ·exact h
      obtain⟨s,t,u,t0,t1,t2⟩:=I.want.2 i B5;have W:Below w0.heap.size w0 wr:=B2.trans (M.mD.mono x8);have c0:wr.cell? ⟨g,i*3,none⟩=some (.int .i64 s):=(M.row.cell (i:=i*3) (by dsimp only;omega)).trans (by rw[iw (by omega),iM t0]);have c1:wr.cell? ⟨g,i*3+1,none⟩=some (.int .i64 t):=(M.row.cell (i:=i*3+1) (by dsimp only;omega)).trans (by rw[iw (by omega),iM t1]);have U:wr.cell? ⟨g,i*3+2,none⟩=some (.string u):=(M.row.cell (i:=i*3+2) (by dsimp only;omega)).trans (by rw[iw (by omega),iM t2]);have d0:wr.cell? ⟨b,E+i*3,none⟩=some (.int .i64 s):=(W.cell (p:=⟨b,E+i*3,none⟩) hb).trans (hc _ _ t0);have d1:wr.cell? ⟨b,E+i*3+1,none⟩=some (.int .i64 t):=(W.cell (p:=⟨b,E+i*3+1,none⟩) hb).trans (hc _ _ t1);have d2:wr.cell? ⟨b,E+i*3+2,none⟩=some (.string u):=(W.cell (p:=⟨b,E+i*3+2,none⟩) hb).trans (hc _ _ t2);have O5:b<wr.heap.size:=by have:=W.size;omega
      clear hc t0 t1 t2;go_upto_region 9 with fail
      go_cut [3] (λs3 wx=>s3=.bool true/\Below wr.heap.size wr wx)
      case first=>
       go_region;all_goals(go_wp2_with fail;go_meet)
       all_goals exact⟨rfl,by first|exact refl _ _|exact(refl _ _).drew⟩
      case rest=>
       obtain⟨rfl,x2⟩:=hcut;have G:=M.more x2 (by omega);clear c0 d0 c1 d1 U d2 z0 z1 L F m;generalize x4:wc=wy at*;clear x4;have m:=(G.nZ xb K J).trans D;have z0:wy.cell? ⟨xb,0,none⟩=some (.slice (some ⟨g,0,none⟩) (n+3) (n+3)):=(ag m).trans rfl;have L:=aB m;have F:g<wy.heap.size:=G.row.lt;clear m;go_upto_region 10 with fail
       go_region_with(go_at_call 139;refine(pY _).mono ?_;rintro e w7 ⟨rfl,hb7⟩;have f:=G.more (x:=w7) (by first|exact hb7|exact((refl _ _).drew).trans (hb7.mono (le_refl _))) (by omega);have x6:=(ag (j:=0) ((f.nZ xb K J).trans D)).trans rfl;have C0:=aB ((f.nZ xb K J).trans D);have B4:g<w7.heap.size:=f.row.lt;have c0:=f.row.cell (i:=i*3) (by dsimp only;omega);have c1:=f.row.cell (i:=i*3+1) (by dsimp only;omega);have U:=f.row.cell (i:=i*3+2) (by dsimp only;omega);have f0:=f.row.frozen (i*3);have f1:=f.row.frozen (i*3+1);have f2:=f.row.frozen (i*3+2);dsimp only at c0 c1 U f0 f1 f2 x6);all_goals go_wp2_with fail
       all_goals go_roundg (n+3- (i+1))
       all_goals first
        |omega
        |exact⟨i+1,rfl,by omega,rfl,by go_num,f.FX Z rfl rfl rfl⟩
        |exact⟨i+1,rfl,by omega,rfl,by go_num,(f.more (refl _ _).drew (by omega)).FX Z rfl rfl rfl⟩
     ·have O6:decide ((i:Int)<(n:Int))=false:=by simp;omega
      have O7:n<=i:=by omega
      have O8:decide (n<=i)=true:=by simp;omega
      have c0:wr.cell? ⟨g,i*3,none⟩=some (.int .i64 9):=(M.row.cell (i:=i*3) (by dsimp only;omega)).trans (by rw[iw (by omega),gW (by have:=I.len;dsimp only at this;dsimp only;omega),show(i*3) % 3=0 by omega];rfl);have c1:wr.cell? ⟨g,i*3+1,none⟩=some (.int .i64 77):=(M.row.cell (i:=i*3+1) (by dsimp only;omega)).trans (by rw[iw (by omega),gW (by have:=I.len;dsimp only at this;dsimp only;omega),show(i*3+1) % 3=1 by omega];rfl);have U:wr.cell? ⟨g,i*3+2,none⟩=some (.string ⟨#[]⟩):=(M.row.cell (i:=i*3+2) (by dsimp only;omega)).trans (by rw[iw (by omega),gW (by have:=I.len;dsimp only at this;dsimp only;omega),show(i*3+2) % 3=2 by omega];rfl);go_upto_region 9 with fail
      go_cut [3] (λs3 wx=>s3=.bool true/\Below wr.heap.size wr wx)
      case first=>
       refine wp_region_held_drew (S:=λx=>Below wr.heap.size wr x) (by kernel_rfl) (refl _ _).drew (λd=> ?_);have q:∀x:World,Below wr.heap.size wr x->(x.cell? ⟨xb,0,none⟩=some (.slice (some ⟨g,0,none⟩) (n+3) (n+3))/\x.cell? ⟨xb,1,none⟩=some (.slice B n T))/\(x.cell? ⟨g,i*3,none⟩=some (.int .i64 9)/\x.cell? ⟨g,i*3+1,none⟩=some (.int .i64 77)/\x.cell? ⟨g,i*3+2,none⟩=some (.string ⟨#[]⟩))/\xb<x.heap.size/\g<x.heap.size:=λx hx=>⟨⟨(hx.cell (p:=⟨xb,0,none⟩) L).trans z0,(hx.cell (p:=⟨xb,1,none⟩) L).trans z1⟩,⟨(hx.cell (p:=⟨g,i*3,none⟩) F).trans c0,(hx.cell (p:=⟨g,i*3+1,none⟩) F).trans c1,(hx.cell (p:=⟨g,i*3+2,none⟩) F).trans U⟩,Nat.lt_of_lt_of_le L hx.size,Nat.lt_of_lt_of_le F hx.size⟩;refine gK 0 39 (.bool true) rfl rfl (by kernel_rfl) (by kernel_rfl) (by kernel_rfl) (λ_ _ _ h=>h) (by rfl) (λx c=>by obtain⟨⟨r,s1⟩,⟨s2,s3,y⟩,z,A⟩:=q x c;clear c;go_simp) d ?_;simp only[Act.put,setIfInBounds_toArray,set_cons_zero,set_cons_succ];refine gK 1 40 (.bool true) rfl rfl (by kernel_rfl) (by kernel_rfl) (by kernel_rfl) (λ_ _ _ h=>h) (by rfl) (λx c=>by obtain⟨⟨r,s1⟩,⟨s2,s3,y⟩,z,A⟩:=q x c;clear c;go_simp) d ?_;simp only[Act.put,setIfInBounds_toArray,set_cons_zero,set_cons_succ];refine gK 2 41 (.int .i64 (i:Int)) rfl rfl (by kernel_rfl) (by kernel_rfl) (by kernel_rfl) (λ_ _ _ h=>h) (by rfl) (λx c=>by obtain⟨⟨r,s1⟩,⟨s2,s3,y⟩,z,A⟩:=q x c;clear c;go_simp) d ?_;simp only[Act.put,setIfInBounds_toArray,set_cons_zero,set_cons_succ];refine gK 3 42 (.pointer (some ⟨xb,1,none⟩)) rfl rfl (by kernel_rfl) (by kernel_rfl) (by kernel_rfl) (λ_ _ _ h=>h) (by rfl) (λx c=>by obtain⟨⟨r,s1⟩,⟨s2,s3,y⟩,z,A⟩:=q x c;clear c;go_simp) d ?_;simp only[Act.put,setIfInBounds_toArray,set_cons_zero,set_cons_succ];refine gK 4 43 (.slice B n T) rfl rfl (by kernel_rfl) (by kernel_rfl) (by kernel_rfl) (λ_ _ _ h=>h) (by rfl) (λx c=>by obtain⟨⟨r,s1⟩,⟨s2,s3,y⟩,z,A⟩:=q x c;clear c;go_simp) d ?_;simp only[Act.put,setIfInBounds_toArray,set_cons_zero,set_cons_succ];refine gK 5 44 (.int .i64 (n:Int)) rfl rfl (by kernel_rfl) (by kernel_rfl) (by kernel_rfl) (λ_ _ _ h=>h) (by rfl) (λx c=>by obtain⟨⟨r,s1⟩,⟨s2,s3,y⟩,z,A⟩:=q x c;clear c;go_simp) d ?_;simp only[Act.put,setIfInBounds_toArray,set_cons_zero,set_cons_succ];refine gK 6 45 (.bool false) rfl rfl (by kernel_rfl) (by kernel_rfl) (by kernel_rfl) (λ_ _ _ h=>h) (by rfl) (λx c=>by obtain⟨⟨r,s1⟩,⟨s2,s3,y⟩,z,A⟩:=q x c;clear c;go_simp) d ?_;simp only[Act.put,setIfInBounds_toArray,set_cons_zero,set_cons_succ];refine gK 7 46 (.bool false) rfl rfl (by kernel_rfl) (by kernel_rfl) (by kernel_rfl) (λ_ _ _ h=>h) (by rfl) (λx c=>by obtain⟨⟨r,s1⟩,⟨s2,s3,y⟩,z,A⟩:=q x c;clear c;go_simp) d ?_;simp only[Act.put,setIfInBounds_toArray,set_cons_zero,set_cons_succ];refine qV 8 47 rfl rfl (by kernel_rfl) (by kernel_rfl) (by kernel_rfl) (λ_ _ _ h=>h) (by rfl) d ?_;simp only[Act.put,setIfInBounds_toArray,set_cons_zero,set_cons_succ];refine qV 9 48 rfl rfl (by kernel_rfl) (by kernel_rfl) (by kernel_rfl) (λ_ _ _ h=>h) (by rfl) d ?_;simp only[Act.put,setIfInBounds_toArray,set_cons_zero,set_cons_succ];refine qV 10 49 rfl rfl (by kernel_rfl) (by kernel_rfl) (by kernel_rfl) (λ_ _ _ h=>h) (by rfl) d ?_;simp only[Act.put,setIfInBounds_toArray,set_cons_zero,set_cons_succ];refine qV 11 50 rfl rfl (by kernel_rfl) (by kernel_rfl) (by kernel_rfl) (λ_ _ _ h=>h) (by rfl) d ?_;simp only[Act.put,setIfInBounds_toArray,set_cons_zero,set_cons_succ];refine qV 12 51 rfl rfl (by kernel_rfl) (by kernel_rfl) (by kernel_rfl) (λ_ _ _ h=>h) (by rfl) d ?_;simp only[Act.put,setIfInBounds_toArray,set_cons_zero,set_cons_succ];refine qV 13 52 rfl rfl (by kernel_rfl) (by kernel_rfl) (by kernel_rfl) (λ_ _ _ h=>h) (by rfl) d ?_;simp only[Act.put,setIfInBounds_toArray,set_cons_zero,set_cons_succ];refine qV 14 53 rfl rfl (by kernel_rfl) (by kernel_rfl) (by kernel_rfl) (λ_ _ _ h=>h) (by rfl) d ?_;simp only[Act.put,setIfInBounds_toArray,set_cons_zero,set_cons_succ];refine qV 15 54 rfl rfl (by kernel_rfl) (by kernel_rfl) (by kernel_rfl) (λ_ _ _ h=>h) (by rfl) d ?_;simp only[Act.put,setIfInBounds_toArray,set_cons_zero,set_cons_succ];refine qV 16 55 rfl rfl (by kernel_rfl) (by kernel_rfl) (by kernel_rfl) (λ_ _ _ h=>h) (by rfl) d ?_;simp only[Act.put,setIfInBounds_toArray,set_cons_zero,set_cons_succ];refine qV 17 56 rfl rfl (by kernel_rfl) (by kernel_rfl) (by kernel_rfl) (λ_ _ _ h=>h) (by rfl) d ?_;simp only[Act.put,setIfInBounds_toArray,set_cons_zero,set_cons_succ];refine qV 18 57 rfl rfl (by kernel_rfl) (by kernel_rfl) (by kernel_rfl) (λ_ _ _ h=>h) (by rfl) d ?_;simp only[Act.put,setIfInBounds_toArray,set_cons_zero,set_cons_succ];refine gK 19 58 (.bool false) rfl rfl (by kernel_rfl) (by kernel_rfl) (by kernel_rfl) (λ_ _ _ h=>h) (by rfl) (λx c=>by obtain⟨⟨r,s1⟩,⟨s2,s3,y⟩,z,A⟩:=q x c;clear c;go_simp) d ?_;simp only[Act.put,setIfInBounds_toArray,set_cons_zero,set_cons_succ];refine gK 20 59 (.bool false) rfl rfl (by kernel_rfl) (by kernel_rfl) (by kernel_rfl) (λ_ _ _ h=>h) (by rfl) (λx c=>by obtain⟨⟨r,s1⟩,⟨s2,s3,y⟩,z,A⟩:=q x c;clear c;go_simp) d ?_;simp only[Act.put,setIfInBounds_toArray,set_cons_zero,set_cons_succ];refine gK 21 60 (.int .i64 (i:Int)) rfl rfl (by kernel_rfl) (by kernel_rfl) (by kernel_rfl) (λ_ _ _ h=>h) (by rfl) (λx c=>by obtain⟨⟨r,s1⟩,⟨s2,s3,y⟩,z,A⟩:=q x c;clear c;go_simp) d ?_;simp only[Act.put,setIfInBounds_toArray,set_cons_zero,set_cons_succ];refine gK 22 61 (.pointer (some ⟨xb,1,none⟩)) rfl rfl (by kernel_rfl) (by kernel_rfl) (by kernel_rfl) (λ_ _ _ h=>h) (by rfl) (λx c=>by obtain⟨⟨r,s1⟩,⟨s2,s3,y⟩,z,A⟩:=q x c;clear c;go_simp) d ?_;simp only[Act.put,setIfInBounds_toArray,set_cons_zero,set_cons_succ];refine gK 23 62 (.slice B n T) rfl rfl (by kernel_rfl) (by kernel_rfl) (by kernel_rfl) (λ_ _ _ h=>h) (by rfl) (λx c=>by obtain⟨⟨r,s1⟩,⟨s2,s3,y⟩,z,A⟩:=q x c;clear c;go_simp) d ?_;simp only[Act.put,setIfInBounds_toArray,set_cons_zero,set_cons_succ];refine gK 24 63 (.int .i64 (n:Int)) rfl rfl (by kernel_rfl) (by kernel_rfl) (by kernel_rfl) (λ_ _ _ h=>h) (by rfl) (λx c=>by obtain⟨⟨r,s1⟩,⟨s2,s3,y⟩,z,A⟩:=q x c;clear c;go_simp) d ?_;simp only[Act.put,setIfInBounds_toArray,set_cons_zero,set_cons_succ];refine gK 25 64 (.bool true) rfl rfl (by kernel_rfl) (by kernel_rfl) (by kernel_rfl) (λ_ _ _ h=>h) (by rfl) (λx c=>by obtain⟨⟨r,s1⟩,⟨s2,s3,y⟩,z,A⟩:=q x c;clear c;go_simp) d ?_;simp only[Act.put,setIfInBounds_toArray,set_cons_zero,set_cons_succ];refine gK 26 65 (.bool true) rfl rfl (by kernel_rfl) (by kernel_rfl) (by kernel_rfl) (λ_ _ _ h=>h) (by rfl) (λx c=>by obtain⟨⟨r,s1⟩,⟨s2,s3,y⟩,z,A⟩:=q x c;clear c;go_simp) d ?_;simp only[Act.put,setIfInBounds_toArray,set_cons_zero,set_cons_succ];refine gK 27 66 (.pointer (some ⟨xb,0,none⟩)) rfl rfl (by kernel_rfl) (by kernel_rfl) (by kernel_rfl) (λ_ _ _ h=>h) (by rfl) (λx c=>by obtain⟨⟨r,s1⟩,⟨s2,s3,y⟩,z,A⟩:=q x c;clear c;go_simp) d ?_;simp only[Act.put,setIfInBounds_toArray,set_cons_zero,set_cons_succ];refine gK 28 67 (.slice (some ⟨g,0,none⟩) (n+3) (n+3)) rfl rfl (by kernel_rfl) (by kernel_rfl) (by kernel_rfl) (λ_ _ _ h=>h) (by rfl) (λx c=>by obtain⟨⟨r,s1⟩,⟨s2,s3,y⟩,z,A⟩:=q x c;clear c;go_simp) d ?_;simp only[Act.put,setIfInBounds_toArray,set_cons_zero,set_cons_succ];refine gK 29 68 (.int .i64 (i:Int)) rfl rfl (by kernel_rfl) (by kernel_rfl) (by kernel_rfl) (λ_ _ _ h=>h) (by rfl) (λx c=>by obtain⟨⟨r,s1⟩,⟨s2,s3,y⟩,z,A⟩:=q x c;clear c;go_simp) d ?_;simp only[Act.put,setIfInBounds_toArray,set_cons_zero,set_cons_succ];refine gK 30 69 (.pointer (some ⟨g,i*3,none⟩)) rfl rfl (by kernel_rfl) (by kernel_rfl) (by kernel_rfl) (λ_ _ _ h=>h) (by rfl) (λx c=>by obtain⟨⟨r,s1⟩,⟨s2,s3,y⟩,z,A⟩:=q x c;clear c;go_simp) d ?_;simp only[Act.put,setIfInBounds_toArray,set_cons_zero,set_cons_succ];refine gK 31 70 (.agg #[.int .i64 9,.int .i64 77,.string ⟨#[]⟩]) rfl rfl (by kernel_rfl) (by kernel_rfl) (by kernel_rfl) (λ_ _ _ h=>h) (by rfl) (λx c=>by obtain⟨⟨r,s1⟩,⟨s2,s3,y⟩,z,A⟩:=q x c;clear c;go_simp) d ?_;simp only[Act.put,setIfInBounds_toArray,set_cons_zero,set_cons_succ];refine wpAnyH_ready (rs:=[32]) (by kernel_rfl) (by simp) ?_;refine AllReadyH.cons rfl (λK0 Q=> ?_) AllReadyH.nil
       go_simp
       go_wp2_with(go_at_call 72;refine(wM _).mono ?_;rintro e w6 ⟨rfl,hb6⟩)
       refine Q.out _ _ (d.trans (hb6.mono d.size)) (λo=> ?_);clear Q K0;refine gK 33 72 (.bool true) rfl rfl (by kernel_rfl) (by kernel_rfl) (by kernel_rfl) (λ_ _ _ h=>h) (by rfl) (λx c=>by obtain⟨⟨r,s1⟩,⟨s2,s3,y⟩,z,A⟩:=q x c;clear c;go_simp) o ?_;simp only[Act.put,setIfInBounds_toArray,set_cons_zero,set_cons_succ];refine gK 34 73 (.bool true) rfl rfl (by kernel_rfl) (by kernel_rfl) (by kernel_rfl) (λ_ _ _ h=>h) (by rfl) (λx c=>by obtain⟨⟨r,s1⟩,⟨s2,s3,y⟩,z,A⟩:=q x c;clear c;go_simp) o ?_;simp only[Act.put,setIfInBounds_toArray,set_cons_zero,set_cons_succ];refine gK 35 74 (.bool true) rfl rfl (by kernel_rfl) (by kernel_rfl) (by kernel_rfl) (λ_ _ _ h=>h) (by rfl) (λx c=>by obtain⟨⟨r,s1⟩,⟨s2,s3,y⟩,z,A⟩:=q x c;clear c;go_simp) o ?_;simp only[Act.put,setIfInBounds_toArray,set_cons_zero,set_cons_succ];refine gK 36 75 (.bool true) rfl rfl (by kernel_rfl) (by kernel_rfl) (by kernel_rfl) (λ_ _ _ h=>h) (by rfl) (λx c=>by obtain⟨⟨r,s1⟩,⟨s2,s3,y⟩,z,A⟩:=q x c;clear c;go_simp) o ?_;simp only[Act.put,setIfInBounds_toArray,set_cons_zero,set_cons_succ];refine gK 37 3 (.bool true) rfl rfl (by kernel_rfl) (by kernel_rfl) (by kernel_rfl) (λ_ _ _ h=>h) (by rfl) (λx c=>by obtain⟨⟨r,s1⟩,⟨s2,s3,y⟩,z,A⟩:=q x c;clear c;go_simp) o ?_;simp only[Act.put,setIfInBounds_toArray,set_cons_zero,set_cons_succ];refine wpAnyH_done (by kernel_rfl) ?_ _
       go_wp2_with fail
       go_meet;exact⟨rfl,o⟩
      case rest=>
       obtain⟨rfl,x2⟩:=hcut;have G:=M.more x2 (by omega);clear c0 c1 U z0 z1 L F m;generalize x4:wc=wy at*;clear x4;have m:=(G.nZ xb K J).trans D;have z0:wy.cell? ⟨xb,0,none⟩=some (.slice (some ⟨g,0,none⟩) (n+3) (n+3)):=(ag m).trans rfl;have L:=aB m;have F:g<wy.heap.size:=G.row.lt;clear m;go_upto_region 10 with fail
       go_region_with(go_at_call 139;refine(pY _).mono ?_;rintro e w7 ⟨rfl,hb7⟩;have f:=G.more (x:=w7) (by first|exact hb7|exact((refl _ _).drew).trans (hb7.mono (le_refl _))) (by omega);have x6:=(ag (j:=0) ((f.nZ xb K J).trans D)).trans rfl;have C0:=aB ((f.nZ xb K J).trans D);have B4:g<w7.heap.size:=f.row.lt;have c0:=f.row.cell (i:=i*3) (by dsimp only;omega);have c1:=f.row.cell (i:=i*3+1) (by dsimp only;omega);have U:=f.row.cell (i:=i*3+2) (by dsimp only;omega);have f0:=f.row.frozen (i*3);have f1:=f.row.frozen (i*3+1);have f2:=f.row.frozen (i*3+2);dsimp only at c0 c1 U f0 f1 f2 x6);all_goals go_wp2_with fail
       all_goals go_roundg (n+3- (i+1))
       all_goals first
        |omega
        |exact⟨i+1,rfl,by omega,rfl,by go_num,f.FX Z rfl rfl rfl⟩
        |exact⟨i+1,rfl,by omega,rfl,by go_num,(f.more (refl _ _).drew (by omega)).FX Z rfl rfl rfl⟩
    ·obtain rfl:i=n+3:=by omega
     have hN:=O.next hl M HF.out.apart;clear M O
     go_wp2_with fail
     go_roundg (C.length- (k+1))
     all_goals first
      |omega
      |exact⟨k+1,rfl,by omega,rfl,by go_num,hN⟩
  ·obtain rfl:k=C.length:=by omega
   clear X
   go_wp2_with fail
   exact A9.out _ _ _ _ _ _ _ _ _ _ _ _ _ _ _ _ _ _ _ _ _ _ _ _ _ _ _ _ _ _ _ _ _ _ _ _ _ _ _ _ _ _ _ _ _ _ _ _ _ _ _ _ _ _ _ _ _ _ _ _ _ _ _ _ _ _ _ _ _ hI
def Um(f:Func):Code:=((f.body.bind (jP 4)).getD .skip)
theorem GH(w0 w:World)(q:Nat)(lv:Array Value)(a:Option Addr)(ac:Nat)(X:List Ln)(hO:w.heap[q]? =some (.cells lv 118 (0,0)))(H9:lv[2]? =some (.slice a X.length ac))(hL:bC (rO KL w0 1) w 9 294 1 rQ q (.slice a X.length ac) X)
  (H4:Below w0.heap.size w0 w) (o2:w0.heap.size<=q) (M2:X.length<=2199023255552) (u1 u2 u4 u5 u6 u8 u9 o8 q1 r2 s4 v2 w1 w2 w3 w4 w5 w6 w7 w8 w9 x0 x1 x2 x3 x4 x5 x6 x7 x8 x9 y0 y1 y2 y3 y4 y5 y7 y8 y9 z2 z3 z4 z5 z6 z7 z8 z9 A0 A1 A2 A3 A4 A5 A6 A7 A8 A9 B0 B1 B2 B3 B4 B5 B6 B7 B8 B9 C0 C1 C2 C3 C4 C5 C6 C7 C8 C9 I3 I4 I5 I6 I7 I8 I9 J1 J2 J3 J4 J5 J6 J7 J8 J9 K1 K2 K3 o9 p2 p3 p4 p5 p6 p7 p8 p9 q0 q2 q3 q4 q5 q6 q7 q8 q9 r0 r1 r3 r4 r5 r6 r7 r8 r9 s0 s1 s2 s5 s6 s7 s8 s9 u0 u3 u7 v0 v1 v3 v4 v5 v6 E F G H I J K L M N O Q R S T U V W Y Z a0 a1 a2 a3 a4 a5 a6 a7 a8 a9 b0 b1 b2 b3 b4 b5 b6 b7 b8 b9 c1 c3 c4 c5 c6 c7 c8 c9 e0 e1 e2 e3 e4 e5 e6 e7 e8 e9 g0 g1 g2 g3 g4 g5 g6 g7 g8 g9 h0 h1 h2 h3 h4 h5 h6 h7 h8 h9 i0 i1 i2 i3 i4 i5 i6 i7 i8 i9 j0 j1 j2 j3 j4 j5 j6 j7 j8 j9 k0 k1 k2 k3 k4 k5 k6 k7 k8 k9 l0 l4 l5 l7 l8 l9 m0 m1 m2 m3 m4 m5 m6 m7 m8 m9 n0 n1 n2 n3 n4:Value) (K0:Act->World->Prop) (P:Ending->World->Prop)
  (o4:∀(v7 v8 v9 K4 K5 K6 K7 v85 K8 K9 L0 L1 L2 L3 L4 L5 L6 L7 L8 L9 M0 M1 D0 D1 D2 D3 D4 D5 D6 D7 D8 D9 E0 E1 E2 E3 E4 E5 E6 E7 E8 E9 F0 F1 F2 F3 F4 F5 F6 v127 F7 F8 F9 G0 G1 G2 G3 G4 G5 G6 G7 G8 G9 H0 H1 v143:Value) (wx:World),fB w wx q 9 1 rQ Qp X X.length->K0 ⟨#[.pointer (some ⟨q,0,none⟩),u1,u2,.bool true,u4,u5,u6,v7,v8,v9,o8,q1,r2,s4,v2,w1,w2,w3,w4,w5,w6,w7,w8,w9,x0,x1,x2,x3,x4,x5,x6,x7,x8,x9,y0,y1,y2,y3,y4,y5,y7,y8,y9,z2,z3,z4,z5,z6,z7,z8,z9,A0,A1,A2,A3,A4,A5,A6,A7,A8,A9,B0,B1,B2,B3,B4,B5,B6,B7,B8,B9,C0,C1,C2,C3,C4,C5,C6,C7,C8,C9,K4,K5,K6,K7,v85,K8,K9,L0,L1,L2,L3,L4,L5,L6,L7,L8,L9,M0,M1,D0,D1,D2,D3,D4,D5,D6,D7,D8,D9,E0,E1,E2,E3,E4,E5,E6,E7,E8,E9,F0,F1,F2,F3,F4,F5,F6,v127,F7,F8,F9,G0,G1,G2,G3,G4,G5,G6,G7,G8,G9,H0,H1,v143,E,F,G,H,I,J,K,L,M,N,O,Q,R,S,T,U,V,W,Y,Z,a0,a1,a2,a3,a4,a5,a6,a7,a8,a9,b0,b1,b2,b3,b4,b5,b6,b7,b8,b9,c1,c3,c4,c5,c6,c7,c8,c9,e0,e1,e2,e3,e4,e5,e6,e7,e8,e9,g0,g1,g2,g3,g4,g5,g6,g7,g8,g9,h0,h1,h2,h3,h4,h5,h6,h7,h8,h9,i0,i1,i2,i3,i4,i5,i6,i7,i8,i9,j0,j1,j2,j3,j4,j5,j6,j7,j8,j9,k0,k1,k2,k3,k4,k5,k6,k7,k8,k9,l0,l4,l5,l7,l8,l9,m0,m1,m2,m3,m4,m5,m6,m7,m8,m9,n0,n1,n2,n3,n4],[]⟩ wx):
  Code.wp prog (Um Tryz.f82) (Exit.then K0 (bodyPost prog Tryz.f82 P)) ⟨#[.pointer (some ⟨q,0,none⟩),u1,u2,.bool true,u4,u5,u6,.int .i64 0,u8,u9,o8,q1,r2,s4,v2,w1,w2,w3,w4,w5,w6,w7,w8,w9,x0,x1,x2,x3,x4,x5,x6,x7,x8,x9,y0,y1,y2,y3,y4,y5,y7,y8,y9,z2,z3,z4,z5,z6,z7,z8,z9,A0,A1,A2,A3,A4,A5,A6,A7,A8,A9,B0,B1,B2,B3,B4,B5,B6,B7,B8,B9,C0,C1,C2,C3,C4,C5,C6,C7,C8,C9,I3,I4,I5,I6,I7,I8,I9,J1,J2,J3,J4,J5,J6,J7,J8,J9,K1,K2,K3,o9,p2,p3,p4,p5,p6,p7,p8,p9,q0,q2,q3,q4,q5,q6,q7,q8,q9,r0,r1,r3,r4,r5,r6,r7,r8,r9,s0,s1,s2,s5,s6,s7,s8,s9,u0,u3,u7,v0,v1,v3,v4,v5,v6,E,F,G,H,I,J,K,L,M,N,O,Q,R,S,T,U,V,W,Y,Z,a0,a1,a2,a3,a4,a5,a6,a7,a8,a9,b0,b1,b2,b3,b4,b5,b6,b7,b8,b9,c1,c3,c4,c5,c6,c7,c8,c9,e0,e1,e2,e3,e4,e5,e6,e7,e8,e9,g0,g1,g2,g3,g4,g5,g6,g7,g8,g9,h0,h1,h2,h3,h4,h5,h6,h7,h8,h9,i0,i1,i2,i3,i4,i5,i6,i7,i8,i9,j0,j1,j2,j3,j4,j5,j6,j7,j8,j9,k0,k1,k2,k3,k4,k5,k6,k7,k8,k9,l0,l4,l5,l7,l8,l9,m0,m1,m2,m3,m4,m5,m6,m7,m8,m9,n0,n1,n2,n3,n4],[]⟩ w:=by
 conv=>arg 2;whnf
 have H2:Hid _:=o4;have I0:fB w w q 9 1 rQ Qp X 0:=fB.start hL;have HF:Hid _:=hL;have H3:Hid _:=(gZ hL).2;have HO:Hid _:=hO;have M9:=aB hO;clear o4 hL hO
 go_wp2_with fail
 go_loopg [3,7] X.length (λgk o0 kv wr=>∃k:Nat,gk=X.length- k/\k<=X.length/\o0=.bool true/\kv=.int .i64 (k:Int)/\fB w wr q 9 1 rQ Qp X k)
 case atStart=>exact⟨0,rfl,zero_le _,rfl,rfl,I0⟩
 case round=>
  obtain⟨k,n6,hk,rfl,rfl,hI⟩:=hrel;subst n6;clear I0;generalize I2:wr=wo at*;clear I2;have A:=(hI.ah _ _ _ _ HO.out (by decide)).trans HO.out;have N0:=aB A;have y6:wo.cell? ⟨q,2,none⟩=some (.slice a X.length ac):=(ag A).trans H9;by_cases H8:k<X.length
  ·obtain⟨y,rfl,M7,⟨o1,t⟩,m⟩:∃y,a=some ⟨y,0,none⟩/\y<w.heap.size/\(∃o1,w.heap[y]? =some (.cells o1 294 (0,0)))/\∀(k:Nat) (l:Ln),X[k]? =some l->w.cell? ⟨y,k*2,none⟩=some (.slice (some ⟨l.g,0,none⟩) (l.n+3) (l.n+3))/\w.cell? ⟨y,k*2+1,none⟩=some (.slice l.wo l.n l.wc):=by
    rcases H3.out with h|h
    ·omega
    ·exact h
   obtain⟨⟨g,n,f,wk,cs⟩,hl⟩:∃l,X[k]? =some l:=⟨_,List.getElem?_eq_getElem H8⟩;have C:=hI.ah _ _ _ _ t (by decide);have p0:=(cell?_of_block (w:=w) (a:=⟨y,k*2,none⟩) C).trans (m k _ hl).1;have p1:=(cell?_of_block (w:=w) (a:=⟨y,k*2+1,none⟩) C).trans (m k _ hl).2;have o6:y<wo.heap.size:=aB (C.trans t);have u:=HF.out.each _ (List.mem_of_getElem? hl);have o7:q<=g:=by have:=u.lo;dsimp only at this;omega
   have r:=hI.more ((refl _ wo).alloc (le_refl _) (.cells #[.slice (some ⟨g,0,none⟩) (n+3) (n+3),.slice f n wk] 294)) (by omega);have J0:jK (wo.alloc (.cells #[.slice (some ⟨g,0,none⟩) (n+3) (n+3),.slice f n wk] 294)) (wo.alloc (.cells #[.slice (some ⟨g,0,none⟩) (n+3) (n+3),.slice f n wk] 294)) q 9 1 rQ Qp ⟨g,n,f,wk,cs⟩ 0:=jK.start r hl;have o:=heap_alloc_new wo (.cells #[.slice (some ⟨g,0,none⟩) (n+3) (n+3),.slice f n wk] 294);clear m t C hI
   go_wp2_with fail
   generalize H6:wo.alloc (.cells #[.slice (some ⟨g,0,none⟩) (n+3) (n+3),.slice f n wk] 294)=W1 at*;generalize N1:wo.heap.size=xb at*;have H5:Below w0.heap.size w0 W1:=H4.trans (r.mD.mono o2);have n9:=aB o;clear p0 p1 o6 y6 A H6;go_loopg [3,9] (n+3) (λgk o0 iv wx=>∃i:Nat,gk=(n+3)- i/\i<=n+3/\o0=.bool true/\iv=.int .i64 (i:Int)/\jK W1 wx q 9 1 rQ Qp ⟨g,n,f,wk,cs⟩ i)
   case atStart=>exact⟨0,rfl,zero_le _,rfl,rfl,J0⟩
   case round=>
    obtain⟨i,n6,hi,rfl,rfl,z⟩:=hrel;subst n6;clear J0;have n7:xb≠g:=λe=>by
     obtain⟨c2,o5,_⟩:=r.todo k _ (le_refl _) hl;rw[e]at o;rw[o]at o5;cases o5
    have c:=(z.nZ xb n9 n7).trans o;have I1:=u.small;dsimp only at I1;have z0:wr.cell? ⟨xb,0,none⟩=some (.slice (some ⟨g,0,none⟩) (n+3) (n+3)):=(ag c).trans rfl;have z1:wr.cell? ⟨xb,1,none⟩=some (.slice f n wk):=(ag c).trans rfl;have D:=aB c;have B:g<wr.heap.size:=z.row.lt;by_cases M8:i<n+3
    ·by_cases H7:i<n
     ·obtain⟨b,x,rfl,hb,hc⟩:∃b x,f=some ⟨b,x,none⟩/\b<w0.heap.size/\∀j v,cs[j]? =some v->w0.cell? ⟨b,x+j,none⟩=some v:=by
       rcases u.want.1.2 with h|h
       ·dsimp only at h;omega
       ·exact h
      obtain⟨s,t0⟩:=u.want.2 i H7;have o3:Below w0.heap.size w0 wr:=H5.trans (z.mD.mono o2);have c0:wr.cell? ⟨g,i,none⟩=some (.string s):=(z.row.cell (i:=i) (by dsimp only;omega)).trans (by rw[iw (by omega),iM t0]);have d0:wr.cell? ⟨b,x+i,none⟩=some (.string s):=(o3.cell (p:=⟨b,x+i,none⟩) hb).trans (hc _ _ t0);have M3:b<wr.heap.size:=by have:=o3.size;omega
      clear hc t0;go_upto_region 18 with fail
      go_cut [3] (λs3 wx=>s3=.bool true/\Below wr.heap.size wr wx)
      case first=>
       go_region;all_goals(go_wp2_with fail;go_meet)
       all_goals exact⟨rfl,by first|exact refl _ _|exact(refl _ _).drew⟩
      case rest=>
       obtain⟨rfl,n5⟩:=hcut;have d:=z.more n5 (by omega);clear c0 d0 z0 z1 D B c;generalize n8:wc=wy at*;clear n8;have c:=(d.nZ xb n9 n7).trans o;have z0:wy.cell? ⟨xb,0,none⟩=some (.slice (some ⟨g,0,none⟩) (n+3) (n+3)):=(ag c).trans rfl;have D:=aB c;have B:g<wy.heap.size:=d.row.lt;have c0:=d.row.cell (i:=i) (by dsimp only;omega);have f0:=d.row.frozen (i);dsimp only at c0 f0;clear c
       go_wp2_with fail
       go_roundg (n+3- (i+1))
       all_goals first
        |omega
        |exact⟨i+1,rfl,by omega,rfl,by go_num,d.Rz o7 rfl⟩
     ·have M4:decide ((i:Int)<(n:Int))=false:=by simp;omega
      have M5:n<=i:=by omega
      have M6:decide (n<=i)=true:=by simp;omega
      have c0:wr.cell? ⟨g,i,none⟩=some (.string ⟨#[98,101,121,111,110,100]⟩):=(z.row.cell (i:=i) (by dsimp only;omega)).trans (by rw[iw (by omega),gW (by have:=u.len;dsimp only at this;dsimp only;omega),Nat.mod_one];rfl);go_upto_region 18 with fail
      go_cut [3] (λs3 wx=>s3=.bool true/\Below wr.heap.size wr wx)
      case first=>
       go_region;all_goals(go_wp2_with fail;go_meet)
       all_goals exact⟨rfl,by first|exact refl _ _|exact(refl _ _).drew⟩
      case rest=>
       obtain⟨rfl,n5⟩:=hcut;have d:=z.more n5 (by omega);clear c0 z0 z1 D B c;generalize n8:wc=wy at*;clear n8;have c:=(d.nZ xb n9 n7).trans o;have z0:wy.cell? ⟨xb,0,none⟩=some (.slice (some ⟨g,0,none⟩) (n+3) (n+3)):=(ag c).trans rfl;have D:=aB c;have B:g<wy.heap.size:=d.row.lt;have c0:=d.row.cell (i:=i) (by dsimp only;omega);have f0:=d.row.frozen (i);dsimp only at c0 f0;clear c
       go_wp2_with fail
       go_roundg (n+3- (i+1))
       all_goals first
        |omega
        |exact⟨i+1,rfl,by omega,rfl,by go_num,d.Rz o7 rfl⟩
    ·obtain rfl:i=n+3:=by omega
     have hN:=r.next hl z HF.out.apart;clear z r
     go_wp2_with fail
     go_roundg (X.length- (k+1))
     all_goals first
      |omega
      |exact⟨k+1,rfl,by omega,rfl,by go_num,hN⟩
  ·obtain rfl:k=X.length:=by omega
   clear A
   go_wp2_with fail
   exact H2.out _ _ _ _ _ _ _ _ _ _ _ _ _ _ _ _ _ _ _ _ _ _ _ _ _ _ _ _ _ _ _ _ _ _ _ _ _ _ _ _ _ _ _ _ _ _ _ _ _ _ _ _ _ _ _ _ _ _ _ _ _ _ _ _ _ _ _ hI
end Go.Proofs.YtdifpeaklamhnaaGreatDoor

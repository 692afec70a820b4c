import Derived.Test.YtdifpeaklamhnaaGreatDoorLoPZ
set_option linter.unusedVariables false
set_option linter.unusedSimpArgs false
set_option maxRecDepth 100000
set_option maxHeartbeats 0
namespace Go.Proofs.YtdifpeaklamhnaaGreatDoor
open Go.Proofs.Tryz
open Go.RowKit
open List (setIfInBounds_toArray set_cons_zero set_cons_succ)
open Below (refl)
open Nat (zero_le le_refl)
open World (cell?_of_block)
def TR(f:Func):Code:=((f.body.bind (jM 0)).getD .skip)
theorem GD(w0 w:World)(N:Nat)(lv:Array Value)(a:Option Addr)(ac:Nat)(C:List Ln)(hO:w.heap[N]? =some (.cells lv 118 (0,0)))(B7:lv[0]? =some (.slice a C.length ac))(hL:bP (rV Hu w0 3) w 56 227 3 oF N (.slice a C.length ac) C)
  (B1:Below w0.heap.size w0 w) (x8:w0.heap.size<=N) (O4:C.length<=2199023255552) (u1 u2 u5 u6 u7 u8 u9 y1 y2 y3 y4 y5 y7 C1 C2 C3 C4 C5 C6 C7 C8 C9 D0 D1 D2 D3 D4 D5 D6 D7 D8 D9 E0 E1 E2 E3 E4 E5 E6 E7 E8 E9 F0 F1 F2 F3 F4 F5 F6 F7 F8 F9 G0 G1 G2 G3 G4 G5 G6 G7 G8 G9 H0 H1 H2 H3 H4 H5 H6 H7 H8 H9 I1 I2 I3 I4 I5 I6 y8 y9 z2 z3 z4 z5 z6 z7 z8 z9 A0 A1 A2 A3 A4 A5 A6 A7 A8 a0 a1 a2 a3 a4 a5 a6 a7 a8 a9 b0 b1 b2 b3 b4 b5 b6 b7 b8 b9 c3 c4 c5 c6 c7 c8 c9 e0 e1 e2 e3 e4 e5 e6 e7 e8 e9 g0 g1 g2 g3 g4 g5 g6 g7 g8 g9 h0 h1 h2 h3 h4 h5 h6 h7 h8 h9 i0 i1 i2 i3 i4 i5 i6 i7 i8 i9 j0 j1 j2 j3 j4 j5 j6 j7 j8 j9 k0 k1 k2 k3 k4 k5 k6 k7 k8 k9 l0 l4 l5 l7 l8 l9 m0 m1 m2 m3 m4 m5 m6 m7 m8 m9 n0 n1 n2 n3 n4 n5 n6 n7 n8 n9 o0 o1 o2 o3 o4 o5 o6 o7 o8 o9 p2 p3 p4 p5 p6 p7 p8 p9 q0 q1 q2 q3 q4 q5 q6 q7 q8 q9 r0 r1 r2 r3 r4 r5 r6 r7 r8 r9 s7 s8 s9 u0 u3 u4 v0 v1 v2 v3 v7 v8 v9 w1 w2 w3 w4 w5 w8 w9 x0 x1:Value) (K0:Act->World->Prop) (P:Ending->World->Prop)
  (Q:∀(v4 v5 v6 I7 I8 I9 J1 v20 v21 J2 J3 J4 J5 J6 J7 J8 J9 K1 K2 K3 K4 K5 K6 K7 v37 K8 K9 L0 L1 L2 L3 L4 L5 v46 L6 L7 L8 L9 v51 M0 v53 M1 M2 M3 M4 M5 M6 M7 M8 M9 N0 N1 N2 N3 N4 N5 N6 v70 N7 v72 N8 N9 v75 v76 O0 O1 O2 O3:Value) (wx:World),fG w wx N 56 3 oF Rx C C.length->K0 ⟨#[.pointer (some ⟨N,0,none⟩),u1,u2,.bool true,v4,v5,v6,u7,u8,u9,y1,y2,y3,y4,y5,y7,I7,I8,I9,J1,v20,v21,J2,J3,J4,J5,J6,J7,J8,J9,K1,K2,K3,K4,K5,K6,K7,v37,K8,K9,L0,L1,L2,L3,L4,L5,v46,L6,L7,L8,L9,v51,M0,v53,M1,M2,M3,M4,M5,M6,M7,M8,M9,N0,N1,N2,N3,N4,N5,N6,v70,N7,v72,N8,N9,v75,v76,O0,O1,O2,O3,y8,y9,z2,z3,z4,z5,z6,z7,z8,z9,A0,A1,A2,A3,A4,A5,A6,A7,A8,a0,a1,a2,a3,a4,a5,a6,a7,a8,a9,b0,b1,b2,b3,b4,b5,b6,b7,b8,b9,c3,c4,c5,c6,c7,c8,c9,e0,e1,e2,e3,e4,e5,e6,e7,e8,e9,g0,g1,g2,g3,g4,g5,g6,g7,g8,g9,h0,h1,h2,h3,h4,h5,h6,h7,h8,h9,i0,i1,i2,i3,i4,i5,i6,i7,i8,i9,j0,j1,j2,j3,j4,j5,j6,j7,j8,j9,k0,k1,k2,k3,k4,k5,k6,k7,k8,k9,l0,l4,l5,l7,l8,l9,m0,m1,m2,m3,m4,m5,m6,m7,m8,m9,n0,n1,n2,n3,n4,n5,n6,n7,n8,n9,o0,o1,o2,o3,o4,o5,o6,o7,o8,o9,p2,p3,p4,p5,p6,p7,p8,p9,q0,q1,q2,q3,q4,q5,q6,q7,q8,q9,r0,r1,r2,r3,r4,r5,r6,r7,r8,r9,s7,s8,s9,u0,u3,u4,v0,v1,v2,v3,v7,v8,v9,w1,w2,w3,w4,w5,w8,w9,x0,x1],[]⟩ wx):
  Code.wp prog (TR Tryz.f82) (Exit.then K0 (bodyPost prog Tryz.f82 P)) ⟨#[.pointer (some ⟨N,0,none⟩),u1,u2,.bool true,.int .i64 0,u5,u6,u7,u8,u9,y1,y2,y3,y4,y5,y7,C1,C2,C3,C4,C5,C6,C7,C8,C9,D0,D1,D2,D3,D4,D5,D6,D7,D8,D9,E0,E1,E2,E3,E4,E5,E6,E7,E8,E9,F0,F1,F2,F3,F4,F5,F6,F7,F8,F9,G0,G1,G2,G3,G4,G5,G6,G7,G8,G9,H0,H1,H2,H3,H4,H5,H6,H7,H8,H9,I1,I2,I3,I4,I5,I6,y8,y9,z2,z3,z4,z5,z6,z7,z8,z9,A0,A1,A2,A3,A4,A5,A6,A7,A8,a0,a1,a2,a3,a4,a5,a6,a7,a8,a9,b0,b1,b2,b3,b4,b5,b6,b7,b8,b9,c3,c4,c5,c6,c7,c8,c9,e0,e1,e2,e3,e4,e5,e6,e7,e8,e9,g0,g1,g2,g3,g4,g5,g6,g7,g8,g9,h0,h1,h2,h3,h4,h5,h6,h7,h8,h9,i0,i1,i2,i3,i4,i5,i6,i7,i8,i9,j0,j1,j2,j3,j4,j5,j6,j7,j8,j9,k0,k1,k2,k3,k4,k5,k6,k7,k8,k9,l0,l4,l5,l7,l8,l9,m0,m1,m2,m3,m4,m5,m6,m7,m8,m9,n0,n1,n2,n3,n4,n5,n6,n7,n8,n9,o0,o1,o2,o3,o4,o5,o6,o7,o8,o9,p2,p3,p4,p5,p6,p7,p8,p9,q0,q1,q2,q3,q4,q5,q6,q7,q8,q9,r0,r1,r2,r3,r4,r5,r6,r7,r8,r9,s7,s8,s9,u0,u3,u4,v0,v1,v2,v3,v7,v8,v9,w1,w2,w3,w4,w5,w8,w9,x0,x1],[]⟩ w:=by
 conv=>arg 2;whnf
 have A9:Hid _:=Q;have I0:fG w w N 56 3 oF Rx C 0:=fG.start hL;have HF:Hid _:=hL;have B0:Hid _:=(ic hL).2;have HO:Hid _:=hO;have P1:=aC hO;clear Q hL hO
 go_wp2_with fail
 go_loopg [3,4] C.length (λgk x5 kv wr=>∃k:Nat,gk=C.length- k/\k<=C.length/\x5=.bool true/\kv=.int .i64 (k:Int)/\fG w wr N 56 3 oF Rx C k)
 case atStart=>exact⟨0,rfl,zero_le _,rfl,rfl,I0⟩
 case round=>
  obtain⟨k,x3,hk,rfl,rfl,hI⟩:=hrel;subst x3;clear I0;generalize B9:wr=wo at*;clear B9;have W:=(hI.ag _ _ _ _ HO.out (by decide)).trans HO.out;have P2:=aC W;have y6:wo.cell? ⟨N,0,none⟩=some (.slice a C.length ac):=(af W).trans B7;by_cases B6:k<C.length
  ·obtain⟨U,rfl,O9,⟨x7,R⟩,H⟩:∃U,a=some ⟨U,0,none⟩/\U<w.heap.size/\(∃x7,w.heap[U]? =some (.cells x7 227 (0,0)))/\∀(k:Nat) (l:Ln),C[k]? =some l->w.cell? ⟨U,k*2,none⟩=some (.slice (some ⟨l.g,0,none⟩) (l.n+3) (l.n+3))/\w.cell? ⟨U,k*2+1,none⟩=some (.slice l.wo l.n l.wc):=by
    rcases B0.out with h|h
    ·omega
    ·exact h
   obtain⟨⟨g,n,B,wk,cs⟩,hl⟩:∃l,C[k]? =some l:=⟨_,List.getElem?_eq_getElem B6⟩;have X:=hI.ag _ _ _ _ R (by decide);have p0:=(cell?_of_block (w:=w) (a:=⟨U,k*2,none⟩) X).trans (H k _ hl).1;have p1:=(cell?_of_block (w:=w) (a:=⟨U,k*2+1,none⟩) X).trans (H k _ hl).2;have y0:U<wo.heap.size:=aC (X.trans R);have I:=HF.out.each _ (List.mem_of_getElem? hl);have Y:N<=g:=by have:=I.lo;dsimp only at this;omega
   have O:=hI.more ((refl _ wo).alloc (le_refl _) (.cells #[.slice (some ⟨g,0,none⟩) (n+3) (n+3),.slice B n wk] 227)) (by omega);have J0:jG (wo.alloc (.cells #[.slice (some ⟨g,0,none⟩) (n+3) (n+3),.slice B n wk] 227)) (wo.alloc (.cells #[.slice (some ⟨g,0,none⟩) (n+3) (n+3),.slice B n wk] 227)) N 56 3 oF Rx ⟨g,n,B,wk,cs⟩ 0:=jG.start O hl;have D:=heap_alloc_new wo (.cells #[.slice (some ⟨g,0,none⟩) (n+3) (n+3),.slice B n wk] 227);clear H R X hI
   go_wp2_with fail
   generalize B3:wo.alloc (.cells #[.slice (some ⟨g,0,none⟩) (n+3) (n+3),.slice B n wk] 227)=W1 at*;generalize P3:wo.heap.size=xb at*;have B2:Below w0.heap.size w0 W1:=B1.trans (O.lU.mono x8);have K:=aC D;clear p0 p1 y0 y6 W B3;go_loopg [3,6] (n+3) (λgk x5 iv wx=>∃i:Nat,gk=(n+3)- i/\i<=n+3/\x5=.bool true/\iv=.int .i64 (i:Int)/\jG W1 wx N 56 3 oF Rx ⟨g,n,B,wk,cs⟩ i)
   case atStart=>exact⟨0,rfl,zero_le _,rfl,rfl,J0⟩
   case round=>
    obtain⟨i,x3,hi,rfl,rfl,M⟩:=hrel;subst x3;clear J0;have J:xb≠g:=λe=>by
     obtain⟨T,x9,_⟩:=O.todo k _ (le_refl _) hl;rw[e]at D;rw[D]at x9;cases x9
    have m:=(M.nX xb K J).trans D;have B8:=I.small;dsimp only at B8;have z0:wr.cell? ⟨xb,0,none⟩=some (.slice (some ⟨g,0,none⟩) (n+3) (n+3)):=(af m).trans rfl;have z1:wr.cell? ⟨xb,1,none⟩=some (.slice B n wk):=(af m).trans rfl;have L:=aC m;have F:g<wr.heap.size:=M.row.lt;by_cases P0:i<n+3
    ·by_cases B5:i<n
     ·obtain⟨b,E,rfl,hb,hc⟩:∃b E,B=some ⟨b,E,none⟩/\b<w0.heap.size/\∀j v,cs[j]? =some v->w0.cell? ⟨b,E+j,none⟩=some v:=by
       rcases I.want.1.2 with h|h
       ·dsimp only at h;omega
       ·exact h
      obtain⟨s,t,u,t0,t1,t2⟩:=I.want.2 i B5;have V:Below w0.heap.size w0 wr:=B2.trans (M.lU.mono x8);have Z:wr.cell? ⟨g,i*3,none⟩=some (.int .i64 s):=(M.row.cell (i:=i*3) (by dsimp only;omega)).trans (by rw[iB (by omega),iI t0]);have c1:wr.cell? ⟨g,i*3+1,none⟩=some (.int .i64 t):=(M.row.cell (i:=i*3+1) (by dsimp only;omega)).trans (by rw[iB (by omega),iI t1]);have T:wr.cell? ⟨g,i*3+2,none⟩=some (.string u):=(M.row.cell (i:=i*3+2) (by dsimp only;omega)).trans (by rw[iB (by omega),iI t2]);have d0:wr.cell? ⟨b,E+i*3,none⟩=some (.int .i64 s):=(V.cell (p:=⟨b,E+i*3,none⟩) hb).trans (hc _ _ t0);have d1:wr.cell? ⟨b,E+i*3+1,none⟩=some (.int .i64 t):=(V.cell (p:=⟨b,E+i*3+1,none⟩) hb).trans (hc _ _ t1);have d2:wr.cell? ⟨b,E+i*3+2,none⟩=some (.string u):=(V.cell (p:=⟨b,E+i*3+2,none⟩) hb).trans (hc _ _ t2);have O5:b<wr.heap.size:=by have:=V.size;omega
      clear hc t0 t1 t2;go_upto_region 9 with fail
      go_cut [3] (λs3 wx=>s3=.bool true/\Below wr.heap.size wr wx)
      case first=>
       go_region;all_goals(go_wp2_with fail;go_meet)
       all_goals exact⟨rfl,by first|exact refl _ _|exact(refl _ _).drew⟩
      case rest=>
       obtain⟨rfl,x2⟩:=hcut;have G:=M.more x2 (by omega);clear Z d0 c1 d1 T d2 z0 z1 L F m;generalize x4:wc=wy at*;clear x4;have m:=(G.nX xb K J).trans D;have z0:wy.cell? ⟨xb,0,none⟩=some (.slice (some ⟨g,0,none⟩) (n+3) (n+3)):=(af m).trans rfl;have L:=aC m;have F:g<wy.heap.size:=G.row.lt;clear m;go_upto_region 10 with fail
       go_region_with(go_at_call 139;refine(pO _).mono ?_;rintro e w7 ⟨rfl,hb7⟩;have f:=G.more (x:=w7) (by first|exact hb7|exact((refl _ _).drew).trans (hb7.mono (le_refl _))) (by omega);have x6:=(af (j:=0) ((f.nX xb K J).trans D)).trans rfl;have C0:=aC ((f.nX xb K J).trans D);have B4:g<w7.heap.size:=f.row.lt;have Z:=f.row.cell (i:=i*3) (by dsimp only;omega);have c1:=f.row.cell (i:=i*3+1) (by dsimp only;omega);have T:=f.row.cell (i:=i*3+2) (by dsimp only;omega);have f0:=f.row.frozen (i*3);have f1:=f.row.frozen (i*3+1);have f2:=f.row.frozen (i*3+2);dsimp only at Z c1 T f0 f1 f2 x6);all_goals go_wp2_with fail
       all_goals go_roundg (n+3- (i+1))
       all_goals first
        |omega
        |exact⟨i+1,rfl,by omega,rfl,by go_num,f.FV Y rfl rfl rfl⟩
        |exact⟨i+1,rfl,by omega,rfl,by go_num,(f.more (refl _ _).drew (by omega)).FV Y rfl rfl rfl⟩
     ·have O6:decide ((i:Int)<(n:Int))=false:=by simp;omega
      have O7:n<=i:=by omega
      have O8:decide (n<=i)=true:=by simp;omega
      have Z:wr.cell? ⟨g,i*3,none⟩=some (.int .i64 9):=(M.row.cell (i:=i*3) (by dsimp only;omega)).trans (by rw[iB (by omega),gX (by have:=I.len;dsimp only at this;dsimp only;omega),show(i*3) % 3=0 by omega];rfl);have c1:wr.cell? ⟨g,i*3+1,none⟩=some (.int .i64 77):=(M.row.cell (i:=i*3+1) (by dsimp only;omega)).trans (by rw[iB (by omega),gX (by have:=I.len;dsimp only at this;dsimp only;omega),show(i*3+1) % 3=1 by omega];rfl);have T:wr.cell? ⟨g,i*3+2,none⟩=some (.string ⟨#[]⟩):=(M.row.cell (i:=i*3+2) (by dsimp only;omega)).trans (by rw[iB (by omega),gX (by have:=I.len;dsimp only at this;dsimp only;omega),show(i*3+2) % 3=2 by omega];rfl);go_upto_region 9 with fail
      go_cut [3] (λs3 wx=>s3=.bool true/\Below wr.heap.size wr wx)
      case first=>
       refine wp_region_held_drew (S:=λx=>Below wr.heap.size wr x) (by kernel_rfl) (refl _ _).drew (λd=> ?_);have q:∀x:World,Below wr.heap.size wr x->(x.cell? ⟨xb,0,none⟩=some (.slice (some ⟨g,0,none⟩) (n+3) (n+3))/\x.cell? ⟨xb,1,none⟩=some (.slice B n wk))/\(x.cell? ⟨g,i*3,none⟩=some (.int .i64 9)/\x.cell? ⟨g,i*3+1,none⟩=some (.int .i64 77)/\x.cell? ⟨g,i*3+2,none⟩=some (.string ⟨#[]⟩))/\xb<x.heap.size/\g<x.heap.size:=λx hx=>⟨⟨(hx.cell (p:=⟨xb,0,none⟩) L).trans z0,(hx.cell (p:=⟨xb,1,none⟩) L).trans z1⟩,⟨(hx.cell (p:=⟨g,i*3,none⟩) F).trans Z,(hx.cell (p:=⟨g,i*3+1,none⟩) F).trans c1,(hx.cell (p:=⟨g,i*3+2,none⟩) F).trans T⟩,Nat.lt_of_lt_of_le L hx.size,Nat.lt_of_lt_of_le F hx.size⟩;refine gI 0 39 (.bool true) rfl rfl (by kernel_rfl) (by kernel_rfl) (by kernel_rfl) (λ_ _ _ h=>h) (by rfl) (λx c=>by obtain⟨⟨r,s1⟩,⟨s2,s3,y⟩,z,A⟩:=q x c;clear c;go_simp) d ?_;simp only[Act.put,setIfInBounds_toArray,set_cons_zero,set_cons_succ];refine gI 1 40 (.bool true) rfl rfl (by kernel_rfl) (by kernel_rfl) (by kernel_rfl) (λ_ _ _ h=>h) (by rfl) (λx c=>by obtain⟨⟨r,s1⟩,⟨s2,s3,y⟩,z,A⟩:=q x c;clear c;go_simp) d ?_;simp only[Act.put,setIfInBounds_toArray,set_cons_zero,set_cons_succ];refine gI 2 41 (.int .i64 (i:Int)) rfl rfl (by kernel_rfl) (by kernel_rfl) (by kernel_rfl) (λ_ _ _ h=>h) (by rfl) (λx c=>by obtain⟨⟨r,s1⟩,⟨s2,s3,y⟩,z,A⟩:=q x c;clear c;go_simp) d ?_;simp only[Act.put,setIfInBounds_toArray,set_cons_zero,set_cons_succ];refine gI 3 42 (.pointer (some ⟨xb,1,none⟩)) rfl rfl (by kernel_rfl) (by kernel_rfl) (by kernel_rfl) (λ_ _ _ h=>h) (by rfl) (λx c=>by obtain⟨⟨r,s1⟩,⟨s2,s3,y⟩,z,A⟩:=q x c;clear c;go_simp) d ?_;simp only[Act.put,setIfInBounds_toArray,set_cons_zero,set_cons_succ];refine gI 4 43 (.slice B n wk) rfl rfl (by kernel_rfl) (by kernel_rfl) (by kernel_rfl) (λ_ _ _ h=>h) (by rfl) (λx c=>by obtain⟨⟨r,s1⟩,⟨s2,s3,y⟩,z,A⟩:=q x c;clear c;go_simp) d ?_;simp only[Act.put,setIfInBounds_toArray,set_cons_zero,set_cons_succ];refine gI 5 44 (.int .i64 (n:Int)) rfl rfl (by kernel_rfl) (by kernel_rfl) (by kernel_rfl) (λ_ _ _ h=>h) (by rfl) (λx c=>by obtain⟨⟨r,s1⟩,⟨s2,s3,y⟩,z,A⟩:=q x c;clear c;go_simp) d ?_;simp only[Act.put,setIfInBounds_toArray,set_cons_zero,set_cons_succ];refine gI 6 45 (.bool false) rfl rfl (by kernel_rfl) (by kernel_rfl) (by kernel_rfl) (λ_ _ _ h=>h) (by rfl) (λx c=>by obtain⟨⟨r,s1⟩,⟨s2,s3,y⟩,z,A⟩:=q x c;clear c;go_simp) d ?_;simp only[Act.put,setIfInBounds_toArray,set_cons_zero,set_cons_succ];refine gI 7 46 (.bool false) rfl rfl (by kernel_rfl) (by kernel_rfl) (by kernel_rfl) (λ_ _ _ h=>h) (by rfl) (λx c=>by obtain⟨⟨r,s1⟩,⟨s2,s3,y⟩,z,A⟩:=q x c;clear c;go_simp) d ?_;simp only[Act.put,setIfInBounds_toArray,set_cons_zero,set_cons_succ];refine qW 8 47 rfl rfl (by kernel_rfl) (by kernel_rfl) (by kernel_rfl) (λ_ _ _ h=>h) (by rfl) d ?_;simp only[Act.put,setIfInBounds_toArray,set_cons_zero,set_cons_succ];refine qW 9 48 rfl rfl (by kernel_rfl) (by kernel_rfl) (by kernel_rfl) (λ_ _ _ h=>h) (by rfl) d ?_;simp only[Act.put,setIfInBounds_toArray,set_cons_zero,set_cons_succ];refine qW 10 49 rfl rfl (by kernel_rfl) (by kernel_rfl) (by kernel_rfl) (λ_ _ _ h=>h) (by rfl) d ?_;simp only[Act.put,setIfInBounds_toArray,set_cons_zero,set_cons_succ];refine qW 11 50 rfl rfl (by kernel_rfl) (by kernel_rfl) (by kernel_rfl) (λ_ _ _ h=>h) (by rfl) d ?_;simp only[Act.put,setIfInBounds_toArray,set_cons_zero,set_cons_succ];refine qW 12 51 rfl rfl (by kernel_rfl) (by kernel_rfl) (by kernel_rfl) (λ_ _ _ h=>h) (by rfl) d ?_;simp only[Act.put,setIfInBounds_toArray,set_cons_zero,set_cons_succ];refine qW 13 52 rfl rfl (by kernel_rfl) (by kernel_rfl) (by kernel_rfl) (λ_ _ _ h=>h) (by rfl) d ?_;simp only[Act.put,setIfInBounds_toArray,set_cons_zero,set_cons_succ];refine qW 14 53 rfl rfl (by kernel_rfl) (by kernel_rfl) (by kernel_rfl) (λ_ _ _ h=>h) (by rfl) d ?_;simp only[Act.put,setIfInBounds_toArray,set_cons_zero,set_cons_succ];refine qW 15 54 rfl rfl (by kernel_rfl) (by kernel_rfl) (by kernel_rfl) (λ_ _ _ h=>h) (by rfl) d ?_;simp only[Act.put,setIfInBounds_toArray,set_cons_zero,set_cons_succ];refine qW 16 55 rfl rfl (by kernel_rfl) (by kernel_rfl) (by kernel_rfl) (λ_ _ _ h=>h) (by rfl) d ?_;simp only[Act.put,setIfInBounds_toArray,set_cons_zero,set_cons_succ];refine qW 17 56 rfl rfl (by kernel_rfl) (by kernel_rfl) (by kernel_rfl) (λ_ _ _ h=>h) (by rfl) d ?_;simp only[Act.put,setIfInBounds_toArray,set_cons_zero,set_cons_succ];refine qW 18 57 rfl rfl (by kernel_rfl) (by kernel_rfl) (by kernel_rfl) (λ_ _ _ h=>h) (by rfl) d ?_;simp only[Act.put,setIfInBounds_toArray,set_cons_zero,set_cons_succ];refine gI 19 58 (.bool false) rfl rfl (by kernel_rfl) (by kernel_rfl) (by kernel_rfl) (λ_ _ _ h=>h) (by rfl) (λx c=>by obtain⟨⟨r,s1⟩,⟨s2,s3,y⟩,z,A⟩:=q x c;clear c;go_simp) d ?_;simp only[Act.put,setIfInBounds_toArray,set_cons_zero,set_cons_succ];refine gI 20 59 (.bool false) rfl rfl (by kernel_rfl) (by kernel_rfl) (by kernel_rfl) (λ_ _ _ h=>h) (by rfl) (λx c=>by obtain⟨⟨r,s1⟩,⟨s2,s3,y⟩,z,A⟩:=q x c;clear c;go_simp) d ?_;simp only[Act.put,setIfInBounds_toArray,set_cons_zero,set_cons_succ];refine gI 21 60 (.int .i64 (i:Int)) rfl rfl (by kernel_rfl) (by kernel_rfl) (by kernel_rfl) (λ_ _ _ h=>h) (by rfl) (λx c=>by obtain⟨⟨r,s1⟩,⟨s2,s3,y⟩,z,A⟩:=q x c;clear c;go_simp) d ?_;simp only[Act.put,setIfInBounds_toArray,set_cons_zero,set_cons_succ];refine gI 22 61 (.pointer (some ⟨xb,1,none⟩)) rfl rfl (by kernel_rfl) (by kernel_rfl) (by kernel_rfl) (λ_ _ _ h=>h) (by rfl) (λx c=>by obtain⟨⟨r,s1⟩,⟨s2,s3,y⟩,z,A⟩:=q x c;clear c;go_simp) d ?_;simp only[Act.put,setIfInBounds_toArray,set_cons_zero,set_cons_succ];refine gI 23 62 (.slice B n wk) rfl rfl (by kernel_rfl) (by kernel_rfl) (by kernel_rfl) (λ_ _ _ h=>h) (by rfl) (λx c=>by obtain⟨⟨r,s1⟩,⟨s2,s3,y⟩,z,A⟩:=q x c;clear c;go_simp) d ?_;simp only[Act.put,setIfInBounds_toArray,set_cons_zero,set_cons_succ];refine gI 24 63 (.int .i64 (n:Int)) rfl rfl (by kernel_rfl) (by kernel_rfl) (by kernel_rfl) (λ_ _ _ h=>h) (by rfl) (λx c=>by obtain⟨⟨r,s1⟩,⟨s2,s3,y⟩,z,A⟩:=q x c;clear c;go_simp) d ?_;simp only[Act.put,setIfInBounds_toArray,set_cons_zero,set_cons_succ];refine gI 25 64 (.bool true) rfl rfl (by kernel_rfl) (by kernel_rfl) (by kernel_rfl) (λ_ _ _ h=>h) (by rfl) (λx c=>by obtain⟨⟨r,s1⟩,⟨s2,s3,y⟩,z,A⟩:=q x c;clear c;go_simp) d ?_;simp only[Act.put,setIfInBounds_toArray,set_cons_zero,set_cons_succ];refine gI 26 65 (.bool true) rfl rfl (by kernel_rfl) (by kernel_rfl) (by kernel_rfl) (λ_ _ _ h=>h) (by rfl) (λx c=>by obtain⟨⟨r,s1⟩,⟨s2,s3,y⟩,z,A⟩:=q x c;clear c;go_simp) d ?_;simp only[Act.put,setIfInBounds_toArray,set_cons_zero,set_cons_succ];refine gI 27 66 (.pointer (some ⟨xb,0,none⟩)) rfl rfl (by kernel_rfl) (by kernel_rfl) (by kernel_rfl) (λ_ _ _ h=>h) (by rfl) (λx c=>by obtain⟨⟨r,s1⟩,⟨s2,s3,y⟩,z,A⟩:=q x c;clear c;go_simp) d ?_;simp only[Act.put,setIfInBounds_toArray,set_cons_zero,set_cons_succ];refine gI 28 67 (.slice (some ⟨g,0,none⟩) (n+3) (n+3)) rfl rfl (by kernel_rfl) (by kernel_rfl) (by kernel_rfl) (λ_ _ _ h=>h) (by rfl) (λx c=>by obtain⟨⟨r,s1⟩,⟨s2,s3,y⟩,z,A⟩:=q x c;clear c;go_simp) d ?_;simp only[Act.put,setIfInBounds_toArray,set_cons_zero,set_cons_succ];refine gI 29 68 (.int .i64 (i:Int)) rfl rfl (by kernel_rfl) (by kernel_rfl) (by kernel_rfl) (λ_ _ _ h=>h) (by rfl) (λx c=>by obtain⟨⟨r,s1⟩,⟨s2,s3,y⟩,z,A⟩:=q x c;clear c;go_simp) d ?_;simp only[Act.put,setIfInBounds_toArray,set_cons_zero,set_cons_succ];refine gI 30 69 (.pointer (some ⟨g,i*3,none⟩)) rfl rfl (by kernel_rfl) (by kernel_rfl) (by kernel_rfl) (λ_ _ _ h=>h) (by rfl) (λx c=>by obtain⟨⟨r,s1⟩,⟨s2,s3,y⟩,z,A⟩:=q x c;clear c;go_simp) d ?_;simp only[Act.put,setIfInBounds_toArray,set_cons_zero,set_cons_succ];refine gI 31 70 (.agg #[.int .i64 9,.int .i64 77,.string ⟨#[]⟩]) rfl rfl (by kernel_rfl) (by kernel_rfl) (by kernel_rfl) (λ_ _ _ h=>h) (by rfl) (λx c=>by obtain⟨⟨r,s1⟩,⟨s2,s3,y⟩,z,A⟩:=q x c;clear c;go_simp) d ?_;simp only[Act.put,setIfInBounds_toArray,set_cons_zero,set_cons_succ];refine wpAnyH_ready (rs:=[32]) (by kernel_rfl) (by simp) ?_;refine AllReadyH.cons rfl (λK0 Q=> ?_) AllReadyH.nil
       go_simp
       go_wp2_with(go_at_call 72;refine(wN _).mono ?_;rintro e w6 ⟨rfl,hb6⟩)
       refine Q.out _ _ (d.trans (hb6.mono d.size)) (λo=> ?_);clear Q K0;refine gI 33 72 (.bool true) rfl rfl (by kernel_rfl) (by kernel_rfl) (by kernel_rfl) (λ_ _ _ h=>h) (by rfl) (λx c=>by obtain⟨⟨r,s1⟩,⟨s2,s3,y⟩,z,A⟩:=q x c;clear c;go_simp) o ?_;simp only[Act.put,setIfInBounds_toArray,set_cons_zero,set_cons_succ];refine gI 34 73 (.bool true) rfl rfl (by kernel_rfl) (by kernel_rfl) (by kernel_rfl) (λ_ _ _ h=>h) (by rfl) (λx c=>by obtain⟨⟨r,s1⟩,⟨s2,s3,y⟩,z,A⟩:=q x c;clear c;go_simp) o ?_;simp only[Act.put,setIfInBounds_toArray,set_cons_zero,set_cons_succ];refine gI 35 74 (.bool true) rfl rfl (by kernel_rfl) (by kernel_rfl) (by kernel_rfl) (λ_ _ _ h=>h) (by rfl) (λx c=>by obtain⟨⟨r,s1⟩,⟨s2,s3,y⟩,z,A⟩:=q x c;clear c;go_simp) o ?_;simp only[Act.put,setIfInBounds_toArray,set_cons_zero,set_cons_succ];refine gI 36 75 (.bool true) rfl rfl (by kernel_rfl) (by kernel_rfl) (by kernel_rfl) (λ_ _ _ h=>h) (by rfl) (λx c=>by obtain⟨⟨r,s1⟩,⟨s2,s3,y⟩,z,A⟩:=q x c;clear c;go_simp) o ?_;simp only[Act.put,setIfInBounds_toArray,set_cons_zero,set_cons_succ];refine gI 37 3 (.bool true) rfl rfl (by kernel_rfl) (by kernel_rfl) (by kernel_rfl) (λ_ _ _ h=>h) (by rfl) (λx c=>by obtain⟨⟨r,s1⟩,⟨s2,s3,y⟩,z,A⟩:=q x c;clear c;go_simp) o ?_;simp only[Act.put,setIfInBounds_toArray,set_cons_zero,set_cons_succ];refine wpAnyH_done (by kernel_rfl) ?_ _
       go_wp2_with fail
       go_meet;exact⟨rfl,o⟩
      case rest=>
       obtain⟨rfl,x2⟩:=hcut;have G:=M.more x2 (by omega);clear Z c1 T z0 z1 L F m;generalize x4:wc=wy at*;clear x4;have m:=(G.nX xb K J).trans D;have z0:wy.cell? ⟨xb,0,none⟩=some (.slice (some ⟨g,0,none⟩) (n+3) (n+3)):=(af m).trans rfl;have L:=aC m;have F:g<wy.heap.size:=G.row.lt;clear m;go_upto_region 10 with fail
       go_region_with(go_at_call 139;refine(pO _).mono ?_;rintro e w7 ⟨rfl,hb7⟩;have f:=G.more (x:=w7) (by first|exact hb7|exact((refl _ _).drew).trans (hb7.mono (le_refl _))) (by omega);have x6:=(af (j:=0) ((f.nX xb K J).trans D)).trans rfl;have C0:=aC ((f.nX xb K J).trans D);have B4:g<w7.heap.size:=f.row.lt;have Z:=f.row.cell (i:=i*3) (by dsimp only;omega);have c1:=f.row.cell (i:=i*3+1) (by dsimp only;omega);have T:=f.row.cell (i:=i*3+2) (by dsimp only;omega);have f0:=f.row.frozen (i*3);have f1:=f.row.frozen (i*3+1);have f2:=f.row.frozen (i*3+2);dsimp only at Z c1 T f0 f1 f2 x6);all_goals go_wp2_with fail
       all_goals go_roundg (n+3- (i+1))
       all_goals first
        |omega
        |exact⟨i+1,rfl,by omega,rfl,by go_num,f.FV Y rfl rfl rfl⟩
        |exact⟨i+1,rfl,by omega,rfl,by go_num,(f.more (refl _ _).drew (by omega)).FV Y rfl rfl rfl⟩
    ·obtain rfl:i=n+3:=by omega
     have hN:=O.next hl M HF.out.apart;clear M O
     go_wp2_with fail
     go_roundg (C.length- (k+1))
     all_goals first
      |omega
      |exact⟨k+1,rfl,by omega,rfl,by go_num,hN⟩
  ·obtain rfl:k=C.length:=by omega
   clear W
   go_wp2_with fail
   exact A9.out _ _ _ _ _ _ _ _ _ _ _ _ _ _ _ _ _ _ _ _ _ _ _ _ _ _ _ _ _ _ _ _ _ _ _ _ _ _ _ _ _ _ _ _ _ _ _ _ _ _ _ _ _ _ _ _ _ _ _ _ _ _ _ _ _ _ _ _ _ hI
def TS(f:Func):Code:=((f.body.bind (jM 4)).getD .skip)
theorem GG(w0 w:World)(q:Nat)(lv:Array Value)(a:Option Addr)(ac:Nat)(X:List Ln)(hO:w.heap[q]? =some (.cells lv 118 (0,0)))(H9:lv[2]? =some (.slice a X.length ac))(hL:bP (rV La w0 1) w 9 294 1 rR q (.slice a X.length ac) X)
  (H4:Below w0.heap.size w0 w) (o2:w0.heap.size<=q) (M2:X.length<=2199023255552) (u1 u2 u4 u5 u6 u8 u9 o8 q1 r2 s4 v2 w1 w2 w3 w4 w5 w6 w7 w8 w9 x0 x1 x2 x3 x4 x5 x6 x7 x8 x9 y0 y1 y2 y3 y4 y5 y7 y8 y9 z2 z3 z4 z5 z6 z7 z8 z9 A0 A1 A2 A3 A4 A5 A6 A7 A8 A9 B0 B1 B2 B3 B4 B5 B6 B7 B8 B9 C0 C1 C2 C3 C4 C5 C6 C7 C8 C9 I3 I4 I5 I6 I7 I8 I9 J1 J2 J3 J4 J5 J6 J7 J8 J9 K1 K2 K3 o9 p2 p3 p4 p5 p6 p7 p8 p9 q0 q2 q3 q4 q5 q6 q7 q8 q9 r0 r1 r3 r4 r5 r6 r7 r8 r9 s0 s1 s2 s5 s6 s7 s8 s9 u0 u3 u7 v0 v1 v3 v4 v5 v6 E F G H I J K L M N O Q R S T U V W Y Z a0 a1 a2 a3 a4 a5 a6 a7 a8 a9 b0 b1 b2 b3 b4 b5 b6 b7 b8 b9 c1 c3 c4 c5 c6 c7 c8 c9 e0 e1 e2 e3 e4 e5 e6 e7 e8 e9 g0 g1 g2 g3 g4 g5 g6 g7 g8 g9 h0 h1 h2 h3 h4 h5 h6 h7 h8 h9 i0 i1 i2 i3 i4 i5 i6 i7 i8 i9 j0 j1 j2 j3 j4 j5 j6 j7 j8 j9 k0 k1 k2 k3 k4 k5 k6 k7 k8 k9 l0 l4 l5 l7 l8 l9 m0 m1 m2 m3 m4 m5 m6 m7 m8 m9 n0 n1 n2 n3 n4:Value) (K0:Act->World->Prop) (P:Ending->World->Prop)
  (o4:∀(v7 v8 v9 K4 K5 K6 K7 v85 K8 K9 L0 L1 L2 L3 L4 L5 L6 L7 L8 L9 M0 M1 D0 D1 D2 D3 D4 D5 D6 D7 D8 D9 E0 E1 E2 E3 E4 E5 E6 E7 E8 E9 F0 F1 F2 F3 F4 F5 F6 v127 F7 F8 F9 G0 G1 G2 G3 G4 G5 G6 G7 G8 G9 H0 H1 v143:Value) (wx:World),fG w wx q 9 1 rR Qw X X.length->K0 ⟨#[.pointer (some ⟨q,0,none⟩),u1,u2,.bool true,u4,u5,u6,v7,v8,v9,o8,q1,r2,s4,v2,w1,w2,w3,w4,w5,w6,w7,w8,w9,x0,x1,x2,x3,x4,x5,x6,x7,x8,x9,y0,y1,y2,y3,y4,y5,y7,y8,y9,z2,z3,z4,z5,z6,z7,z8,z9,A0,A1,A2,A3,A4,A5,A6,A7,A8,A9,B0,B1,B2,B3,B4,B5,B6,B7,B8,B9,C0,C1,C2,C3,C4,C5,C6,C7,C8,C9,K4,K5,K6,K7,v85,K8,K9,L0,L1,L2,L3,L4,L5,L6,L7,L8,L9,M0,M1,D0,D1,D2,D3,D4,D5,D6,D7,D8,D9,E0,E1,E2,E3,E4,E5,E6,E7,E8,E9,F0,F1,F2,F3,F4,F5,F6,v127,F7,F8,F9,G0,G1,G2,G3,G4,G5,G6,G7,G8,G9,H0,H1,v143,E,F,G,H,I,J,K,L,M,N,O,Q,R,S,T,U,V,W,Y,Z,a0,a1,a2,a3,a4,a5,a6,a7,a8,a9,b0,b1,b2,b3,b4,b5,b6,b7,b8,b9,c1,c3,c4,c5,c6,c7,c8,c9,e0,e1,e2,e3,e4,e5,e6,e7,e8,e9,g0,g1,g2,g3,g4,g5,g6,g7,g8,g9,h0,h1,h2,h3,h4,h5,h6,h7,h8,h9,i0,i1,i2,i3,i4,i5,i6,i7,i8,i9,j0,j1,j2,j3,j4,j5,j6,j7,j8,j9,k0,k1,k2,k3,k4,k5,k6,k7,k8,k9,l0,l4,l5,l7,l8,l9,m0,m1,m2,m3,m4,m5,m6,m7,m8,m9,n0,n1,n2,n3,n4],[]⟩ wx):
  Code.wp prog (TS Tryz.f82) (Exit.then K0 (bodyPost prog Tryz.f82 P)) ⟨#[.pointer (some ⟨q,0,none⟩),u1,u2,.bool true,u4,u5,u6,.int .i64 0,u8,u9,o8,q1,r2,s4,v2,w1,w2,w3,w4,w5,w6,w7,w8,w9,x0,x1,x2,x3,x4,x5,x6,x7,x8,x9,y0,y1,y2,y3,y4,y5,y7,y8,y9,z2,z3,z4,z5,z6,z7,z8,z9,A0,A1,A2,A3,A4,A5,A6,A7,A8,A9,B0,B1,B2,B3,B4,B5,B6,B7,B8,B9,C0,C1,C2,C3,C4,C5,C6,C7,C8,C9,I3,I4,I5,I6,I7,I8,I9,J1,J2,J3,J4,J5,J6,J7,J8,J9,K1,K2,K3,o9,p2,p3,p4,p5,p6,p7,p8,p9,q0,q2,q3,q4,q5,q6,q7,q8,q9,r0,r1,r3,r4,r5,r6,r7,r8,r9,s0,s1,s2,s5,s6,s7,s8,s9,u0,u3,u7,v0,v1,v3,v4,v5,v6,E,F,G,H,I,J,K,L,M,N,O,Q,R,S,T,U,V,W,Y,Z,a0,a1,a2,a3,a4,a5,a6,a7,a8,a9,b0,b1,b2,b3,b4,b5,b6,b7,b8,b9,c1,c3,c4,c5,c6,c7,c8,c9,e0,e1,e2,e3,e4,e5,e6,e7,e8,e9,g0,g1,g2,g3,g4,g5,g6,g7,g8,g9,h0,h1,h2,h3,h4,h5,h6,h7,h8,h9,i0,i1,i2,i3,i4,i5,i6,i7,i8,i9,j0,j1,j2,j3,j4,j5,j6,j7,j8,j9,k0,k1,k2,k3,k4,k5,k6,k7,k8,k9,l0,l4,l5,l7,l8,l9,m0,m1,m2,m3,m4,m5,m6,m7,m8,m9,n0,n1,n2,n3,n4],[]⟩ w:=by
 conv=>arg 2;whnf
 have H2:Hid _:=o4;have I0:fG w w q 9 1 rR Qw X 0:=fG.start hL;have HF:Hid _:=hL;have H3:Hid _:=(ic hL).2;have HO:Hid _:=hO;have M9:=aC hO;clear o4 hL hO
 go_wp2_with fail
 go_loopg [3,7] X.length (λgk o0 kv wr=>∃k:Nat,gk=X.length- k/\k<=X.length/\o0=.bool true/\kv=.int .i64 (k:Int)/\fG w wr q 9 1 rR Qw X k)
 case atStart=>exact⟨0,rfl,zero_le _,rfl,rfl,I0⟩
 case round=>
  obtain⟨k,n6,hk,rfl,rfl,hI⟩:=hrel;subst n6;clear I0;generalize I2:wr=wo at*;clear I2;have A:=(hI.ag _ _ _ _ HO.out (by decide)).trans HO.out;have N0:=aC A;have y6:wo.cell? ⟨q,2,none⟩=some (.slice a X.length ac):=(af A).trans H9;by_cases H8:k<X.length
  ·obtain⟨y,rfl,M7,⟨o1,t⟩,m⟩:∃y,a=some ⟨y,0,none⟩/\y<w.heap.size/\(∃o1,w.heap[y]? =some (.cells o1 294 (0,0)))/\∀(k:Nat) (l:Ln),X[k]? =some l->w.cell? ⟨y,k*2,none⟩=some (.slice (some ⟨l.g,0,none⟩) (l.n+3) (l.n+3))/\w.cell? ⟨y,k*2+1,none⟩=some (.slice l.wo l.n l.wc):=by
    rcases H3.out with h|h
    ·omega
    ·exact h
   obtain⟨⟨g,n,f,wk,cs⟩,hl⟩:∃l,X[k]? =some l:=⟨_,List.getElem?_eq_getElem H8⟩;have C:=hI.ag _ _ _ _ t (by decide);have p0:=(cell?_of_block (w:=w) (a:=⟨y,k*2,none⟩) C).trans (m k _ hl).1;have p1:=(cell?_of_block (w:=w) (a:=⟨y,k*2+1,none⟩) C).trans (m k _ hl).2;have o6:y<wo.heap.size:=aC (C.trans t);have u:=HF.out.each _ (List.mem_of_getElem? hl);have o7:q<=g:=by have:=u.lo;dsimp only at this;omega
   have r:=hI.more ((refl _ wo).alloc (le_refl _) (.cells #[.slice (some ⟨g,0,none⟩) (n+3) (n+3),.slice f n wk] 294)) (by omega);have J0:jG (wo.alloc (.cells #[.slice (some ⟨g,0,none⟩) (n+3) (n+3),.slice f n wk] 294)) (wo.alloc (.cells #[.slice (some ⟨g,0,none⟩) (n+3) (n+3),.slice f n wk] 294)) q 9 1 rR Qw ⟨g,n,f,wk,cs⟩ 0:=jG.start r hl;have o:=heap_alloc_new wo (.cells #[.slice (some ⟨g,0,none⟩) (n+3) (n+3),.slice f n wk] 294);clear m t C hI
   go_wp2_with fail
   generalize H6:wo.alloc (.cells #[.slice (some ⟨g,0,none⟩) (n+3) (n+3),.slice f n wk] 294)=W1 at*;generalize N1:wo.heap.size=xb at*;have H5:Below w0.heap.size w0 W1:=H4.trans (r.lU.mono o2);have n9:=aC o;clear p0 p1 o6 y6 A H6;go_loopg [3,9] (n+3) (λgk o0 iv wx=>∃i:Nat,gk=(n+3)- i/\i<=n+3/\o0=.bool true/\iv=.int .i64 (i:Int)/\jG W1 wx q 9 1 rR Qw ⟨g,n,f,wk,cs⟩ i)
   case atStart=>exact⟨0,rfl,zero_le _,rfl,rfl,J0⟩
   case round=>
    obtain⟨i,n6,hi,rfl,rfl,z⟩:=hrel;subst n6;clear J0;have n7:xb≠g:=λe=>by
     obtain⟨c2,o5,_⟩:=r.todo k _ (le_refl _) hl;rw[e]at o;rw[o]at o5;cases o5
    have c:=(z.nX xb n9 n7).trans o;have I1:=u.small;dsimp only at I1;have z0:wr.cell? ⟨xb,0,none⟩=some (.slice (some ⟨g,0,none⟩) (n+3) (n+3)):=(af c).trans rfl;have z1:wr.cell? ⟨xb,1,none⟩=some (.slice f n wk):=(af c).trans rfl;have D:=aC c;have B:g<wr.heap.size:=z.row.lt;by_cases M8:i<n+3
    ·by_cases H7:i<n
     ·obtain⟨b,x,rfl,hb,hc⟩:∃b x,f=some ⟨b,x,none⟩/\b<w0.heap.size/\∀j v,cs[j]? =some v->w0.cell? ⟨b,x+j,none⟩=some v:=by
       rcases u.want.1.2 with h|h
       ·dsimp only at h;omega
       ·exact h
      obtain⟨s,t0⟩:=u.want.2 i H7;have o3:Below w0.heap.size w0 wr:=H5.trans (z.lU.mono o2);have c0:wr.cell? ⟨g,i,none⟩=some (.string s):=(z.row.cell (i:=i) (by dsimp only;omega)).trans (by rw[iB (by omega),iI t0]);have d0:wr.cell? ⟨b,x+i,none⟩=some (.string s):=(o3.cell (p:=⟨b,x+i,none⟩) hb).trans (hc _ _ t0);have M3:b<wr.heap.size:=by have:=o3.size;omega
      clear hc t0;go_upto_region 18 with fail
      go_cut [3] (λs3 wx=>s3=.bool true/\Below wr.heap.size wr wx)
      case first=>
       go_region;all_goals(go_wp2_with fail;go_meet)
       all_goals exact⟨rfl,by first|exact refl _ _|exact(refl _ _).drew⟩
      case rest=>
       obtain⟨rfl,n5⟩:=hcut;have d:=z.more n5 (by omega);clear c0 d0 z0 z1 D B c;generalize n8:wc=wy at*;clear n8;have c:=(d.nX xb n9 n7).trans o;have z0:wy.cell? ⟨xb,0,none⟩=some (.slice (some ⟨g,0,none⟩) (n+3) (n+3)):=(af c).trans rfl;have D:=aC c;have B:g<wy.heap.size:=d.row.lt;have c0:=d.row.cell (i:=i) (by dsimp only;omega);have f0:=d.row.frozen (i);dsimp only at c0 f0;clear c
       go_wp2_with fail
       go_roundg (n+3- (i+1))
       all_goals first
        |omega
        |exact⟨i+1,rfl,by omega,rfl,by go_num,d.Rz o7 rfl⟩
     ·have M4:decide ((i:Int)<(n:Int))=false:=by simp;omega
      have M5:n<=i:=by omega
      have M6:decide (n<=i)=true:=by simp;omega
      have c0:wr.cell? ⟨g,i,none⟩=some (.string ⟨#[98,101,121,111,110,100]⟩):=(z.row.cell (i:=i) (by dsimp only;omega)).trans (by rw[iB (by omega),gX (by have:=u.len;dsimp only at this;dsimp only;omega),Nat.mod_one];rfl);go_upto_region 18 with fail
      go_cut [3] (λs3 wx=>s3=.bool true/\Below wr.heap.size wr wx)
      case first=>
       go_region;all_goals(go_wp2_with fail;go_meet)
       all_goals exact⟨rfl,by first|exact refl _ _|exact(refl _ _).drew⟩
      case rest=>
       obtain⟨rfl,n5⟩:=hcut;have d:=z.more n5 (by omega);clear c0 z0 z1 D B c;generalize n8:wc=wy at*;clear n8;have c:=(d.nX xb n9 n7).trans o;have z0:wy.cell? ⟨xb,0,none⟩=some (.slice (some ⟨g,0,none⟩) (n+3) (n+3)):=(af c).trans rfl;have D:=aC c;have B:g<wy.heap.size:=d.row.lt;have c0:=d.row.cell (i:=i) (by dsimp only;omega);have f0:=d.row.frozen (i);dsimp only at c0 f0;clear c
       go_wp2_with fail
       go_roundg (n+3- (i+1))
       all_goals first
        |omega
        |exact⟨i+1,rfl,by omega,rfl,by go_num,d.Rz o7 rfl⟩
    ·obtain rfl:i=n+3:=by omega
     have hN:=r.next hl z HF.out.apart;clear z r
     go_wp2_with fail
     go_roundg (X.length- (k+1))
     all_goals first
      |omega
      |exact⟨k+1,rfl,by omega,rfl,by go_num,hN⟩
  ·obtain rfl:k=X.length:=by omega
   clear A
   go_wp2_with fail
   exact H2.out _ _ _ _ _ _ _ _ _ _ _ _ _ _ _ _ _ _ _ _ _ _ _ _ _ _ _ _ _ _ _ _ _ _ _ _ _ _ _ _ _ _ _ _ _ _ _ _ _ _ _ _ _ _ _ _ _ _ _ _ _ _ _ _ _ _ _ hI
def RS(f:Func):Code:=((f.body.bind (jM 12)).getD .skip)
theorem Jy(w0 w:World)(y:Nat)(lv:Array Value)(a:Option Addr)(ac:Nat)(K:List Ln)(hO:w.heap[y]? =some (.cells lv 118 (0,0)))(L9:lv[4]? =some (.slice a K.length ac))(hL:bP (rV KZ w0 3) w 50 290 3 rQ y (.slice a K.length ac) K)
  (L4:Below w0.heap.size w0 w) (m6:w0.heap.size<=y) (M7:K.length<=2199023255552) (u1 u2 u4 u5 u6 u7 u8 u9 n1 n2 n3 M2 M3 n4 n5 n6 n7 n8 o2 p5 q6 r7 s9 v8 x0 x3 x4 x5 x6 x7 x8 x9 y0 y1 y2 y3 y4 y5 y7 y8 y9 z2 z3 z4 z5 z6 z7 z8 z9 A0 A1 A2 A3 A4 A5 A6 A7 A8 A9 B0 B1 B2 B3 B4 B5 B6 B7 B8 B9 C0 C1 C2 C3 C4 C5 C6 C7 C8 C9 D0 D1 D2 D3 D4 D5 D6 D7 D8 D9 E0 E1 E2 E3 E4 E5 E6 E7 I J L M N O Q R S T U V W X Y Z a0 a1 a2 a3 a4 a5 a6 a7 a8 a9 b0 b1 b2 b3 b4 b5 b6 b7 b8 b9 c3 c4 c5 c6 c7 c8 c9 e0 e1 e2 e3 e4 e5 e6 e7 e8 e9 g0 g1 g2 g3 g4 g5 g6 g7 g8 g9 h0 h1 h2 h3 h4 h5 h6 h7 h8 h9 i0 i1 i2 i3 i4 i5 i6 i7 i8 i9 j0 j1 j2 j3 j4 j5 j6 j7 j8 j9 k0 k1 k2 k3 k4 k5 k6 k7 k8 k9 l0 l4 l5 l7 n9 o0 o1 o3 o4 o5 o6 o7 o8 o9 p2 p3 p4 p6 p7 p8 p9 q0 q1 q2 q3 q4 q5 q7 q8 q9 r0 r1 r2 r3 r4 r5 r6 r8 r9 s0 s1 s2 s4 s5 s6 s7 s8 u0 u3 v0 v1 v2 v3 v4 v5 v6 v7 v9 w1 w2 w3 w4 w5 w6 w7 w8 w9 x1 x2 l8:Value) (K0:Act->World->Prop) (P:Ending->World->Prop)
  (m7:∀(M4 M5 M6 E8 E9 F0 v210 F1 v212 F2 F3 F4 F5 F6 F7 F8 F9 G0 G1 G2 G3 G4 G5 G6 G7 G8 G9 H0 v232 v233 H1 H2 H3 H4 H5 H6 H7 H8 H9 I1 I2 I3 I4 I5 I6 I7 I8 I9 J1 J2 J3 J4 J5 J6 J7 J8 J9 K1 K2 K3 K4 K5 K6 K7 K8 K9 L0 L1:Value) (wx:World),fG w wx y 50 3 rQ Qv K K.length->K0 ⟨#[.pointer (some ⟨y,0,none⟩),u1,u2,.bool true,u4,u5,u6,u7,u8,u9,n1,n2,n3,M4,M5,M6,n4,n5,n6,n7,n8,o2,p5,q6,r7,s9,v8,x0,x3,x4,x5,x6,x7,x8,x9,y0,y1,y2,y3,y4,y5,y7,y8,y9,z2,z3,z4,z5,z6,z7,z8,z9,A0,A1,A2,A3,A4,A5,A6,A7,A8,A9,B0,B1,B2,B3,B4,B5,B6,B7,B8,B9,C0,C1,C2,C3,C4,C5,C6,C7,C8,C9,D0,D1,D2,D3,D4,D5,D6,D7,D8,D9,E0,E1,E2,E3,E4,E5,E6,E7,I,J,L,M,N,O,Q,R,S,T,U,V,W,X,Y,Z,a0,a1,a2,a3,a4,a5,a6,a7,a8,a9,b0,b1,b2,b3,b4,b5,b6,b7,b8,b9,c3,c4,c5,c6,c7,c8,c9,e0,e1,e2,e3,e4,e5,e6,e7,e8,e9,g0,g1,g2,g3,g4,g5,g6,g7,g8,g9,h0,h1,h2,h3,h4,h5,h6,h7,h8,h9,i0,i1,i2,i3,i4,i5,i6,i7,i8,i9,j0,j1,j2,j3,j4,j5,j6,j7,j8,j9,k0,k1,k2,k3,k4,k5,k6,k7,k8,k9,l0,l4,l5,l7,E8,E9,F0,v210,F1,v212,F2,F3,F4,F5,F6,F7,F8,F9,G0,G1,G2,G3,G4,G5,G6,G7,G8,G9,H0,v232,v233,H1,H2,H3,H4,H5,H6,H7,H8,H9,I1,I2,I3,I4,I5,I6,I7,I8,I9,J1,J2,J3,J4,J5,J6,J7,J8,J9,K1,K2,K3,K4,K5,K6,K7,K8,K9,L0,L1,l8],[]⟩ wx):
  Code.wp prog (RS Tryz.f82) (Exit.then K0 (bodyPost prog Tryz.f82 P)) ⟨#[.pointer (some ⟨y,0,none⟩),u1,u2,.bool true,u4,u5,u6,u7,u8,u9,n1,n2,n3,.int .i64 0,M2,M3,n4,n5,n6,n7,n8,o2,p5,q6,r7,s9,v8,x0,x3,x4,x5,x6,x7,x8,x9,y0,y1,y2,y3,y4,y5,y7,y8,y9,z2,z3,z4,z5,z6,z7,z8,z9,A0,A1,A2,A3,A4,A5,A6,A7,A8,A9,B0,B1,B2,B3,B4,B5,B6,B7,B8,B9,C0,C1,C2,C3,C4,C5,C6,C7,C8,C9,D0,D1,D2,D3,D4,D5,D6,D7,D8,D9,E0,E1,E2,E3,E4,E5,E6,E7,I,J,L,M,N,O,Q,R,S,T,U,V,W,X,Y,Z,a0,a1,a2,a3,a4,a5,a6,a7,a8,a9,b0,b1,b2,b3,b4,b5,b6,b7,b8,b9,c3,c4,c5,c6,c7,c8,c9,e0,e1,e2,e3,e4,e5,e6,e7,e8,e9,g0,g1,g2,g3,g4,g5,g6,g7,g8,g9,h0,h1,h2,h3,h4,h5,h6,h7,h8,h9,i0,i1,i2,i3,i4,i5,i6,i7,i8,i9,j0,j1,j2,j3,j4,j5,j6,j7,j8,j9,k0,k1,k2,k3,k4,k5,k6,k7,k8,k9,l0,l4,l5,l7,n9,o0,o1,o3,o4,o5,o6,o7,o8,o9,p2,p3,p4,p6,p7,p8,p9,q0,q1,q2,q3,q4,q5,q7,q8,q9,r0,r1,r2,r3,r4,r5,r6,r8,r9,s0,s1,s2,s4,s5,s6,s7,s8,u0,u3,v0,v1,v2,v3,v4,v5,v6,v7,v9,w1,w2,w3,w4,w5,w6,w7,w8,w9,x1,x2,l8],[]⟩ w:=by
 conv=>arg 2;whnf
 have L2:Hid _:=m7;have I0:fG w w y 50 3 rQ Qv K 0:=fG.start hL;have HF:Hid _:=hL;have L3:Hid _:=(ic hL).2;have HO:Hid _:=hO;have N4:=aC hO;clear m7 hL hO
 go_wp2_with fail
 go_loopg [3,13] K.length (λgk m4 kv wr=>∃k:Nat,gk=K.length- k/\k<=K.length/\m4=.bool true/\kv=.int .i64 (k:Int)/\fG w wr y 50 3 rQ Qv K k)
 case atStart=>exact⟨0,rfl,zero_le _,rfl,rfl,I0⟩
 case round=>
  obtain⟨k,m0,hk,rfl,rfl,hI⟩:=hrel;subst m0;clear I0;generalize M1:wr=wo at*;clear M1;have D:=(hI.ag _ _ _ _ HO.out (by decide)).trans HO.out;have N5:=aC D;have y6:wo.cell? ⟨y,4,none⟩=some (.slice a K.length ac):=(af D).trans L9;by_cases L8:k<K.length
  ·obtain⟨B,rfl,N2,⟨m5,A⟩,o⟩:∃B,a=some ⟨B,0,none⟩/\B<w.heap.size/\(∃m5,w.heap[B]? =some (.cells m5 290 (0,0)))/\∀(k:Nat) (l:Ln),K[k]? =some l->w.cell? ⟨B,k*2,none⟩=some (.slice (some ⟨l.g,0,none⟩) (l.n+3) (l.n+3))/\w.cell? ⟨B,k*2+1,none⟩=some (.slice l.wo l.n l.wc):=by
    rcases L3.out with h|h
    ·omega
    ·exact h
   obtain⟨⟨g,n,m,wk,cs⟩,hl⟩:∃l,K[k]? =some l:=⟨_,List.getElem?_eq_getElem L8⟩;have F:=hI.ag _ _ _ _ A (by decide);have p0:=(cell?_of_block (w:=w) (a:=⟨B,k*2,none⟩) F).trans (o k _ hl).1;have p1:=(cell?_of_block (w:=w) (a:=⟨B,k*2+1,none⟩) F).trans (o k _ hl).2;have m9:B<wo.heap.size:=aC (F.trans A);have q:=HF.out.each _ (List.mem_of_getElem? hl);have n0:y<=g:=by have:=q.lo;dsimp only at this;omega
   have z:=hI.more ((refl _ wo).alloc (le_refl _) (.cells #[.slice (some ⟨g,0,none⟩) (n+3) (n+3),.slice m n wk] 290)) (by omega);have J0:jG (wo.alloc (.cells #[.slice (some ⟨g,0,none⟩) (n+3) (n+3),.slice m n wk] 290)) (wo.alloc (.cells #[.slice (some ⟨g,0,none⟩) (n+3) (n+3),.slice m n wk] 290)) y 50 3 rQ Qv ⟨g,n,m,wk,cs⟩ 0:=jG.start z hl;have x:=heap_alloc_new wo (.cells #[.slice (some ⟨g,0,none⟩) (n+3) (n+3),.slice m n wk] 290);clear o A F hI
   go_wp2_with fail
   generalize L6:wo.alloc (.cells #[.slice (some ⟨g,0,none⟩) (n+3) (n+3),.slice m n wk] 290)=W1 at*;generalize N6:wo.heap.size=xb at*;have L5:Below w0.heap.size w0 W1:=L4.trans (z.lU.mono m6);have m3:=aC x;clear p0 p1 m9 y6 D L6;go_loopg [3,15] (n+3) (λgk m4 iv wx=>∃i:Nat,gk=(n+3)- i/\i<=n+3/\m4=.bool true/\iv=.int .i64 (i:Int)/\jG W1 wx y 50 3 rQ Qv ⟨g,n,m,wk,cs⟩ i)
   case atStart=>exact⟨0,rfl,zero_le _,rfl,rfl,J0⟩
   case round=>
    obtain⟨i,m0,hi,rfl,rfl,r⟩:=hrel;subst m0;clear J0;have m1:xb≠g:=λe=>by
     obtain⟨H,m8,_⟩:=z.todo k _ (le_refl _) hl;rw[e]at x;rw[x]at m8;cases m8
    have c:=(r.nX xb m3 m1).trans x;have M0:=q.small;dsimp only at M0;have z0:wr.cell? ⟨xb,0,none⟩=some (.slice (some ⟨g,0,none⟩) (n+3) (n+3)):=(af c).trans rfl;have z1:wr.cell? ⟨xb,1,none⟩=some (.slice m n wk):=(af c).trans rfl;have G:=aC c;have E:g<wr.heap.size:=r.row.lt;by_cases N3:i<n+3
    ·by_cases L7:i<n
     ·obtain⟨b,f,rfl,hb,hc⟩:∃b f,m=some ⟨b,f,none⟩/\b<w0.heap.size/\∀j v,cs[j]? =some v->w0.cell? ⟨b,f+j,none⟩=some v:=by
       rcases q.want.1.2 with h|h
       ·dsimp only at h;omega
       ·exact h
      obtain⟨s,t,u,t0,t1,t2⟩:=q.want.2 i L7;have C:Below w0.heap.size w0 wr:=L5.trans (r.lU.mono m6);have c0:wr.cell? ⟨g,i*3,none⟩=some (.string s):=(r.row.cell (i:=i*3) (by dsimp only;omega)).trans (by rw[iB (by omega),iI t0]);have c1:wr.cell? ⟨g,i*3+1,none⟩=some (.string t):=(r.row.cell (i:=i*3+1) (by dsimp only;omega)).trans (by rw[iB (by omega),iI t1]);have H:wr.cell? ⟨g,i*3+2,none⟩=some (.int .i64 u):=(r.row.cell (i:=i*3+2) (by dsimp only;omega)).trans (by rw[iB (by omega),iI t2]);have d0:wr.cell? ⟨b,f+i*3,none⟩=some (.string s):=(C.cell (p:=⟨b,f+i*3,none⟩) hb).trans (hc _ _ t0);have d1:wr.cell? ⟨b,f+i*3+1,none⟩=some (.string t):=(C.cell (p:=⟨b,f+i*3+1,none⟩) hb).trans (hc _ _ t1);have d2:wr.cell? ⟨b,f+i*3+2,none⟩=some (.int .i64 u):=(C.cell (p:=⟨b,f+i*3+2,none⟩) hb).trans (hc _ _ t2);have M8:b<wr.heap.size:=by have:=C.size;omega
      clear hc t0 t1 t2;go_upto_region 36 with fail
      go_cut [3] (λs3 wx=>s3=.bool true/\Below wr.heap.size wr wx)
      case first=>
       go_region;all_goals(go_wp2_with fail;go_meet)
       all_goals exact⟨rfl,by first|exact refl _ _|exact(refl _ _).drew⟩
      case rest=>
       obtain⟨rfl,l9⟩:=hcut;have d:=r.more l9 (by omega);clear c0 d0 c1 d1 H d2 z0 z1 G E c;generalize m2:wc=wy at*;clear m2;have c:=(d.nX xb m3 m1).trans x;have z0:wy.cell? ⟨xb,0,none⟩=some (.slice (some ⟨g,0,none⟩) (n+3) (n+3)):=(af c).trans rfl;have G:=aC c;have E:g<wy.heap.size:=d.row.lt;have c0:=d.row.cell (i:=i*3) (by dsimp only;omega);have c1:=d.row.cell (i:=i*3+1) (by dsimp only;omega);have H:=d.row.cell (i:=i*3+2) (by dsimp only;omega);have f0:=d.row.frozen (i*3);have f1:=d.row.frozen (i*3+1);have f2:=d.row.frozen (i*3+2);dsimp only at c0 f0 c1 f1 H f2;clear c
       go_wp2_with fail
       go_roundg (n+3- (i+1))
       all_goals first
        |omega
        |exact⟨i+1,rfl,by omega,rfl,by go_num,d.FV n0 rfl rfl rfl⟩
     ·have M9:decide ((i:Int)<(n:Int))=false:=by simp;omega
      have N0:n<=i:=by omega
      have N1:decide (n<=i)=true:=by simp;omega
      have c0:wr.cell? ⟨g,i*3,none⟩=some (.string ⟨#[98,101,121,111,110,100]⟩):=(r.row.cell (i:=i*3) (by dsimp only;omega)).trans (by rw[iB (by omega),gX (by have:=q.len;dsimp only at this;dsimp only;omega),show(i*3) % 3=0 by omega];rfl);have c1:wr.cell? ⟨g,i*3+1,none⟩=some (.string ⟨#[]⟩):=(r.row.cell (i:=i*3+1) (by dsimp only;omega)).trans (by rw[iB (by omega),gX (by have:=q.len;dsimp only at this;dsimp only;omega),show(i*3+1) % 3=1 by omega];rfl);have H:wr.cell? ⟨g,i*3+2,none⟩=some (.int .i64 0):=(r.row.cell (i:=i*3+2) (by dsimp only;omega)).trans (by rw[iB (by omega),gX (by have:=q.len;dsimp only at this;dsimp only;omega),show(i*3+2) % 3=2 by omega];rfl);go_upto_region 36 with fail
      go_cut [3] (λs3 wx=>s3=.bool true/\Below wr.heap.size wr wx)
      case first=>
       go_region;all_goals(go_wp2_with fail;go_meet)
       all_goals exact⟨rfl,by first|exact refl _ _|exact(refl _ _).drew⟩
      case rest=>
       obtain⟨rfl,l9⟩:=hcut;have d:=r.more l9 (by omega);clear c0 c1 H z0 z1 G E c;generalize m2:wc=wy at*;clear m2;have c:=(d.nX xb m3 m1).trans x;have z0:wy.cell? ⟨xb,0,none⟩=some (.slice (some ⟨g,0,none⟩) (n+3) (n+3)):=(af c).trans rfl;have G:=aC c;have E:g<wy.heap.size:=d.row.lt;have c0:=d.row.cell (i:=i*3) (by dsimp only;omega);have c1:=d.row.cell (i:=i*3+1) (by dsimp only;omega);have H:=d.row.cell (i:=i*3+2) (by dsimp only;omega);have f0:=d.row.frozen (i*3);have f1:=d.row.frozen (i*3+1);have f2:=d.row.frozen (i*3+2);dsimp only at c0 f0 c1 f1 H f2;clear c
       go_wp2_with fail
       go_roundg (n+3- (i+1))
       all_goals first
        |omega
        |exact⟨i+1,rfl,by omega,rfl,by go_num,d.FV n0 rfl rfl rfl⟩
    ·obtain rfl:i=n+3:=by omega
     have hN:=z.next hl r HF.out.apart;clear r z
     go_wp2_with fail
     go_roundg (K.length- (k+1))
     all_goals first
      |omega
      |exact⟨k+1,rfl,by omega,rfl,by go_num,hN⟩
  ·obtain rfl:k=K.length:=by omega
   clear D
   go_wp2_with fail
   exact L2.out _ _ _ _ _ _ _ _ _ _ _ _ _ _ _ _ _ _ _ _ _ _ _ _ _ _ _ _ _ _ _ _ _ _ _ _ _ _ _ _ _ _ _ _ _ _ _ _ _ _ _ _ _ _ _ _ _ _ _ _ _ _ _ _ _ _ _ _ _ hI
structure uZ(w w':World)(mb:Nat)(C X K:List Ln):Prop where
 c:∀l∈C,rP w' 56 3 Rx l
 x:∀l∈X,rP w' 9 1 Qw l
 k:∀l∈K,rP w' 50 3 Qv l
 ag:dU w w' [56,9,50]
 lU:Below mb w w'
 nX:∀(q:Nat) (cur:Array Value) (fz:Nat × Nat),w.heap[q]? =some (.cells cur 9 fz)->(∀l∈X,q≠l.g)->w'.heap[q]? =w.heap[q]?
theorem MR(w0 w:World)(g:Nat)(v1 v5 v6:Value)(a1:Option Addr)(u k:Nat)(a2:Option Addr)(v m:Nat)(a3:Option Addr)(x n:Nat)(C X K:List Ln)(I:w.heap[g]? =some (.cells #[.slice a1 u k,v1,.slice a2 v m,.slice none 0 0,.slice a3 x n,v5,v6,.slice none 0 0,.slice none 0 0] 118 (0,0)))
  (G:bP (rV Hu w0 3) w 56 227 3 oF g (.slice a1 u k) C) (J:bP (rV La w0 1) w 9 294 1 rR g (.slice a2 v m) X) (H:bP (rV KZ w0 3) w 50 290 3 rQ g (.slice a3 x n) K)
  (T:Below w0.heap.size w0 w) (d:w0.heap.size<=g) (M:C.length<=2199023255552) (O:X.length<=2199023255552) (N:K.length<=2199023255552):
  Calls prog 82 #[.pointer (some ⟨g,0,none⟩)] w λe w'=>e=.returned (.bool true)/\uZ w w' g C X K:=by
 have m9:=aC I;obtain⟨rfl,_⟩:=ic G;obtain⟨rfl,_⟩:=ic J;obtain⟨rfl,_⟩:=ic H;have r:Hid _:=J;have p:Hid _:=H;have o:Hid _:=G;have B:Hid _:=I;clear J H I G;go_enter Tryz.func82,Tryz.ntmps82;go_upto_block 0 with fail
 refine GD w0 w g _ a1 k C B.out rfl o.out T d M _ _ _ _ _ _ _ _ _ _ _ _ _ _ _ _ _ _ _ _ _ _ _ _ _ _ _ _ _ _ _ _ _ _ _ _ _ _ _ _ _ _ _ _ _ _ _ _ _ _ _ _ _ _ _ _ _ _ _ _ _ _ _ _ _ _ _ _ _ _ _ _ _ _ _ _ _ _ _ _ _ _ _ _ _ _ _ _ _ _ _ _ _ _ _ _ _ _ _ _ _ _ _ _ _ _ _ _ _ _ _ _ _ _ _ _ _ _ _ _ _ _ _ _ _ _ _ _ _ _ _ _ _ _ _ _ _ _ _ _ _ _ _ _ _ _ _ _ _ _ _ _ _ _ _ _ _ _ _ _ _ _ _ _ _ _ _ _ _ _ _ _ _ _ _ _ _ _ _ _ _ _ _ _ _ _ _ _ _ _ _ _ _ _ _ _ _ _ _ _ _ _ _ _ _ _ _ _ _ _ _ _ _ _ _ _ _ _ _ _ _ _ _ _ _ _ _ _ _ _ _ _ _ _ _ _ _ _ _ _ _ _ _ _ _ _ _ _ _ _ _ _ _ _ _ _ _ _ _ _ _ _ _ _ _ _ _ _ _ _ _ _ ?_;intro v4 v5 v6 n3 n4 n5 n6 v20 v21 n7 n8 n9 o0 o1 o2 o3 o4 o5 o6 o7 o8 o9 p0 p1 v37 p2 p3 p4 p5 p6 p7 p8 p9 v46 q0 q1 q2 q3 v51 q4 v53 q5 q6 q7 q8 q9 r0 r1 r2 r3 r4 r5 r6 r7 r8 r9 s0 v70 s1 v72 s2 s3 v75 v76 s4 s5 s6 s7 w1 b;dsimp only;have t:Hid _:=r.out.eQ b.ag (by decide) (by decide);have s:Hid _:=p.out.eQ b.ag (by decide) (by decide);have i:Hid _:=(b.ag _ _ _ _ B.out (by decide)).trans B.out;have z:Below w0.heap.size w0 w1:=T.trans (b.lU.mono d);have h:Hid _:=b;clear r p B b o;go_upto_block 4 with fail
 refine GG w0 w1 g _ a2 m X i.out rfl t.out z d O _ _ _ _ _ _ _ _ _ _ _ _ _ _ _ _ _ _ _ _ _ _ _ _ _ _ _ _ _ _ _ _ _ _ _ _ _ _ _ _ _ _ _ _ _ _ _ _ _ _ _ _ _ _ _ _ _ _ _ _ _ _ _ _ _ _ _ _ _ _ _ _ _ _ _ _ _ _ _ _ _ _ _ _ _ _ _ _ _ _ _ _ _ _ _ _ _ _ _ _ _ _ _ _ _ _ _ _ _ _ _ _ _ _ _ _ _ _ _ _ _ _ _ _ _ _ _ _ _ _ _ _ _ _ _ _ _ _ _ _ _ _ _ _ _ _ _ _ _ _ _ _ _ _ _ _ _ _ _ _ _ _ _ _ _ _ _ _ _ _ _ _ _ _ _ _ _ _ _ _ _ _ _ _ _ _ _ _ _ _ _ _ _ _ _ _ _ _ _ _ _ _ _ _ _ _ _ _ _ _ _ _ _ _ _ _ _ _ _ _ _ _ _ _ _ _ _ _ _ _ _ _ _ _ _ _ _ _ _ _ _ _ _ _ _ _ _ _ _ _ _ _ _ _ _ _ _ _ _ _ _ _ _ _ _ _ _ _ _ _ _ _ ?_;intro v7 v8 v9 s8 s9 u0 u1 v85 u2 u3 u4 u5 u6 u7 u8 u9 v0 v2 v3 w4 w5 w6 U V W Y Z a0 a4 a5 a6 a7 a8 a9 b0 b1 b2 b3 b4 b5 b6 b7 b8 b9 c0 c1 c2 c3 c4 v127 c5 c6 c7 c8 c9 e0 e3 e4 e5 e6 e7 e8 e9 g0 g1 v143 w2 f;dsimp only;have D:Hid _:=s.out.eQ f.ag (by decide) (by decide);have j:Hid _:=(f.ag _ _ _ _ i.out (by decide)).trans i.out;have F:Below w0.heap.size w0 w2:=z.trans (f.lU.mono d);have c:Hid _:=f;clear t s i f;have m8:=aC j.out;have y3:w2.cell? ⟨g,3,none⟩=some (.slice none 0 0):=(af j.out).trans rfl
 go_wp2_with fail
 go_loopw [3,10] (λov iv wx=>ov=.bool true/\iv=.int .i64 0/\wx=w2) (λ_ _ _=>0)
 case atStart=>exact⟨rfl,rfl,rfl⟩
 case round=>
  obtain⟨rfl,rfl,Q⟩:=hrel
  cases Q;go_upto_block 12 with fail
  refine Jy w0 w2 g _ a3 n K j.out rfl D.out F d N _ _ _ _ _ _ _ _ _ _ _ _ _ _ _ _ _ _ _ _ _ _ _ _ _ _ _ _ _ _ _ _ _ _ _ _ _ _ _ _ _ _ _ _ _ _ _ _ _ _ _ _ _ _ _ _ _ _ _ _ _ _ _ _ _ _ _ _ _ _ _ _ _ _ _ _ _ _ _ _ _ _ _ _ _ _ _ _ _ _ _ _ _ _ _ _ _ _ _ _ _ _ _ _ _ _ _ _ _ _ _ _ _ _ _ _ _ _ _ _ _ _ _ _ _ _ _ _ _ _ _ _ _ _ _ _ _ _ _ _ _ _ _ _ _ _ _ _ _ _ _ _ _ _ _ _ _ _ _ _ _ _ _ _ _ _ _ _ _ _ _ _ _ _ _ _ _ _ _ _ _ _ _ _ _ _ _ _ _ _ _ _ _ _ _ _ _ _ _ _ _ _ _ _ _ _ _ _ _ _ _ _ _ _ _ _ _ _ _ _ _ _ _ _ _ _ _ _ _ _ _ _ _ _ _ _ _ _ _ _ _ _ _ _ _ _ _ _ _ _ _ _ _ _ _ _ _ _ _ _ _ _ _ _ _ _ _ _ _ _ _ _ ?_;intro n0 n1 n2 g2 g3 g4 v210 g5 v212 g6 g7 g8 g9 h1 h2 h3 h4 h5 h6 h7 h8 h9 i0 i1 i2 i3 i4 i5 v232 v233 i6 i7 i8 i9 j0 j1 j2 j3 j4 j5 j6 j7 j8 j9 k0 k1 k2 k3 k4 k5 k6 k7 k8 k9 l0 l4 l5 l7 l8 l9 m0 m1 m2 m3 m4 m5 m6 m7 w3 A;dsimp only;have a:Hid _:=A;clear A
  go_wp2_with fail
  go_ret;refine⟨rfl,λl L=> ?_,λl L=> ?_,a.out.all, ?_,(h.out.lU.trans c.out.lU).trans a.out.lU,λq y S P hn=> ?_⟩
  ·exact iM (iM (h.out.all l L) c.out.ag (by decide)) a.out.ag (by decide)
  ·exact iM (c.out.all l L) a.out.ag (by decide)
  ·exact((h.out.ag.mono (by decide)).trans (c.out.ag.mono (by decide))).trans (a.out.ag.mono (by decide))
  ·have E:=h.out.ag q y _ S P (by decide);have R:=c.out.nX q (aC (E.trans P)) hn;exact(a.out.ag q y _ S ((R.trans E).trans P) (by decide)).trans (R.trans E)
abbrev KV:List TypeId:=[56,9,50,57,54,48]
theorem yQ(w0 w:World)(a:Nat)(C R X K B F:List Ln)(V:bZ w0 w a C R X K B F)(m:UM C R X K B F)(r:Below w0.heap.size w0 w)(b:w0.heap.size<=a):
  Calls prog 39 #[.pointer (some ⟨a,0,none⟩)] w λe w'=>e=.returned (.bool true)/\Below a w w'/\dU w w' KV/\∀(q:Nat) (f:Array Value) (i:Nat × Nat),w.heap[q]? =some (.cells f 9 i)->(∀l∈X,q≠l.g)->w'.heap[q]? =w.heap[q]? :=by
 obtain⟨vc,vr,vx,vk,vb,vf,⟨⟨a1,b1,O,rfl⟩,⟨a2,b2,P,rfl⟩,⟨a3,b3,Q,rfl⟩,⟨a4,b4,S,rfl⟩,⟨a5,b5,T,rfl⟩,⟨M,N,U,rfl⟩⟩,h,s,H,z,u,G,hF⟩:=V;obtain⟨l1,l2,l3,Y,Z,l6⟩:=m;have L:=MR w0 w a _ _ _ a1 b1 O a3 b3 Q a4 b4 S C X K h s z u r b l1 l3 Y;have t:∀l∈C,l.n<=1048576:=λl j=>(s.each l j).small;have A:∀l∈X,l.n<=1048576:=λl j=>(z.each l j).small;have v:∀l∈K,l.n<=1048576:=λl j=>(u.each l j).small;have o:∀x:World,uZ w x a C X K->Calls prog 83 #[.pointer (some ⟨a,0,none⟩)] x λe w'=>e=.returned (.bool true)/\dU x w' [57,54]/\Below a x w':=λx d=>
  Mf w0 x a _ _ _ _ a2 b2 P a5 b5 T C R X K B ((d.ag _ _ _ _ h (by decide)).trans h) (H.eQ d.ag (by decide) (by decide)) (G.eQ d.ag (by decide) (by decide)) d.c t d.x A d.k v (r.trans (d.lU.mono b)) b l2 Z
 have J:∀x y:World,uZ w x a C X K->dU x y [57,54]->Below a x y->Calls prog 84 #[.pointer (some ⟨a,0,none⟩)] y λe w'=>e=.returned (.bool true)/\Below a y w'/\dU y w' [48]:=λx y d I hb=>
  ME w0 y a _ _ _ _ _ M N U F ((I _ _ _ _ ((d.ag _ _ _ _ h (by decide)).trans h) (by decide)).trans ((d.ag _ _ _ _ h (by decide)).trans h)) ((hF.eQ d.ag (by decide) (by decide)).eQ I (by decide) (by decide)) ((r.trans (d.lU.mono b)).trans (hb.mono b)) b l6
 clear h s H z u G hF;go_enter Tryz.func39,Tryz.ntmps39
 go_wp2_with(first
  |(go_at_call 82;refine L.mono ?_;rintro e w2 ⟨rfl,hs2⟩)
  |(go_at_call 83;refine(o _ hs2).mono ?_;rintro e w3 ⟨rfl,hk3,hb3⟩)
  |(go_at_call 84;refine(J _ _ hs2 hk3 hb3).mono ?_;rintro e w4 ⟨rfl,hb4,hk4⟩))
 go_ret;refine⟨rfl,(hs2.lU.trans hb3).trans hb4,((hs2.ag.mono (by decide)).trans (hk3.mono (by decide))).trans (hk4.mono (by decide)),λq f i D W=> ?_⟩;have p:=hs2.nX q f i D W;have E:=hk3 q f _ i (p.trans D) (by decide);exact(hk4 q f _ i ((E.trans p).trans D) (by decide)).trans (E.trans p)
end Go.Proofs.YtdifpeaklamhnaaGreatDoor

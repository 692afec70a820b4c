import Derived.Test.YtdifpeaklamhnaaGreatDoorLoLZ
import Derived.Deep.RegionHeld2
set_option linter.unusedVariables false
set_option linter.unusedSimpArgs false
set_option maxRecDepth 100000
set_option maxHeartbeats 0
namespace Go.Proofs.YtdifpeaklamhnaaGreatDoor
open Go.Proofs.Tryz
open Go.RowKit
open Below (refl)
open Nat (zero_le le_refl)
open World (cell?_of_block)
def TD(f:Func):Code:=((f.body.bind (jM 4)).getD .skip)
theorem Ct(w0 w:World)(G:Nat)(lv:Array Value)(a:Option Addr)(ac:Nat)(R X K B:List Ln)(hO:w.heap[G]? =some (.cells lv 118 (0,0)))(O2:lv[5]? =some (.slice a B.length ac))(hL:bP (SS w0 K R X) w 54 190 6 yJ G (.slice a B.length ac) B)
  (hR:∀l∈R,rP w 57 1 SG l) (N4:∀l∈R,l.n<=1048576) (hX:∀l∈X,rP w 9 1 Qw l) (N7:∀l∈X,l.n<=1048576) (hK:∀l∈K,rP w 50 3 Qv l) (N3:∀l∈K,l.n<=1048576)
  (N2:Below w0.heap.size w0 w) (c8:w0.heap.size<=G) (T7:B.length<=2199023255552) (u1 u2 u4 u5 u6 u7 u9 P0 P1 P2 P3 m2 n3 o4 p7 r4 s5 v3 w5 w7 w8 w9 x0 x1 x2 x3 x4 x5 x6 x7 x8 x9 y0 y1 y2 y3 y4 y5 y7 y8 y9 z2 z3 z4 z5 z6 z7 z8 z9 A0 A1 A2 A3 A4 A5 A6 A7 A8 A9 B0 B1 B2 B3 B4 B5 B6 B7 B8 B9 C0 C1 C2 C3 C4 C5 C6 C7 P4 P5 P6 P7 P8 P9 Q0 Q1 Q2 Q3 Q4 Q5 Q6 Q7 Q8 Q9 R0 R1 R2 R3 h2 h3 h4 h5 h6 h7 h8 h9 i0 i1 i2 i3 i4 i5 i6 i7 i8 i9 j0 j1 j2 j3 j4 j5 j6 j7 j8 j9 k6 k7 k8 k9 l0 l4 l5 l7 l8 l9 m0 m1 m3 m4 m5 m6 m7 m8 m9 n0 n1 n2 n4 n5 n6 n7 n8 n9 o0 o1 o2 o3 o5 o6 o7 o8 o9 p2 p3 p4 p5 p6 p8 p9 q6 q7 q8 q9 r0 r1 r2 r3 r5 r6 r7 r8 r9 s0 s1 s2 s3 s4 s6 s7 s8 s9 u0 u3 u8 v0 v1 v2 v4 v5 v6 v7 w1 w2 w3 w4 b2:Value) (K0:Act->World->Prop) (P:Ending->World->Prop)
  (e6:∀(v8 v9 R4 R5 R6 R7 R8 R9 S0 S1 S2 v85 S3 S4 S5 S6 S7 S8 S9 T0 T1 T2 T3 T4 T5 T6 C8 C9 D0 D1 D2 D3 D4 D5 D6 D7 D8 D9 E0 E1 E2 E3 E4 E5 E6 E7 E8 E9 F0 F1 F2 F3 F4 v127 F5 F6 F7 F8 F9 G0 G1 G2 G3 G4 G5 G6 G7 G8 G9 v143 H0 v145 v146 H1 H2 H3 H4 H5 H6 H7 H8 H9 I1 I2 I3 I4 I5 I6 I7 I8 I9 J1 J2 v167 v168 J3 J4 v171 J5 v173 J6 v175 J7 J8 J9 K1 K2 K3 K4 K5 K6 K7 K8 K9 L0 L1 L2 L3 L4 L5 L6 L7 L8 L9 M0 M1 M2 M3 M4 M5 M6 M7 M8 M9:Value) (wx:World),og w wx G B B.length->K0 ⟨#[.pointer (some ⟨G,0,none⟩),u1,u2,.bool true,u4,u5,u6,u7,v8,v9,R4,R5,R6,R7,m2,n3,o4,p7,r4,s5,v3,w5,w7,w8,w9,x0,x1,x2,x3,x4,x5,x6,x7,x8,x9,y0,y1,y2,y3,y4,y5,y7,y8,y9,z2,z3,z4,z5,z6,z7,z8,z9,A0,A1,A2,A3,A4,A5,A6,A7,A8,A9,B0,B1,B2,B3,B4,B5,B6,B7,B8,B9,C0,C1,C2,C3,C4,C5,C6,C7,R8,R9,S0,S1,S2,v85,S3,S4,S5,S6,S7,S8,S9,T0,T1,T2,T3,T4,T5,T6,C8,C9,D0,D1,D2,D3,D4,D5,D6,D7,D8,D9,E0,E1,E2,E3,E4,E5,E6,E7,E8,E9,F0,F1,F2,F3,F4,v127,F5,F6,F7,F8,F9,G0,G1,G2,G3,G4,G5,G6,G7,G8,G9,v143,H0,v145,v146,H1,H2,H3,H4,H5,H6,H7,H8,H9,I1,I2,I3,I4,I5,I6,I7,I8,I9,J1,J2,v167,v168,J3,J4,v171,J5,v173,J6,v175,J7,J8,J9,K1,K2,K3,K4,K5,K6,K7,K8,K9,L0,L1,L2,L3,L4,L5,L6,L7,L8,L9,M0,M1,M2,M3,M4,M5,M6,M7,M8,M9,b2],[]⟩ wx):
  Code.wp prog (TD Tryz.f83) (Exit.then K0 (bodyPost prog Tryz.f83 P)) ⟨#[.pointer (some ⟨G,0,none⟩),u1,u2,.bool true,u4,u5,u6,u7,.int .i64 0,u9,P0,P1,P2,P3,m2,n3,o4,p7,r4,s5,v3,w5,w7,w8,w9,x0,x1,x2,x3,x4,x5,x6,x7,x8,x9,y0,y1,y2,y3,y4,y5,y7,y8,y9,z2,z3,z4,z5,z6,z7,z8,z9,A0,A1,A2,A3,A4,A5,A6,A7,A8,A9,B0,B1,B2,B3,B4,B5,B6,B7,B8,B9,C0,C1,C2,C3,C4,C5,C6,C7,P4,P5,P6,P7,P8,P9,Q0,Q1,Q2,Q3,Q4,Q5,Q6,Q7,Q8,Q9,R0,R1,R2,R3,h2,h3,h4,h5,h6,h7,h8,h9,i0,i1,i2,i3,i4,i5,i6,i7,i8,i9,j0,j1,j2,j3,j4,j5,j6,j7,j8,j9,k6,k7,k8,k9,l0,l4,l5,l7,l8,l9,m0,m1,m3,m4,m5,m6,m7,m8,m9,n0,n1,n2,n4,n5,n6,n7,n8,n9,o0,o1,o2,o3,o5,o6,o7,o8,o9,p2,p3,p4,p5,p6,p8,p9,q6,q7,q8,q9,r0,r1,r2,r3,r5,r6,r7,r8,r9,s0,s1,s2,s3,s4,s6,s7,s8,s9,u0,u3,u8,v0,v1,v2,v4,v5,v6,v7,w1,w2,w3,w4,b2],[]⟩ w:=by
 conv=>arg 2;whnf
 have N0:Hid _:=e6;have I0:og w w G B 0:=og.start hL;have HF:Hid _:=hL;have N1:Hid _:=(ic hL).2;have HO:Hid _:=hO;have HR:Hid _:=hR;have HX:Hid _:=hX;have HK:Hid _:=hK;have U1:=aC hO;have O4:∀W,(binOp .eql 51 (.slice none 0 0) (.slice none 0 0)).run prog W=.ok (.bool true) W:=λW=>jh W _ _ _ _ _ Tryz.underlying51;have O5:∀W,(binOp .eql 24 (.slice none 0 0) (.slice none 0 0)).run prog W=.ok (.bool true) W:=λW=>jh W _ _ _ _ _ Tryz.underlying24;have O6:∀W,(binOp .eql 52 (.slice none 0 0) (.slice none 0 0)).run prog W=.ok (.bool true) W:=λW=>jh W _ _ _ _ _ Tryz.underlying52;clear e6 hL hO hR hX hK
 go_wp2_with fail
 go_loopg [3,8] B.length (λgk b8 kv wr=>∃k:Nat,gk=B.length- k/\k<=B.length/\b8=.bool true/\kv=.int .i64 (k:Int)/\og w wr G B k)
 case atStart=>exact⟨0,rfl,zero_le _,rfl,rfl,I0⟩
 case round=>
  obtain⟨k,b3,hk,rfl,rfl,hI⟩:=hrel;subst b3;clear I0;generalize O9:wr=wo at*;clear O9;have a2:=(hI.ag _ _ _ _ HO.out (by decide)).trans HO.out;have U2:=aC a2;have y6:wo.cell? ⟨G,5,none⟩=some (.slice a B.length ac):=(af a2).trans O2;by_cases O1:k<B.length
  ·obtain⟨Z,rfl,T9,⟨c7,O⟩,c⟩:∃Z,a=some ⟨Z,0,none⟩/\Z<w.heap.size/\(∃c7,w.heap[Z]? =some (.cells c7 190 (0,0)))/\∀(k:Nat) (l:Ln),B[k]? =some l->w.cell? ⟨Z,k*2,none⟩=some (.slice (some ⟨l.g,0,none⟩) (l.n+3) (l.n+3))/\w.cell? ⟨Z,k*2+1,none⟩=some (.slice l.wo l.n l.wc):=by
    rcases N1.out with h|h
    ·omega
    ·exact h
   obtain⟨⟨g,n,t,wk,cs⟩,F⟩:∃l,B[k]? =some l:=⟨_,List.getElem?_eq_getElem O1⟩;have a3:=hI.ag _ _ _ _ O (by decide);have p0:=(cell?_of_block (w:=w) (a:=⟨Z,k*2,none⟩) a3).trans (c k _ F).1;have p1:=(cell?_of_block (w:=w) (a:=⟨Z,k*2+1,none⟩) a3).trans (c k _ F).2;have g4:Z<wo.heap.size:=aC (a3.trans O);have a5:=HF.out.each _ (List.mem_of_getElem? F);have O3:G<=g:=by have:=a5.lo;dsimp only at this;omega
   have z:=hI.more ((refl _ wo).alloc (le_refl _) (.cells #[.slice (some ⟨g,0,none⟩) (n+3) (n+3),.slice t n wk] 190)) (by omega);have J0:qy (wo.alloc (.cells #[.slice (some ⟨g,0,none⟩) (n+3) (n+3),.slice t n wk] 190)) (wo.alloc (.cells #[.slice (some ⟨g,0,none⟩) (n+3) (n+3),.slice t n wk] 190)) G ⟨g,n,t,wk,cs⟩ 0:=qy.start z F;have N:=heap_alloc_new wo (.cells #[.slice (some ⟨g,0,none⟩) (n+3) (n+3),.slice t n wk] 190);clear c O a3 hI
   go_wp2_with fail
   generalize N6:wo.alloc (.cells #[.slice (some ⟨g,0,none⟩) (n+3) (n+3),.slice t n wk] 190)=W1 at*;generalize U4:wo.heap.size=xb at*;have N5:Below w0.heap.size w0 W1:=N2.trans (z.lU.mono c8);have g8:=aC N;clear p0 p1 g4 y6 a2 N6;go_loopg [3,10] (n+3) (λgk b8 iv wx=>∃i:Nat,gk=(n+3)- i/\i<=n+3/\b8=.bool true/\iv=.int .i64 (i:Int)/\qy W1 wx G ⟨g,n,t,wk,cs⟩ i)
   case atStart=>exact⟨0,rfl,zero_le _,rfl,rfl,J0⟩
   case round=>
    obtain⟨i,b3,hi,rfl,rfl,L⟩:=hrel;subst b3;clear J0;have g6:xb≠g:=λe=>by
     obtain⟨c2,e7,_⟩:=z.todo k _ (le_refl _) F;rw[e]at N;rw[N]at e7;cases e7
    have r:=(L.nX xb g8 g6).trans N;have O7:=a5.small;have O0:=a5.len;dsimp only at O7 O0;have z0:wr.cell? ⟨xb,0,none⟩=some (.slice (some ⟨g,0,none⟩) (n+3) (n+3)):=(af r).trans rfl;have z1:wr.cell? ⟨xb,1,none⟩=some (.slice t n wk):=(af r).trans rfl;have g9:=aC r;have g5:g<wr.heap.size:=L.row.lt;by_cases U0:i<n+3
    ·by_cases N9:i<n
     ·obtain⟨dS,⟨g7,b4⟩,g3,A⟩:=a5.want;dsimp only at g7 b4 g3 A;obtain⟨b,x,rfl,hb,hc⟩:∃b x,t=some ⟨b,x,none⟩/\b<w0.heap.size/\∀(i:Nat) (s:kU),dS[i]? =some s->w0.cell? ⟨b,x+i*6,none⟩=some (.string s.name)/\w0.cell? ⟨b,x+i*6+1,none⟩=some (.slice s.k.ro s.k.rn s.k.rc)/\w0.cell? ⟨b,x+i*6+2,none⟩=some (.slice s.ro s.rn s.rc)/\w0.cell? ⟨b,x+i*6+3,none⟩=some (.int .i64 s.count)/\
        w0.cell? ⟨b,x+i*6+4,none⟩=some (.string s.aD)/\w0.cell? ⟨b,x+i*6+5,none⟩=some (.slice s.u.ro s.u.rn s.u.rc):=by
       rcases b4 with h|h
       ·omega
       ·exact h
      obtain⟨⟨f,⟨S,U5,Q,h0⟩,U,U6,T,b9,d,m,⟨Y,U7,V,h1⟩⟩,b5⟩:∃s:kU,dS[i]? =some s:=⟨_,List.getElem?_eq_getElem (by omega)⟩;obtain⟨kv,rv,xv,e8,a4,C,a7⟩:=A i _ b5;obtain⟨q0,q1,q2,q3,q4,q5⟩:=hc i _ b5;dsimp only at a4 C a7 q0 q1 q2 q3 q4 q5;obtain⟨ko,kn,kc,rfl⟩:=sU a4;obtain⟨yo,H,yc,rfl⟩:=Gs C;obtain⟨zo,I,zc,rfl⟩:=sU a7;have c9:Below w0.heap.size w0 wr:=N5.trans (L.lU.mono c8);have a1:dU w wr [54]:=z.ag.trans (L.Ko (z.todo k _ (le_refl _) F));obtain⟨a9,g0⟩:=CJ a4 (λl F=>(HK.out l F).eQ a1 (by decide)) N3;obtain⟨b0,g1⟩:=PM C (λl F=>(HR.out l F).eQ a1 (by decide)) N4;obtain⟨b1,g2⟩:=CJ a7 (λl F=>(HX.out l F).eQ a1 (by decide)) N7;dsimp only at g0 g1 g2;subst g0 g1 g2;have v:min i n=i:=Nat.min_eq_left (by omega);have c:∀j,j<6->∀u,(qV ⟨f,⟨S,kn,Q,h0⟩,U,H,T,b9,d,m,⟨Y,I,V,h1⟩⟩ (.slice ko kn kc) (.slice yo H yc) (.slice zo I zc))[j]? =some u->wr.cell? ⟨g,i*6+j,none⟩=some u:=λj hj u hu=>
       (L.row.cell (i:=i*6+j) (by dsimp only;omega)).trans (by rw[iB (by dsimp only;rw[v];omega),iI ((e8 j hj).trans hu)])
      have c0:=c 0 (by omega) _ rfl;have c1:=c 1 (by omega) _ rfl;have c2:=c 2 (by omega) _ rfl;have c3:=c 3 (by omega) _ rfl;have c4:=c 4 (by omega) _ rfl;have c5:=c 5 (by omega) _ rfl;rw[Nat.add_zero]at c0;have cl:∀o,wr.cell? ⟨b,o,none⟩=w0.cell? ⟨b,o,none⟩:=λo=>c9.cell (p:=⟨b,o,none⟩) hb;have d0:=(cl _).trans q0;have d1:=(cl _).trans q1;have d2:=(cl _).trans q2;have d3:=(cl _).trans q3;have d4:=(cl _).trans q4;have d5:=(cl _).trans q5;have N8:b<wr.heap.size:=by have:=c9.size;omega
      obtain⟨E,M⟩:∃E,E=(wr.alloc (.cells #[.string f,.slice ko kn kc,.slice yo H yc,.int .i64 d,.string m,.slice zo I zc] 54)).alloc (.cells #[.string f,.slice S kn Q,.slice U H T,.int .i64 d,.string m,.slice Y I V] 54):=⟨_,rfl⟩;have a8:Hid ((wr.alloc (.cells #[.string f,.slice ko kn kc,.slice yo H yc,.int .i64 d,.string m,.slice zo I zc] 54)).alloc (.cells #[.string f,.slice S kn Q,.slice U H T,.int .i64 d,.string m,.slice Y I V] 54)=E):=M.symm;have a6:(wr.alloc (.cells #[.string f,.slice ko kn kc,.slice yo H yc,.int .i64 d,.string m,.slice zo I zc] 54)).heap.size=wr.heap.size+1:=by simp[World.size_alloc]
      have J:Below wr.heap.size wr E:=by rw[M];exact((refl _ wr).alloc (le_refl _) _).alloc (by rw[a6];omega) _
      have t0:E.heap[wr.heap.size]? =some (.cells #[.string f,.slice ko kn kc,.slice yo H yc,.int .i64 d,.string m,.slice zo I zc] 54 (0,0)):=by rw[M,Below.heap_alloc _ _ _ (by rw[a6];omega)];exact heap_alloc_new wr _
      have t1:E.heap[wr.heap.size+1]? =some (.cells #[.string f,.slice S kn Q,.slice U H T,.int .i64 d,.string m,.slice Y I V] 54 (0,0)):=by rw[M,<-a6];exact heap_alloc_new _ _
      have c6:=Jz E f m d ko kn kc yo H yc zo I zc (a9.ag J) (b0.ag J) (b1.ag J);clear hc b5 A g3 b4 g7 a4 C a7 a9 b0 b1 a1 q0 q1 q2 q3 q4 q5 cl c e8 M v a6;go_upto_region 25 with fail
      rw[a8.out];have e0:E.cell? ⟨wr.heap.size,0,none⟩=some (.string f):=(af t0).trans rfl;have e1:E.cell? ⟨wr.heap.size,1,none⟩=some (.slice ko kn kc):=(af t0).trans rfl;have e2:E.cell? ⟨wr.heap.size,2,none⟩=some (.slice yo H yc):=(af t0).trans rfl;have e3:E.cell? ⟨wr.heap.size,3,none⟩=some (.int .i64 d):=(af t0).trans rfl;have e4:E.cell? ⟨wr.heap.size,4,none⟩=some (.string m):=(af t0).trans rfl;have e5:E.cell? ⟨wr.heap.size,5,none⟩=some (.slice zo I zc):=(af t0).trans rfl;have b6:=aC t0;have b7:=aC t1;have a0:=L.more J (by omega);have U3:G<=wr.heap.size:=by omega
      clear a8 c0 c1 c2 c3 c4 c5 d0 d1 d2 d3 d4 d5 z0 z1 r g9 g5 N8 L J;generalize O8:wr.heap.size=tb at*;clear O8;go_upto_region 26 with(go_at_call 141;refine c6.mono ?_;rintro e D ⟨rfl,hb6⟩)
      have y:=(hb6.block tb b6).trans t0;have t16:=(hb6.block (tb+1) b7).trans t1;have q:=a0.more hb6 (by omega);clear e0 e1 e2 e3 e4 e5 c6 t0 t1 b6 b7 a0 hb6;have e0:D.cell? ⟨tb,0,none⟩=some (.string f):=(af y).trans rfl;have e1:D.cell? ⟨tb,1,none⟩=some (.slice ko kn kc):=(af y).trans rfl;have e2:D.cell? ⟨tb,2,none⟩=some (.slice yo H yc):=(af y).trans rfl;have e3:D.cell? ⟨tb,3,none⟩=some (.int .i64 d):=(af y).trans rfl;have e4:D.cell? ⟨tb,4,none⟩=some (.string m):=(af y).trans rfl;have e5:D.cell? ⟨tb,5,none⟩=some (.slice zo I zc):=(af y).trans rfl;have k0:D.cell? ⟨tb+1,0,none⟩=some (.string f):=(af t16).trans rfl;have k1:D.cell? ⟨tb+1,1,none⟩=some (.slice S kn Q):=(af t16).trans rfl;have k2:D.cell? ⟨tb+1,2,none⟩=some (.slice U H T):=(af t16).trans rfl;have k3:D.cell? ⟨tb+1,3,none⟩=some (.int .i64 d):=(af t16).trans rfl;have k4:D.cell? ⟨tb+1,4,none⟩=some (.string m):=(af t16).trans rfl;have k5:D.cell? ⟨tb+1,5,none⟩=some (.slice Y I V):=(af t16).trans rfl;have b6:=aC y;have b7:=aC t16;have r:=(q.nX xb g8 g6).trans N;have z0:D.cell? ⟨xb,0,none⟩=some (.slice (some ⟨g,0,none⟩) (n+3) (n+3)):=(af r).trans rfl;have g9:=aC r;have g5:g<D.heap.size:=q.row.lt;have c0:=q.row.cell (i:=i*6) (by dsimp only;omega);have c1:=q.row.cell (i:=i*6+1) (by dsimp only;omega);have c2:=q.row.cell (i:=i*6+2) (by dsimp only;omega);have c3:=q.row.cell (i:=i*6+3) (by dsimp only;omega);have c4:=q.row.cell (i:=i*6+4) (by dsimp only;omega);have c5:=q.row.cell (i:=i*6+5) (by dsimp only;omega);have f0:=q.row.frozen (i*6);have f1:=q.row.frozen (i*6+1);have f2:=q.row.frozen (i*6+2);have f3:=q.row.frozen (i*6+3);have f4:=q.row.frozen (i*6+4);have f5:=q.row.frozen (i*6+5);dsimp only at c0 c1 c2 c3 c4 c5 f0 f1 f2 f3 f4 f5;clear y t16 r
      go_wp2_with fail
      go_roundg (n+3- (i+1))
      all_goals first
       |omega
       |exact⟨i+1,rfl,by omega,rfl,by go_num,q.put N9 O3⟩
     ·have T8:decide ((n:Int)<=(i:Int))=true:=by simp;omega
      have e9:n<=i:=by omega
      have v:min i n=n:=Nat.min_eq_right e9;have c:∀j,j<6->wr.cell? ⟨g,i*6+j,none⟩=some (yJ j):=λj hj=>
       (L.row.cell (i:=i*6+j) (by dsimp only;omega)).trans (by rw[iB (by dsimp only;rw[v];omega),gX (by dsimp only;omega),show(i*6+j) % 6=j by omega])
      have c0:wr.cell? ⟨g,i*6,none⟩=some (.string ⟨#[98,101,121,111,110,100]⟩):=c 0 (by omega);have c1:wr.cell? ⟨g,i*6+1,none⟩=some (.slice none 0 0):=c 1 (by omega);have c2:wr.cell? ⟨g,i*6+2,none⟩=some (.slice none 0 0):=c 2 (by omega);have c3:wr.cell? ⟨g,i*6+3,none⟩=some (.int .i64 0):=c 3 (by omega);have c4:wr.cell? ⟨g,i*6+4,none⟩=some (.string ⟨#[]⟩):=c 4 (by omega);have c5:wr.cell? ⟨g,i*6+5,none⟩=some (.slice none 0 0):=c 5 (by omega);have a0:=(L.more ((refl _ wr).alloc (le_refl _) (.cells #[.string ⟨#[98,101,121,111,110,100]⟩,.slice none 0 0,.slice none 0 0,.int .i64 0,.string ⟨#[]⟩,.slice none 0 0] 54)) (by omega)).far e9;clear c v r
      go_wp2_with fail
      go_roundg (n+3- (i+1))
      all_goals first
       |omega
       |exact⟨i+1,rfl,by omega,rfl,by go_num,a0⟩
    ·have hN:=z.next F L HF.out.apart;clear L z
     go_wp2_with fail
     go_roundg (B.length- (k+1))
     all_goals first
      |omega
      |exact⟨k+1,rfl,by omega,rfl,by go_num,hN⟩
  ·obtain rfl:k=B.length:=by omega
   clear a2
   go_wp2_with fail
   exact N0.out _ _ _ _ _ _ _ _ _ _ _ _ _ _ _ _ _ _ _ _ _ _ _ _ _ _ _ _ _ _ _ _ _ _ _ _ _ _ _ _ _ _ _ _ _ _ _ _ _ _ _ _ _ _ _ _ _ _ _ _ _ _ _ _ _ _ _ _ _ _ _ _ _ _ _ _ _ _ _ _ _ _ _ _ _ _ _ _ _ _ _ _ _ _ _ _ _ _ _ _ _ _ _ _ _ _ _ _ _ _ _ _ _ _ _ _ _ _ _ _ _ _ _ _ _ _ _ _ _ _ _ _ _ _ _ hI
theorem Mf(w0 w:World)(q:Nat)(v0 v2 v4 v6:Value)(a1:Option Addr)(a2 N:Nat)(a5:Option Addr)(a3 O:Nat)(C R X K B:List Ln)(hO:w.heap[q]? =some (.cells #[v0,.slice a1 a2 N,v2,.slice none 0 0,v4,.slice a5 a3 O,v6,.slice none 0 0,.slice none 0 0] 118 (0,0)))
  (hR:bP (SQ w0 C) w 57 292 1 uB q (.slice a1 a2 N) R) (hB:bP (SS w0 K R X) w 54 190 6 yJ q (.slice a5 a3 O) B)
  (hC:∀l∈C,rP w 56 3 Rx l) (e0:∀l∈C,l.n<=1048576) (hX:∀l∈X,rP w 9 1 Qw l) (e5:∀l∈X,l.n<=1048576) (hK:∀l∈K,rP w 50 3 Qv l) (e1:∀l∈K,l.n<=1048576)
  (h0:Below w0.heap.size w0 w) (G:w0.heap.size<=q) (s2:R.length<=2199023255552) (e9:B.length<=2199023255552):
  Calls prog 83 #[.pointer (some ⟨q,0,none⟩)] w λe w'=>e=.returned (.bool true)/\dU w w' [57,54]/\Below q w w':=by
 have s4:=aC hO;obtain⟨rfl,A⟩:=ic hR;obtain⟨rfl,b7⟩:=ic hB;have Z:Hid _:=hO;have M:Hid _:=hB;have HC:Hid _:=hC;have HX:Hid _:=hX;have HK:Hid _:=hK;have HF:Hid _:=hR;have g9:∀W,(binOp .eql 57 (.slice none 0 0) (.slice none 0 0)).run prog W=.ok (.bool true) W:=λW=>jh W _ _ _ _ _ Tryz.underlying57;clear hO hB hC hX hK b7;go_enter Tryz.func83,Tryz.ntmps83;go_upto_block 0 with fail
 go_cut [3] (λs3 wx=>s3=.bool true/\fG w wx q 57 1 uB SG R R.length)
 case first=>
  have I0:fG w w q 57 1 uB SG R 0:=fG.start hR;have c5:Hid _:=A;generalize e7:a1=a at*;generalize e8:N=ac at*;clear e7 e8 hR A M HX HK
  go_wp2_with fail
  go_loopg [3,4] R.length (λgk V kv wr=>∃k:Nat,gk=R.length- k/\k<=R.length/\V=.bool true/\kv=.int .i64 (k:Int)/\fG w wr q 57 1 uB SG R k)
  case atStart=>exact⟨0,rfl,zero_le _,rfl,rfl,I0⟩
  case round=>
   obtain⟨k,Q,hk,rfl,rfl,hI⟩:=hrel;subst Q;clear I0;generalize g4:wr=wo at*;clear g4;have H:=(hI.ag _ _ _ _ Z.out (by decide)).trans Z.out;have s5:=aC H;have y6:wo.cell? ⟨q,1,none⟩=some (.slice a R.length ac):=(af H).trans rfl;by_cases g1:k<R.length
   ·obtain⟨F,rfl,r9,⟨a4,z⟩,j⟩:∃F,a=some ⟨F,0,none⟩/\F<w.heap.size/\(∃a4,w.heap[F]? =some (.cells a4 292 (0,0)))/\∀(k:Nat) (l:Ln),R[k]? =some l->w.cell? ⟨F,k*2,none⟩=some (.slice (some ⟨l.g,0,none⟩) (l.n+3) (l.n+3))/\w.cell? ⟨F,k*2+1,none⟩=some (.slice l.wo l.n l.wc):=by
     rcases c5.out with h|h
     ·omega
     ·exact h
    obtain⟨⟨g,n,f,wk,cs⟩,m⟩:∃l,R[k]? =some l:=⟨_,List.getElem?_eq_getElem g1⟩;have J:=hI.ag _ _ _ _ z (by decide);have p0:=(cell?_of_block (w:=w) (a:=⟨F,k*2,none⟩) J).trans (j k _ m).1;have p1:=(cell?_of_block (w:=w) (a:=⟨F,k*2+1,none⟩) J).trans (j k _ m).2;have b3:F<wo.heap.size:=aC (J.trans z);have L:=HF.out.each _ (List.mem_of_getElem? m);have b4:q<=g:=by have:=L.lo;dsimp only at this;omega
    have d:=hI.more ((refl _ wo).alloc (le_refl _) (.cells #[.slice (some ⟨g,0,none⟩) (n+3) (n+3),.slice f n wk] 292)) (by omega);have J0:jG (wo.alloc (.cells #[.slice (some ⟨g,0,none⟩) (n+3) (n+3),.slice f n wk] 292)) (wo.alloc (.cells #[.slice (some ⟨g,0,none⟩) (n+3) (n+3),.slice f n wk] 292)) q 57 1 uB SG ⟨g,n,f,wk,cs⟩ 0:=jG.start d m;have y:=heap_alloc_new wo (.cells #[.slice (some ⟨g,0,none⟩) (n+3) (n+3),.slice f n wk] 292);clear j z J hI
    go_wp2_with fail
    generalize e4:wo.alloc (.cells #[.slice (some ⟨g,0,none⟩) (n+3) (n+3),.slice f n wk] 292)=W1 at*;generalize s6:wo.heap.size=xb at*;have e3:Below w0.heap.size w0 W1:=h0.trans (d.lU.mono G);have b9:=aC y;clear p0 p1 b3 y6 H e4;go_loopg [3,6] (n+3) (λgk V iv wx=>∃i:Nat,gk=(n+3)- i/\i<=n+3/\V=.bool true/\iv=.int .i64 (i:Int)/\jG W1 wx q 57 1 uB SG ⟨g,n,f,wk,cs⟩ i)
    case atStart=>exact⟨0,rfl,zero_le _,rfl,rfl,J0⟩
    case round=>
     obtain⟨i,Q,hi,rfl,rfl,t⟩:=hrel;subst Q;clear J0;have b5:xb≠g:=λe=>by
      obtain⟨c2,b1,_⟩:=d.todo k _ (le_refl _) m;rw[e]at y;rw[y]at b1;cases b1
     have c:=(t.nX xb b9 b5).trans y;have g2:=L.small;have g0:=L.len;dsimp only at g2 g0;have z0:wr.cell? ⟨xb,0,none⟩=some (.slice (some ⟨g,0,none⟩) (n+3) (n+3)):=(af c).trans rfl;have z1:wr.cell? ⟨xb,1,none⟩=some (.slice f n wk):=(af c).trans rfl;have E:=aC c;have I:g<wr.heap.size:=t.row.lt;by_cases s1:i<n+3
     ·by_cases s0:i<n
      ·obtain⟨rows,⟨b8,T⟩,b2,o⟩:=L.want;dsimp only at b8 T b2 o;obtain⟨b,s,rfl,hb,hc⟩:∃b s,f=some ⟨b,s,none⟩/\b<w0.heap.size/\∀(i:Nat) (r:fD),rows[i]? =some r->w0.cell? ⟨b,s+i,none⟩=some (.slice r.ro r.rn r.rc):=by
        rcases T with h|h
        ·omega
        ·exact h
       obtain⟨⟨ro,rn,rc,s7⟩,S⟩:∃r:fD,rows[i]? =some r:=⟨_,List.getElem?_eq_getElem (by omega)⟩;obtain⟨v,U⟩:∃v,cs[i]? =some v:=⟨_,List.getElem?_eq_getElem (by omega)⟩;have D:=o i _ v S U;obtain⟨xo,xn,xc,rfl⟩:=sU D;have a6:Below w0.heap.size w0 wr:=e3.trans (t.lU.mono G);have a9:dU w wr [57]:=d.ag.trans (t.Ko (d.todo k _ (le_refl _) m));obtain⟨b6,c1⟩:=CJ D (λl m=>(HC.out l m).eQ a9 (by decide)) e0;dsimp only at c1;subst c1;have c0:wr.cell? ⟨g,i,none⟩=some (.slice xo xn xc):=(t.row.cell (i:=i) (by dsimp only;omega)).trans (by rw[iB (by omega),iI U]);have d0:wr.cell? ⟨b,s+i,none⟩=some (.slice ro xn rc):=(a6.cell (p:=⟨b,s+i,none⟩) hb).trans (hc i _ S);have P:b<wr.heap.size:=by have:=a6.size;omega
       have a0:=zZ wr xo xn xc b6;clear hc S U o b2 T b8 D b6 a9;go_upto_region 11 with(go_at_call 140;refine a0.mono ?_;rintro e w6 ⟨rfl,hb6⟩)
       have g7:=(hb6.cell (p:=⟨xb,0,none⟩) E).trans z0;have g8:=(hb6.cell (p:=⟨xb,1,none⟩) E).trans z1;have c6:=(hb6.cell (p:=⟨g,i,none⟩) I).trans c0;have c7:=(hb6.cell (p:=⟨b,s+i,none⟩) P).trans d0;have g6:xb<w6.heap.size:=Nat.lt_of_lt_of_le E hb6.size;have e6:g<w6.heap.size:=Nat.lt_of_lt_of_le I hb6.size;have b0:b<w6.heap.size:=Nat.lt_of_lt_of_le P hb6.size;have a8:=t.more hb6 (by omega);clear z0 z1 c0 d0 E I P a0 t c hb6;go_cut [3] (λs3 wx=>s3=.bool true/\Below w6.heap.size w6 wx)
       case first=>
        go_region;all_goals(go_wp2_with fail;go_meet)
        all_goals exact⟨rfl,by first|exact refl _ _|exact(refl _ _).drew⟩
       case rest=>
        obtain⟨rfl,c9⟩:=hcut;have x:=a8.more c9 (by omega);clear g7 g8 c6 c7 g6 e6 b0 a8;generalize g5:wc=wy at*;clear g5;have c:=(x.nX xb b9 b5).trans y;have z0:wy.cell? ⟨xb,0,none⟩=some (.slice (some ⟨g,0,none⟩) (n+3) (n+3)):=(af c).trans rfl;have E:=aC c;have I:g<wy.heap.size:=x.row.lt;have c0:=x.row.cell (i:=i) (by dsimp only;omega);have f0:=x.row.frozen i;dsimp only at c0 f0;clear c
        go_wp2_with fail
        go_roundg (n+3- (i+1))
        all_goals first
         |omega
         |exact⟨i+1,rfl,by omega,rfl,by go_num,x.Rz b4 rfl⟩
      ·have r6:decide ((i:Int)<(n:Int))=false:=by simp;omega
       have r7:n<=i:=by omega
       have r8:decide (n<=i)=true:=by simp;omega
       have c0:wr.cell? ⟨g,i,none⟩=some (.slice none 0 0):=(t.row.cell (i:=i) (by dsimp only;omega)).trans (by rw[iB (by omega),gX (by dsimp only;omega)];rfl);have f0:=t.row.frozen i;dsimp only at f0;clear c
       go_wp2_with fail
       go_roundg (n+3- (i+1))
       all_goals first
        |omega
        |exact⟨i+1,rfl,by omega,rfl,by go_num,t.Rz b4 rfl⟩
     ·obtain rfl:i=n+3:=by omega
      have hN:=d.next m t HF.out.apart;clear t d
      go_wp2_with fail
      go_roundg (R.length- (k+1))
      all_goals first
       |omega
       |exact⟨k+1,rfl,by omega,rfl,by go_num,hN⟩
   ·obtain rfl:k=R.length:=by omega
    clear H
    go_wp2_with fail
    go_meet;exact⟨rfl,hI⟩
 case rest=>
  obtain⟨rfl,d⟩:=hcut;generalize g3:wc=w1 at*;clear g3 hR A;have c3:Hid _:=M.out.eQ d.ag (by decide) (by decide);have c4:Hid _:=(d.ag _ _ _ _ Z.out (by decide)).trans Z.out;have c8:Below w0.heap.size w0 w1:=h0.trans (d.lU.mono G);have u:Hid _:=d;have e2:∀l∈R,l.n<=1048576:=λl m=>(HF.out.each l m).small;clear d Z M;go_upto_block 4 with fail
  refine Ct w0 w1 q _ a5 O R X K B c4.out rfl c3.out u.out.all e2 (λl m=>(HX.out l m).eQ u.out.ag (by decide)) e5 (λl m=>(HK.out l m).eQ u.out.ag (by decide)) e1 c8 G e9 _ _ _ _ _ _ _ _ _ _ _ _ _ _ _ _ _ _ _ _ _ _ _ _ _ _ _ _ _ _ _ _ _ _ _ _ _ _ _ _ _ _ _ _ _ _ _ _ _ _ _ _ _ _ _ _ _ _ _ _ _ _ _ _ _ _ _ _ _ _ _ _ _ _ _ _ _ _ _ _ _ _ _ _ _ _ _ _ _ _ _ _ _ _ _ _ _ _ _ _ _ _ _ _ _ _ _ _ _ _ _ _ _ _ _ _ _ _ _ _ _ _ _ _ _ _ _ _ _ _ _ _ _ _ _ _ _ _ _ _ _ _ _ _ _ _ _ _ _ _ _ _ _ _ _ _ _ _ _ _ _ _ _ _ _ _ _ _ _ _ _ _ _ _ _ _ _ _ _ _ _ _ _ _ _ _ _ _ _ _ _ _ _ _ _ _ _ _ _ _ _ _ _ _ _ _ _ _ ?_;intro v8 v9 s8 s9 u0 u1 u2 u3 u4 u5 u6 v85 u7 u8 u9 v1 v3 v5 v7 w3 w4 w5 w7 w8 w9 x0 h1 h2 h3 h4 h5 h6 h7 h8 h9 i0 i1 i2 i3 i4 i5 i6 i7 i8 i9 j0 j1 j2 j3 j4 j5 j6 j7 v127 j8 j9 k0 k1 k2 k3 k4 k5 k6 k7 k8 k9 l0 l4 l5 v143 l7 v145 v146 l8 l9 m0 m1 m2 m3 m4 m5 m6 m7 m8 m9 n0 n1 n2 n3 n4 n5 n6 n7 v167 v168 n8 n9 v171 o0 v173 o1 v175 o2 o3 o4 o5 o6 o7 o8 o9 p2 p3 p4 p5 p6 p7 p8 p9 q0 q1 q2 q3 q4 q5 q6 q7 q8 q9 r0 r1 r2 r3 r4 r5 w2 a7;dsimp only;have Y:Hid _:=a7;clear a7
  go_wp2_with fail
  go_ret;exact⟨rfl,(u.out.ag.mono (by decide)).trans (Y.out.ag.mono (by decide)),u.out.lU.trans Y.out.lU⟩
theorem ME(w0 w:World)(A:Nat)(v0 v1 v2 v4 v5:Value)(a:Option Addr)(an ac:Nat)(F:List Ln)(hO:w.heap[A]? =some (.cells #[v0,v1,v2,.slice none 0 0,v4,v5,.slice a an ac,.slice none 0 0,.slice none 0 0] 118 (0,0)))
  (hF:bP (rV Sw w0 3) w 48 185 3 yI A (.slice a an ac) F) (h0:Below w0.heap.size w0 w) (W:w0.heap.size<=A) (b4:F.length<=2199023255552):
  Calls prog 84 #[.pointer (some ⟨A,0,none⟩)] w λe w'=>e=.returned (.bool true)/\Below A w w'/\dU w w' [48]:=by
 have c4:=aC hO;obtain⟨a7,a1⟩:=ic hF;have I0:fG w w A 48 3 yI Ry F 0:=fG.start hF;have HF:Hid _:=hF;have a2:Hid _:=a1;subst a7;clear hF a1;go_enter Tryz.func84,Tryz.ntmps84
 go_wp2_with fail
 go_loopg [3,4] F.length (λgk T kv wr=>∃k:Nat,gk=F.length- k/\k<=F.length/\T=.bool true/\kv=.int .i64 (k:Int)/\fG w wr A 48 3 yI Ry F k)
 case atStart=>exact⟨0,rfl,zero_le _,rfl,rfl,I0⟩
 case round=>
  obtain⟨k,P,hk,rfl,rfl,L⟩:=hrel;subst P;clear I0;generalize b3:wr=wo at*;clear b3;have y:=(L.ag _ _ _ _ hO (by decide)).trans hO;have c5:=aC y;have y6:wo.cell? ⟨A,6,none⟩=some (.slice a F.length ac):=(af y).trans rfl;by_cases a9:k<F.length
  ·obtain⟨C,rfl,b9,⟨V,B⟩,r⟩:∃C,a=some ⟨C,0,none⟩/\C<w.heap.size/\(∃V,w.heap[C]? =some (.cells V 185 (0,0)))/\∀(k:Nat) (l:Ln),F[k]? =some l->w.cell? ⟨C,k*2,none⟩=some (.slice (some ⟨l.g,0,none⟩) (l.n+3) (l.n+3))/\w.cell? ⟨C,k*2+1,none⟩=some (.slice l.wo l.n l.wc):=by
    rcases a2.out with h|h
    ·omega
    ·exact h
   obtain⟨⟨g,n,o,wk,cs⟩,U⟩:∃l,F[k]? =some l:=⟨_,List.getElem?_eq_getElem a9⟩;have H:=L.ag _ _ _ _ B (by decide);have p0:=(cell?_of_block (w:=w) (a:=⟨C,k*2,none⟩) H).trans (r k _ U).1;have p1:=(cell?_of_block (w:=w) (a:=⟨C,k*2+1,none⟩) H).trans (r k _ U).2;have Z:C<wo.heap.size:=aC (H.trans B);have x:=HF.out.each _ (List.mem_of_getElem? U);have a0:A<=g:=by have:=x.lo;dsimp only at this;omega
   have J0:jG (wo.alloc (.cells #[.slice (some ⟨g,0,none⟩) (n+3) (n+3),.slice o n wk] 185)) (wo.alloc (.cells #[.slice (some ⟨g,0,none⟩) (n+3) (n+3),.slice o n wk] 185)) A 48 3 yI Ry ⟨g,n,o,wk,cs⟩ 0:=jG.start (L.more ((refl _ wo).alloc (le_refl _) _) (by omega)) U;have E:=L.more ((refl _ wo).alloc (le_refl _) (.cells #[.slice (some ⟨g,0,none⟩) (n+3) (n+3),.slice o n wk] 185)) (by omega);have z:=heap_alloc_new wo (.cells #[.slice (some ⟨g,0,none⟩) (n+3) (n+3),.slice o n wk] 185);clear r B H L
   go_wp2_with fail
   generalize a6:wo.alloc (.cells #[.slice (some ⟨g,0,none⟩) (n+3) (n+3),.slice o n wk] 185)=W1 at*;generalize c6:wo.heap.size=xb at*;have a5:Below w0.heap.size w0 W1:=h0.trans (E.lU.mono W);have S:=aC z;clear p0 p1 Z y6 y a6;go_loopg [3,6] (n+3) (λgk T iv J=>∃i:Nat,gk=(n+3)- i/\i<=n+3/\T=.bool true/\iv=.int .i64 (i:Int)/\jG W1 J A 48 3 yI Ry ⟨g,n,o,wk,cs⟩ i)
   case atStart=>exact⟨0,rfl,zero_le _,rfl,rfl,J0⟩
   case round=>
    obtain⟨i,P,hi,rfl,rfl,q⟩:=hrel;subst P;clear J0;have Q:xb≠g:=λe=>by
     obtain⟨c,X,_⟩:=q.row;have hx:=(E.todo k _ (le_refl _) U);obtain⟨K,Y,_⟩:=hx;rw[e]at z;rw[z]at Y;cases Y
    have d:=(q.nX xb S Q).trans z;have b0:=x.small;dsimp only at b0;have z0:wr.cell? ⟨xb,0,none⟩=some (.slice (some ⟨g,0,none⟩) (n+3) (n+3)):=(af d).trans rfl;have z1:wr.cell? ⟨xb,1,none⟩=some (.slice o n wk):=(af d).trans rfl;have I:=aC d;have G:=q.row.lt;by_cases c3:i<n+3
    ·by_cases a8:i<n
     ·obtain⟨b,m,rfl,hb,X⟩:∃b m,o=some ⟨b,m,none⟩/\b<w0.heap.size/\∀j v,cs[j]? =some v->w0.cell? ⟨b,m+j,none⟩=some v:=by
       rcases x.want.1.2 with h|h
       ·dsimp only at h;omega
       ·exact h
      obtain⟨s,t,u,t0,t1,t2⟩:=x.want.2 i a8;have D:Below w0.heap.size w0 wr:=a5.trans (q.lU.mono W);have M:wr.cell? ⟨g,i*3,none⟩=some (.string s):=(q.row.cell (i:=i*3) (by dsimp only;omega)).trans (by rw[iB (le_refl _),iI t0]);have N:wr.cell? ⟨g,i*3+1,none⟩=some (.string t):=(q.row.cell (i:=i*3+1) (by dsimp only;omega)).trans (by rw[iB (by omega),iI t1]);have K:wr.cell? ⟨g,i*3+2,none⟩=some (.string u):=(q.row.cell (i:=i*3+2) (by dsimp only;omega)).trans (by rw[iB (by omega),iI t2]);have d0:wr.cell? ⟨b,m+i*3,none⟩=some (.string s):=(D.cell (p:=⟨b,m+i*3,none⟩) hb).trans (X _ _ t0);have d1:wr.cell? ⟨b,m+i*3+1,none⟩=some (.string t):=(D.cell (p:=⟨b,m+i*3+1,none⟩) hb).trans (X _ _ t1);have d2:wr.cell? ⟨b,m+i*3+2,none⟩=some (.string u):=(D.cell (p:=⟨b,m+i*3+2,none⟩) hb).trans (X _ _ t2);have b5:b<wr.heap.size:=by have:=D.size;omega
      clear X t0 t1 t2;go_upto_region 9 with fail
      go_cut [3] (λs3 J=>s3=.bool true/\Below wr.heap.size wr J)
      case first=>
       go_region;all_goals(go_wp2_with fail;go_meet)
       all_goals exact⟨rfl,by first|exact refl _ _|exact(refl _ _).drew⟩
      case rest=>
       obtain⟨rfl,O⟩:=hcut;have f:=q.more O (by omega);clear M N K d0 d1 d2 z0 z1 I G q d;generalize R:wc=wy at*;clear R;have d:=(f.nX xb S Q).trans z;have z0:wy.cell? ⟨xb,0,none⟩=some (.slice (some ⟨g,0,none⟩) (n+3) (n+3)):=(af d).trans rfl;have I:=aC d;have G:g<wy.heap.size:=f.row.lt;have M:=f.row.cell (i:=i*3) (by dsimp only;omega);have N:=f.row.cell (i:=i*3+1) (by dsimp only;omega);have K:=f.row.cell (i:=i*3+2) (by dsimp only;omega);have f0:=f.row.frozen (i*3);have f1:=f.row.frozen (i*3+1);have f2:=f.row.frozen (i*3+2);dsimp only at M N K f0 f1 f2;clear d
       go_wp2_with fail
       go_roundg (n+3- (i+1))
       all_goals first
        |omega
        |exact⟨i+1,rfl,by omega,rfl,by go_num,f.FV a0 rfl rfl rfl⟩
     ·have b6:decide ((i:Int)<(n:Int))=false:=by simp;omega
      have b7:n<=i:=by omega
      have b8:decide (n<=i)=true:=by simp;omega
      have M:wr.cell? ⟨g,i*3,none⟩=some (.string ⟨#[98,101,121,111,110,100]⟩):=(q.row.cell (i:=i*3) (by dsimp only;omega)).trans (by rw[iB (le_refl _),gX (by have:=x.len;dsimp only at this;dsimp only;omega),show i*3 % 3=0 by omega];rfl);have N:wr.cell? ⟨g,i*3+1,none⟩=some (.string ⟨#[]⟩):=(q.row.cell (i:=i*3+1) (by dsimp only;omega)).trans (by rw[iB (by omega),gX (by have:=x.len;dsimp only at this;dsimp only;omega),show(i*3+1) % 3=1 by omega];rfl);have K:wr.cell? ⟨g,i*3+2,none⟩=some (.string ⟨#[]⟩):=(q.row.cell (i:=i*3+2) (by dsimp only;omega)).trans (by rw[iB (by omega),gX (by have:=x.len;dsimp only at this;dsimp only;omega),show(i*3+2) % 3=2 by omega];rfl);go_upto_region 9 with fail
      go_cut [3] (λs3 J=>s3=.bool true/\Below wr.heap.size wr J)
      case first=>
       go_region;all_goals(go_wp2_with fail;go_meet)
       all_goals exact⟨rfl,by first|exact refl _ _|exact(refl _ _).drew⟩
      case rest=>
       obtain⟨rfl,O⟩:=hcut;have f:=q.more O (by omega);clear M N K z0 z1 I G q d;generalize R:wc=wy at*;clear R;have d:=(f.nX xb S Q).trans z;have z0:wy.cell? ⟨xb,0,none⟩=some (.slice (some ⟨g,0,none⟩) (n+3) (n+3)):=(af d).trans rfl;have I:=aC d;have G:g<wy.heap.size:=f.row.lt;have M:=f.row.cell (i:=i*3) (by dsimp only;omega);have N:=f.row.cell (i:=i*3+1) (by dsimp only;omega);have K:=f.row.cell (i:=i*3+2) (by dsimp only;omega);have f0:=f.row.frozen (i*3);have f1:=f.row.frozen (i*3+1);have f2:=f.row.frozen (i*3+2);dsimp only at M N K f0 f1 f2;clear d
       go_wp2_with fail
       go_roundg (n+3- (i+1))
       all_goals first
        |omega
        |exact⟨i+1,rfl,by omega,rfl,by go_num,f.FV a0 rfl rfl rfl⟩
    ·obtain rfl:i=n+3:=by omega
     have hN:=E.next U q HF.out.apart;clear q E
     go_wp2_with fail
     go_roundg (F.length- (k+1))
     all_goals first
      |omega
      |exact⟨k+1,rfl,by omega,rfl,by go_num,hN⟩
  ·obtain rfl:k=F.length:=by omega
   have y7:wo.cell? ⟨A,7,none⟩=some (.slice none 0 0):=(af y).trans rfl;have y8:wo.cell? ⟨A,8,none⟩=some (.slice none 0 0):=(af y).trans rfl;have a3:=L.lU;have a4:Hid _:=L.ag;clear L y
   go_wp2_with fail
   go_loopw [3,7] (λov iv J=>ov=.bool true/\iv=.int .i64 0/\J=wo) (λ_ _ _=>0)
   case atStart=>exact⟨rfl,rfl,rfl⟩
   case round=>
    obtain⟨rfl,rfl,b1⟩:=hrel
    cases b1
    go_wp2_with fail
    go_loopw [3,10] (λov iv J=>ov=.bool true/\iv=.int .i64 0/\J=wo) (λ_ _ _=>0)
    case atStart=>exact⟨rfl,rfl,rfl⟩
    case round=>
     obtain⟨rfl,rfl,b2⟩:=hrel
     cases b2
     go_wp2_with fail
     go_ret;exact⟨rfl,a3,a4.out⟩
end Go.Proofs.YtdifpeaklamhnaaGreatDoor

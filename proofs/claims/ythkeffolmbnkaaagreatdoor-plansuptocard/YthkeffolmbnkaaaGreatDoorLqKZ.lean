import Derived.Test.YthkeffolmbnkaaaGreatDoorQbBZ
set_option linter.unusedVariables false
set_option linter.unusedSimpArgs false
set_option maxRecDepth 100000
set_option maxHeartbeats 0
open Array renaming size->H
open Bool renaming true->σ,false->Ω
open Go renaming heap_alloc_new->υ,World->χ,Value->ω,bodyPost->Q8,info_parts->Q9,Ending->R8,undef->S0,binOp->S5,Calls->S7,Addr->T1,step_append_lies->T5,Func->T7,Exit->T8,Code->T9
open Go.Addr renaming mk->D
open Go.Code renaming wp->R1
open Go.Ending renaming returned->Q5
open Go.IntKind renaming i64->ν
open Go.Obj renaming cells->η
open Go.Proofs.Tryz renaming prog->ψ,underlying42->Q4,f81->Q7,underlying61->R4,underlying60->R5,f83->R6,ntmps41->T4,func41->T6,f82->U1
open Go.Proofs.YthkeffolmbnkaaaGreatDoor renaming ag->E,aa->G
open Go.RowKit renaming Hid->Γ,Below->S6,intOf->T3
open Go.RowKit.Below renaming heap_setCell->θ,refl->ξ
open Go.Value renaming slice->V,string->γ,bool->ι,int->μ,pointer->ρ,agg->T2
open Go.World renaming heap->A,cell?->Q,cell?_of_block->ζ,frozen?->φ,news_of_block->R0
open Go.World.ownsRow renaming alloc->R9,drew->S1
open List renaming length->β,getElem?_eq_getElem->δ,eq_nil_of_length_eq_zero->κ,mem_of_getElem?->ο,setIfInBounds_toArray->Θ,flatMap_cons->Φ,set_cons_zero->Q1,set_cons_succ->Q2,getElem?_eq_some_iff->Q3,getElem?_append_right->S3,getElem?_append_left->S4,getElem?_eq_none->S8,length_pos_iff->S9,getElem?_map->T0
open Nat renaming le_refl->ε,zero_le->τ,zero_add->Δ,lt_of_lt_of_le->Ξ,zero_mul->R7,mod_one->U0
open Option renaming none->U,some->M
open Or renaming inl->R3,inr->S2
open _root_ renaming rfl->J,List->Ψ,Nat->Q0,Int->Q6,Option->R2
namespace Go.Proofs.YthkeffolmbnkaaaGreatDoor
open Go.Proofs.Tryz
open Go.RowKit
variable{y:Array Value}{d j p v m N O P i5 i6 T W a0 a1 a2 a3 a4 a5 a6 a7 a8 a9 b0 b1 b2 b3 b4 b5 b6 b7 b8 b9 c0 c1 c2 c3 c4 c5 c6 c7 c8 c9 e0 e1 e2 e3 e4 e5 e6 e7 e8 e9 g0 g1 g2 g3 g4 g5 g6 g7 g8 g9 h0 h1 h2 h3 h4 h5 h6 h7 h8 h9 i0 i1 i2 i3 i4 i7 i8 i9 j0 j1 j2 j3 j4 j5 j6 j7 j8 j9 k0 k1 k2 k3 k4 k5 k6 k7 k8 k9 l0 l1 l4 l7 l8 l9 m0 m1 m2 m3 m4 m5 m6 m7 m8 m9 n0 n1 n2 n3 n4 n5 n6 n7 n8 n9 o0 o1 o2 o3 o4 o5 o6 o7 o8 o9 p0 p1 p2 p3 p4 p5 p6 p7 p8 p9 q0 q1 q2 q3 q4 q5 q6 q7 q8 q9 r0 r1 r2 r3 r4 r5 r6 r7 r8 r9 s0 s1 s2 s3 s4 s5 s6 s7 s8 s9 u0 u1 u2 u3 u4 u5 u6 u7 u8 u9 v0 v1 v2 v3 v4 v5 v6 v7 v8 v9 w1 w2 w3 w4 w5 w6 w7 w8 w9 S x1 x2 x3 x4 x5 x6 x7 x8 x9 y0 y1 y2 y3 y4 y5 y6 y7 y8 y9 z0 z1 z2 z3 z4 z5 z6 z7 z8 z9 a' b' c' d' e' f' g' h' i' j' k' l' m' n' o' p' q' r' s' t' u' v' x' y' z' A' B' C' D' E' F' G' H' I' x0:Value}{a b e:iC}
def adX(f:T7):T9:=((f.body.bind (iT 0)).getD .skip)
theorem OL{w0 w:χ}{mb K' Z' C}(V':w.heap[mb]? =M (η y 118 (0,0)))(B4:y[0]? =M (V K' (β C) Z'))(M':bE (mQ Lr w0 3) w 56 227 3 qR mb (V K' (β C) Z') C)(B5:Bl w0 w)(A0:H (A w0)<=mb)(J8:β C<=2199023255552){U':Act->χ->Prop}{B6:R8->χ->Prop}(L':∀(D2 E2 F3 B3 B2 B1 B0 v20 v21 C9 C8 C7 C6 C5 C4 C3 C2 C1 C0 D9 D8 D7 D6 D5 v37 D4 D3 D1 D0 E9 E8 E7 E6 v46 E5 E4 E3 E1 v51 E0 v53 F9 F8 F7 F6 F5 F4 F2 F1 F0 G9 G8 G7 G6 G5 G4 G3 v70 G2 v72 G1 G0 v75 v76 H9 H8 H7 H6:ω) (s:χ),eD w s mb 56 3 qR ovC C (β C)->U' ⟨#[ρ (M (D mb 0 U)),d,j,ι σ,D2,E2,F3,m,N,O,P,i5,i6,T,W,a0,B3,B2,B1,B0,v20,v21,C9,C8,C7,C6,C5,C4,C3,C2,C1,C0,D9,D8,D7,D6,D5,v37,D4,D3,D1,D0,E9,E8,E7,E6,v46,E5,E4,E3,E1,v51,E0,v53,F9,F8,F7,F6,F5,F4,F2,F1,F0,G9,G8,G7,G6,G5,G4,G3,v70,G2,v72,G1,G0,v75,v76,H9,H8,H7,H6,i8,i9,j0,j1,j2,j3,j4,j5,j6,j7,j8,j9,k0,k1,k2,k3,k4,k5,k6,k7,k8,k9,l0,l1,l4,l7,l8,l9,m0,m1,m2,m3,m4,m5,m6,m7,m8,m9,n0,n1,n2,n3,n4,n5,n6,n7,n8,n9,o0,o1,o2,o3,o4,o5,o6,o7,o8,o9,p0,p1,p2,p3,p4,p5,p6,p7,p8,p9,q0,q1,q2,q3,q4,q5,q6,q7,q8,q9,r0,r1,r2,r3,r4,r5,r6,r7,r8,r9,s0,s1,s2,s3,s4,s5,s6,s7,s8,s9,u0,u1,u2,u3,u4,u5,u6,u7,u8,u9,v0,v1,v2,v3,v4,v5,v6,v7,v8,v9,w1,w2,w3,w4,w5,w6,w7,w8,w9,S,x1,x2,x3,x4,x5,x6,x7,x8,x9,y0,y1,y2,y3,y4,y5,y6,y7,y8,y9,z0,z1,z2,z3,z4,z5,z6,z7,z8,z9,a',b',c',d',e',f',g',h',i',j',k',l',m',n',o',p',q',r',s',t',u',v',x',y',z',A',B',C',D',E',F',G',H',I',x0],[]⟩ s):
  R1 ψ (adX Q7) (T8.then U' (Q8 ψ Q7 B6)) ⟨#[ρ (M (D mb 0 U)),d,j,ι σ,μ ν 0,p,v,m,N,O,P,i5,i6,T,W,a0,a1,a2,a3,a4,a5,a6,a7,a8,a9,b0,b1,b2,b3,b4,b5,b6,b7,b8,b9,c0,c1,c2,c3,c4,c5,c6,c7,c8,c9,e0,e1,e2,e3,e4,e5,e6,e7,e8,e9,g0,g1,g2,g3,g4,g5,g6,g7,g8,g9,h0,h1,h2,h3,h4,h5,h6,h7,h8,h9,i0,i1,i2,i3,i4,i7,i8,i9,j0,j1,j2,j3,j4,j5,j6,j7,j8,j9,k0,k1,k2,k3,k4,k5,k6,k7,k8,k9,l0,l1,l4,l7,l8,l9,m0,m1,m2,m3,m4,m5,m6,m7,m8,m9,n0,n1,n2,n3,n4,n5,n6,n7,n8,n9,o0,o1,o2,o3,o4,o5,o6,o7,o8,o9,p0,p1,p2,p3,p4,p5,p6,p7,p8,p9,q0,q1,q2,q3,q4,q5,q6,q7,q8,q9,r0,r1,r2,r3,r4,r5,r6,r7,r8,r9,s0,s1,s2,s3,s4,s5,s6,s7,s8,s9,u0,u1,u2,u3,u4,u5,u6,u7,u8,u9,v0,v1,v2,v3,v4,v5,v6,v7,v8,v9,w1,w2,w3,w4,w5,w6,w7,w8,w9,S,x1,x2,x3,x4,x5,x6,x7,x8,x9,y0,y1,y2,y3,y4,y5,y6,y7,y8,y9,z0,z1,z2,z3,z4,z5,z6,z7,z8,z9,a',b',c',d',e',f',g',h',i',j',k',l',m',n',o',p',q',r',s',t',u',v',x',y',z',A',B',C',D',E',F',G',H',I',x0],[]⟩ w:=by
 conv=>arg 2;whnf
 have H5:Γ _:=L';have a:eD w w mb 56 3 qR ovC C 0:=eD.start M';change Γ _ at M';have H4:Γ _:=(eU M').2;change Γ _ at V';have J7:=aH V';clear L';go_wp2_with fail;go_loopg [3,4] (β C) (λgk c b wr=>∃g:Q0,gk=β C-g/\g<=β C/\c=ι σ/\b=μ ν (g:Q6)/\eD w wr mb 56 3 qR ovC C g)
 ·exact⟨0,J,τ _,J,J,a⟩
 obtain⟨g,A9,_,rfl,rfl,N'⟩:=hrel;subst A9;clear a;generalize a:wr=wo at*;clear a;have W':=(N'.ah _ _ _ _ V' E).trans V';have J6:=aH W';have H3:Q wo (D mb 0 U)=M (V K' (β C) Z'):=(aI W').trans B4;by_cases H2:g<β C
 ·rcases H4.out with a|⟨A8,rfl,_,⟨_,f⟩,i⟩
  ·omega
  obtain⟨⟨e,n,l,o,B9⟩,w'⟩:∃H1,C[g]? =M H1:=⟨_,δ H2⟩;have b:=N'.ah _ _ _ _ f E;have r:=(ζ (w:=w) (a:=⟨A8,g*2,U⟩) b).trans (i g _ w').1;have t:=(ζ (w:=w) (a:=⟨A8,g*2+1,U⟩) b).trans (i g _ w').2;have u:A8<H (A wo):=aH (b.trans f);have B:=M'.out.each _ (ο w');have X':mb<=e:=by have:=B.lo;dsimp only at this;omega
  have O':=N'.more ((ξ _ wo).alloc (ε _) (η #[V (M (D e 0 U)) (n+3) (n+3),V l n o] 227)) G;have k:jA (wo.alloc (η #[V (M (D e 0 U)) (n+3) (n+3),V l n o] 227)) (wo.alloc (η #[V (M (D e 0 U)) (n+3) (n+3),V l n o] 227)) mb 56 3 qR ovC ⟨e,n,l,o,B9⟩ 0:=jA.start O' w';have q:=υ wo (η #[V (M (D e 0 U)) (n+3) (n+3),V l n o] 227);clear i f b N';go_wp2_with fail;generalize b:wo.alloc (η #[V (M (D e 0 U)) (n+3) (n+3),V l n o] 227)=W1 at*;generalize J5:H (A wo)=xb at*;have H0:Bl w0 W1:=B5.trans (O'.jH.mono A0);have F:=aH q;clear r t u H3 W' b;go_loopg [3,6] (n+3) (λgk c f s=>∃b:Q0,gk=(n+3)-b/\b<=n+3/\c=ι σ/\f=μ ν (b:Q6)/\jA W1 s mb 56 3 qR ovC ⟨e,n,l,o,B9⟩ b)
  ·exact⟨0,J,τ _,J,J,k⟩
  obtain⟨b,A9,_,rfl,rfl,i⟩:=hrel;subst A9;clear k;have K:xb≠e:=λI9=>by
   obtain⟨r,c,_⟩:=O'.todo g _ (ε _) w';rw[I9]at q;rw[q]at c;cases c
  have k:=(i.pV xb F K).trans q;have I8:=B.small;dsimp only at I8;have P':Q wr (D xb 0 U)=M (V (M (D e 0 U)) (n+3) (n+3)):=aC k;have A7:Q wr (D xb 1 U)=M (V l n o):=aC k;have L:=aH k;have t:e<H (A wr):=i.row.lt;by_cases J4:b<n+3
  ·by_cases I7:b<n
   ·rcases B.want.1.2 with a|⟨c,J',rfl,T',f⟩
    ·dsimp only at a;omega
    obtain⟨Y',B8,B7,R,Q',R'⟩:=B.want.2 b I7;have X:Bl w0 wr:=H0.trans (i.jH.mono A0);have u:Q wr ⟨e,b*3,U⟩=M (μ ν Y'):=(i.row.cell (i:=b*3) dJ).trans (by rw[gV G,iJ R]);have z:Q wr ⟨e,b*3+1,U⟩=M (μ ν B8):=(i.row.cell (i:=b*3+1) dJ).trans (by rw[gV G,iJ Q']);have r:Q wr ⟨e,b*3+2,U⟩=M (γ B7):=(i.row.cell (i:=b*3+2) dJ).trans (by rw[gV G,iJ R']);have S':Q wr ⟨c,J'+b*3,U⟩=M (μ ν Y'):=cK X T' (f _ _ R);have A5:Q wr ⟨c,J'+b*3+1,U⟩=M (μ ν B8):=cK X T' (f _ _ Q');have A4:Q wr ⟨c,J'+b*3+2,U⟩=M (γ B7):=cK X T' (f _ _ R');have I3:c<H (A wr):=cz X.size;clear f R Q' R';go_upto_region 9 with fail
    go_cut [3] (λQ' s=>Q'=ι σ/\Bl wr s)
    ·go_region;all_goals(go_wp2;go_meet)
     all_goals exact⟨J,uU⟩
    obtain⟨rfl,A6⟩:=hcut;have R:=i.more A6 G;clear u S' z A5 r A4 P' A7 L t k;generalize A5:wc=wy at*;clear A5;have k:=(R.pV xb F K).trans q;have P':Q wy (D xb 0 U)=M (V (M (D e 0 U)) (n+3) (n+3)):=aC k;have L:=aH k;have t:e<H (A wy):=R.row.lt;clear k;go_upto_region 10 with fail
    go_region_with(go_at_call 138;refine cB (uu _) ?_;rintro S' R';have f:=R.more (x:=S') (by first|exact R'|exact((ξ _ _).drew).trans (R'.mono (ε _))) G;have A1:=(aI (j:=0) ((f.pV xb F K).trans q)).trans J;have I5:=aH ((f.pV xb F K).trans q);have I6:e<H (A S'):=f.row.lt;have u:=f.row.cell (i:=b*3) dJ;have z:=f.row.cell (i:=b*3+1) dJ;have r:=f.row.cell (i:=b*3+2) dJ;have A4:=f.row.frozen (b*3);have A3:=f.row.frozen (b*3+1);have A2:=f.row.frozen (b*3+2);dsimp only at u z r A4 A3 A2 A1);all_goals go_wp2_with fail
    all_goals go_roundg (n+3-(b+1))
    all_goals first
     |omega
     |exact⟨b+1,J,G,J,aP,f.Oc X' J J J⟩
     |exact⟨b+1,J,G,J,aP,(f.more (ξ _ _).drew G).Oc X' J J J⟩
   have J3:decide ((b:Q6)<(n:Q6))=Ω:=aN;have J2:n<=b:=G;have J1:decide (n<=b)=σ:=aN;have u:Q wr ⟨e,b*3,U⟩=M (μ ν 9):=(i.row.cell (i:=b*3) dJ).trans (by rw[gV G,gG (by have:=B.len;dsimp only at this;dsimp only;omega),show(b*3) % 3=0 by omega];rfl);have z:Q wr ⟨e,b*3+1,U⟩=M (μ ν 77):=(i.row.cell (i:=b*3+1) dJ).trans (by rw[gV G,gG (by have:=B.len;dsimp only at this;dsimp only;omega),show(b*3+1) % 3=1 by omega];rfl);have r:Q wr ⟨e,b*3+2,U⟩=M (γ ⟨#[]⟩):=(i.row.cell (i:=b*3+2) dJ).trans (by rw[gV G,gG (by have:=B.len;dsimp only at this;dsimp only;omega),show(b*3+2) % 3=2 by omega];rfl);go_upto_region 9 with fail
   go_cut [3] (λQ' s=>Q'=ι σ/\Bl wr s)
   ·refine wp_region_held_drew (S:=λx=>Bl wr x) aF (ξ _ _).drew (λc=>?_);have Y':∀x:χ,Bl wr x->(Q x (D xb 0 U)=M (V (M (D e 0 U)) (n+3) (n+3))/\Q x (D xb 1 U)=M (V l n o))/\(Q x ⟨e,b*3,U⟩=M (μ ν 9)/\Q x ⟨e,b*3+1,U⟩=M (μ ν 77)/\Q x ⟨e,b*3+2,U⟩=M (γ ⟨#[]⟩))/\xb<H (A x)/\e<H (A x):=λx X=>⟨⟨cK X L P',cK X L A7⟩,⟨cK X t u,cK X t z,cK X t r⟩,Ξ L X.size,Ξ t X.size⟩;refine tG 0 39 (ι σ) J J aF (λ_ _ _ a=>a) c ?_ ?_;refine tG 1 40 (ι σ) J J aF (λ_ _ _ a=>a) c ?_ ?_;refine tG 2 41 (μ ν (b:Q6)) J J aF (λ_ _ _ a=>a) c ?_ ?_;refine tG 3 42 (ρ (M (D xb 1 U))) J J aF (λ_ _ _ a=>a) c ?_ ?_;refine tG 4 43 (V l n o) J J aF (λ_ _ _ a=>a) c ?_ ?_;refine tG 5 44 (μ ν (n:Q6)) J J aF (λ_ _ _ a=>a) c ?_ ?_;refine tG 6 45 (ι Ω) J J aF (λ_ _ _ a=>a) c ?_ ?_;refine tG 7 46 (ι Ω) J J aF (λ_ _ _ a=>a) c ?_ ?_;refine tG 8 47 S0 J J aF (λ_ _ _ a=>a) c ?_ ?_;refine tG 9 48 S0 J J aF (λ_ _ _ a=>a) c ?_ ?_;refine tG 10 49 S0 J J aF (λ_ _ _ a=>a) c ?_ ?_;refine tG 11 50 S0 J J aF (λ_ _ _ a=>a) c ?_ ?_;refine tG 12 51 S0 J J aF (λ_ _ _ a=>a) c ?_ ?_;refine tG 13 52 S0 J J aF (λ_ _ _ a=>a) c ?_ ?_;refine tG 14 53 S0 J J aF (λ_ _ _ a=>a) c ?_ ?_;refine tG 15 54 S0 J J aF (λ_ _ _ a=>a) c ?_ ?_;refine tG 16 55 S0 J J aF (λ_ _ _ a=>a) c ?_ ?_;refine tG 17 56 S0 J J aF (λ_ _ _ a=>a) c ?_ ?_;refine tG 18 57 S0 J J aF (λ_ _ _ a=>a) c ?_ ?_;refine tG 19 58 (ι Ω) J J aF (λ_ _ _ a=>a) c ?_ ?_;refine tG 20 59 (ι Ω) J J aF (λ_ _ _ a=>a) c ?_ ?_;refine tG 21 60 (μ ν (b:Q6)) J J aF (λ_ _ _ a=>a) c ?_ ?_;refine tG 22 61 (ρ (M (D xb 1 U))) J J aF (λ_ _ _ a=>a) c ?_ ?_;refine tG 23 62 (V l n o) J J aF (λ_ _ _ a=>a) c ?_ ?_;refine tG 24 63 (μ ν (n:Q6)) J J aF (λ_ _ _ a=>a) c ?_ ?_;refine tG 25 64 (ι σ) J J aF (λ_ _ _ a=>a) c ?_ ?_;refine tG 26 65 (ι σ) J J aF (λ_ _ _ a=>a) c ?_ ?_;refine tG 27 66 (ρ (M (D xb 0 U))) J J aF (λ_ _ _ a=>a) c ?_ ?_;refine tG 28 67 (V (M (D e 0 U)) (n+3) (n+3)) J J aF (λ_ _ _ a=>a) c ?_ ?_;refine tG 29 68 (μ ν (b:Q6)) J J aF (λ_ _ _ a=>a) c ?_ ?_;refine tG 30 69 (ρ (M ⟨e,b*3,U⟩)) J J aF (λ_ _ _ a=>a) c ?_ ?_;refine tG 31 70 (T2 #[μ ν 9,μ ν 77,γ ⟨#[]⟩]) J J aF (λ_ _ _ a=>a) c ?_ ?_;all_goals try(simp only[Act.put,Θ,Q1,Q2];first|exact S2 ⟨by rfl,J⟩|exact R3 ⟨by rfl,λx T'=>by obtain⟨⟨B7,I3⟩,⟨I2,Q',I1⟩,I0,J9⟩:=Y' x T';clear T' Y';go_simp⟩)
    simp only[Act.put,Θ,Q1,Q2];refine wpAnyH_ready (rs:=[32]) aF ak ?_;refine AllReadyH.cons J (λU' L'=>?_) AllReadyH.nil
    go_simp
    go_wp2_with(go_at_call 71;refine cB BG ?_;rintro _ B8);refine L' _ _ (bT c B8) (λJ'=>?_);clear L' U';refine tG 33 72 (ι σ) J J aF (λ_ _ _ a=>a) J' ?_ ?_;refine tG 34 73 (ι σ) J J aF (λ_ _ _ a=>a) J' ?_ ?_;refine tG 35 74 (ι σ) J J aF (λ_ _ _ a=>a) J' ?_ ?_;refine tG 36 75 (ι σ) J J aF (λ_ _ _ a=>a) J' ?_ ?_;refine tG 37 3 (ι σ) J J aF (λ_ _ _ a=>a) J' ?_ ?_;all_goals try(simp only[Act.put,Θ,Q1,Q2];first|exact S2 ⟨by rfl,J⟩|exact R3 ⟨by rfl,λx T'=>by obtain⟨⟨B7,I3⟩,⟨I2,Q',I1⟩,I0,J9⟩:=Y' x T';clear T' Y';go_simp⟩)
    simp only[Act.put,Θ,Q1,Q2];refine wpAnyH_done aF ?_ _
    go_wp2
    go_meet;exact⟨J,J'⟩
   obtain⟨rfl,A6⟩:=hcut;have R:=i.more A6 G;clear u z r P' A7 L t k;generalize A5:wc=wy at*;clear A5;have k:=(R.pV xb F K).trans q;have P':Q wy (D xb 0 U)=M (V (M (D e 0 U)) (n+3) (n+3)):=aC k;have L:=aH k;have t:e<H (A wy):=R.row.lt;clear k;go_upto_region 10 with fail
   go_region_with(go_at_call 138;refine cB (uu _) ?_;rintro S' R';have f:=R.more (x:=S') (by first|exact R'|exact((ξ _ _).drew).trans (R'.mono (ε _))) G;have A1:=(aI (j:=0) ((f.pV xb F K).trans q)).trans J;have I5:=aH ((f.pV xb F K).trans q);have I6:e<H (A S'):=f.row.lt;have u:=f.row.cell (i:=b*3) dJ;have z:=f.row.cell (i:=b*3+1) dJ;have r:=f.row.cell (i:=b*3+2) dJ;have A4:=f.row.frozen (b*3);have A3:=f.row.frozen (b*3+1);have A2:=f.row.frozen (b*3+2);dsimp only at u z r A4 A3 A2 A1);all_goals go_wp2_with fail
   all_goals go_roundg (n+3-(b+1))
   all_goals first
    |omega
    |exact⟨b+1,J,G,J,aP,f.Oc X' J J J⟩
    |exact⟨b+1,J,G,J,aP,(f.more (ξ _ _).drew G).Oc X' J J J⟩
  obtain rfl:b=n+3:=G;have c:=O'.next w' i M'.apart;clear i O'
  go_wp2
  go_roundg (β C-(g+1))
  all_goals first
   |omega
   |exact⟨g+1,J,G,J,aP,c⟩
 obtain rfl:g=β C:=G;clear W';go_wp2_with fail;apply H5;exact N'
def adY(f:T7):T9:=((f.body.bind (iT 4)).getD .skip)
theorem OM{w0 w:χ}{mb s R X}(B:w.heap[mb]? =M (η y 118 (0,0)))(A7:y[2]? =M (V s (β X) R))(t:bE (mQ KX w0 1) w 9 294 1 uW mb (V s (β X) R) X)(A8:Bl w0 w)(R':H (A w0)<=mb)(H3:β X<=2199023255552){Q':Act->χ->Prop}{A9:R8->χ->Prop}(S':∀(E4 E3 F4 E2 E1 E0 F9 v85 F8 F7 F6 F5 F3 F2 F1 F0 G9 G8 G7 G6 G5 G4 A6 A5 A4 A3 A2 A1 A0 B9 B8 B7 B6 B5 B4 B3 B2 B1 B0 C9 C8 C7 C6 C5 C4 C3 C2 C1 C0 v127 D9 D8 D7 D6 D5 D4 D3 D2 D1 D0 E9 E8 E7 E6 E5 v143:ω) (i:χ),eD w i mb 9 1 uW ovX X (β X)->Q' ⟨#[ρ (M (D mb 0 U)),d,j,ι σ,p,v,m,E4,E3,F4,P,i5,i6,T,W,a0,a1,a2,a3,a4,a5,a6,a7,a8,a9,b0,b1,b2,b3,b4,b5,b6,b7,b8,b9,c0,c1,c2,c3,c4,c5,c6,c7,c8,c9,e0,e1,e2,e3,e4,e5,e6,e7,e8,e9,g0,g1,g2,g3,g4,g5,g6,g7,g8,g9,h0,h1,h2,h3,h4,h5,h6,h7,h8,h9,i0,i1,i2,i3,i4,i7,E2,E1,E0,F9,v85,F8,F7,F6,F5,F3,F2,F1,F0,G9,G8,G7,G6,G5,G4,A6,A5,A4,A3,A2,A1,A0,B9,B8,B7,B6,B5,B4,B3,B2,B1,B0,C9,C8,C7,C6,C5,C4,C3,C2,C1,C0,v127,D9,D8,D7,D6,D5,D4,D3,D2,D1,D0,E9,E8,E7,E6,E5,v143,p5,p6,p7,p8,p9,q0,q1,q2,q3,q4,q5,q6,q7,q8,q9,r0,r1,r2,r3,r4,r5,r6,r7,r8,r9,s0,s1,s2,s3,s4,s5,s6,s7,s8,s9,u0,u1,u2,u3,u4,u5,u6,u7,u8,u9,v0,v1,v2,v3,v4,v5,v6,v7,v8,v9,w1,w2,w3,w4,w5,w6,w7,w8,w9,S,x1,x2,x3,x4,x5,x6,x7,x8,x9,y0,y1,y2,y3,y4,y5,y6,y7,y8,y9,z0,z1,z2,z3,z4,z5,z6,z7,z8,z9,a',b',c',d',e',f',g',h',i',j',k',l',m',n',o',p',q',r',s',t',u',v',x',y',z',A',B',C',D',E',F',G',H',I',x0],[]⟩ i):
  R1 ψ (adY Q7) (T8.then Q' (Q8 ψ Q7 A9)) ⟨#[ρ (M (D mb 0 U)),d,j,ι σ,p,v,m,μ ν 0,N,O,P,i5,i6,T,W,a0,a1,a2,a3,a4,a5,a6,a7,a8,a9,b0,b1,b2,b3,b4,b5,b6,b7,b8,b9,c0,c1,c2,c3,c4,c5,c6,c7,c8,c9,e0,e1,e2,e3,e4,e5,e6,e7,e8,e9,g0,g1,g2,g3,g4,g5,g6,g7,g8,g9,h0,h1,h2,h3,h4,h5,h6,h7,h8,h9,i0,i1,i2,i3,i4,i7,i8,i9,j0,j1,j2,j3,j4,j5,j6,j7,j8,j9,k0,k1,k2,k3,k4,k5,k6,k7,k8,k9,l0,l1,l4,l7,l8,l9,m0,m1,m2,m3,m4,m5,m6,m7,m8,m9,n0,n1,n2,n3,n4,n5,n6,n7,n8,n9,o0,o1,o2,o3,o4,o5,o6,o7,o8,o9,p0,p1,p2,p3,p4,p5,p6,p7,p8,p9,q0,q1,q2,q3,q4,q5,q6,q7,q8,q9,r0,r1,r2,r3,r4,r5,r6,r7,r8,r9,s0,s1,s2,s3,s4,s5,s6,s7,s8,s9,u0,u1,u2,u3,u4,u5,u6,u7,u8,u9,v0,v1,v2,v3,v4,v5,v6,v7,v8,v9,w1,w2,w3,w4,w5,w6,w7,w8,w9,S,x1,x2,x3,x4,x5,x6,x7,x8,x9,y0,y1,y2,y3,y4,y5,y6,y7,y8,y9,z0,z1,z2,z3,z4,z5,z6,z7,z8,z9,a',b',c',d',e',f',g',h',i',j',k',l',m',n',o',p',q',r',s',t',u',v',x',y',z',A',B',C',D',E',F',G',H',I',x0],[]⟩ w:=by
 conv=>arg 2;whnf
 change Γ _ at S';have a:eD w w mb 9 1 uW ovX X 0:=eD.start t;change Γ _ at t;have G3:Γ _:=(eU t).2;change Γ _ at B;have H2:=aH B;go_wp2_with fail;go_loopg [3,7] (β X) (λgk e b wr=>∃c:Q0,gk=β X-c/\c<=β X/\e=ι σ/\b=μ ν (c:Q6)/\eD w wr mb 9 1 uW ovX X c)
 ·exact⟨0,J,τ _,J,J,a⟩
 obtain⟨c,w',_,rfl,rfl,u⟩:=hrel;subst w';clear a;generalize a:wr=wo at*;clear a;have C:=(u.ah _ _ _ _ B E).trans B;have H1:=aH C;have G2:Q wo (D mb 2 U)=M (V s (β X) R):=(aI C).trans A7;by_cases G1:c<β X
 ·rcases G3.out with T'|⟨J',rfl,_,⟨_,f⟩,g⟩
  ·omega
  obtain⟨⟨b,n,k,l,U'⟩,q⟩:∃G0,X[c]? =M G0:=⟨_,δ G1⟩;have a:=u.ah _ _ _ _ f E;have F:=(ζ (w:=w) (a:=⟨J',c*2,U⟩) a).trans (g c _ q).1;have K:=(ζ (w:=w) (a:=⟨J',c*2+1,U⟩) a).trans (g c _ q).2;have L:J'<H (A wo):=aH (a.trans f);have x:=t.out.each _ (ο q);have V':mb<=b:=by have:=x.lo;dsimp only at this;omega
  have z:=u.more ((ξ _ wo).alloc (ε _) (η #[V (M (D b 0 U)) (n+3) (n+3),V k n l] 294)) G;have o:jA (wo.alloc (η #[V (M (D b 0 U)) (n+3) (n+3),V k n l] 294)) (wo.alloc (η #[V (M (D b 0 U)) (n+3) (n+3),V k n l] 294)) mb 9 1 uW ovX ⟨b,n,k,l,U'⟩ 0:=jA.start z q;have r:=υ wo (η #[V (M (D b 0 U)) (n+3) (n+3),V k n l] 294);clear g f a u;go_wp2_with fail;generalize a:wo.alloc (η #[V (M (D b 0 U)) (n+3) (n+3),V k n l] 294)=W1 at*;generalize H0:H (A wo)=xb at*;have H9:Bl w0 W1:=A8.trans (z.jH.mono R');have K':=aH r;clear F K L G2 C a;go_loopg [3,9] (n+3) (λgk e f i=>∃a:Q0,gk=(n+3)-a/\a<=n+3/\e=ι σ/\f=μ ν (a:Q6)/\jA W1 i mb 9 1 uW ovX ⟨b,n,k,l,U'⟩ a)
  ·exact⟨0,J,τ _,J,J,o⟩
  obtain⟨a,w',_,rfl,rfl,g⟩:=hrel;subst w';clear o;have L':xb≠b:=λH8=>by
   obtain⟨_,e,_⟩:=z.todo c _ (ε _) q;rw[H8]at r;rw[r]at e;cases e
  have e:=(g.pV xb K' L').trans r;have H7:=x.small;dsimp only at H7;have F:Q wr (D xb 0 U)=M (V (M (D b 0 U)) (n+3) (n+3)):=aC e;have W':Q wr (D xb 1 U)=M (V k n l):=aC e;have K:=aH e;have L:b<H (A wr):=g.row.lt;by_cases I9:a<n+3
  ·by_cases H6:a<n
   ·rcases x.want.1.2 with T'|⟨X',H5,rfl,H4,M'⟩
    ·dsimp only at T';omega
    obtain⟨Y',f⟩:=x.want.2 a H6;have Z':Bl w0 wr:=H9.trans (g.jH.mono R');have o:Q wr (D b a U)=M (γ Y'):=(g.row.cell (i:=a) dJ).trans (by rw[gV G,iJ f]);have O':Q wr ⟨X',H5+a,U⟩=M (γ Y'):=cK Z' H4 (M' _ _ f);have I8:X'<H (A wr):=cz Z'.size;clear M' f;go_upto_region 18 with fail
    go_cut [3] (λM' i=>M'=ι σ/\Bl wr i)
    ·go_region;all_goals(go_wp2;go_meet)
     all_goals exact⟨J,uU⟩
    obtain⟨rfl,N'⟩:=hcut;have f:=g.more N' G;clear o O' F W' K L e;generalize O':wc=wy at*;clear O';have e:=(f.pV xb K' L').trans r;have F:Q wy (D xb 0 U)=M (V (M (D b 0 U)) (n+3) (n+3)):=aC e;have K:=aH e;have L:b<H (A wy):=f.row.lt;have o:=f.row.cell (i:=a) dJ;have P':=f.row.frozen (a);dsimp only at o P';clear e
    go_wp2
    go_roundg (n+3-(a+1))
    all_goals first
     |omega
     |exact⟨a+1,J,G,J,aP,f.Vt V' J⟩
   have X':decide ((a:Q6)<(n:Q6))=Ω:=aN;have Y':n<=a:=G;have Z':decide (n<=a)=σ:=aN;have o:Q wr (D b a U)=M (γ ⟨#[98,101,121,111,110,100]⟩):=(g.row.cell (i:=a) dJ).trans (by rw[gV G,gG (by have:=x.len;dsimp only at this;dsimp only;omega),U0];rfl);go_upto_region 18 with fail
   go_cut [3] (λM' i=>M'=ι σ/\Bl wr i)
   ·go_region;all_goals(go_wp2;go_meet)
    all_goals exact⟨J,uU⟩
   obtain⟨rfl,N'⟩:=hcut;have f:=g.more N' G;clear o F W' K L e;generalize O':wc=wy at*;clear O';have e:=(f.pV xb K' L').trans r;have F:Q wy (D xb 0 U)=M (V (M (D b 0 U)) (n+3) (n+3)):=aC e;have K:=aH e;have L:b<H (A wy):=f.row.lt;have o:=f.row.cell (i:=a) dJ;have P':=f.row.frozen (a);dsimp only at o P';clear e
   go_wp2
   go_roundg (n+3-(a+1))
   all_goals first
    |omega
    |exact⟨a+1,J,G,J,aP,f.Vt V' J⟩
  obtain rfl:a=n+3:=G;have f:=z.next q g t.apart;clear g z
  go_wp2
  go_roundg (β X-(c+1))
  all_goals first
   |omega
   |exact⟨c+1,J,G,J,aP,f⟩
 obtain rfl:c=β X:=G;clear C;go_wp2_with fail;apply S';exact u
def abS(f:T7):T9:=((f.body.bind (iT 12)).getD .skip)
theorem Rz{w0 w:χ}{mb x L' K}(F:w.heap[mb]? =M (η y 118 (0,0)))(B9:y[4]? =M (V x (β K) L'))(z:bE (mQ PG w0 3) w 50 290 3 uV mb (V x (β K) L') K)(A0:Bl w0 w)(Z':H (A w0)<=mb)(I6:β K<=2199023255552){Y':Act->χ->Prop}{A1:R8->χ->Prop}(A9:∀(B8 B7 B6 B5 B4 B3 v210 B2 v212 B1 B0 C9 C8 C7 C6 C5 C4 C3 C2 C1 C0 D9 D8 D7 D6 D5 D4 D3 v232 v233 D2 D1 D0 E9 E8 E7 E6 E5 E4 E3 E2 E1 E0 F9 F8 F7 F6 F5 F4 F3 F2 F1 F0 G9 G8 G7 G6 G5 G4 G3 G2 G1 G0 H9 H8 H7 H6 H5:ω) (i:χ),eD w i mb 50 3 uV ovK K (β K)->Y' ⟨#[ρ (M (D mb 0 U)),d,j,ι σ,p,v,m,N,O,P,i5,i6,T,B8,B7,B6,a1,a2,a3,a4,a5,a6,a7,a8,a9,b0,b1,b2,b3,b4,b5,b6,b7,b8,b9,c0,c1,c2,c3,c4,c5,c6,c7,c8,c9,e0,e1,e2,e3,e4,e5,e6,e7,e8,e9,g0,g1,g2,g3,g4,g5,g6,g7,g8,g9,h0,h1,h2,h3,h4,h5,h6,h7,h8,h9,i0,i1,i2,i3,i4,i7,i8,i9,j0,j1,j2,j3,j4,j5,j6,j7,j8,j9,k0,k1,k2,k3,k4,k5,k6,k7,k8,k9,l0,l1,l4,l7,l8,l9,m0,m1,m2,m3,m4,m5,m6,m7,m8,m9,n0,n1,n2,n3,n4,n5,n6,n7,n8,n9,o0,o1,o2,o3,o4,o5,o6,o7,o8,o9,p0,p1,p2,p3,p4,p5,p6,p7,p8,p9,q0,q1,q2,q3,q4,q5,q6,q7,q8,q9,r0,r1,r2,r3,r4,r5,r6,r7,r8,r9,s0,s1,s2,s3,s4,s5,s6,s7,s8,s9,u0,u1,u2,u3,u4,u5,u6,u7,u8,u9,v0,v1,v2,v3,v4,v5,v6,v7,v8,v9,w1,w2,w3,w4,w5,w6,w7,w8,B5,B4,B3,v210,B2,v212,B1,B0,C9,C8,C7,C6,C5,C4,C3,C2,C1,C0,D9,D8,D7,D6,D5,D4,D3,v232,v233,D2,D1,D0,E9,E8,E7,E6,E5,E4,E3,E2,E1,E0,F9,F8,F7,F6,F5,F4,F3,F2,F1,F0,G9,G8,G7,G6,G5,G4,G3,G2,G1,G0,H9,H8,H7,H6,H5,x0],[]⟩ i):
  R1 ψ (abS Q7) (T8.then Y' (Q8 ψ Q7 A1)) ⟨#[ρ (M (D mb 0 U)),d,j,ι σ,p,v,m,N,O,P,i5,i6,T,μ ν 0,W,a0,a1,a2,a3,a4,a5,a6,a7,a8,a9,b0,b1,b2,b3,b4,b5,b6,b7,b8,b9,c0,c1,c2,c3,c4,c5,c6,c7,c8,c9,e0,e1,e2,e3,e4,e5,e6,e7,e8,e9,g0,g1,g2,g3,g4,g5,g6,g7,g8,g9,h0,h1,h2,h3,h4,h5,h6,h7,h8,h9,i0,i1,i2,i3,i4,i7,i8,i9,j0,j1,j2,j3,j4,j5,j6,j7,j8,j9,k0,k1,k2,k3,k4,k5,k6,k7,k8,k9,l0,l1,l4,l7,l8,l9,m0,m1,m2,m3,m4,m5,m6,m7,m8,m9,n0,n1,n2,n3,n4,n5,n6,n7,n8,n9,o0,o1,o2,o3,o4,o5,o6,o7,o8,o9,p0,p1,p2,p3,p4,p5,p6,p7,p8,p9,q0,q1,q2,q3,q4,q5,q6,q7,q8,q9,r0,r1,r2,r3,r4,r5,r6,r7,r8,r9,s0,s1,s2,s3,s4,s5,s6,s7,s8,s9,u0,u1,u2,u3,u4,u5,u6,u7,u8,u9,v0,v1,v2,v3,v4,v5,v6,v7,v8,v9,w1,w2,w3,w4,w5,w6,w7,w8,w9,S,x1,x2,x3,x4,x5,x6,x7,x8,x9,y0,y1,y2,y3,y4,y5,y6,y7,y8,y9,z0,z1,z2,z3,z4,z5,z6,z7,z8,z9,a',b',c',d',e',f',g',h',i',j',k',l',m',n',o',p',q',r',s',t',u',v',x',y',z',A',B',C',D',E',F',G',H',I',x0],[]⟩ w:=by
 conv=>arg 2;whnf
 change Γ _ at A9;have a:eD w w mb 50 3 uV ovK K 0:=eD.start z;change Γ _ at z;have H4:Γ _:=(eU z).2;change Γ _ at F;have I5:=aH F;go_wp2_with fail;go_loopg [3,13] (β K) (λgk c b wr=>∃e:Q0,gk=β K-e/\e<=β K/\c=ι σ/\b=μ ν (e:Q6)/\eD w wr mb 50 3 uV ovK K e)
 ·exact⟨0,J,τ _,J,J,a⟩
 obtain⟨e,M',_,rfl,rfl,B⟩:=hrel;subst M';clear a;generalize a:wr=wo at*;clear a;have L:=(B.ah _ _ _ _ F E).trans F;have I4:=aH L;have H3:Q wo (D mb 4 U)=M (V x (β K) L'):=(aI L).trans B9;by_cases H2:e<β K
 ·rcases H4.out with A8|⟨N',rfl,_,⟨_,f⟩,g⟩
  ·omega
  obtain⟨⟨b,n,k,l,A7⟩,t⟩:∃H1,K[e]? =M H1:=⟨_,δ H2⟩;have a:=B.ah _ _ _ _ f E;have r:=(ζ (w:=w) (a:=⟨N',e*2,U⟩) a).trans (g e _ t).1;have s:=(ζ (w:=w) (a:=⟨N',e*2+1,U⟩) a).trans (g e _ t).2;have R:N'<H (A wo):=aH (a.trans f);have q:=z.out.each _ (ο t);have A6:mb<=b:=by have:=q.lo;dsimp only at this;omega
  have C:=B.more ((ξ _ wo).alloc (ε _) (η #[V (M (D b 0 U)) (n+3) (n+3),V k n l] 290)) G;have o:jA (wo.alloc (η #[V (M (D b 0 U)) (n+3) (n+3),V k n l] 290)) (wo.alloc (η #[V (M (D b 0 U)) (n+3) (n+3),V k n l] 290)) mb 50 3 uV ovK ⟨b,n,k,l,A7⟩ 0:=jA.start C t;have u:=υ wo (η #[V (M (D b 0 U)) (n+3) (n+3),V k n l] 290);clear g f a B;go_wp2_with fail;generalize a:wo.alloc (η #[V (M (D b 0 U)) (n+3) (n+3),V k n l] 290)=W1 at*;generalize I3:H (A wo)=xb at*;have H0:Bl w0 W1:=A0.trans (C.jH.mono Z');have O':=aH u;clear r s R H3 L a;go_loopg [3,15] (n+3) (λgk c f i=>∃a:Q0,gk=(n+3)-a/\a<=n+3/\c=ι σ/\f=μ ν (a:Q6)/\jA W1 i mb 50 3 uV ovK ⟨b,n,k,l,A7⟩ a)
  ·exact⟨0,J,τ _,J,J,o⟩
  obtain⟨a,M',_,rfl,rfl,f⟩:=hrel;subst M';clear o;have P':xb≠b:=λI9=>by
   obtain⟨o,c,_⟩:=C.todo e _ (ε _) t;rw[I9]at u;rw[u]at c;cases c
  have g:=(f.pV xb O' P').trans u;have I8:=q.small;dsimp only at I8;have R:Q wr (D xb 0 U)=M (V (M (D b 0 U)) (n+3) (n+3)):=aC g;have A5:Q wr (D xb 1 U)=M (V k n l):=aC g;have X:=aH g;have w':b<H (A wr):=f.row.lt;by_cases I2:a<n+3
  ·by_cases I7:a<n
   ·rcases q.want.1.2 with A8|⟨J',Q',rfl,R',c⟩
    ·dsimp only at A8;omega
    obtain⟨A4,A3,A2,S',T',U'⟩:=q.want.2 a I7;have K':Bl w0 wr:=H0.trans (f.jH.mono Z');have r:Q wr ⟨b,a*3,U⟩=M (γ A4):=(f.row.cell (i:=a*3) dJ).trans (by rw[gV G,iJ S']);have s:Q wr ⟨b,a*3+1,U⟩=M (γ A3):=(f.row.cell (i:=a*3+1) dJ).trans (by rw[gV G,iJ T']);have o:Q wr ⟨b,a*3+2,U⟩=M (μ ν A2):=(f.row.cell (i:=a*3+2) dJ).trans (by rw[gV G,iJ U']);have V':Q wr ⟨J',Q'+a*3,U⟩=M (γ A4):=cK K' R' (c _ _ S');have W':Q wr ⟨J',Q'+a*3+1,U⟩=M (γ A3):=cK K' R' (c _ _ T');have X':Q wr ⟨J',Q'+a*3+2,U⟩=M (μ ν A2):=cK K' R' (c _ _ U');have I1:J'<H (A wr):=cz K'.size;clear c S' T' U';go_upto_region 36 with fail
    go_cut [3] (λS' i=>S'=ι σ/\Bl wr i)
    ·go_region;all_goals(go_wp2;go_meet)
     all_goals exact⟨J,uU⟩
    obtain⟨rfl,T'⟩:=hcut;have c:=f.more T' G;clear r V' s W' o X' R A5 X w' g;generalize U':wc=wy at*;clear U';have g:=(c.pV xb O' P').trans u;have R:Q wy (D xb 0 U)=M (V (M (D b 0 U)) (n+3) (n+3)):=aC g;have X:=aH g;have w':b<H (A wy):=c.row.lt;have r:=c.row.cell (i:=a*3) dJ;have s:=c.row.cell (i:=a*3+1) dJ;have o:=c.row.cell (i:=a*3+2) dJ;have V':=c.row.frozen (a*3);have W':=c.row.frozen (a*3+1);have X':=c.row.frozen (a*3+2);dsimp only at r V' s W' o X';clear g
    go_wp2
    go_roundg (n+3-(a+1))
    all_goals first
     |omega
     |exact⟨a+1,J,G,J,aP,c.Oc A6 J J J⟩
   have J':decide ((a:Q6)<(n:Q6))=Ω:=aN;have K':n<=a:=G;have Q':decide (n<=a)=σ:=aN;have r:Q wr ⟨b,a*3,U⟩=M (γ ⟨#[98,101,121,111,110,100]⟩):=(f.row.cell (i:=a*3) dJ).trans (by rw[gV G,gG (by have:=q.len;dsimp only at this;dsimp only;omega),show(a*3) % 3=0 by omega];rfl);have s:Q wr ⟨b,a*3+1,U⟩=M (γ ⟨#[]⟩):=(f.row.cell (i:=a*3+1) dJ).trans (by rw[gV G,gG (by have:=q.len;dsimp only at this;dsimp only;omega),show(a*3+1) % 3=1 by omega];rfl);have o:Q wr ⟨b,a*3+2,U⟩=M (μ ν 0):=(f.row.cell (i:=a*3+2) dJ).trans (by rw[gV G,gG (by have:=q.len;dsimp only at this;dsimp only;omega),show(a*3+2) % 3=2 by omega];rfl);go_upto_region 36 with fail
   go_cut [3] (λS' i=>S'=ι σ/\Bl wr i)
   ·go_region;all_goals(go_wp2;go_meet)
    all_goals exact⟨J,uU⟩
   obtain⟨rfl,T'⟩:=hcut;have c:=f.more T' G;clear r s o R A5 X w' g;generalize U':wc=wy at*;clear U';have g:=(c.pV xb O' P').trans u;have R:Q wy (D xb 0 U)=M (V (M (D b 0 U)) (n+3) (n+3)):=aC g;have X:=aH g;have w':b<H (A wy):=c.row.lt;have r:=c.row.cell (i:=a*3) dJ;have s:=c.row.cell (i:=a*3+1) dJ;have o:=c.row.cell (i:=a*3+2) dJ;have V':=c.row.frozen (a*3);have W':=c.row.frozen (a*3+1);have X':=c.row.frozen (a*3+2);dsimp only at r V' s W' o X';clear g
   go_wp2
   go_roundg (n+3-(a+1))
   all_goals first
    |omega
    |exact⟨a+1,J,G,J,aP,c.Oc A6 J J J⟩
  obtain rfl:a=n+3:=G;have c:=C.next t f z.apart;clear f C
  go_wp2
  go_roundg (β K-(e+1))
  all_goals first
   |omega
   |exact⟨e+1,J,G,J,aP,c⟩
 obtain rfl:e=β K:=G;clear L;go_wp2_with fail;apply A9;exact B
def IZ(cs:Ψ ω)(n:Q0):Prop:=∀i,i<n->∃z:Q6,cs[i]? =M (μ ν z)
def vO(_:Q0):ω:=μ ν 77
def ovI(_:Q0):ω:=μ ν (-8)
theorem MO:(ψ.info? 256).map (λa=>(a.zero,a.size,a.bytes))=M (M (T2 #[V U 0 0,V U 0 0]),2,48):=aF
theorem Qr(w mb):
  S7 ψ 41 #[ρ (M (D mb 0 U)),V U 0 0] w (RE (V U 0 0) w):=by
 have:∀a,(S5 .eql 42 (V U 0 0) (V U 0 0)).run ψ a=.ok (ι σ) a:=λa=>kK a Q4;go_enter T6,T4
 go_wp2
 go_ret;exact⟨J,J⟩
theorem Qq{w0 w:χ}{mb f j i c}(r:w.heap[mb]? =M (η y 118 (0,0)))(C:y[3]? =M (V f j i))(q:bE (mQ IZ w0 1) w 3 256 1 vO mb (V f j i) c)(e0:β c<=1099511627776)(a1:Bl w0 w){so n}(wc){a}(a3:n<=1048576)(k:ku w0 1 (M so) n a)(a2:∀a5∈a,a5.oneCell'=σ)(a4:IZ a n):
  S7 ψ 41 #[ρ (M (D mb 0 U)),V (M so) n wc] w λa0 a6=>CW (mQ IZ w0 1) w 3 256 118 1 vO mb 3 y c (M so) n wc a a0 a6:=by
 obtain⟨a7,F,a8,K,a9⟩:=Q9 lX;obtain⟨b0,s,b1,b2,b3⟩:=Q9 MO;have L:=aH r;have b4:(ψ.info? 3).map (·.size)=M 1:=by rw[F];simp[K]
 have o:=k.ah a1;have b:∀m,(S5 .eql 42 (V (M so) n wc) (V U 0 0)).run ψ m=.ok (ι Ω) m:=λm=>kK m Q4;go_enter T6,T4;have:mb≠H (A w):=G;go_wp2_with(first
  |(at_make;refine dx _ J _ _ 42 J 3 a7 _ Q4 F a8 ν ν (n+3) _ J J G (by rw[a9];omega) G 1 K ?_;intro _ t b6 u O _)
  |(refine je J (.tmp 15) (.tmp 16) 42 42 J 3 1 Q4 b4 (H (A w)) (n+3) (n+3) (M so) n wc J J _ t 3 O a G o.1 (o.ah u).src (by have:=o.1;omega) a2 ?_;intro R b7 P N b5))
 have l:Bl w R:=N _ _ (ε _) u;have p:R.rowIs (H (A w)) 3 ((n+3)*1) (uM 1 vO (tJ a t) n (n+0)):=P.congr λb8 _=>(ny).symm;clear O P N b5 u b6 b7 b;go_loopw [7] (λd wr=>∃b:Q0,b<=3/\d=μ ν ((n+b:Q0):Q6)/\wr.rowIs (H (A w)) 3 ((n+3)*1) (uM 1 vO (tJ a t) n (n+b))/\Bl w wr) (λd _=>(n+3)-(T3 d).toNat)
 ·exact⟨0,G,aP,p,l⟩
 obtain⟨b,_,rfl,e,d⟩:=hrel;clear p l;by_cases e1:b<3
 ·have b9:=e.lt;have:=e.cell (i:=n+b) G;have:=e.frozen (n+b)
  go_wp2
  go_roundw
  ·exact⟨b+1,G,aP,Ew e G,d.setCell (p:=(D (H (A w)) _ U)) (ε _) _⟩
  simp[T3];omega
 obtain rfl:b=3:=G;have z:wr.rowIs (H (A w)) 3 ((n+3)*1) (jN 1 a vO):=e.congr λb8 s=>NN k.1 s;have l:=(d.block mb L).trans r;have:=aH l;have:Q wr (D mb 3 U)=M (V f j i):=(aI l).trans C;have b9:=z.lt;have p:bE (mQ IZ w0 1) wr 3 256 1 vO mb (V f j i) c:=q.ah d;have v:oJ (mQ IZ w0 1) wr 3 1 vO (mb+1) ⟨H (A w),n,M so,wc,a⟩:=⟨z,k.1,L,a3,k,a4⟩;have T:∀x∈c,x.g<H (A w):=λx c6=>(q.each x c6).row.lt;change Γ _ at l;change Γ _ at p;change Γ _ at v;clear e k o q z r;go_wp2_with(at_builtin;refine wpList_append_lies _ J (.tmp 32) (.tmp 36) 111 J (mb+1) 256 b0 _ 2 48 underlying111 s b1 b2 b3 J E (V f j i) (β c) (jw c) J (p.own.alloc _) (D (H (A wr)) 0 U) 1 1 [V (M (D (H (A w)) 0 U)) (n+3) (n+3),V (M so) n wc] J J (R0 (υ wr _)) (by intro _ X;simp at X;rcases X with rfl|rfl<;>rfl) E fD G vK (H (A wr)+1) ek ?_;intro c5 c4 c9 W S _ _;have B:=(iX (k:=3) (l:=⟨H (A w),n,M so,wc,a⟩) l p v T E E (d.mono G) (iW d) ((ξ _ wr).alloc (ε _) _) S W (V U 0 0)).1;have:=aH B;have:=(aI B).trans C;have:φ c9 (D mb 3 U)=Ω:=by simp[φ,B]);go_ret;obtain⟨_,c0,c1,c2,c3⟩:=iX (k:=3) (l:=⟨H (A w),n,M so,wc,a⟩) l p v T E E (d.mono G) (iW d) ((ξ _ wr).alloc (ε _) _) S W (V (M (D c5 0 U)) (β c+1) c4);exact⟨H (A w),_,J,c0,c1,⟨_,_,_,J⟩,c2,c3⟩
def eY(w0 w:χ)(mb:Q0)(C R X K B F I Y Z:Ψ Ln):Prop:=∃vc vr vx vi vk vb vf vy vz:ω,((uQ vc/\uQ vr/\uQ vx/\uQ vk/\uQ vb/\uQ vf)/\uQ vi/\uQ vy/\uQ vz)/\
 w.heap[mb]? =M (η #[vc,vr,vx,vi,vk,vb,vf,vy,vz] 118 (0,0))/\
 (bE (mQ Lr w0 3) w 56 227 3 qR mb vc C/\bE (WtR w0 C) w 57 292 1 xG mb vr R/\bE (mQ KX w0 1) w 9 294 1 uW mb vx X/\
 bE (mQ PG w0 3) w 50 290 3 uV mb vk K/\bE (WtT w0 K R X) w 54 190 6 Ay mb vb B/\bE (mQ Ws w0 3) w 48 185 3 xE mb vf F)/\
 bE (mQ IZ w0 1) w 3 256 1 vO mb vi I/\bE (mQ TyT w0 2) w 59 243 2 Az mb vy Y/\bE (mQ TyO w0 2) w 245 247 2 Aw mb vz Z
theorem JS{c:Ln->Prop}{w a b d mb}{far:Q0->ω}:bE c w a b d far mb (V U 0 0) []:=⟨World.ownsRow_nil _ _ _ _,λ_ e=>by simp at e,List.Pairwise.nil⟩
theorem eO.q{w0 w mb C R X K B F}(a:eO w0 w mb C R X K B F):eY w0 w mb C R X K B F [] [] []:=by
 obtain⟨c,d,e,f,g,i,j,k,a⟩:=a;have b:uQ (V U 0 0):=⟨_,_,_,J⟩;exact⟨c,d,e,_,f,g,i,_,_,⟨j,b,b,b⟩,k,a,JS,JS,JS⟩
section
variable {w0 w x : World} {mb : Nat} {C R X K B F I Y Z : List Ln}
theorem eY.lt(a:eY w0 w mb C R X K B F I Y Z):mb<H (A w):=by
 obtain⟨_,_,_,_,_,_,_,_,_,_,b,_⟩:=a;exact aH b
theorem eY.ah(c:eY w0 w mb C R X K B F I Y Z)(a:Bl w x):eY w0 x mb C R X K B F I Y Z:=by
 obtain⟨d,e,f,g,i,j,k,l,m,n,b,⟨o,p,q,r,s,t⟩,u,v,y⟩:=c;exact⟨d,e,f,g,i,j,k,l,m,n,(a.block mb (aH b)).trans b,⟨o.ah a,p.ah a,q.ah a,r.ah a,s.ah a,t.ah a⟩,u.ah a,v.ah a,y.ah a⟩
theorem eY.bW{S}(d:eY w0 w mb C R X K B F I Y Z)(b:dX w x S)(f:∀c∈S,c∉ [56,227,57,292,9,294,50,290,54,190,48,185,118,3,256,59,243,245,247]):eY w0 x mb C R X K B F I Y Z:=by
 obtain⟨g,i,j,k,l,m,n,o,p,q,e,⟨r,s,t,u,v,y⟩,z,L,N⟩:=d;have a:∀ {c:TypeId},c∈ [56,227,57,292,9,294,50,290,54,190,48,185,118,3,256,59,243,245,247]->c∉S:=λd O=>f _ O d;exact⟨g,i,j,k,l,m,n,o,p,q,(b _ _ _ _ e (a E)).trans e,⟨r.bW b (a E) (a E),s.bW b (a E) (a E),t.bW b (a E) (a E),u.bW b (a E) (a E),v.bW b (a E) (a E),y.bW b (a E) (a E)⟩,z.bW b (a E) (a E),L.bW b (a E) (a E),N.bW b (a E) (a E)⟩
theorem Yj(j:eY w0 w mb C R X K B F [] Y Z)(m:Bl w0 w)(b:iC)(c:iK IZ w0 1 b):
  S7 ψ 41 #[ρ (M (D mb 0 U)),V b.ro b.rn b.rc] w λf d=>∃(xo:R2 T1) (xn xc:Q0) (e:Ψ Ln),f=Q5 (V xo xn xc)/\β e<=1/\eY w0 d mb C R X K B F e Y Z/\bX e b (V xo xn xc)/\S6 mb w d/\dX w d [118,256]:=by
 obtain⟨n,g,k,o⟩:=b
 cases n with
 |none=>
  obtain⟨a,i⟩:=c.nil J;dsimp only at a i;subst a i;refine(Qr w mb).mono ?_;rintro f d ⟨rfl,rfl⟩;exact⟨U,0,0,[],J,ak,j,R3 ⟨J,J⟩,ξ _ _,dX.refl _ _⟩
 |some so=>
  obtain⟨p,q,r,_,s,t,u,v,x,⟨y,⟨_,_,_,rfl⟩,z⟩,L,⟨N,O,P,S,T,hF⟩,W,a0,a1⟩:=j;refine(Qq L J W ak m k c.small c.want c.one c.ty).mono ?_;rintro f d ⟨i,a2,rfl,a3,a4,a5,a6,a⟩;exact⟨M (D i 0 U),g,g+3,[⟨i,g,M so,k,o⟩],J,ak,⟨p,q,r,a2,s,t,u,v,x,⟨y,a5,z⟩,a3,⟨N.typed a E E E E,O.typed a E E E E,P.typed a E E E E,S.typed a E E E E,T.typed a E E E E,hF.typed a E E E E⟩,a4,a0.typed a E E E E,a1.typed a E E E E⟩,S2 ⟨i,J,ak⟩,a6,a.l E E⟩
end
def adn(f:T7):T9:=((f.body.bind (iT 4)).getD .skip)
theorem JO{w0 w:χ}{mb y4 k' R X K B}(z7:w.heap[mb]? =M (η y 118 (0,0)))(A4:y[5]? =M (V y4 (β B) k'))(y5:bE (WtT w0 K R X) w 54 190 6 Ay mb (V y4 (β B) k') B)(D':∀c∈R,xA w 57 1 ovR c)(A6:∀c∈R,c.n<=1048576)(E':∀c∈X,xA w 9 1 ovX c)(A5:∀c∈X,c.n<=1048576)(B':∀c∈K,xA w 50 3 ovK c)(A7:∀c∈K,c.n<=1048576)(A8:Bl w0 w)(A':H (A w0)<=mb)(P7:β B<=2199023255552){z':Act->χ->Prop}{A9:R8->χ->Prop}(C':∀(K0 L0 A3 B2 C1 D1 L9 L8 L7 L6 L5 v85 L4 L3 L2 L1 M9 M8 M7 M6 M5 M4 M3 M2 M1 M0 A2 A1 A0 B9 B8 B7 B6 B5 B4 B3 B1 B0 C9 C8 C7 C6 C5 C4 C3 C2 C0 D9 D8 D7 D6 D5 D4 v127 D3 D2 D0 E9 E8 E7 E6 E5 E4 E3 E2 E1 E0 F9 F8 v143 F7 v145 v146 F6 F5 F4 F3 F2 F1 F0 G9 G8 G7 G6 G5 G4 G3 G2 G1 G0 H9 H8 H7 v167 v168 H6 H5 v171 H4 v173 H3 v175 H2 H1 H0 I9 I8 I7 I6 I5 I4 I3 I2 I1 I0 J9 J8 J7 J6 J5 J4 J3 J2 J1 J0 K9 K8 K7 K6 K5 K4 K3 K2 K1:ω) (z8:χ),rW w z8 mb B (β B)->z' ⟨#[ρ (M (D mb 0 U)),d,j,ι σ,p,v,m,N,K0,L0,A3,B2,C1,D1,W,a0,a1,a2,a3,a4,a5,a6,a7,a8,a9,b0,b1,b2,b3,b4,b5,b6,b7,b8,b9,c0,c1,c2,c3,c4,c5,c6,c7,c8,c9,e0,e1,e2,e3,e4,e5,e6,e7,e8,e9,g0,g1,g2,g3,g4,g5,g6,g7,g8,g9,h0,h1,h2,h3,h4,h5,h6,h7,h8,h9,i0,i1,i2,i3,i4,L9,L8,L7,L6,L5,v85,L4,L3,L2,L1,M9,M8,M7,M6,M5,M4,M3,M2,M1,M0,A2,A1,A0,B9,B8,B7,B6,B5,B4,B3,B1,B0,C9,C8,C7,C6,C5,C4,C3,C2,C0,D9,D8,D7,D6,D5,D4,v127,D3,D2,D0,E9,E8,E7,E6,E5,E4,E3,E2,E1,E0,F9,F8,v143,F7,v145,v146,F6,F5,F4,F3,F2,F1,F0,G9,G8,G7,G6,G5,G4,G3,G2,G1,G0,H9,H8,H7,v167,v168,H6,H5,v171,H4,v173,H3,v175,H2,H1,H0,I9,I8,I7,I6,I5,I4,I3,I2,I1,I0,J9,J8,J7,J6,J5,J4,J3,J2,J1,J0,K9,K8,K7,K6,K5,K4,K3,K2,K1,S],[]⟩ z8):
  R1 ψ (adn U1) (T8.then z' (Q8 ψ U1 A9)) ⟨#[ρ (M (D mb 0 U)),d,j,ι σ,p,v,m,N,μ ν 0,O,P,i5,i6,T,W,a0,a1,a2,a3,a4,a5,a6,a7,a8,a9,b0,b1,b2,b3,b4,b5,b6,b7,b8,b9,c0,c1,c2,c3,c4,c5,c6,c7,c8,c9,e0,e1,e2,e3,e4,e5,e6,e7,e8,e9,g0,g1,g2,g3,g4,g5,g6,g7,g8,g9,h0,h1,h2,h3,h4,h5,h6,h7,h8,h9,i0,i1,i2,i3,i4,i7,i8,i9,j0,j1,j2,j3,j4,j5,j6,j7,j8,j9,k0,k1,k2,k3,k4,k5,k6,k7,k8,k9,l0,l1,l4,l7,l8,l9,m0,m1,m2,m3,m4,m5,m6,m7,m8,m9,n0,n1,n2,n3,n4,n5,n6,n7,n8,n9,o0,o1,o2,o3,o4,o5,o6,o7,o8,o9,p0,p1,p2,p3,p4,p5,p6,p7,p8,p9,q0,q1,q2,q3,q4,q5,q6,q7,q8,q9,r0,r1,r2,r3,r4,r5,r6,r7,r8,r9,s0,s1,s2,s3,s4,s5,s6,s7,s8,s9,u0,u1,u2,u3,u4,u5,u6,u7,u8,u9,v0,v1,v2,v3,v4,v5,v6,v7,v8,v9,w1,w2,w3,w4,w5,w6,w7,w8,w9,S],[]⟩ w:=by
 conv=>arg 2;whnf
 change Γ _ at C';have a:rW w w mb B 0:=rW.start y5;change Γ _ at y5;have N9:Γ _:=(eU y5).2;change Γ _ at z7;change Γ _ at D';change Γ _ at E';change Γ _ at B';have P6:=aH z7;have P5:∀k,(S5 .eql 51 (V U 0 0) (V U 0 0)).run ψ k=.ok (ι σ) k:=λk=>kK k underlying51;have P4:∀k,(S5 .eql 24 (V U 0 0) (V U 0 0)).run ψ k=.ok (ι σ) k:=λk=>kK k underlying24;have P3:∀k,(S5 .eql 52 (V U 0 0) (V U 0 0)).run ψ k=.ok (ι σ) k:=λk=>kK k underlying52;go_wp2_with fail;go_loopg [3,8] (β B) (λgk g F' wr=>∃f:Q0,gk=β B-f/\f<=β B/\g=ι σ/\F'=μ ν (f:Q6)/\rW w wr mb B f)
 ·exact⟨0,J,τ _,J,J,a⟩
 obtain⟨f,l',_,rfl,rfl,y6⟩:=hrel;subst l';clear a;generalize a:wr=wo at*;clear a;have z9:=(y6.ah _ _ _ _ z7 E).trans z7;have P2:=aH z9;have N8:Q wo (D mb 5 U)=M (V y4 (β B) k'):=(aI z9).trans A4;by_cases N7:f<β B
 ·rcases N9.out with m'|⟨n',rfl,_,⟨_,i⟩,e⟩
  ·omega
  obtain⟨⟨b,n,x0,x3,G'⟩,q⟩:∃c,B[f]? =M c:=⟨_,δ N7⟩;have a:=y6.ah _ _ _ _ i E;have o:=(ζ (w:=w) (a:=⟨n',f*2,U⟩) a).trans (e f _ q).1;have r:=(ζ (w:=w) (a:=⟨n',f*2+1,U⟩) a).trans (e f _ q).2;have s:n'<H (A wo):=aH (a.trans i);have a':=y5.out.each _ (ο q);have N6:mb<=b:=by have:=a'.lo;dsimp only at this;omega
  have x7:=y6.more ((ξ _ wo).alloc (ε _) (η #[V (M (D b 0 U)) (n+3) (n+3),V x0 n x3] 190)) G;have l:vG (wo.alloc (η #[V (M (D b 0 U)) (n+3) (n+3),V x0 n x3] 190)) (wo.alloc (η #[V (M (D b 0 U)) (n+3) (n+3),V x0 n x3] 190)) mb ⟨b,n,x0,x3,G'⟩ 0:=vG.start x7 q;have y7:=υ wo (η #[V (M (D b 0 U)) (n+3) (n+3),V x0 n x3] 190);clear e i a y6;go_wp2_with fail;generalize a:wo.alloc (η #[V (M (D b 0 U)) (n+3) (n+3),V x0 n x3] 190)=W1 at*;generalize P1:H (A wo)=xb at*;have N5:Bl w0 W1:=A8.trans (x7.jH.mono A');have H':=aH y7;clear o r s N8 z9 a;go_loopg [3,10] (n+3) (λgk g i z8=>∃a:Q0,gk=(n+3)-a/\a<=n+3/\g=ι σ/\i=μ ν (a:Q6)/\vG W1 z8 mb ⟨b,n,x0,x3,G'⟩ a)
  ·exact⟨0,J,τ _,J,J,l⟩
  obtain⟨a,l',_,rfl,rfl,F⟩:=hrel;subst l';clear l;have I':xb≠b:=λN4=>by
   obtain⟨y8,g,_⟩:=x7.todo f _ (ε _) q;rw[N4]at y7;rw[y7]at g;cases g
  have x1:=(F.pV xb H' I').trans y7;have N3:=a'.small;have N2:=a'.len;dsimp only at N3 N2;have J':Q wr (D xb 0 U)=M (V (M (D b 0 U)) (n+3) (n+3)):=aC x1;have N1:Q wr (D xb 1 U)=M (V x0 n x3):=aC x1;have K':=aH x1;have L':b<H (A wr):=F.row.lt;by_cases P0:a<n+3
  ·by_cases N0:a<n
   ·obtain⟨bI,⟨M',o'⟩,N',p'⟩:=a'.want;dsimp only at M' o' N' p';obtain⟨r,x4,rfl,O9,O'⟩:∃r x4,x0=M (D r x4 U)/\r<H (A w0)/\∀(a:Q0) (g:oL),bI[a]? =M g->Q w0 ⟨r,x4+a*6,U⟩=M (γ g.name)/\Q w0 ⟨r,x4+a*6+1,U⟩=M (V g.k.ro g.k.rn g.k.rc)/\Q w0 ⟨r,x4+a*6+2,U⟩=M (V g.ro g.rn g.rc)/\Q w0 ⟨r,x4+a*6+3,U⟩=M (μ ν g.count)/\
      Q w0 ⟨r,x4+a*6+4,U⟩=M (γ g.aR)/\Q w0 ⟨r,x4+a*6+5,U⟩=M (V g.u.ro g.u.rn g.u.rc):=by
     rcases o' with m'|m'
     ·omega
     exact m'
    obtain⟨⟨s,⟨y9,_,z0,O8⟩,z1,_,z2,O7,t,u,⟨z3,_,z4,O6⟩⟩,q'⟩:∃g:oL,bI[a]? =M g:=⟨_,δ G⟩;obtain⟨F',_,_,P',x6,b',c'⟩:=p' a _ q';obtain⟨r',s',t',u',v',w'⟩:=O' a _ q';dsimp only at x6 b' c' r' s' t' u' v' w';obtain⟨x8,x,x9,rfl⟩:=ym x6;obtain⟨y0,z,y1,rfl⟩:=Ox b';obtain⟨y2,C,y3,rfl⟩:=ym c';have Q':Bl w0 wr:=N5.trans (F.jH.mono A');have d':dX w wr [54]:=x7.ah.trans (F.SN (x7.todo f _ (ε _) q));obtain⟨R',S'⟩:=Kh x6 (λc q=>(B' c q).bW d' E) A7;obtain⟨T',U'⟩:=Zn b' (λc q=>(D' c q).bW d' E) A6;obtain⟨V',W'⟩:=Kh c' (λc q=>(E' c q).bW d' E) A5;dsimp only at S' U' W';subst S' U' W';have z5:min a n=a:=Nat.min_eq_left G;have e:∀l,l<6->∀x',(wI ⟨s,⟨y9,x,z0,O8⟩,z1,z,z2,O7,t,u,⟨z3,C,z4,O6⟩⟩ (V x8 x x9) (V y0 z y1) (V y2 C y3))[l]? =M x'->Q wr ⟨b,a*6+l,U⟩=M x':=λl X' x' O5=>
     (F.row.cell (i:=a*6+l) dJ).trans (by rw[gV (by dsimp only;rw[z5];omega),iJ ((P' l X').trans O5)])
    have z6:=e 0 G _ J;have e':=e 1 G _ J;have y8:=e 2 G _ J;have f':=e 3 G _ J;have g':=e 4 G _ J;have h':=e 5 G _ J;rw[Nat.add_zero]at z6;have i:∀i',Q wr (D r i' U)=Q w0 (D r i' U):=λi'=>Q'.cell (p:=(D r i' U)) O9;have O4:=(i _).trans r';have O3:=(i _).trans s';have O2:=(i _).trans t';have O1:=(i _).trans u';have O0:=(i _).trans v';have P9:=(i _).trans w';have P8:r<H (A wr):=cz Q'.size;obtain⟨L,o⟩:=au ((wr.alloc (η #[γ s,V x8 x x9,V y0 z y1,μ ν t,γ u,V y2 C y3] 54)).alloc (η #[γ s,V y9 x z0,V z1 z z2,μ ν t,γ u,V z3 C z4] 54));have Y':Γ ((wr.alloc (η #[γ s,V x8 x x9,V y0 z y1,μ ν t,γ u,V y2 C y3] 54)).alloc (η #[γ s,V y9 x z0,V z1 z z2,μ ν t,γ u,V z3 C z4] 54)=L):=o.symm;have j':H (A (wr.alloc (η #[γ s,V x8 x x9,V y0 z y1,μ ν t,γ u,V y2 C y3] 54)))=H (A wr)+1:=ek;have x5:Bl wr L:=by rw[o];exact((ξ _ wr).alloc (ε _) _).alloc (by rw[j'];omega) _
    have x2:L.heap[H (A wr)]? =M (η #[γ s,V x8 x x9,V y0 z y1,μ ν t,γ u,V y2 C y3] 54 (0,0)):=by rw[o,Below.heap_alloc _ _ _ (by rw[j'];omega)];exact υ wr _
    have y':L.heap[H (A wr)+1]? =M (η #[γ s,V y9 x z0,V z1 z z2,μ ν t,γ u,V z3 C z4] 54 (0,0)):=by rw[o,<-j'];exact υ _ _
    have Z':=RI s u t (R'.ah x5) (T'.ah x5) (V'.ah x5);clear O' q' p' N' o' M' x6 b' c' R' T' V' d' r' s' t' u' v' w' i e P' o z5 j';go_upto_region 25 with fail
    rw[Y'.out];have o':Q L (D (H (A wr)) 0 U)=M (γ s):=aC x2;have p':Q L (D (H (A wr)) 1 U)=M (V x8 x x9):=aC x2;have q':Q L (D (H (A wr)) 2 U)=M (V y0 z y1):=aC x2;have r':Q L (D (H (A wr)) 3 U)=M (μ ν t):=aC x2;have s':Q L (D (H (A wr)) 4 U)=M (γ u):=aC x2;have t':Q L (D (H (A wr)) 5 U)=M (V y2 C y3):=aC x2;have d':=aH x2;have j':=aH y';have b':=F.more x5 G;have M':mb<=H (A wr):=G;clear Y' z6 e' y8 f' g' h' O4 O3 O2 O1 O0 P9 J' N1 x1 K' L' P8 F x5;generalize i:H (A wr)=tb at*;clear i;go_upto_region 26 with(go_at_call 140;refine cB Z' ?_;rintro o c')
    have x5:=(c'.block tb d').trans x2;have x6:=(c'.block (tb+1) j').trans y';have i:=b'.more c' G;clear o' p' q' r' s' t' Z' x2 y' d' j' b' c';have o':Q o (D tb 0 U)=M (γ s):=aC x5;have p':Q o (D tb 1 U)=M (V x8 x x9):=aC x5;have q':Q o (D tb 2 U)=M (V y0 z y1):=aC x5;have r':Q o (D tb 3 U)=M (μ ν t):=aC x5;have s':Q o (D tb 4 U)=M (γ u):=aC x5;have t':Q o (D tb 5 U)=M (V y2 C y3):=aC x5;have N':Q o ⟨tb+1,0,U⟩=M (γ s):=aC x6;have O':Q o ⟨tb+1,1,U⟩=M (V y9 x z0):=aC x6;have P':Q o ⟨tb+1,2,U⟩=M (V z1 z z2):=aC x6;have R':Q o ⟨tb+1,3,U⟩=M (μ ν t):=aC x6;have T':Q o ⟨tb+1,4,U⟩=M (γ u):=aC x6;have V':Q o ⟨tb+1,5,U⟩=M (V z3 C z4):=aC x6;have d':=aH x5;have j':=aH x6;have x1:=(i.pV xb H' I').trans y7;have J':Q o (D xb 0 U)=M (V (M (D b 0 U)) (n+3) (n+3)):=aC x1;have K':=aH x1;have L':b<H (A o):=i.row.lt;have z6:=i.row.cell (i:=a*6) dJ;have e':=i.row.cell (i:=a*6+1) dJ;have y8:=i.row.cell (i:=a*6+2) dJ;have f':=i.row.cell (i:=a*6+3) dJ;have g':=i.row.cell (i:=a*6+4) dJ;have h':=i.row.cell (i:=a*6+5) dJ;have x2:=i.row.frozen (a*6);have c':=i.row.frozen (a*6+1);have u':=i.row.frozen (a*6+2);have v':=i.row.frozen (a*6+3);have w':=i.row.frozen (a*6+4);have y':=i.row.frozen (a*6+5);dsimp only at z6 e' y8 f' g' h' x2 c' u' v' w' y';clear x5 x6 x1
    go_wp2
    go_roundg (n+3-(a+1))
    all_goals first
     |omega
     |exact⟨a+1,J,G,J,aP,i.put N0 N6⟩
   have i:decide ((n:Q6)<=(a:Q6))=σ:=aN;have g:n<=a:=G;have z5:min a n=n:=Nat.min_eq_right g;have e:∀l,l<6->Q wr ⟨b,a*6+l,U⟩=M (Ay l):=λl X'=>
    (F.row.cell (i:=a*6+l) dJ).trans (by rw[gV (by dsimp only;rw[z5];omega),gG dJ,show(a*6+l) % 6=l by omega])
   have z6:Q wr ⟨b,a*6,U⟩=M (γ ⟨#[98,101,121,111,110,100]⟩):=e 0 G;have e':Q wr ⟨b,a*6+1,U⟩=M (V U 0 0):=e 1 G;have y8:Q wr ⟨b,a*6+2,U⟩=M (V U 0 0):=e 2 G;have f':Q wr ⟨b,a*6+3,U⟩=M (μ ν 0):=e 3 G;have g':Q wr ⟨b,a*6+4,U⟩=M (γ ⟨#[]⟩):=e 4 G;have h':Q wr ⟨b,a*6+5,U⟩=M (V U 0 0):=e 5 G;have b':=(F.more ((ξ _ wr).alloc (ε _) (η #[γ ⟨#[98,101,121,111,110,100]⟩,V U 0 0,V U 0 0,μ ν 0,γ ⟨#[]⟩,V U 0 0] 54)) G).far g;clear e z5 x1
   go_wp2
   go_roundg (n+3-(a+1))
   all_goals first
    |omega
    |exact⟨a+1,J,G,J,aP,b'⟩
  have g:=x7.next q F y5.apart;clear F x7
  go_wp2
  go_roundg (β B-(f+1))
  all_goals first
   |omega
   |exact⟨f+1,J,G,J,aP,g⟩
 obtain rfl:f=β B:=G;clear z9;go_wp2_with fail;apply C';exact y6
def adZ(f:T7):T9:=((f.body.bind (iT 8)).getD .skip)
theorem RA{w0 w:χ}{mb s R X}(B:w.heap[mb]? =M (η y 118 (0,0)))(A7:y[3]? =M (V s (β X) R))(t:bE (mQ IZ w0 1) w 3 256 1 vO mb (V s (β X) R) X)(A8:Bl w0 w)(R':H (A w0)<=mb)(H7:β X<=2199023255552){Q':Act->χ->Prop}{A9:R8->χ->Prop}(S':∀(A6 A5 A4 A3 v145 v146 A2 A1 A0 B9 B8 B7 B6 B5 B4 B3 B2 B1 B0 C9 C8 C7 C6 C5 C4 C3 v167 v168 C2 C1 v171 C0 v173 D9 v175 D8 D7 D6 D5 D4 D3 D2 D1 D0 E9 E8 E7 E6 E5 E4 E3 E2 E1 E0 F9 F8 F7 F6 F5 F4 F3 F2 F1 F0 G9 G8:ω) (i:χ),eD w i mb 3 1 vO ovI X (β X)->Q' ⟨#[ρ (M (D mb 0 U)),d,j,ι σ,p,v,m,N,O,P,A6,A5,A4,T,W,a0,a1,a2,a3,a4,a5,a6,a7,a8,a9,b0,b1,b2,b3,b4,b5,b6,b7,b8,b9,c0,c1,c2,c3,c4,c5,c6,c7,c8,c9,e0,e1,e2,e3,e4,e5,e6,e7,e8,e9,g0,g1,g2,g3,g4,g5,g6,g7,g8,g9,h0,h1,h2,h3,h4,h5,h6,h7,h8,h9,i0,i1,i2,i3,i4,i7,i8,i9,j0,j1,j2,j3,j4,j5,j6,j7,j8,j9,k0,k1,k2,k3,k4,k5,k6,k7,k8,k9,l0,l1,l4,l7,l8,l9,m0,m1,m2,m3,m4,m5,m6,m7,m8,m9,n0,n1,n2,n3,n4,n5,n6,n7,n8,n9,o0,o1,o2,o3,o4,o5,o6,o7,o8,o9,p0,p1,p2,p3,p4,A3,v145,v146,A2,A1,A0,B9,B8,B7,B6,B5,B4,B3,B2,B1,B0,C9,C8,C7,C6,C5,C4,C3,v167,v168,C2,C1,v171,C0,v173,D9,v175,D8,D7,D6,D5,D4,D3,D2,D1,D0,E9,E8,E7,E6,E5,E4,E3,E2,E1,E0,F9,F8,F7,F6,F5,F4,F3,F2,F1,F0,G9,G8,w9,S,x1,x2,x3,x4,x5,x6,x7,x8,x9,y0,y1,y2,y3,y4,y5,y6,y7,y8,y9,z0,z1,z2,z3,z4,z5,z6,z7,z8,z9,a',b',c',d',e',f',g',h',i',j',k',l',m',n',o',p',q',r',s',t',u',v',x',y',z',A',B',C',D',E',F',G',H',I',x0],[]⟩ i):
  R1 ψ (adZ Q7) (T8.then Q' (Q8 ψ Q7 A9)) ⟨#[ρ (M (D mb 0 U)),d,j,ι σ,p,v,m,N,O,P,μ ν 0,i5,i6,T,W,a0,a1,a2,a3,a4,a5,a6,a7,a8,a9,b0,b1,b2,b3,b4,b5,b6,b7,b8,b9,c0,c1,c2,c3,c4,c5,c6,c7,c8,c9,e0,e1,e2,e3,e4,e5,e6,e7,e8,e9,g0,g1,g2,g3,g4,g5,g6,g7,g8,g9,h0,h1,h2,h3,h4,h5,h6,h7,h8,h9,i0,i1,i2,i3,i4,i7,i8,i9,j0,j1,j2,j3,j4,j5,j6,j7,j8,j9,k0,k1,k2,k3,k4,k5,k6,k7,k8,k9,l0,l1,l4,l7,l8,l9,m0,m1,m2,m3,m4,m5,m6,m7,m8,m9,n0,n1,n2,n3,n4,n5,n6,n7,n8,n9,o0,o1,o2,o3,o4,o5,o6,o7,o8,o9,p0,p1,p2,p3,p4,p5,p6,p7,p8,p9,q0,q1,q2,q3,q4,q5,q6,q7,q8,q9,r0,r1,r2,r3,r4,r5,r6,r7,r8,r9,s0,s1,s2,s3,s4,s5,s6,s7,s8,s9,u0,u1,u2,u3,u4,u5,u6,u7,u8,u9,v0,v1,v2,v3,v4,v5,v6,v7,v8,v9,w1,w2,w3,w4,w5,w6,w7,w8,w9,S,x1,x2,x3,x4,x5,x6,x7,x8,x9,y0,y1,y2,y3,y4,y5,y6,y7,y8,y9,z0,z1,z2,z3,z4,z5,z6,z7,z8,z9,a',b',c',d',e',f',g',h',i',j',k',l',m',n',o',p',q',r',s',t',u',v',x',y',z',A',B',C',D',E',F',G',H',I',x0],[]⟩ w:=by
 conv=>arg 2;whnf
 change Γ _ at S';have a:eD w w mb 3 1 vO ovI X 0:=eD.start t;change Γ _ at t;have G7:Γ _:=(eU t).2;change Γ _ at B;have H6:=aH B;go_wp2_with fail;go_loopg [3,10] (β X) (λgk e b wr=>∃c:Q0,gk=β X-c/\c<=β X/\e=ι σ/\b=μ ν (c:Q6)/\eD w wr mb 3 1 vO ovI X c)
 ·exact⟨0,J,τ _,J,J,a⟩
 obtain⟨c,w',_,rfl,rfl,u⟩:=hrel;subst w';clear a;generalize a:wr=wo at*;clear a;have C:=(u.ah _ _ _ _ B E).trans B;have H5:=aH C;have G6:Q wo (D mb 3 U)=M (V s (β X) R):=(aI C).trans A7;by_cases G5:c<β X
 ·rcases G7.out with T'|⟨J',rfl,_,⟨_,f⟩,g⟩
  ·omega
  obtain⟨⟨b,n,k,l,U'⟩,q⟩:∃G4,X[c]? =M G4:=⟨_,δ G5⟩;have a:=u.ah _ _ _ _ f E;have F:=(ζ (w:=w) (a:=⟨J',c*2,U⟩) a).trans (g c _ q).1;have K:=(ζ (w:=w) (a:=⟨J',c*2+1,U⟩) a).trans (g c _ q).2;have L:J'<H (A wo):=aH (a.trans f);have x:=t.out.each _ (ο q);have V':mb<=b:=by have:=x.lo;dsimp only at this;omega
  have z:=u.more ((ξ _ wo).alloc (ε _) (η #[V (M (D b 0 U)) (n+3) (n+3),V k n l] 256)) G;have o:jA (wo.alloc (η #[V (M (D b 0 U)) (n+3) (n+3),V k n l] 256)) (wo.alloc (η #[V (M (D b 0 U)) (n+3) (n+3),V k n l] 256)) mb 3 1 vO ovI ⟨b,n,k,l,U'⟩ 0:=jA.start z q;have r:=υ wo (η #[V (M (D b 0 U)) (n+3) (n+3),V k n l] 256);clear g f a u;go_wp2_with fail;generalize a:wo.alloc (η #[V (M (D b 0 U)) (n+3) (n+3),V k n l] 256)=W1 at*;generalize H4:H (A wo)=xb at*;have G3:Bl w0 W1:=A8.trans (z.jH.mono R');have K':=aH r;clear F K L G6 C a;go_loopg [3,12] (n+3) (λgk e f i=>∃a:Q0,gk=(n+3)-a/\a<=n+3/\e=ι σ/\f=μ ν (a:Q6)/\jA W1 i mb 3 1 vO ovI ⟨b,n,k,l,U'⟩ a)
  ·exact⟨0,J,τ _,J,J,o⟩
  obtain⟨a,w',_,rfl,rfl,g⟩:=hrel;subst w';clear o;have L':xb≠b:=λG2=>by
   obtain⟨_,e,_⟩:=z.todo c _ (ε _) q;rw[G2]at r;rw[r]at e;cases e
  have e:=(g.pV xb K' L').trans r;have G1:=x.small;dsimp only at G1;have F:Q wr (D xb 0 U)=M (V (M (D b 0 U)) (n+3) (n+3)):=aC e;have W':Q wr (D xb 1 U)=M (V k n l):=aC e;have K:=aH e;have L:b<H (A wr):=g.row.lt;by_cases H3:a<n+3
  ·by_cases G0:a<n
   ·rcases x.want.1.2 with T'|⟨X',H9,rfl,H8,M'⟩
    ·dsimp only at T';omega
    obtain⟨Y',f⟩:=x.want.2 a G0;have Z':Bl w0 wr:=G3.trans (g.jH.mono R');have o:Q wr (D b a U)=M (μ ν Y'):=(g.row.cell (i:=a) dJ).trans (by rw[gV G,iJ f]);have O':Q wr ⟨X',H9+a,U⟩=M (μ ν Y'):=cK Z' H8 (M' _ _ f);have H2:X'<H (A wr):=cz Z'.size;clear M' f;go_upto_region 27 with fail
    go_cut [3] (λM' i=>M'=ι σ/\Bl wr i)
    ·go_region;all_goals(go_wp2;go_meet)
     all_goals exact⟨J,uU⟩
    obtain⟨rfl,N'⟩:=hcut;have f:=g.more N' G;clear o O' F W' K L e;generalize O':wc=wy at*;clear O';have e:=(f.pV xb K' L').trans r;have F:Q wy (D xb 0 U)=M (V (M (D b 0 U)) (n+3) (n+3)):=aC e;have K:=aH e;have L:b<H (A wy):=f.row.lt;have o:=f.row.cell (i:=a) dJ;have P':=f.row.frozen (a);dsimp only at o P';clear e
    go_wp2
    go_roundg (n+3-(a+1))
    all_goals first
     |omega
     |exact⟨a+1,J,G,J,aP,f.Vt V' J⟩
   have X':decide ((a:Q6)<(n:Q6))=Ω:=aN;have Y':n<=a:=G;have Z':decide (n<=a)=σ:=aN;have o:Q wr (D b a U)=M (μ ν 77):=(g.row.cell (i:=a) dJ).trans (by rw[gV G,gG (by have:=x.len;dsimp only at this;dsimp only;omega),U0];rfl);go_upto_region 27 with fail
   go_cut [3] (λM' i=>M'=ι σ/\Bl wr i)
   ·go_region;all_goals(go_wp2;go_meet)
    all_goals exact⟨J,uU⟩
   obtain⟨rfl,N'⟩:=hcut;have f:=g.more N' G;clear o F W' K L e;generalize O':wc=wy at*;clear O';have e:=(f.pV xb K' L').trans r;have F:Q wy (D xb 0 U)=M (V (M (D b 0 U)) (n+3) (n+3)):=aC e;have K:=aH e;have L:b<H (A wy):=f.row.lt;have o:=f.row.cell (i:=a) dJ;have P':=f.row.frozen (a);dsimp only at o P';clear e
   go_wp2
   go_roundg (n+3-(a+1))
   all_goals first
    |omega
    |exact⟨a+1,J,G,J,aP,f.Vt V' J⟩
  obtain rfl:a=n+3:=G;have f:=z.next q g t.apart;clear g z
  go_wp2
  go_roundg (β X-(c+1))
  all_goals first
   |omega
   |exact⟨c+1,J,G,J,aP,f⟩
 obtain rfl:c=β X:=G;clear C;go_wp2_with fail;apply S';exact u
def pX(fs:Ψ qB):Ψ ω:=fs.flatMap λf=>[γ (ae f.1),γ (ae f.2.1),γ (ae f.2.2)]
def ng(cs:Ψ gB):Ψ ω:=cs.flatMap λc=>[γ (ae c.1),γ (ae c.2.1),μ ν c.2.2]
def gQ(cs:Ψ gq):Ψ ω:=cs.flatMap λc=>[μ ν c.1,μ ν c.2.1,γ (ae c.2.2)]
def gY(ls:Ψ Bs):Ψ ω:=ls.map λl=>γ (ae l)
theorem oU{α:Type}(e:α->Ψ ω)(f:∀c,β (e c)=3):∀(g:Ψ α) (d a:Q0) (c:α),g[d]? =M c->a<3->(g.flatMap e)[d*3+a]? =(e c)[a]?
 | [],d,a,c,h,_=>by simp at h
 |b::r,0,a,c,h,hj=>by
  simp at h;subst h;rw[R7,Δ,Φ,S4 (by rw[f];exact hj)]
 |b::r,d+1,a,c,h,hj=>by
  have:=oU e f r d a c (by simpa using h) hj;rw[Φ,S3 (by rw[f];omega),f,show(d+1)*3+a-3=d*3+a by omega];exact this
theorem AA{α:Type}{b:α->Ψ ω}(d:∀c,β (b c)=3)(a:Ψ α):β (a.flatMap b)=β a*3:=by
 induction a with
 |nil=>rfl
 |cons e f ih=>rw[Φ,List.length_append,d,ih,List.length_cons];omega
structure WQ(s:oL)(t:aJ):Prop where
 name:s.name=ae t.name
 count:s.count=t.count
 aR:s.aR=ae t.aR
 kcs:s.k.cs=ng t.aB
 kn:s.k.rn=List.length t.aB
 ucs:s.u.cs=gY t.gZ
 un:s.u.rn=List.length t.gZ
 rn:s.rn=List.length t.rows
 rl:List.length s.rows=List.length t.rows
 rows:∀(i:Nat) (r:iC) (c:List gq),s.rows[i]? =some r->t.rows[i]? =some c->r.cs=gQ c/\r.rn=List.length c
 acv:List.length t.name<=maxLen
 Tn:List.length t.aR<=maxLen
 afE:∀c∈t.aB,List.length c.1<=maxLen/\List.length c.2.1<=maxLen
structure Lc(w:World)(fo:Option Addr)(fl fc:Nat)(aS:Option Addr)(tl tc:Nat)(fs:List qB)(ts:List aJ):Prop where
 texts:ik w (.slice fo fl fc) fs
 args:∀f∈fs,List.length f.2.1<=maxLen
 aec:kV w (.slice aS tl tc) ts
 XI:iK Ws w 3 ⟨fo,fl,fc,pX fs⟩
 tsm:tl<=1048576
 afv:aS=none->tl=0/\tc=0
 bI:∃bI,tQ w aS tl bI/\(∀s∈bI,Dw w s)/\List.length bI=List.length ts/\∀(i:Nat) (s:oL) (t:aJ),bI[i]? =some s->ts[i]? =some t->WQ s t
theorem lg{i:Ln->Prop}{w f b lo}{far:Q0->ω}{a:Ln}(c:oJ i w f b far lo a){j}(e:a.cs[j]? =M d):Q w (D a.g j U)=M d:=by
 have:=(Q3.mp e).1;have:=c.len;exact(c.row.cell (i:=j) (by have:a.n*b<=(a.n+3)*b:=Nat.mul_le_mul_right _ G;omega)).trans (by rw[iJ e])
theorem QE{w0 w lo k j l F b xo xn xc}(hF:∀r∈F,oJ (mQ Ws w0 3) w 48 3 xE lo r)(d:bX F ⟨l,k,j,pX b⟩ (V xo xn xc))(q:ik w0 (V l k j) b):ik w (V xo xn xc) b:=by
 obtain⟨_,cap,s,t,u⟩:=q
 cases s;rcases d with⟨m,e⟩|⟨n,e,v⟩
 ·dsimp only at m;cases e;have a:b= []:=κ m;subst a;exact⟨U,0,J,ak,R3 J⟩
 cases e;refine⟨_,_,J,t, ?_⟩;rcases u with d|⟨_,_,_,_,x⟩
 ·exact R3 d
 have o:=hF _ v;refine S2 ⟨n,0,J,o.row.lt,λf a p=>?_⟩;have g:∀(c:Q0) (i:ω),c<3->([γ (ae a.1),γ (ae a.2.1),γ (ae a.2.2)]:Ψ ω)[c]? =M i->Q w ⟨n,0+f*3+c,U⟩=M i:=λc i y z=>by
  rw[Δ];have B:=oU (λa:qB=>[γ (ae a.1),γ (ae a.2.1),γ (ae a.2.2)]) (λ_=>rfl) b f c a p y;exact lg o (B.trans z)
 exact⟨⟨g 0 _ G J,g 1 _ G J,g 2 _ G J⟩,(x f a p).2⟩
theorem UR{w0 w lo K c xo xn xc}(o:∀r∈K,oJ (mQ PG w0 3) w 50 3 uV lo r)(n:bX K a (V xo xn xc))(p:a.cs=ng c)(j:a.rn=β c)(x:a.rn<=1048576)(q:∀b∈c,β b.1<=maxLen/\β b.2.1<=maxLen):dC w (V xo xn xc) c:=by
 rcases n with⟨_,e⟩|⟨k,e,s⟩
 ·cases e;have d:c= []:=κ G;subst d;exact⟨U,0,J,ε _,ak,R3 J⟩
 cases e;have l:=o _ s;refine⟨_,_,by rw[j],by rw[<-j];omega,fD,S2 ⟨k,0,J,l.row.lt,λf b m=>?_⟩⟩;have g:∀(d:Q0) (i:ω),d<3->([γ (ae b.1),γ (ae b.2.1),μ ν b.2.2]:Ψ ω)[d]? =M i->Q w ⟨k,0+f*3+d,U⟩=M i:=λd i t u=>by
  rw[Δ];have v:=oU (λb:gB=>[γ (ae b.1),γ (ae b.2.1),μ ν b.2.2]) (λ_=>rfl) c f d b m t;refine lg l ?_;show a.cs[f*3+d]? =_;rw[p];exact v.trans u
 exact⟨⟨g 0 _ G J,g 1 _ G J,g 2 _ G J⟩,q b (ο m)⟩
theorem QC{w0 w lo C d xo xn xc}(m:∀p∈C,oJ (mQ Lr w0 3) w 56 3 qR lo p)(l:bX C a (V xo xn xc))(n:a.cs=gQ d)(o:a.rn=β d):oD w (V xo xn xc) d:=by
 rcases l with⟨_,e⟩|⟨k,e,q⟩
 ·cases e;have b:d= []:=κ G;subst b;exact⟨U,0,J,ak,R3 J⟩
 cases e;have f:=m _ q;have r:=f.small;dsimp only at r;refine⟨_,_,by rw[o],fD,S2 ⟨k,0,J,f.row.lt,λg b s=>?_⟩⟩;have i:∀(c:Q0) (j:ω),c<3->([μ ν b.1,μ ν b.2.1,γ (ae b.2.2)]:Ψ ω)[c]? =M j->Q w ⟨k,0+g*3+c,U⟩=M j:=λc j t u=>by
  rw[Δ];have v:=oU (λb:gq=>[μ ν b.1,μ ν b.2.1,γ (ae b.2.2)]) (λ_=>rfl) d g c b s t;refine lg f ?_;show a.cs[g*3+c]? =_;rw[n];exact v.trans u
 exact⟨i 0 _ G J,i 1 _ G J,i 2 _ G J⟩
theorem Ia{w0 w lo X b xo xn xc}(g:∀e∈X,oJ (mQ KX w0 1) w 9 1 uW lo e)(f:bX X a (V xo xn xc))(i:a.cs=gY b)(j:a.rn=β b):gD w (V xo xn xc) b:=by
 rcases f with⟨_,c⟩|⟨k,c,l⟩
 ·cases c;have d:b= []:=κ G;subst d;exact⟨U,0,J,ak,R3 J⟩
 cases c;have d:=g _ l;have m:=d.small;dsimp only at m;refine⟨_,_,by rw[j],fD,S2 ⟨k,0,J,d.row.lt,λo e n=>?_⟩⟩;rw[Δ];refine lg d ?_;show a.cs[o]? =_;rw[i,gY,T0,n];rfl
theorem Tc{c:Program}(w){b e}{a:R2 T1}{f d}(g:c.underlying b=M (.slice e)):(S5 .neq b (V a f d) (V U 0 0)).run c w=.ok (ι (!a.isNone)) w:=by
 simp only[S5];simp[run_equal_slice_nil w b e a f d g]
theorem IC(w:χ)(a d e f g i c)(b:c≠a):(((((w.setCell (D a 0 U) d).setCell (D a 1 U) e).setCell (D a 2 U) f).setCell (D a 3 U) g).setCell (D a 4 U) i).heap[c]? =w.heap[c]? :=
 (θ _ _ _ _ b).trans ((θ _ _ _ _ b).trans ((θ _ _ _ _ b).trans ((θ _ _ _ _ b).trans (θ _ _ _ _ b))))
theorem VN{B}{d w:χ}(k:S6 B d w)(a)(b:B<=a)(e f g i j):S6 B d (((((w.setCell (D a 0 U) e).setCell (D a 1 U) f).setCell (D a 2 U) g).setCell (D a 3 U) i).setCell (D a 4 U) j):=
 ((((k.setCell (p:=(D a 0 U)) b _).setCell (p:=(D a 1 U)) b _).setCell (p:=(D a 2 U)) b _).setCell (p:=(D a 3 U)) b _).setCell (p:=(D a 4 U)) b _
theorem UD:(ψ.info? 59).map (λa=>(a.zero,a.size,a.bytes))=M (M (T2 #[γ ⟨#[]⟩,γ ⟨#[]⟩]),2,32):=aF
theorem JF:(ψ.info? 243).map (λa=>(a.zero,a.size,a.bytes))=M (M (T2 #[V U 0 0,V U 0 0]),2,48):=aF
theorem XN:(ψ.info? 245).map (λa=>(a.zero,a.size,a.bytes))=M (M (T2 #[μ ν 0,ι Ω]),2,16):=aF
theorem MP:(ψ.info? 247).map (λa=>(a.zero,a.size,a.bytes))=M (M (T2 #[V U 0 0,V U 0 0]),2,48):=aF
abbrev afM(f:ω)(wh:ByteArray)(o r:ω)(qM:Q6):Array ω:= #[f,γ wh,o,r,μ ν qM]
theorem NP{n a}{far d:Q0->ω}(f:β a=n*2){b}(e:b<(n+3)*2):uM 2 far (tJ a d) (n*2) ((n+3)*2) b=jN 2 a far b:=by
 unfold uM tJ jN;by_cases c:b<β a
 ·rw[dif_pos c,dif_pos c,if_neg G]
 rw[dif_neg c,if_pos G,dif_neg c]
def KbL(w x:χ):Prop:=∀(q:Q0) (cur:Array ω),w.heap[q]? =M (η cur 67 (0,0))->x.heap[q]? =w.heap[q]?
structure acF(w0 w x:World)(mb:Nat)(q:Array Value)(f o r:Value)(wh:ByteArray)(qM:Int)(C R X K B F Y Z:List Ln):Prop where
 q:x.heap[Array.size (World.heap w)]? =some (.cells q 63 (0,0))
 z:x.heap[Array.size (World.heap w)+1]? =some (.cells #[.slice none 0 0,.string ⟨#[]⟩,.slice none 0 0,.slice none 0 0,.int .i64 0] 63 (0,0))
 o:x.heap[Array.size (World.heap w)+2]? =some (.cells (afM f wh o r qM) 63 (0,0))
 lo:eY w0 x mb C R X K B F [] Y Z
 be:Below mb w x
 kb:KbL w x
def aar(w0 w:χ)(mb:Q0)(C R X K B F:Ψ Ln)(fr ou od:iC)(wh:ByteArray)(qM:Q6)(e:R8)(w':χ):Prop:=∃(fo:R2 T1) (fn fc:Q0) (oo:R2 T1) (on oc:Q0) (ro:R2 T1) (rn rc:Q0) (X2 Y Z:Ψ Ln),e=Q5 (T2 #[V fo fn fc,γ wh,V oo on oc,V ro rn rc,μ ν qM])/\(β X2<=1/\β Y<=1/\β Z<=1)/\eY w0 w' mb C R (X++X2) K B F [] Y Z/\bX Y fr (V fo fn fc)/\bX (X++X2) ou (V oo on oc)/\bX Z od (V ro rn rc)/\S6 mb w w'/\KbL w w'
theorem En{w0 w mb C R X K B F}(d:eO w0 w mb C R X K B F)(i8:Bl w0 w)(n2:H (A w0)<=mb)(y:β X<=1099511627776)(b7:iK TyT w0 2 b)(m:iK KX w0 1 e)(b8:iK TyO w0 2 a)(k qM):
  S7 ψ 39 #[ρ (M (D mb 0 U)),T2 #[V b.ro b.rn b.rc,γ k,V e.ro e.rn e.rc,V a.ro a.rn a.rc,μ ν qM]] w λv o1=>aar w0 w mb C R X K B F b e a k qM v o1:=by
 have:mb<H (A w):=by obtain⟨_,_,_,_,_,_,_,c2,_⟩:=d;exact aH c2
 obtain⟨p,f⟩:=au (((w.alloc (η #[V b.ro b.rn b.rc,γ k,V e.ro e.rn e.rc,V a.ro a.rn a.rc,μ ν qM] 63)).alloc (η #[V U 0 0,γ ⟨#[]⟩,V U 0 0,V U 0 0,μ ν 0] 63)).alloc (η #[V b.ro b.rn b.rc,γ k,V e.ro e.rn e.rc,V a.ro a.rn a.rc,μ ν qM] 63));obtain⟨⟨c,j,l⟩,g,o⟩:=GM w (η #[V b.ro b.rn b.rc,γ k,V e.ro e.rn e.rc,V a.ro a.rn a.rc,μ ν qM] 63) (η #[V U 0 0,γ ⟨#[]⟩,V U 0 0,V U 0 0,μ ν 0] 63) (η #[V b.ro b.rn b.rc,γ k,V e.ro e.rn e.rc,V a.ro a.rn a.rc,μ ν qM] 63);rw[<-f]at c j l g o;have q:Γ (((w.alloc (η #[V b.ro b.rn b.rc,γ k,V e.ro e.rn e.rc,V a.ro a.rn a.rc,μ ν qM] 63)).alloc (η #[V U 0 0,γ ⟨#[]⟩,V U 0 0,V U 0 0,μ ν 0] 63)).alloc (η #[V b.ro b.rn b.rc,γ k,V e.ro e.rn e.rc,V a.ro a.rn a.rc,μ ν qM] 63)=p):=f.symm;have s:Bl w0 p:=bT i8 g;have t:=Hz (d.ah g) s m y;change Γ _ at b7;change Γ _ at b8;change Γ _ at g;have u:Q p (D (H (A w)) 2 U)=M (V e.ro e.rn e.rc):=aC c;have S:H (A w)<H (A p):=G;have i:Γ _:=(⟨c,j,l⟩:_/\_/\_);clear f d y m c j l;go_enter func39,ntmps39;go_upto_region 2 with fail
 rw[q.out];clear q;go_upto_region 3 with(go_at_call 60;refine t.mono ?_;rintro v i5 ⟨P,O,N,e8,rfl,o2,m,c3,L,l⟩;have q:=(l _ _ _ _ i.2.2 E).trans i.2.2;have l5:=aH q;have i9:Q i5 ⟨H (A w)+2,2,U⟩=M (V e.ro e.rn e.rc):=aC q;have T:φ i5 ⟨H (A w)+2,2,U⟩=Ω:=(by simp[φ,q]))
 have c:Γ (acF w0 w (i5.setCell ⟨H (A w)+2,2,U⟩ (V P O N)) mb #[V b.ro b.rn b.rc,γ k,V e.ro e.rn e.rc,V a.ro a.rn a.rc,μ ν qM] (V b.ro b.rn b.rc) (V P O N) (V a.ro a.rn a.rc) k qM C R (X++e8) K B F [] []):=by
  have W:=(l _ _ _ _ i.1 E).trans i.1;have r:=(l _ _ _ _ i.2.1 E).trans i.2.1;exact⟨(θ _ _ _ _ (by show H (A w)≠H (A w)+2;omega)).trans W,(θ _ _ _ _ (by show H (A w)+1≠H (A w)+2;omega)).trans r,(aQ (P:=ψ) (j:=2) q ak J).2,(m.other (g:=H (A w)+2) (T':=63) (λj d=>θ _ _ _ _ d) ⟨_,q⟩ E).q,(((g.mono G).trans L).setCell (p:=⟨H (A w)+2,2,U⟩) (by show mb<=H (A w)+2;omega) _),λj a1 d=>(θ _ _ _ _ (by show j≠H (A w)+2;have:=aH d;omega)).trans ((l _ _ _ _ ((g.block j (aH d)).trans d) E).trans (g.block j (aH d)))⟩
 generalize j0:i5.setCell ⟨H (A w)+2,2,U⟩ (V P O N)=wx at*;clear j0 t i m L l q l5 i9 T u S g s o;obtain⟨i6,c5,g1,c6,g2⟩:=Q9 UD;obtain⟨i7,a2,g3,g4,g5⟩:=Q9 JF;have g6:(ψ.info? 59).map (·.size)=M 2:=by rw[c5];simp[c6]
 have S:Q wx (D (H (A w)) 0 U)=M (V b.ro b.rn b.rc):=aC c.q;have a3:=aH c.q;have j1:∀p,(S5 .neq 60 (V b.ro b.rn b.rc) (V U 0 0)).run ψ p=.ok (ι (!b.ro.isNone)) p:=λp=>Tc p R5
 go_upto_if 20 with fail
 clear j1;go_cut [] (λj2=>∃(g7:R2 T1) (g8 g9:Q0) (Y:Ψ Ln),β Y<=1/\Γ (acF w0 w j2 mb #[V b.ro b.rn b.rc,γ k,V e.ro e.rn e.rc,V a.ro a.rn a.rc,μ ν qM] (V g7 g8 g9) (V P O N) (V a.ro a.rn a.rc) k qM C R (X++e8) K B F Y [])/\bX Y b (V g7 g8 g9))
 ·clear S;obtain⟨so?,n,l,m⟩:=b;dsimp only at*
  cases so? with
  |none=>
   obtain⟨c2,h0⟩:=b7.out.nil J;dsimp only at c2 h0;subst c2 h0
   go_wp2
   go_meet;exact⟨U,0,0,[],ak,c,R3 ⟨J,J⟩⟩
  |some so=>
   have a5:=b7.out.want;have h2:=b7.out.one;have h4:=b7.out.small;have j3:Γ _:=b7.out.ty;dsimp only at a5 h2 h4;have c7:Γ _:=a5;have j4:Bl w0 wx:=i8.trans (c.be.mono n2);have a4:=a5.ah j4;have S:Q wx (D (H (A w)) 0 U)=M (V (M so) n l):=aC c.q;have j6:=aH c.o;clear a5 b7;go_wp2_with(first
    |(at_make;refine dx _ J _ _ 60 J 59 i6 _ R5 c5 g1 ν ν (n+3) _ J J G (by rw[g2];omega) G 2 c6 ?_;intro k0 c8 j7 L c3 o3;have S:=cK L a3 S;have j9:H (A w)<H (A k0):=G)
    |(refine je J (.tmp 27) (.tmp 29) 60 60 J 59 2 R5 g6 (H (A wx)) (n+3) (n+3) (M so) n l J J ((n+3)*2) c8 59 c3 m G a4.1 (a4.ah L).src (by have:=a4.1;omega) h2 ?_;intro h5 j8 h3 h1 j5))
   have h6:Bl wx h5:=h1 _ _ (ε _) L;have h7:h5.rowIs (H (A wx)) 59 ((n+3)*2) (uM 2 Az (tJ m c8) (n*2) ((n+0)*2)):=h3.congr λf _=>(ny).symm;clear c3 h3 h1 j5 L j7 j8 S j9;go_loopw [8] (λc9 wr=>∃i:Q0,i<=3/\c9=μ ν ((n+i:Q0):Q6)/\wr.rowIs (H (A wx)) 59 ((n+3)*2) (uM 2 Az (tJ m c8) (n*2) ((n+i)*2))/\Bl wx wr) (λc9 _=>(n+3)-(T3 c9).toNat)
   ·exact⟨0,G,aP,h7,h6⟩
   obtain⟨i,o4,rfl,o,s⟩:=hrel;clear h7 h6;by_cases o5:i<3
   ·have k1:=o.lt;have n3:=o.cell (i:=(n+i)*2) G;have n4:=o.cell (i:=(n+i)*2+1) G;have o6:=o.frozen ((n+i)*2);have o7:=o.frozen ((n+i)*2+1)
    go_wp2
    go_roundw
    ·exact⟨i+1,G,aP,Ey o G J J,(s.setCell (p:=(D (H (A wx)) _ U)) (ε _) _).setCell (p:=(D (H (A wx)) _ U)) (ε _) _⟩
    simp[T3];omega
   obtain rfl:i=3:=G;have e0:wr.rowIs (H (A wx)) 59 ((n+3)*2) (jN 2 m Az):=o.congr λf a2=>NP c7.1 a2;have k1:=e0.lt;obtain⟨k3,k4,k5,k6,k7,k8,k9,n5,n6,⟨l0,l1,l4,l7⟩,a6,⟨a7,a8,y,a9,b0,hF⟩,b1,g0,a0⟩:=c.out.lo.ah s;obtain⟨b2,b3,b4,rfl⟩:=l4;have o8:=aH a6;have o9:Q wr (D mb 7 U)=M (V b2 b3 b4):=aC a6;have e1:=(s.block _ a3).trans c.q;have h8:=(s.block _ j6).trans c.o;have p0:Q wr (D (H (A w)) 0 U)=M (V (M so) n l):=aC e1;have p1:=aH e1;have p2:=c.out.lo.lt;have h9:oJ (mQ TyT w0 2) wr 59 2 Az (mb+1) ⟨H (A wx),n,M so,l,m⟩:=⟨e0,c7.1,by show mb+1<=H (A wx);omega,h4,c7,j3⟩;have l8:∀x∈([]:Ψ Ln),x.g<H (A wx):=λx l9=>by simp at l9
   have i0:Γ _:=a6;have e2:Γ _:=g0;have m0:Γ _:=h9;have m1:Γ _:=(⟨⟨a7,a8,y,a9,b0,hF⟩,b1,a0⟩:(_/\_/\_/\_/\_/\_)/\_/\_);have e3:Γ _:=h8;have t:Γ _:=s;have m2:∀e4:Obj,(wr.alloc e4).drew.ownsRow (mb+1) 243 2 (V b2 b3 b4) 0 []:=λe4=>S1 (R9 g0.own e4);clear o a4 a6 g0 a0 b1 hF h9 a7 a8 y a9 b0 e0 e1 h8 s;go_upto_region 11 with fail
   have p3:mb≠H (A w)+2:=G;have p4:mb≠H (A w)+1+1:=G
   go_region_law (refine T5 _ J (.tmp 46) (.tmp 51) 115 J (mb+1) 243 i7 _ 2 48 underlying115 a2 g3 g4 g5 J E (V b2 b3 b4) 0 [] jl (m2 _) (D (H (A wr)) 0 U) 1 1 [V (M (D (H (A wx)) 0 U)) (n+3) (n+3),V (M so) n l] jl J (R0 (υ wr _)) (by intro q3 i3;simp at i3;rcases i3 with rfl|rfl<;>rfl) E fD G vK (H (A wr)+1) ek ?_;intro W T u m7 e6 p6 p8;have e7:=jM e2.own (((ξ _ wr).alloc (ε _) _).drew) e6 i0 E;have q:=jM e2.own (((ξ _ wr).alloc (ε _) _).drew) e6 e3 E;have p7:=aH e7;have p5:=aH q;have q0:Q u (D mb 7 U)=M (V b2 b3 b4):=aC e7;have q1:φ u (D mb 7 U)=Ω:=(by simp[φ,e7]);have i9:=(aI (j:=0) q).trans J;have q2:φ u ⟨H (A w)+2,0,U⟩=Ω:=(by simp[φ,q]))
   all_goals go_wp2_with fail
   all_goals go_meet
   all_goals
    obtain⟨_,m3,m4,m5,g⟩:=iX (w:=wr) (k:=7) (l:=⟨H (A wx),n,M so,l,m⟩) i0 e2 m0 l8 E E (ξ _ _) (kP.refl _ _ _) (((ξ _ wr).alloc (ε _) _).drew) e6 m7 (V (M (D W 0 U)) (0+1) T);obtain⟨⟨a7,a8,y,a9,b0,hF⟩,b1,a0⟩:=m1.out;have m8:=(g _ _ _ _ ((t.block _ a3).trans c.q) E E).trans ((t.block _ a3).trans c.q);have m9:=(g _ _ _ _ ((t.block _ (aH c.z)).trans c.z) E E).trans ((t.block _ (aH c.z)).trans c.z);have i4:=(g _ _ _ _ e3 E E).trans e3;have m6:eY w0 (u.setCell (D mb 7 U) (V (M (D W 0 U)) (0+1) T)) mb C R (X++e8) K B F [] [⟨H (A wx),n,M so,l,m⟩] []:=
     ⟨k3,k4,k5,k6,k7,k8,k9,V (M (D W 0 U)) (0+1) T,n6,⟨l0,l1,⟨_,_,_,J⟩,l7⟩,m3,⟨a7.typed g E E E E,a8.typed g E E E E,y.typed g E E E E,a9.typed g E E E E,b0.typed g E E E E,hF.typed g E E E E⟩,b1.typed g E E E E,m4,a0.typed g E E E E⟩
    have i2:dX (u.setCell (D mb 7 U) (V (M (D W 0 U)) (0+1) T)) ((u.setCell (D mb 7 U) (V (M (D W 0 U)) (0+1) T)).setCell ⟨H (A w)+2,0,U⟩ (V (M (D (H (A wx)) 0 U)) n (n+3))) [63]:=λj a1 n7 n8 d i1=>θ _ _ _ _ λv=>by
     have v:j=H (A w)+2:=v;subst v;rw[i4]at d;cases d;exact i1 ak
    refine⟨M (D (H (A wx)) 0 U),n,n+3,[⟨H (A wx),n,M so,l,m⟩],ak,⟨(θ _ _ _ _ (by show H (A w)≠H (A w)+2;omega)).trans m8,(θ _ _ _ _ (by show H (A w)+1≠H (A w)+2;omega)).trans m9,(aQ (P:=ψ) (j:=0) i4 ak J).2,m6.bW i2 E, ?_,λj a1 d=>?_⟩,S2 ⟨H (A wx),J,ak⟩⟩
    ·exact((c.be.trans (t.mono G)).trans m5).setCell (p:=⟨H (A w)+2,0,U⟩) (by show mb<=H (A w)+2;omega) _
    have b5:=c.out.kb j a1 d;have e5:=t.out.block j (aH (b5.trans d));exact(θ _ _ _ _ (by show j≠H (A w)+2;have:=aH d;omega)).trans ((g _ _ _ _ (e5.trans (b5.trans d)) E E).trans (e5.trans b5))
 obtain⟨b9,c0,c1,n0,q4,n9,o0⟩:=hcut;change Γ _ at o0;generalize n1:wc=wv at*;clear n1 c b7 c5 g1 c6 g2 a2 g3 g4 g5 g6 i6 i7;generalize j0:wv=wx at*;have c:=n9;clear n9 j0;obtain⟨i6,c5,g1,c6,g2⟩:=Q9 XN;obtain⟨i7,a2,g3,g4,g5⟩:=Q9 MP;have g6:(ψ.info? 245).map (·.size)=M 2:=by rw[c5];simp[c6]
 have S:Q wx (D (H (A w)) 3 U)=M (V a.ro a.rn a.rc):=aC c.q;have a3:=aH c.q;have j1:∀p,(S5 .neq 61 (V a.ro a.rn a.rc) (V U 0 0)).run ψ p=.ok (ι (!a.ro.isNone)) p:=λp=>Tc p R4
 go_upto_if 61 with fail
 clear j1;go_cut [] (λj2=>∃(g7:R2 T1) (g8 g9:Q0) (Y:Ψ Ln),β Y<=1/\Γ (acF w0 w j2 mb #[V b.ro b.rn b.rc,γ k,V e.ro e.rn e.rc,V a.ro a.rn a.rc,μ ν qM] (V b9 c0 c1) (V P O N) (V g7 g8 g9) k qM C R (X++e8) K B F n0 Y)/\bX Y a (V g7 g8 g9))
 ·clear S;obtain⟨so?,n,l,m⟩:=a;dsimp only at*
  cases so? with
  |none=>
   obtain⟨c2,h0⟩:=b8.out.nil J;dsimp only at c2 h0;subst c2 h0
   go_wp2
   go_meet;exact⟨U,0,0,[],ak,c,R3 ⟨J,J⟩⟩
  |some so=>
   have a5:=b8.out.want;have h2:=b8.out.one;have h4:=b8.out.small;have j3:Γ _:=b8.out.ty;dsimp only at a5 h2 h4;have c7:Γ _:=a5;have j4:Bl w0 wx:=i8.trans (c.be.mono n2);have a4:=a5.ah j4;have S:Q wx (D (H (A w)) 3 U)=M (V (M so) n l):=aC c.q;have j6:=aH c.o;clear a5 b8;go_wp2_with(first
    |(at_make;refine dx _ J _ _ 61 J 245 i6 _ R4 c5 g1 ν ν (n+3) _ J J G (by rw[g2];omega) G 2 c6 ?_;intro k0 c8 j7 L c3 o3;have S:=cK L a3 S;have j9:H (A w)<H (A k0):=G)
    |(refine je J (.tmp 68) (.tmp 70) 61 61 J 245 2 R4 g6 (H (A wx)) (n+3) (n+3) (M so) n l J J ((n+3)*2) c8 245 c3 m G a4.1 (a4.ah L).src (by have:=a4.1;omega) h2 ?_;intro h5 j8 h3 h1 j5))
   have h6:Bl wx h5:=h1 _ _ (ε _) L;have h7:h5.rowIs (H (A wx)) 245 ((n+3)*2) (uM 2 Aw (tJ m c8) (n*2) ((n+0)*2)):=h3.congr λf _=>(ny).symm;clear c3 h3 h1 j5 L j7 j8 S j9;go_loopw [11] (λc9 wr=>∃i:Q0,i<=3/\c9=μ ν ((n+i:Q0):Q6)/\wr.rowIs (H (A wx)) 245 ((n+3)*2) (uM 2 Aw (tJ m c8) (n*2) ((n+i)*2))/\Bl wx wr) (λc9 _=>(n+3)-(T3 c9).toNat)
   ·exact⟨0,G,aP,h7,h6⟩
   obtain⟨i,o4,rfl,o,s⟩:=hrel;clear h7 h6;by_cases o5:i<3
   ·have k1:=o.lt;have n3:=o.cell (i:=(n+i)*2) G;have n4:=o.cell (i:=(n+i)*2+1) G;have o6:=o.frozen ((n+i)*2);have o7:=o.frozen ((n+i)*2+1)
    go_wp2
    go_roundw
    ·exact⟨i+1,G,aP,Ey o G J J,(s.setCell (p:=(D (H (A wx)) _ U)) (ε _) _).setCell (p:=(D (H (A wx)) _ U)) (ε _) _⟩
    simp[T3];omega
   obtain rfl:i=3:=G;have e0:wr.rowIs (H (A wx)) 245 ((n+3)*2) (jN 2 m Aw):=o.congr λf a2=>NP c7.1 a2;have k1:=e0.lt;obtain⟨k3,k4,k5,k6,k7,k8,k9,n5,n6,⟨l0,l1,l4,l7⟩,a6,⟨a7,a8,y,a9,b0,hF⟩,b1,g0,a0⟩:=c.out.lo.ah s;obtain⟨b2,b3,b4,rfl⟩:=l7;have o8:=aH a6;have o9:Q wr (D mb 8 U)=M (V b2 b3 b4):=aC a6;have e1:=(s.block _ a3).trans c.q;have h8:=(s.block _ j6).trans c.o;have p0:Q wr (D (H (A w)) 3 U)=M (V (M so) n l):=aC e1;have p1:=aH e1;have p2:=c.out.lo.lt;have h9:oJ (mQ TyO w0 2) wr 245 2 Aw (mb+1) ⟨H (A wx),n,M so,l,m⟩:=⟨e0,c7.1,by show mb+1<=H (A wx);omega,h4,c7,j3⟩;have l8:∀x∈([]:Ψ Ln),x.g<H (A wx):=λx l9=>by simp at l9
   have i0:Γ _:=a6;have e2:Γ _:=a0;have m0:Γ _:=h9;have m1:Γ _:=(⟨⟨a7,a8,y,a9,b0,hF⟩,b1,g0⟩:(_/\_/\_/\_/\_/\_)/\_/\_);have e3:Γ _:=h8;have t:Γ _:=s;have m2:∀e4:Obj,(wr.alloc e4).drew.ownsRow (mb+1) 247 2 (V b2 b3 b4) 0 []:=λe4=>S1 (R9 a0.own e4);clear o a4 a6 g0 a0 b1 hF h9 a7 a8 y a9 b0 e0 e1 h8 s;go_upto_region 21 with fail
   have p3:mb≠H (A w)+2:=G;have p4:mb≠H (A w)+1+1:=G
   go_region_law (refine T5 _ J (.tmp 87) (.tmp 92) 116 J (mb+1) 247 i7 _ 2 48 underlying116 a2 g3 g4 g5 J E (V b2 b3 b4) 0 [] jl (m2 _) (D (H (A wr)) 0 U) 1 1 [V (M (D (H (A wx)) 0 U)) (n+3) (n+3),V (M so) n l] jl J (R0 (υ wr _)) (by intro q3 i3;simp at i3;rcases i3 with rfl|rfl<;>rfl) E fD G vK (H (A wr)+1) ek ?_;intro W T u m7 e6 p6 p8;have e7:=jM e2.own (((ξ _ wr).alloc (ε _) _).drew) e6 i0 E;have q:=jM e2.own (((ξ _ wr).alloc (ε _) _).drew) e6 e3 E;have p7:=aH e7;have p5:=aH q;have q0:Q u (D mb 8 U)=M (V b2 b3 b4):=aC e7;have q1:φ u (D mb 8 U)=Ω:=(by simp[φ,e7]);have i9:=(aI (j:=3) q).trans J;have q2:φ u ⟨H (A w)+2,3,U⟩=Ω:=(by simp[φ,q]))
   all_goals go_wp2_with fail
   all_goals go_meet
   all_goals
    obtain⟨_,m3,m4,m5,g⟩:=iX (w:=wr) (k:=8) (l:=⟨H (A wx),n,M so,l,m⟩) i0 e2 m0 l8 E E (ξ _ _) (kP.refl _ _ _) (((ξ _ wr).alloc (ε _) _).drew) e6 m7 (V (M (D W 0 U)) (0+1) T);obtain⟨⟨a7,a8,y,a9,b0,hF⟩,b1,a0⟩:=m1.out;have m8:=(g _ _ _ _ ((t.block _ a3).trans c.q) E E).trans ((t.block _ a3).trans c.q);have m9:=(g _ _ _ _ ((t.block _ (aH c.z)).trans c.z) E E).trans ((t.block _ (aH c.z)).trans c.z);have i4:=(g _ _ _ _ e3 E E).trans e3;have m6:eY w0 (u.setCell (D mb 8 U) (V (M (D W 0 U)) (0+1) T)) mb C R (X++e8) K B F [] n0 [⟨H (A wx),n,M so,l,m⟩]:=
     ⟨k3,k4,k5,k6,k7,k8,k9,n5,V (M (D W 0 U)) (0+1) T,⟨l0,l1,l4,⟨_,_,_,J⟩⟩,m3,⟨a7.typed g E E E E,a8.typed g E E E E,y.typed g E E E E,a9.typed g E E E E,b0.typed g E E E E,hF.typed g E E E E⟩,b1.typed g E E E E,a0.typed g E E E E,m4⟩
    have i2:dX (u.setCell (D mb 8 U) (V (M (D W 0 U)) (0+1) T)) ((u.setCell (D mb 8 U) (V (M (D W 0 U)) (0+1) T)).setCell ⟨H (A w)+2,3,U⟩ (V (M (D (H (A wx)) 0 U)) n (n+3))) [63]:=λj a1 n7 n8 d i1=>θ _ _ _ _ λv=>by
     have v:j=H (A w)+2:=v;subst v;rw[i4]at d;cases d;exact i1 ak
    refine⟨M (D (H (A wx)) 0 U),n,n+3,[⟨H (A wx),n,M so,l,m⟩],ak,⟨(θ _ _ _ _ (by show H (A w)≠H (A w)+2;omega)).trans m8,(θ _ _ _ _ (by show H (A w)+1≠H (A w)+2;omega)).trans m9,(aQ (P:=ψ) (j:=3) i4 ak J).2,m6.bW i2 E, ?_,λj a1 d=>?_⟩,S2 ⟨H (A wx),J,ak⟩⟩
    ·exact((c.be.trans (t.mono G)).trans m5).setCell (p:=⟨H (A w)+2,3,U⟩) (by show mb<=H (A w)+2;omega) _
    have b5:=c.out.kb j a1 d;have e5:=t.out.block j (aH (b5.trans d));exact(θ _ _ _ _ (by show j≠H (A w)+2;have:=aH d;omega)).trans ((g _ _ _ _ (e5.trans (b5.trans d)) E E).trans (e5.trans b5))
 obtain⟨g,i,l,Z,T,m,W⟩:=hcut;generalize n1:wc=wv at*;clear n1 c b8 c5 g1 c6 g2 a2 g3 g4 g5 g6;have b6:=m.out.o;have:=aH b6;have n3:Q wv ⟨H (A w)+2,0,U⟩=M (V b9 c0 c1):=aC b6;have n4:Q wv ⟨H (A w)+2,1,U⟩=M (γ k):=aC b6;have:Q wv ⟨H (A w)+2,2,U⟩=M (V P O N):=aC b6;have:Q wv ⟨H (A w)+2,3,U⟩=M (V g i l):=aC b6;have:Q wv ⟨H (A w)+2,4,U⟩=M (μ ν qM):=aC b6;have r:=m.out.z;have:=aH r;have:=(aI (j:=0) r).trans J;have:=(aI (j:=1) r).trans J;have:=(aI (j:=2) r).trans J;have:=(aI (j:=3) r).trans J;have:=(aI (j:=4) r).trans J;have c:∀f,φ wv ⟨H (A w)+1,f,U⟩=Ω:=λf=>by simp[φ,r]
 have:=c 0;have:=c 1;have:=c 2;have:=c 3;have:=c 4;clear b6 r c;go_wp2_with fail;have r:=m.out.z;have o:=(aQ (P:=ψ) (j:=0) r ak (v:=V b9 c0 c1) J).2;have s:=(aQ (P:=ψ) (j:=1) o ak (v:=γ k) J).2;have t:=(aQ (P:=ψ) (j:=2) s ak (v:=V P O N) J).2;have u:=(aQ (P:=ψ) (j:=3) t ak (v:=V g i l) J).2;have a0:=(aQ (P:=ψ) (j:=4) u ak (v:=μ ν qM) J).2;have a2:=(aI (j:=0) o).trans J;have b5:=(aI (j:=1) s).trans J;have e5:=(aI (j:=2) t).trans J;have a4:=(aI (j:=3) u).trans J;have a5:=(aI (j:=4) a0).trans J;refine bodyPost_ret (v:=T2 #[V b9 c0 c1,γ k,V P O N,V g i l,μ ν qM]) (by simp[results,results39,go_sem,a2,b5,e5,a4,a5]) J ?_;have a6:=VN m.be (H (A w)+1) G (V b9 c0 c1) (γ k) (V P O N) (V g i l) (μ ν qM);have i2:dX wv _ [63]:=λj a1 n7 n8 d i1=>IC wv (H (A w)+1) (V b9 c0 c1) (γ k) (V P O N) (V g i l) (μ ν qM) j λv=>by
  subst v;rw[r]at d;cases d;exact i1 ak
 exact⟨b9,c0,c1,P,O,N,g,i,l,e8,n0,Z,J,⟨o2,q4,T⟩,m.lo.bW i2 E,o0,c3,W,a6,λj a1 d=>(IC wv (H (A w)+1) (V b9 c0 c1) (γ k) (V P O N) (V g i l) (μ ν qM) j (by have:=aH d;omega)).trans (m.kb j a1 d)⟩
theorem aad{w0 k n j c d}(a:ku w0 k j n c)(e:ku w0 k j n d):c=d:=by
 apply List.ext_getElem?;intro b;by_cases f:b<β c
 ·have l:b<β d:=by rw[e.1,<-a.1];exact f
  rcases a.2 with g|⟨i,_,o,_,p⟩
  ·have:=a.1;rw[g,R7]at this;omega
  rcases e.2 with g|⟨_,_,m,_,q⟩
  ·have:=a.1;rw[g,R7]at this;omega
  rw[o]at m;cases m;have r:=p b _ (δ f);have i:=q b _ (δ l);rw[r]at i;rw[δ f,δ l];exact i
 rw[S8 G,S8 (by rw[e.1,<-a.1];omega)]
theorem uC{w0 j L}(l:bX L b d)(o:∀e∈L,ku w0 j e.wo e.n e.cs)(i:b.ro=a.ro)(c:b.rn=a.rn)(m:b.rc=a.rc)(p:ku w0 j a.ro a.rn a.cs):bX L a d:=by
 rcases l with⟨_,f⟩|⟨q,f,k⟩
 ·exact R3 ⟨G,f⟩
 have g:=o _ k;dsimp only at g;rw[i,c]at g;refine S2 ⟨q,by rw[f,c], ?_⟩;rw[<-aad g p,<-i,<-c,<-m];exact k
theorem UW{w0 w lo R C x l X rows d xo xn xc}(P:∀e∈R,oJ (WtR w0 C) w 57 1 xG lo e)(t:∀e∈C,oJ (mQ Lr w0 3) w 56 3 qR lo e)(s:uJ R x l X (V xo xn xc))(W:pW w0 x l rows)(T:∀b∈rows,Br w0 b)(S:l=β d)(u:β rows=β d)(v:∀(a:Q0) (b:iC) (k:Ψ gq),rows[a]? =M b->d[a]? =M k->b.cs=gQ k/\b.rn=β k):RowsIn w (V xo xn xc) d:=by
 rcases s with⟨m,n⟩|⟨y,a0,n,a1⟩
 ·cases n;have c:d= []:=κ G;subst c;exact⟨U,0,J,ak,R3 J⟩
 cases n;have f:=P _ a1;have a2:=f.small;dsimp only at a2;refine⟨_,_,by rw[S],fD, ?_⟩;by_cases m:d= []
 ·exact R3 m
 have:0<β d:=S9.mpr m;obtain⟨a3,⟨a4,z⟩,a5,B⟩:=f.want;dsimp only at a4 z a5 B;rcases W.2 with s|⟨_,_,rfl,_,a6⟩
 ·omega
 obtain⟨_,_,a7,_,a8⟩:=z.resolve_left G
 cases a7;refine S2 ⟨y,0,J,f.row.lt,λa b o=>?_⟩;have:=(Q3.mp o).1;obtain⟨c,i⟩:∃c,rows[a]? =M c:=⟨_,δ G⟩;obtain⟨O,K⟩:∃c,a3[a]? =M c:=⟨_,δ G⟩;obtain⟨j,N⟩:∃j,a0[a]? =M j:=⟨_,δ G⟩;have a9:=B a O j K N;have F:=a6 a c i;rw[a8 a O K]at F;have g:=Option.some.inj F;simp only[Value.slice.injEq]at g;have L:=uC a9 (λe u=>(t e u).want.1) g.1 g.2.1 g.2.2 (T c (ο i)).want;obtain⟨r,q,p,rfl⟩:∃r q p,j=V r q p:=by rcases L with⟨_,rfl⟩|⟨y,rfl,_⟩<;>exact⟨_,_,_,J⟩
 rw[Δ];exact⟨r,q,p,lg f N,QC t L (v a c b i o).1 (v a c b i o).2⟩
def acj(w0 w:χ)(mb:Q0)(C R X K B F:Ψ Ln):Prop:=∃vc vr vx vk vb vf:ω,bE (mQ Lr w0 3) w 56 227 3 qR mb vc C/\bE (WtR w0 C) w 57 292 1 xG mb vr R/\bE (mQ KX w0 1) w 9 294 1 uW mb vx X/\
 bE (mQ PG w0 3) w 50 290 3 uV mb vk K/\bE (WtT w0 K R X) w 54 190 6 Ay mb vb B/\bE (mQ Ws w0 3) w 48 185 3 xE mb vf F
theorem UX{w0 w mb C R X K B F}(b4:acj w0 w mb C R X K B F){aS s T bI g xo xn xc}(b3:uJ B aS s T (V xo xn xc))(b8:kV w0 (V aS s T) g)(b6:tQ w0 aS s bI)(b5:∀b∈bI,Dw w0 b)(g6:β bI=β g)(b7:∀(c:Q0) (b:oL) (q:aJ),bI[c]? =M b->g[c]? =M q->WQ b q):kV w (V xo xn xc) g:=by
 obtain⟨_,_,_,_,_,_,b9,c0,W,a0,c1,_⟩:=b4;obtain⟨_,cap,c2,c3,_⟩:=b8
 cases c2;rcases b3 with⟨r,t⟩|⟨j,c4,t,c5⟩
 ·cases t;have a:g= []:=κ r;subst a;exact⟨U,0,J,ak,R3 J⟩
 cases t;have u:=c1.each _ c5;refine⟨_,_,J,c3, ?_⟩;by_cases r:g= []
 ·exact R3 r
 have:0<β g:=S9.mpr r;obtain⟨c6,⟨c7,a1⟩,c8,a2⟩:=u.want;dsimp only at c7 a1 c8 a2;obtain⟨_,_,rfl,_,c9⟩:=b6.2.resolve_left G;obtain⟨_,_,e0,_,e1⟩:=a1.resolve_left G
 cases e0;refine S2 ⟨j,0,J,u.row.lt,λc q a3=>?_⟩;have:=(Q3.mp a3).1;obtain⟨b,y⟩:∃b,bI[c]? =M b:=⟨_,δ G⟩;obtain⟨P,a5⟩:∃b,c6[c]? =M b:=⟨_,δ G⟩;obtain⟨e7,g4,g5,e2,e4,x,e6⟩:=a2 c P a5;obtain⟨e8,e9,g0,g1,g2,g3⟩:=c9 c b y;obtain⟨L,n,o,N,O,p⟩:=e1 c P a5;rw[e8]at L;rw[e9]at n;rw[g0]at o;rw[g1]at N;rw[g2]at O;rw[g3]at p;simp only[Option.some.injEq,Value.string.injEq,Value.slice.injEq,Value.int.injEq,true_and]at L n o N O p;have a:=b7 c b q y a3;have l:=b5 b (ο y);have a4:=uC e4 (λz v=>(a0.each z v).want.1) n.1.symm n.2.1.symm n.2.2.symm l.k.want;have a6:=uC e6 (λz v=>(W.each z v).want.1) p.1.symm p.2.1.symm p.2.2.symm l.u.want;rw[<-o.1,<-o.2.1,<-o.2.2]at x;obtain⟨a9,a8,a7,rfl⟩:∃f e d,e7=V f e d:=by rcases a4 with⟨_,rfl⟩|⟨j,rfl,_⟩<;>exact⟨_,_,_,J⟩
 obtain⟨b2,b1,b0,rfl⟩:∃f e d,g5=V f e d:=by rcases a6 with⟨_,rfl⟩|⟨j,rfl,_⟩<;>exact⟨_,_,_,J⟩
 obtain⟨f,e,d,rfl⟩:∃f e d,g4=V f e d:=by rcases x with⟨_,rfl⟩|⟨j,c4,rfl,_⟩<;>exact⟨_,_,_,J⟩
 have i:∀(m:Q0) (S:ω),m<6->(wI P (V a9 a8 a7) (V f e d) (V b2 b1 b0))[m]? =M S->Q w ⟨j,0+c*6+m,U⟩=M S:=λm S e3 e5=>by
  rw[Δ];exact lg u ((e2 m e3).trans e5)
 refine⟨a9,a8,a7,f,e,d,b2,b1,b0,⟨?_,i 1 _ G J,i 2 _ G J, ?_, ?_,i 5 _ G J⟩,UR a0.each a4 a.kcs a.kn l.k.small a.afE,UW c0.each b9.each x l.rows l.each a.rn a.rl a.rows,Ia W.each a6 a.ucs a.un,a.acv,a.Tn⟩
 ·rw[<-a.name,L];exact i 0 _ G J
 ·rw[<-a.count,N];exact i 3 _ G J
 rw[<-a.aR,O];exact i 4 _ G J
def adt(f:T7):T9:=((f.body.bind (iT 8)).getD .skip)
theorem QQ{w0 w:χ}{mb B x3 X}(K:w.heap[mb]? =M (η y 118 (0,0)))(z7:y[8]? =M (V B (β X) x3))(C:bE (mQ TyO w0 2) w 245 247 2 Aw mb (V B (β X) x3) X)(z6:Bl w0 w)(y6:H (A w0)<=mb)(B5:β X<=2199023255552){y5:Act->χ->Prop}{z5:R8->χ->Prop}(y7:∀(z8 z9 a' v143 b' v145 v146 c' d' e' f' g' h' i' j' k' l' m' n' o' p' q' r' s' t' u' v' v167 v168 w' x' v171 y' v173 z' v175 A' B' C' D' E' F' G' H' I' J' K' L' M' N' O' P' Q' R' S' T' U' V' W' X' Y' Z' A9 A8 A7 A6 A5 A4:ω) (k:χ),eD w k mb 245 2 Aw ovO X (β X)->y5 ⟨#[ρ (M (D mb 0 U)),d,j,ι σ,p,v,m,N,O,P,z8,z9,a',T,W,a0,a1,a2,a3,a4,a5,a6,a7,a8,a9,b0,b1,b2,b3,b4,b5,b6,b7,b8,b9,c0,c1,c2,c3,c4,c5,c6,c7,c8,c9,e0,e1,e2,e3,e4,e5,e6,e7,e8,e9,g0,g1,g2,g3,g4,g5,g6,g7,g8,g9,h0,h1,h2,h3,h4,h5,h6,h7,h8,h9,i0,i1,i2,i3,i4,i7,i8,i9,j0,j1,j2,j3,j4,j5,j6,j7,j8,j9,k0,k1,k2,k3,k4,k5,k6,k7,k8,k9,l0,l1,l4,l7,l8,l9,m0,m1,m2,m3,m4,m5,m6,m7,m8,m9,n0,n1,n2,n3,n4,n5,n6,n7,n8,n9,o0,o1,o2,o3,o4,o5,o6,o7,o8,o9,p0,p1,p2,p3,v143,b',v145,v146,c',d',e',f',g',h',i',j',k',l',m',n',o',p',q',r',s',t',u',v',v167,v168,w',x',v171,y',v173,z',v175,A',B',C',D',E',F',G',H',I',J',K',L',M',N',O',P',Q',R',S',T',U',V',W',X',Y',Z',A9,A8,A7,A6,A5,A4,S],[]⟩ k):
  R1 ψ (adt R6) (T8.then y5 (Q8 ψ R6 z5)) ⟨#[ρ (M (D mb 0 U)),d,j,ι σ,p,v,m,N,O,P,μ ν 0,i5,i6,T,W,a0,a1,a2,a3,a4,a5,a6,a7,a8,a9,b0,b1,b2,b3,b4,b5,b6,b7,b8,b9,c0,c1,c2,c3,c4,c5,c6,c7,c8,c9,e0,e1,e2,e3,e4,e5,e6,e7,e8,e9,g0,g1,g2,g3,g4,g5,g6,g7,g8,g9,h0,h1,h2,h3,h4,h5,h6,h7,h8,h9,i0,i1,i2,i3,i4,i7,i8,i9,j0,j1,j2,j3,j4,j5,j6,j7,j8,j9,k0,k1,k2,k3,k4,k5,k6,k7,k8,k9,l0,l1,l4,l7,l8,l9,m0,m1,m2,m3,m4,m5,m6,m7,m8,m9,n0,n1,n2,n3,n4,n5,n6,n7,n8,n9,o0,o1,o2,o3,o4,o5,o6,o7,o8,o9,p0,p1,p2,p3,p4,p5,p6,p7,p8,p9,q0,q1,q2,q3,q4,q5,q6,q7,q8,q9,r0,r1,r2,r3,r4,r5,r6,r7,r8,r9,s0,s1,s2,s3,s4,s5,s6,s7,s8,s9,u0,u1,u2,u3,u4,u5,u6,u7,u8,u9,v0,v1,v2,v3,v4,v5,v6,v7,v8,v9,w1,w2,w3,w4,w5,w6,w7,w8,w9,S],[]⟩ w:=by
 conv=>arg 2;whnf
 change Γ _ at y7;have a:eD w w mb 245 2 Aw ovO X 0:=eD.start C;change Γ _ at C;have A3:Γ _:=(eU C).2;change Γ _ at K;have B4:=aH K;go_wp2_with fail;go_loopg [3,10] (β X) (λgk e b wr=>∃c:Q0,gk=β X-c/\c<=β X/\e=ι σ/\b=μ ν (c:Q6)/\eD w wr mb 245 2 Aw ovO X c)
 ·exact⟨0,J,τ _,J,J,a⟩
 obtain⟨c,x4,_,rfl,rfl,F⟩:=hrel;subst x4;clear a;generalize a:wr=wo at*;clear a;have L:=(F.ah _ _ _ _ K E).trans K;have B3:=aH L;have A2:Q wo (D mb 8 U)=M (V B (β X) x3):=(aI L).trans z7;by_cases A1:c<β X
 ·rcases A3.out with R|⟨x5,rfl,_,⟨_,f⟩,g⟩
  ·omega
  obtain⟨⟨b,n,r,s,y8⟩,t⟩:∃A0,X[c]? =M A0:=⟨_,δ A1⟩;have a:=F.ah _ _ _ _ f E;have o:=(ζ (w:=w) (a:=⟨x5,c*2,U⟩) a).trans (g c _ t).1;have q:=(ζ (w:=w) (a:=⟨x5,c*2+1,U⟩) a).trans (g c _ t).2;have z:x5<H (A wo):=aH (a.trans f);have u:=C.out.each _ (ο t);have y9:mb<=b:=by have:=u.lo;dsimp only at this;omega
  have l:=F.more ((ξ _ wo).alloc (ε _) (η #[V (M (D b 0 U)) (n+3) (n+3),V r n s] 247)) G;have i:=jA.start l t;have x:=υ wo (η #[V (M (D b 0 U)) (n+3) (n+3),V r n s] 247);clear g f a F;go_wp2_with fail;generalize a:wo.alloc (η #[V (M (D b 0 U)) (n+3) (n+3),V r n s] 247)=W1 at*;generalize B2:H (A wo)=xb at*;have B9:Bl w0 W1:=z6.trans (l.jH.mono y6);have x6:=aH x;clear o q z A2 L a;go_loopg [3,12] (n+3) (λgk e f k=>∃a:Q0,gk=(n+3)-a/\a<=n+3/\e=ι σ/\f=μ ν (a:Q6)/\jA W1 k mb 245 2 Aw ovO ⟨b,n,r,s,y8⟩ a)
  ·exact⟨0,J,τ _,J,J,i⟩
  obtain⟨a,x4,_,rfl,rfl,g⟩:=hrel;subst x4;clear i;have x7:xb≠b:=λB8=>by
   obtain⟨_,e,_⟩:=l.todo c _ (ε _) t;rw[B8]at x;rw[x]at e;cases e
  have f:=(g.pV xb x6 x7).trans x;have B7:=u.small;dsimp only at B7;have x0:Q wr (D xb 0 U)=M (V (M (D b 0 U)) (n+3) (n+3)):=aC f;have z0:Q wr (D xb 1 U)=M (V r n s):=aC f;have x1:=aH f;have x2:=g.row.lt;by_cases B1:a<n+3
  ·have z:Γ (∀i,Bl wr i->jA W1 i mb 245 2 Aw ovO ⟨b,n,r,s,y8⟩ a):=λi R=>g.more R G;by_cases B6:a<n
   ·rcases u.want.1.2 with R|⟨x8,z1,rfl,z2,e⟩
    ·dsimp only at R;omega
    obtain⟨z3,z4,x9,y0⟩:=u.want.2 a B6;have y1:Bl w0 wr:=B9.trans (g.jH.mono y6);have o:Q wr ⟨b,a*2,U⟩=M (μ ν z3):=(g.row.cell (i:=a*2) dJ).trans (by rw[gV G,iJ x9]);have q:Q wr ⟨b,a*2+1,U⟩=M (ι z4):=(g.row.cell (i:=a*2+1) dJ).trans (by rw[gV G,iJ y0]);have y2:Q wr ⟨x8,z1+a*2,U⟩=M (μ ν z3):=cK y1 z2 (e _ _ x9);have y3:Q wr ⟨x8,z1+a*2+1,U⟩=M (ι z4):=cK y1 z2 (e _ _ y0);have B0:x8<H (A wr):=cz y1.size;clear e x9 y0;go_upto_region 27 with fail
    go_cut [3] (λx9 k=>x9=ι σ/\Bl wr k)
    ·clear z l;go_region;all_goals(go_wp2;go_meet)
     all_goals exact⟨J,uU⟩
    obtain⟨rfl,y0⟩:=hcut;have e:=z.out _ y0;clear z o q y2 y3 x0 z0 x1 x2 g f;generalize y2:wc=i at*;clear y2;have f:=(e.pV xb x6 x7).trans x;have x0:Q i (D xb 0 U)=M (V (M (D b 0 U)) (n+3) (n+3)):=aC f;have x1:=aH f;have x2:b<H (A i):=e.row.lt;have o:=e.row.cell (i:=a*2) dJ;have q:=e.row.cell (i:=a*2+1) dJ;have y3:=e.row.frozen (a*2);have y4:=e.row.frozen (a*2+1);dsimp only at o q y3 y4;clear f
    go_wp2
    go_roundg (n+3-(a+1))
    all_goals first
     |omega
     |exact⟨a+1,J,G,J,aP,e.abE y9 J J⟩
   have x8:decide ((a:Q6)<(n:Q6))=Ω:=aN;have y1:n<=a:=G;have z1:decide (n<=a)=σ:=aN;have o:Q wr ⟨b,a*2,U⟩=M (μ ν 77):=(g.row.cell (i:=a*2) dJ).trans (by rw[gV G,gG (by have:=u.len;dsimp only at this;dsimp only;omega),show(a*2) % 2=0 by omega];rfl);have q:Q wr ⟨b,a*2+1,U⟩=M (ι Ω):=(g.row.cell (i:=a*2+1) dJ).trans (by rw[gV G,gG (by have:=u.len;dsimp only at this;dsimp only;omega),show(a*2+1) % 2=1 by omega];rfl);go_upto_region 27 with fail
   go_cut [3] (λx9 k=>x9=ι σ/\Bl wr k)
   ·clear z l;go_region;all_goals(go_wp2;go_meet)
    all_goals exact⟨J,uU⟩
   obtain⟨rfl,y0⟩:=hcut;have e:=z.out _ y0;clear z o q x0 z0 x1 x2 g f;generalize y2:wc=i at*;clear y2;have f:=(e.pV xb x6 x7).trans x;have x0:Q i (D xb 0 U)=M (V (M (D b 0 U)) (n+3) (n+3)):=aC f;have x1:=aH f;have x2:b<H (A i):=e.row.lt;have o:=e.row.cell (i:=a*2) dJ;have q:=e.row.cell (i:=a*2+1) dJ;have y3:=e.row.frozen (a*2);have y4:=e.row.frozen (a*2+1);dsimp only at o q y3 y4;clear f
   go_wp2
   go_roundg (n+3-(a+1))
   all_goals first
    |omega
    |exact⟨a+1,J,G,J,aP,e.abE y9 J J⟩
  obtain rfl:a=n+3:=G;have e:=l.next t g C.apart;clear g l
  go_wp2
  go_roundg (β X-(c+1))
  all_goals first
   |omega
   |exact⟨c+1,J,G,J,aP,e⟩
 obtain rfl:c=β X:=G;clear L;go_wp2_with fail;apply y7;exact F
def adr(f:T7):T9:=((f.body.bind (iT 0)).getD .skip)
theorem NU{w0 w:χ}{mb C x6 X}(L:w.heap[mb]? =M (η y 118 (0,0)))(a':y[6]? =M (V C (β X) x6))(F:bE (mQ Ws w0 3) w 48 185 3 xE mb (V C (β X) x6) X)(z9:Bl w0 w)(z0:H (A w0)<=mb)(B4:β X<=2199023255552){y9:Act->χ->Prop}{z8:R8->χ->Prop}(z1:∀(z' J' S' b' c' d' e' f' g' h' v20 v21 i' j' k' l' m' n' o' p' q' r' s' t' u' v' w' v37 x' y' A' B' C' D' E' F' v46 G' H' I' K' v51 L' v53 M' N' O' P' Q' R' T' U' V' W' X' Y' Z' A9 A8 A7 v70 A6 v72 A5 A4 v75 v76 A3:ω) (k:χ),eD w k mb 48 3 xE YO X (β X)->y9 ⟨#[ρ (M (D mb 0 U)),d,j,ι σ,z',J',S',m,N,O,P,i5,i6,b',c',d',e',f',g',h',v20,v21,i',j',k',l',m',n',o',p',q',r',s',t',u',v',w',v37,x',y',A',B',C',D',E',F',v46,G',H',I',K',v51,L',v53,M',N',O',P',Q',R',T',U',V',W',X',Y',Z',A9,A8,A7,v70,A6,v72,A5,A4,v75,v76,A3,i3,i4,i7,i8,i9,j0,j1,j2,j3,j4,j5,j6,j7,j8,j9,k0,k1,k2,k3,k4,k5,k6,k7,k8,k9,l0,l1,l4,l7,l8,l9,m0,m1,m2,m3,m4,m5,m6,m7,m8,m9,n0,n1,n2,n3,n4,n5,n6,n7,n8,n9,o0,o1,o2,o3,o4,o5,o6,o7,o8,o9,p0,p1,p2,p3,p4,p5,p6,p7,p8,p9,q0,q1,q2,q3,q4,q5,q6,q7,q8,q9,r0,r1,r2,r3,r4,r5,r6,r7,r8,r9,s0,s1,s2,s3,s4,s5,s6,s7,s8,s9,u0,u1,u2,u3,u4,u5,u6,u7,u8,u9,v0,v1,v2,v3,v4,v5,v6,v7,v8,v9,w1,w2,w3,w4,w5,w6,w7,w8,w9,S],[]⟩ k):
  R1 ψ (adr R6) (T8.then y9 (Q8 ψ R6 z8)) ⟨#[ρ (M (D mb 0 U)),d,j,ι σ,μ ν 0,p,v,m,N,O,P,i5,i6,T,W,a0,a1,a2,a3,a4,a5,a6,a7,a8,a9,b0,b1,b2,b3,b4,b5,b6,b7,b8,b9,c0,c1,c2,c3,c4,c5,c6,c7,c8,c9,e0,e1,e2,e3,e4,e5,e6,e7,e8,e9,g0,g1,g2,g3,g4,g5,g6,g7,g8,g9,h0,h1,h2,h3,h4,h5,h6,h7,h8,h9,i0,i1,i2,i3,i4,i7,i8,i9,j0,j1,j2,j3,j4,j5,j6,j7,j8,j9,k0,k1,k2,k3,k4,k5,k6,k7,k8,k9,l0,l1,l4,l7,l8,l9,m0,m1,m2,m3,m4,m5,m6,m7,m8,m9,n0,n1,n2,n3,n4,n5,n6,n7,n8,n9,o0,o1,o2,o3,o4,o5,o6,o7,o8,o9,p0,p1,p2,p3,p4,p5,p6,p7,p8,p9,q0,q1,q2,q3,q4,q5,q6,q7,q8,q9,r0,r1,r2,r3,r4,r5,r6,r7,r8,r9,s0,s1,s2,s3,s4,s5,s6,s7,s8,s9,u0,u1,u2,u3,u4,u5,u6,u7,u8,u9,v0,v1,v2,v3,v4,v5,v6,v7,v8,v9,w1,w2,w3,w4,w5,w6,w7,w8,w9,S],[]⟩ w:=by
 conv=>arg 2;whnf
 change Γ _ at z1;have a:eD w w mb 48 3 xE YO X 0:=eD.start F;change Γ _ at F;have A2:Γ _:=(eU F).2;change Γ _ at L;have B3:=aH L;go_wp2_with fail;go_loopg [3,4] (β X) (λgk b c wr=>∃e:Q0,gk=β X-e/\e<=β X/\b=ι σ/\c=μ ν (e:Q6)/\eD w wr mb 48 3 xE YO X e)
 ·exact⟨0,J,τ _,J,J,a⟩
 obtain⟨e,x7,_,rfl,rfl,K⟩:=hrel;subst x7;clear a;generalize a:wr=wo at*;clear a;have R:=(K.ah _ _ _ _ L E).trans L;have B2:=aH R;have A1:Q wo (D mb 6 U)=M (V C (β X) x6):=(aI R).trans a';by_cases A0:e<β X
 ·rcases A2.out with x0|⟨x8,rfl,_,⟨_,f⟩,g⟩
  ·omega
  obtain⟨⟨c,n,t,u,z2⟩,x⟩:∃B9,X[e]? =M B9:=⟨_,δ A0⟩;have a:=K.ah _ _ _ _ f E;have l:=(ζ (w:=w) (a:=⟨x8,e*2,U⟩) a).trans (g e _ x).1;have r:=(ζ (w:=w) (a:=⟨x8,e*2+1,U⟩) a).trans (g e _ x).2;have s:x8<H (A wo):=aH (a.trans f);have o:=F.out.each _ (ο x);have z3:mb<=c:=by have:=o.lo;dsimp only at this;omega
  have q:=K.more ((ξ _ wo).alloc (ε _) (η #[V (M (D c 0 U)) (n+3) (n+3),V t n u] 185)) G;have i:=jA.start q x;have z:=υ wo (η #[V (M (D c 0 U)) (n+3) (n+3),V t n u] 185);clear g f a K;go_wp2_with fail;generalize a:wo.alloc (η #[V (M (D c 0 U)) (n+3) (n+3),V t n u] 185)=W1 at*;generalize B1:H (A wo)=xb at*;have B8:Bl w0 W1:=z9.trans (q.jH.mono z0);have x9:=aH z;clear l r s A1 R a;go_loopg [3,6] (n+3) (λgk b f k=>∃a:Q0,gk=(n+3)-a/\a<=n+3/\b=ι σ/\f=μ ν (a:Q6)/\jA W1 k mb 48 3 xE YO ⟨c,n,t,u,z2⟩ a)
  ·exact⟨0,J,τ _,J,J,i⟩
  obtain⟨a,x7,_,rfl,rfl,f⟩:=hrel;subst x7;clear i;have y0:xb≠c:=λB7=>by
   obtain⟨l,b,_⟩:=q.todo e _ (ε _) x;rw[B7]at z;rw[z]at b;cases b
  have g:=(f.pV xb x9 y0).trans z;have B6:=o.small;dsimp only at B6;have x1:Q wr (D xb 0 U)=M (V (M (D c 0 U)) (n+3) (n+3)):=aC g;have z4:Q wr (D xb 1 U)=M (V t n u):=aC g;have x2:=aH g;have x3:=f.row.lt;by_cases B0:a<n+3
  ·have B:Γ (∀i,Bl wr i->jA W1 i mb 48 3 xE YO ⟨c,n,t,u,z2⟩ a):=λi x0=>f.more x0 G;by_cases B5:a<n
   ·rcases o.want.1.2 with x0|⟨x4,y1,rfl,y2,b⟩
    ·dsimp only at x0;omega
    obtain⟨z5,z6,z7,y3,y4,y5⟩:=o.want.2 a B5;have x5:Bl w0 wr:=B8.trans (f.jH.mono z0);have r:Q wr ⟨c,a*3,U⟩=M (γ z5):=(f.row.cell (i:=a*3) dJ).trans (by rw[gV G,iJ y3]);have s:Q wr ⟨c,a*3+1,U⟩=M (γ z6):=(f.row.cell (i:=a*3+1) dJ).trans (by rw[gV G,iJ y4]);have l:Q wr ⟨c,a*3+2,U⟩=M (γ z7):=(f.row.cell (i:=a*3+2) dJ).trans (by rw[gV G,iJ y5]);have y6:Q wr ⟨x4,y1+a*3,U⟩=M (γ z5):=cK x5 y2 (b _ _ y3);have y7:Q wr ⟨x4,y1+a*3+1,U⟩=M (γ z6):=cK x5 y2 (b _ _ y4);have y8:Q wr ⟨x4,y1+a*3+2,U⟩=M (γ z7):=cK x5 y2 (b _ _ y5);have C9:x4<H (A wr):=cz x5.size;clear b y3 y4 y5;go_upto_region 9 with fail
    go_cut [3] (λy3 k=>y3=ι σ/\Bl wr k)
    ·clear B q;go_region;all_goals(go_wp2;go_meet)
     all_goals exact⟨J,uU⟩
    obtain⟨rfl,y4⟩:=hcut;have b:=B.out _ y4;clear B r s l y6 y7 y8 x1 z4 x2 x3 f g;generalize y5:wc=i at*;clear y5;have g:=(b.pV xb x9 y0).trans z;have x1:Q i (D xb 0 U)=M (V (M (D c 0 U)) (n+3) (n+3)):=aC g;have x2:=aH g;have x3:c<H (A i):=b.row.lt;have r:=b.row.cell (i:=a*3) dJ;have s:=b.row.cell (i:=a*3+1) dJ;have l:=b.row.cell (i:=a*3+2) dJ;have y6:=b.row.frozen (a*3);have y7:=b.row.frozen (a*3+1);have y8:=b.row.frozen (a*3+2);dsimp only at r s l y6 y7 y8;clear g
    go_wp2
    go_roundg (n+3-(a+1))
    all_goals first
     |omega
     |exact⟨a+1,J,G,J,aP,b.Oc z3 J J J⟩
   have x4:decide ((a:Q6)<(n:Q6))=Ω:=aN;have x5:n<=a:=G;have y1:decide (n<=a)=σ:=aN;have r:Q wr ⟨c,a*3,U⟩=M (γ ⟨#[98,101,121,111,110,100]⟩):=(f.row.cell (i:=a*3) dJ).trans (by rw[gV G,gG (by have:=o.len;dsimp only at this;dsimp only;omega),show(a*3) % 3=0 by omega];rfl);have s:Q wr ⟨c,a*3+1,U⟩=M (γ ⟨#[]⟩):=(f.row.cell (i:=a*3+1) dJ).trans (by rw[gV G,gG (by have:=o.len;dsimp only at this;dsimp only;omega),show(a*3+1) % 3=1 by omega];rfl);have l:Q wr ⟨c,a*3+2,U⟩=M (γ ⟨#[]⟩):=(f.row.cell (i:=a*3+2) dJ).trans (by rw[gV G,gG (by have:=o.len;dsimp only at this;dsimp only;omega),show(a*3+2) % 3=2 by omega];rfl);go_upto_region 9 with fail
   go_cut [3] (λy3 k=>y3=ι σ/\Bl wr k)
   ·clear B q;go_region;all_goals(go_wp2;go_meet)
    all_goals exact⟨J,uU⟩
   obtain⟨rfl,y4⟩:=hcut;have b:=B.out _ y4;clear B r s l x1 z4 x2 x3 f g;generalize y5:wc=i at*;clear y5;have g:=(b.pV xb x9 y0).trans z;have x1:Q i (D xb 0 U)=M (V (M (D c 0 U)) (n+3) (n+3)):=aC g;have x2:=aH g;have x3:c<H (A i):=b.row.lt;have r:=b.row.cell (i:=a*3) dJ;have s:=b.row.cell (i:=a*3+1) dJ;have l:=b.row.cell (i:=a*3+2) dJ;have y6:=b.row.frozen (a*3);have y7:=b.row.frozen (a*3+1);have y8:=b.row.frozen (a*3+2);dsimp only at r s l y6 y7 y8;clear g
   go_wp2
   go_roundg (n+3-(a+1))
   all_goals first
    |omega
    |exact⟨a+1,J,G,J,aP,b.Oc z3 J J J⟩
  obtain rfl:a=n+3:=G;have b:=q.next x f F.apart;clear f q
  go_wp2
  go_roundg (β X-(e+1))
  all_goals first
   |omega
   |exact⟨e+1,J,G,J,aP,b⟩
 obtain rfl:e=β X:=G;clear R;go_wp2_with fail;apply z1;exact K
def uj(its:Ψ (Bs×Bs)):Ψ ω:=its.flatMap λt=>[γ (ae t.1),γ (ae t.2)]
def qL(ks:Ψ (Q6×Bool)):Ψ ω:=ks.flatMap λk=>[μ ν k.1,ι k.2]
theorem Hd{α:Type}(d:α->Ψ ω)(e:∀a,β (d a)=2):∀(f:Ψ α) (c j:Q0) (a:α),f[c]? =M a->j<2->(f.flatMap d)[c*2+j]? =(d a)[j]?
 | [],c,j,a,h,_=>by simp at h
 |b::r,0,j,a,h,hj=>by
  simp at h;subst h;rw[R7,Δ,Φ,S4 (by rw[e];exact hj)]
 |b::r,c+1,j,a,h,hj=>by
  have:=Hd d e r c j a (by simpa using h) hj;rw[Φ,S3 (by rw[e];omega),e,show(c+1)*2+j-2=c*2+j by omega];exact this
structure TR(w:World)(fo:Option Addr)(fc:Nat)(oo:Option Addr)(oc:Nat)(ro:Option Addr)(rc:Nat)(q:qD):Prop where
 inn:rV w fo fc oo oc ro rc q
 XI:iK TyT w 2 ⟨fo,List.length q.from_,fc,uj q.from_⟩
 aeX:iK KX w 1 ⟨oo,List.length q.outs,oc,gY q.outs⟩
 afo:iK TyO w 2 ⟨ro,List.length q.order,rc,qL q.order⟩
def iO(w:χ)(b off n:Q0):Prop:=∀k,k<n->∃(fo:R2 T1) (fc:Q0) (oo:R2 T1) (oc:Q0) (ro:R2 T1) (rc:Q0) (q:qD),(Q w ⟨b,off+k*5,U⟩=M (V fo (β q.from_) fc)/\Q w ⟨b,off+k*5+1,U⟩=M (γ (ae q.aL))/\Q w ⟨b,off+k*5+2,U⟩=M (V oo (β q.outs) oc)/\Q w ⟨b,off+k*5+3,U⟩=M (V ro (β q.order) rc)/\Q w ⟨b,off+k*5+4,U⟩=M (μ ν q.bi))/\TR w fo fc oo oc ro rc q
section
variable {w0 w : World} {lo n : Nat} {so : Option Addr} {sc : Nat} {L : List Ln} {xo : Option Addr} {xn xc : Nat}
theorem QD{a}(i:∀k∈L,oJ (mQ TyT w0 2) w 59 2 Az lo k)(g:bX L ⟨so,β a,sc,uj a⟩ (V xo xn xc)):xn=β a/\xn<=xc/\iM w (V xo xn xc) a:=by
 rcases g with⟨l,c⟩|⟨m,c,n⟩
 ·cases c;have b:a= []:=κ l;subst b;exact⟨J,ε _,U,0,J,ak,R3 J⟩
 cases c;have b:=i _ n;have o:=b.small;dsimp only at o;refine⟨J,by show β a<=β a+3;omega,_,_,J,fD,S2 ⟨m,0,J,b.row.lt,λd p q=>?_⟩⟩;have e:=λj (r:j<2)=>Hd (λf:Bs×Bs=>[γ (ae f.1),γ (ae f.2)]) (λ_=>rfl) a d j p q r;rw[Δ];exact⟨lg b (j:=d*2) (e 0 G),lg b (e 1 G)⟩
theorem UU{a}(i:∀k∈L,oJ (mQ TyO w0 2) w 245 2 Aw lo k)(g:bX L ⟨so,β a,sc,qL a⟩ (V xo xn xc)):xn=β a/\mr w (V xo xn xc) a:=by
 rcases g with⟨l,c⟩|⟨m,c,n⟩
 ·cases c;have b:a= []:=κ l;subst b;exact⟨J,U,0,J,ak,R3 J⟩
 cases c;have b:=i _ n;have o:=b.small;dsimp only at o;refine⟨J,_,_,J,fD,S2 ⟨m,0,J,b.row.lt,λd p q=>?_⟩⟩;have e:=λj (r:j<2)=>Hd (λf:Int×Bool=>[μ ν f.1,ι f.2]) (λ_=>rfl) a d j p q r;rw[Δ];exact⟨lg b (j:=d*2) (e 0 G),lg b (e 1 G)⟩
theorem UT{a}(f:∀d∈L,oJ (mQ IZ w0 1) w 3 1 vO lo d)(e:bX L ⟨so,β a,sc,aA a⟩ (V xo xn xc)):aY w (V xo xn xc) a:=by
 rcases e with⟨g,b⟩|⟨i,b,j⟩
 ·cases b;have c:a= []:=κ g;subst c;exact⟨U,0,J,ak,R3 J⟩
 cases b;have c:=f _ j;have k:=c.small;dsimp only at k;refine⟨_,_,J,G,S2 ⟨i,0,J,c.row.lt,λm d l=>?_⟩⟩;rw[Δ];refine lg c ?_;show(aA a)[m]? =_;rw[aA,T0,l];rfl
variable {mb : Nat} {C R X K B F I Y Z : List Ln}
theorem eY.six(a:eY w0 w mb C R X K B F I Y Z):acj w0 w mb C R X K B F:=by
 obtain⟨b,c,d,_,e,f,g,_,_,_,_,a,_⟩:=a;exact⟨b,c,d,e,f,g,a⟩
theorem eY.fns(b:eY w0 w mb C R X K B F I Y Z):∀a∈F,oJ (mQ Ws w0 3) w 48 3 xE (mb+1) a:=by
 obtain⟨_,_,_,_,_,_,hF⟩:=b.six;exact λa c=>hF.2.2.2.2.2.each a c
theorem eY.ints(b:eY w0 w mb C R X K B F I Y Z):∀a∈I,oJ (mQ IZ w0 1) w 3 1 vO (mb+1) a:=by
 obtain⟨_,_,_,_,_,_,_,_,_,_,_,_,c,_⟩:=b;exact λa d=>c.each a d
theorem Nz{g d l j q n}{a:qD}(t:eY w0 w mb C R X K B F I Y Z)(b:TR w0 g d l j q n a){i m r f e c k p o}(u:bX Y ⟨g,β a.from_,d,uj a.from_⟩ (V i f e))(v:bX X ⟨l,β a.outs,j,gY a.outs⟩ (V m c k))(x:bX Z ⟨q,β a.order,n,qL a.order⟩ (V r p o)):
  (f=β a.from_/\c=β a.outs/\p=β a.order)/\rV w i e m k r o a:=by
 obtain⟨_,_,_,_,_,_,_,_,_,_,_,⟨_,_,y,_⟩,_,z,L⟩:=t;obtain⟨N,O,P⟩:=QD z.each u;obtain⟨S,T⟩:=UU L.each x;have s:=Ia y.each v J J;have W:c=β a.outs:=by obtain⟨_,_,a0,_⟩:=s;cases a0;rfl
 subst N S W;exact⟨⟨J,J,J⟩,P,O,s,T,b.inn.aeh,b.inn.LA,b.inn.adq⟩
end
theorem UO{w0 w:χ}{mb}(a1 c2 a2 c0 c3 c1){C R X K B}(r:w.heap[mb]? =M (η #[j,V a1 c2 a2,p,v,m,V c0 c3 c1,N,O,d] 118 (0,0)))(t:bE (WtR w0 C) w 57 292 1 xG mb (V a1 c2 a2) R)(s:bE (WtT w0 K R X) w 54 190 6 Ay mb (V c0 c3 c1) B)(c5:∀b∈C,xA w 56 3 ovC b)(g0:∀b∈C,b.n<=1048576)(a5:∀b∈X,xA w 9 1 ovX b)(g2:∀b∈X,b.n<=1048576)(a4:∀b∈K,xA w 50 3 ovK b)(g1:∀b∈K,b.n<=1048576)(c4:Bl w0 w)(L:H (A w0)<=mb)(h6:β R<=2199023255552)(g3:β B<=2199023255552):
  S7 ψ 82 #[ρ (M (D mb 0 U))] w λa3 c6=>a3=Q5 (ι σ)/\dX w c6 [57,54]/\S6 mb w c6:=by
 have h7:=aH r;obtain⟨rfl,a6⟩:=eU t;obtain⟨rfl,a⟩:=eU s;change Γ _ at r;change Γ _ at s;change Γ _ at c5;change Γ _ at a5;change Γ _ at a4;have a7:Γ _:=t;have h8:∀P,(S5 .eql 57 (V U 0 0) (V U 0 0)).run ψ P=.ok (ι σ) P:=λP=>kK P underlying57;clear a;go_enter func82,ntmps82;go_upto_block 0 with fail
 go_cut [3] (λa8 u=>a8=ι σ/\eD w u mb 57 1 xG ovR R (β R))
 ·have a:eD w w mb 57 1 xG ovR R 0:=eD.start t;have g4:Γ _:=a6;generalize c:a1=a9 at*;generalize e:a2=ac at*;clear c e t a6 s a5 a4;go_wp2_with fail;go_loopg [3,4] (β R) (λgk i c wr=>∃e:Q0,gk=β R-e/\e<=β R/\i=ι σ/\c=μ ν (e:Q6)/\eD w wr mb 57 1 xG ovR R e)
  ·exact⟨0,J,τ _,J,J,a⟩
  obtain⟨e,b0,_,rfl,rfl,x⟩:=hrel;subst b0;clear a;generalize a:wr=wo at*;clear a;have S:=(x.ah _ _ _ _ r E).trans r;have h9:=aH S;have g5:Q wo (D mb 1 U)=M (V a9 (β R) ac):=aC S;by_cases g6:e<β R
  ·rcases g4.out with g7|⟨b1,rfl,_,⟨_,k⟩,l⟩
   ·omega
   obtain⟨⟨f,n,o,q,b2⟩,g⟩:∃b,R[e]? =M b:=⟨_,δ g6⟩;have a:=x.ah _ _ _ _ k E;have F:=(ζ (w:=w) (a:=⟨b1,e*2,U⟩) a).trans (l e _ g).1;have W:=(ζ (w:=w) (a:=⟨b1,e*2+1,U⟩) a).trans (l e _ g).2;have a0:b1<H (A wo):=aH (a.trans k);have T:=a7.out.each _ (ο g);have c7:mb<=f:=by have:=T.lo;dsimp only at this;omega
   have c:=x.more ((ξ _ wo).alloc (ε _) (η #[V (M (D f 0 U)) (n+3) (n+3),V o n q] 292)) G;have z:jA (wo.alloc (η #[V (M (D f 0 U)) (n+3) (n+3),V o n q] 292)) (wo.alloc (η #[V (M (D f 0 U)) (n+3) (n+3),V o n q] 292)) mb 57 1 xG ovR ⟨f,n,o,q,b2⟩ 0:=jA.start c g;have y:=υ wo (η #[V (M (D f 0 U)) (n+3) (n+3),V o n q] 292);clear l k a x;go_wp2_with fail;generalize a:wo.alloc (η #[V (M (D f 0 U)) (n+3) (n+3),V o n q] 292)=W1 at*;generalize i0:H (A wo)=xb at*;have g8:Bl w0 W1:=c4.trans (c.jH.mono L);have c8:=aH y;clear F W a0 g5 S a;go_loopg [3,6] (n+3) (λgk i k u=>∃a:Q0,gk=(n+3)-a/\a<=n+3/\i=ι σ/\k=μ ν (a:Q6)/\jA W1 u mb 57 1 xG ovR ⟨f,n,o,q,b2⟩ a)
   ·exact⟨0,J,τ _,J,J,z⟩
   obtain⟨a,b0,_,rfl,rfl,i⟩:=hrel;subst b0;clear z;have c9:xb≠f:=λa3=>by
    obtain⟨_,k,_⟩:=c.todo e _ (ε _) g;rw[a3]at y;rw[y]at k;cases k
   have k:=(i.pV xb c8 c9).trans y;have g9:=T.small;have h0:=T.len;dsimp only at g9 h0;have b3:Q wr (D xb 0 U)=M (V (M (D f 0 U)) (n+3) (n+3)):=aC k;have e0:Q wr (D xb 1 U)=M (V o n q):=aC k;have z:=aH k;have W:f<H (A wr):=i.row.lt;by_cases i1:a<n+3
   ·by_cases i2:a<n
    ·obtain⟨rows,⟨e1,l⟩,e2,a0⟩:=T.want;dsimp only at e1 l e2 a0;rcases(id l)with g7|⟨b4,h1,rfl,h2,e3⟩
     ·omega
     obtain⟨⟨h3,_,h4,_⟩,b5⟩:∃h5:iC,rows[a]? =M h5:=⟨_,δ G⟩;obtain⟨b6,b7⟩:∃b6,b2[a]? =M b6:=⟨_,δ G⟩;have b8:=a0 a _ b6 b5 b7;obtain⟨xo,xn,xc,rfl⟩:=ym b8;have e4:Bl w0 wr:=g8.trans (i.jH.mono L);have e5:dX w wr [57]:=c.ah.trans (i.SN (c.todo e _ (ε _) g));obtain⟨e6,e7⟩:=Kh b8 (λb g=>(c5 b g).bW e5 E) g0;dsimp only at e7;subst e7;have F:Q wr (D f a U)=M (V xo xn xc):=(i.row.cell (i:=a) dJ).trans (by rw[gV G,iJ b7]);have e8:Q wr ⟨b4,h1+a,U⟩=M (V h3 xn h4):=cK e4 h2 (e3 a _ b5);have b9:b4<H (A wr):=cz e4.size;have e9:=FY e6;clear e3 b5 b7 a0 e2 l e1 b8 e6 e5;go_upto_region 11 with(go_at_call 139;refine cB e9 ?_;rintro a0 l)
     have b7:=cK l z b3;have b8:=cK l z e0;have e1:=cK l W F;have e2:=cK l b9 e8;have e3:xb<H (A a0):=Ξ z l.size;have e5:f<H (A a0):=Ξ W l.size;have e6:b4<H (A a0):=Ξ b9 l.size;have b5:=i.more l G;clear b3 e0 F e8 z W b9 e9 i k l;go_cut [3] (λa8 u=>a8=ι σ/\Bl a0 u)
     ·go_region;all_goals(go_wp2;go_meet)
      all_goals exact⟨J,uU⟩
     obtain⟨rfl,a8⟩:=hcut;have l:=b5.more a8 G;clear b7 b8 e1 e2 e3 e5 e6 b5;generalize u:wc=wy at*;clear u;have k:=(l.pV xb c8 c9).trans y;have b3:Q wy (D xb 0 U)=M (V (M (D f 0 U)) (n+3) (n+3)):=aC k;have z:=aH k;have W:f<H (A wy):=l.row.lt;have F:=l.row.cell (i:=a) dJ;have u:=l.row.frozen a;dsimp only at F u;clear k
     go_wp2
     go_roundg (n+3-(a+1))
     all_goals first
      |omega
      |exact⟨a+1,J,G,J,aP,l.Vt c7 J⟩
    have l:decide ((a:Q6)<(n:Q6))=Ω:=aN;have a0:n<=a:=G;have a8:decide (n<=a)=σ:=aN;have F:Q wr (D f a U)=M (V U 0 0):=(i.row.cell (i:=a) dJ).trans (by rw[gV G,gG dJ];rfl);have u:=i.row.frozen a;dsimp only at u;clear k
    go_wp2
    go_roundg (n+3-(a+1))
    all_goals first
     |omega
     |exact⟨a+1,J,G,J,aP,i.Vt c7 J⟩
   obtain rfl:a=n+3:=G;have l:=c.next g i a7.apart;clear i c
   go_wp2
   go_roundg (β R-(e+1))
   all_goals first
    |omega
    |exact⟨e+1,J,G,J,aP,l⟩
  obtain rfl:e=β R:=G;clear S
  go_wp2
  go_meet;exact⟨J,x⟩
 obtain⟨rfl,c⟩:=hcut;generalize a:wc=w1 at*;clear a t a6;have e:Γ _:=s.out.bW c.ah E E;have f:Γ _:=(c.ah _ _ _ _ r E).trans r;have i:Bl w0 w1:=c4.trans (c.jH.mono L);change Γ _ at c;have k:∀b∈R,b.n<=1048576:=λb g=>(a7.each b g).small;clear r s;go_upto_block 4 with fail
 refine JO f J e c.all k (λb g=>(a5 b g).bW c.ah E) g2 (λb g=>(a4 b g).bW c.ah E) g1 i L g3 ?_;intro d _ _ _ _ _ _ _ _ _ _ v85 _ _ _ _ _ _ _ _ _ _ _ _ _ _ _ _ _ _ _ _ _ _ _ _ _ _ _ _ _ _ _ _ _ _ _ _ _ _ _ _ _ v127 _ _ _ _ _ _ _ _ _ _ _ _ _ _ _ v143 _ v145 v146 _ _ _ _ _ _ _ _ _ _ _ _ _ _ _ _ _ _ _ _ v167 v168 _ _ v171 _ v173 _ v175 _ _ _ _ _ _ _ _ _ _ _ _ _ _ _ _ _ _ _ _ _ _ _ _ _ _ _ _ _ _ _ _ _ a;dsimp only;change Γ _ at a
 go_wp2
 go_ret;exact⟨J,(c.ah.mono E).trans (a.ah.mono E),c.jH.trans a.jH⟩
def ads(f:T7):T9:=((f.body.bind (iT 4)).getD .skip)
theorem NV{w0 w:χ}{mb B x3 X}(K:w.heap[mb]? =M (η y 118 (0,0)))(z7:y[7]? =M (V B (β X) x3))(C:bE (mQ TyT w0 2) w 59 243 2 Az mb (V B (β X) x3) X)(z6:Bl w0 w)(y6:H (A w0)<=mb)(C9:β X<=2199023255552){y5:Act->χ->Prop}{z5:R8->χ->Prop}(y7:∀(O' R' A8 P' Q' S' T' U' V' W' v85 X' Y' Z' A9 A7 A6 A5 A4 A3 A2 A1 A0 B9 B8 z8 z9 a' b' c' d' e' f' g' h' i' j' k' l' m' n' o' p' q' r' s' t' u' v' w' x' y' v127 z' A' B' C' D' E' F' G' H' I' J' K' L' M' N':ω) (k:χ),eD w k mb 59 2 Az ovY X (β X)->y5 ⟨#[ρ (M (D mb 0 U)),d,j,ι σ,p,v,m,O',R',A8,P,i5,i6,T,W,a0,a1,a2,a3,a4,a5,a6,a7,a8,a9,b0,b1,b2,b3,b4,b5,b6,b7,b8,b9,c0,c1,c2,c3,c4,c5,c6,c7,c8,c9,e0,e1,e2,e3,e4,e5,e6,e7,e8,e9,g0,g1,g2,g3,g4,g5,g6,g7,g8,g9,h0,h1,h2,h3,h4,h5,h6,h7,h8,h9,i0,i1,i2,P',Q',S',T',U',V',W',v85,X',Y',Z',A9,A7,A6,A5,A4,A3,A2,A1,A0,B9,B8,z8,z9,a',b',c',d',e',f',g',h',i',j',k',l',m',n',o',p',q',r',s',t',u',v',w',x',y',v127,z',A',B',C',D',E',F',G',H',I',J',K',L',M',N',p4,p5,p6,p7,p8,p9,q0,q1,q2,q3,q4,q5,q6,q7,q8,q9,r0,r1,r2,r3,r4,r5,r6,r7,r8,r9,s0,s1,s2,s3,s4,s5,s6,s7,s8,s9,u0,u1,u2,u3,u4,u5,u6,u7,u8,u9,v0,v1,v2,v3,v4,v5,v6,v7,v8,v9,w1,w2,w3,w4,w5,w6,w7,w8,w9,S],[]⟩ k):
  R1 ψ (ads R6) (T8.then y5 (Q8 ψ R6 z5)) ⟨#[ρ (M (D mb 0 U)),d,j,ι σ,p,v,m,μ ν 0,N,O,P,i5,i6,T,W,a0,a1,a2,a3,a4,a5,a6,a7,a8,a9,b0,b1,b2,b3,b4,b5,b6,b7,b8,b9,c0,c1,c2,c3,c4,c5,c6,c7,c8,c9,e0,e1,e2,e3,e4,e5,e6,e7,e8,e9,g0,g1,g2,g3,g4,g5,g6,g7,g8,g9,h0,h1,h2,h3,h4,h5,h6,h7,h8,h9,i0,i1,i2,i3,i4,i7,i8,i9,j0,j1,j2,j3,j4,j5,j6,j7,j8,j9,k0,k1,k2,k3,k4,k5,k6,k7,k8,k9,l0,l1,l4,l7,l8,l9,m0,m1,m2,m3,m4,m5,m6,m7,m8,m9,n0,n1,n2,n3,n4,n5,n6,n7,n8,n9,o0,o1,o2,o3,o4,o5,o6,o7,o8,o9,p0,p1,p2,p3,p4,p5,p6,p7,p8,p9,q0,q1,q2,q3,q4,q5,q6,q7,q8,q9,r0,r1,r2,r3,r4,r5,r6,r7,r8,r9,s0,s1,s2,s3,s4,s5,s6,s7,s8,s9,u0,u1,u2,u3,u4,u5,u6,u7,u8,u9,v0,v1,v2,v3,v4,v5,v6,v7,v8,v9,w1,w2,w3,w4,w5,w6,w7,w8,w9,S],[]⟩ w:=by
 conv=>arg 2;whnf
 change Γ _ at y7;have a:eD w w mb 59 2 Az ovY X 0:=eD.start C;change Γ _ at C;have B7:Γ _:=(eU C).2;change Γ _ at K;have C8:=aH K;go_wp2_with fail;go_loopg [3,7] (β X) (λgk e b wr=>∃c:Q0,gk=β X-c/\c<=β X/\e=ι σ/\b=μ ν (c:Q6)/\eD w wr mb 59 2 Az ovY X c)
 ·exact⟨0,J,τ _,J,J,a⟩
 obtain⟨c,x4,_,rfl,rfl,F⟩:=hrel;subst x4;clear a;generalize a:wr=wo at*;clear a;have L:=(F.ah _ _ _ _ K E).trans K;have C7:=aH L;have B6:Q wo (D mb 7 U)=M (V B (β X) x3):=(aI L).trans z7;by_cases B5:c<β X
 ·rcases B7.out with R|⟨x5,rfl,_,⟨_,f⟩,g⟩
  ·omega
  obtain⟨⟨b,n,r,s,y8⟩,t⟩:∃B4,X[c]? =M B4:=⟨_,δ B5⟩;have a:=F.ah _ _ _ _ f E;have o:=(ζ (w:=w) (a:=⟨x5,c*2,U⟩) a).trans (g c _ t).1;have q:=(ζ (w:=w) (a:=⟨x5,c*2+1,U⟩) a).trans (g c _ t).2;have z:x5<H (A wo):=aH (a.trans f);have u:=C.out.each _ (ο t);have y9:mb<=b:=by have:=u.lo;dsimp only at this;omega
  have l:=F.more ((ξ _ wo).alloc (ε _) (η #[V (M (D b 0 U)) (n+3) (n+3),V r n s] 243)) G;have i:=jA.start l t;have x:=υ wo (η #[V (M (D b 0 U)) (n+3) (n+3),V r n s] 243);clear g f a F;go_wp2_with fail;generalize a:wo.alloc (η #[V (M (D b 0 U)) (n+3) (n+3),V r n s] 243)=W1 at*;generalize C6:H (A wo)=xb at*;have B3:Bl w0 W1:=z6.trans (l.jH.mono y6);have x6:=aH x;clear o q z B6 L a;go_loopg [3,9] (n+3) (λgk e f k=>∃a:Q0,gk=(n+3)-a/\a<=n+3/\e=ι σ/\f=μ ν (a:Q6)/\jA W1 k mb 59 2 Az ovY ⟨b,n,r,s,y8⟩ a)
  ·exact⟨0,J,τ _,J,J,i⟩
  obtain⟨a,x4,_,rfl,rfl,g⟩:=hrel;subst x4;clear i;have x7:xb≠b:=λB2=>by
   obtain⟨_,e,_⟩:=l.todo c _ (ε _) t;rw[B2]at x;rw[x]at e;cases e
  have f:=(g.pV xb x6 x7).trans x;have B1:=u.small;dsimp only at B1;have x0:Q wr (D xb 0 U)=M (V (M (D b 0 U)) (n+3) (n+3)):=aC f;have z0:Q wr (D xb 1 U)=M (V r n s):=aC f;have x1:=aH f;have x2:=g.row.lt;by_cases C5:a<n+3
  ·have z:Γ (∀i,Bl wr i->jA W1 i mb 59 2 Az ovY ⟨b,n,r,s,y8⟩ a):=λi R=>g.more R G;by_cases B0:a<n
   ·rcases u.want.1.2 with R|⟨x8,z1,rfl,z2,e⟩
    ·dsimp only at R;omega
    obtain⟨z3,z4,x9,y0⟩:=u.want.2 a B0;have y1:Bl w0 wr:=B3.trans (g.jH.mono y6);have o:Q wr ⟨b,a*2,U⟩=M (γ z3):=(g.row.cell (i:=a*2) dJ).trans (by rw[gV G,iJ x9]);have q:Q wr ⟨b,a*2+1,U⟩=M (γ z4):=(g.row.cell (i:=a*2+1) dJ).trans (by rw[gV G,iJ y0]);have y2:Q wr ⟨x8,z1+a*2,U⟩=M (γ z3):=cK y1 z2 (e _ _ x9);have y3:Q wr ⟨x8,z1+a*2+1,U⟩=M (γ z4):=cK y1 z2 (e _ _ y0);have C4:x8<H (A wr):=cz y1.size;clear e x9 y0;go_upto_region 18 with fail
    go_cut [3] (λx9 k=>x9=ι σ/\Bl wr k)
    ·clear z l;go_region;all_goals(go_wp2;go_meet)
     all_goals exact⟨J,uU⟩
    obtain⟨rfl,y0⟩:=hcut;have e:=z.out _ y0;clear z o q y2 y3 x0 z0 x1 x2 g f;generalize y2:wc=i at*;clear y2;have f:=(e.pV xb x6 x7).trans x;have x0:Q i (D xb 0 U)=M (V (M (D b 0 U)) (n+3) (n+3)):=aC f;have x1:=aH f;have x2:b<H (A i):=e.row.lt;have o:=e.row.cell (i:=a*2) dJ;have q:=e.row.cell (i:=a*2+1) dJ;have y3:=e.row.frozen (a*2);have y4:=e.row.frozen (a*2+1);dsimp only at o q y3 y4;clear f
    go_wp2
    go_roundg (n+3-(a+1))
    all_goals first
     |omega
     |exact⟨a+1,J,G,J,aP,e.abE y9 J J⟩
   have x8:decide ((a:Q6)<(n:Q6))=Ω:=aN;have y1:n<=a:=G;have z1:decide (n<=a)=σ:=aN;have o:Q wr ⟨b,a*2,U⟩=M (γ ⟨#[98,101,121,111,110,100]⟩):=(g.row.cell (i:=a*2) dJ).trans (by rw[gV G,gG (by have:=u.len;dsimp only at this;dsimp only;omega),show(a*2) % 2=0 by omega];rfl);have q:Q wr ⟨b,a*2+1,U⟩=M (γ ⟨#[]⟩):=(g.row.cell (i:=a*2+1) dJ).trans (by rw[gV G,gG (by have:=u.len;dsimp only at this;dsimp only;omega),show(a*2+1) % 2=1 by omega];rfl);go_upto_region 18 with fail
   go_cut [3] (λx9 k=>x9=ι σ/\Bl wr k)
   ·clear z l;go_region;all_goals(go_wp2;go_meet)
    all_goals exact⟨J,uU⟩
   obtain⟨rfl,y0⟩:=hcut;have e:=z.out _ y0;clear z o q x0 z0 x1 x2 g f;generalize y2:wc=i at*;clear y2;have f:=(e.pV xb x6 x7).trans x;have x0:Q i (D xb 0 U)=M (V (M (D b 0 U)) (n+3) (n+3)):=aC f;have x1:=aH f;have x2:b<H (A i):=e.row.lt;have o:=e.row.cell (i:=a*2) dJ;have q:=e.row.cell (i:=a*2+1) dJ;have y3:=e.row.frozen (a*2);have y4:=e.row.frozen (a*2+1);dsimp only at o q y3 y4;clear f
   go_wp2
   go_roundg (n+3-(a+1))
   all_goals first
    |omega
    |exact⟨a+1,J,G,J,aP,e.abE y9 J J⟩
  obtain rfl:a=n+3:=G;have e:=l.next t g C.apart;clear g l
  go_wp2
  go_roundg (β X-(c+1))
  all_goals first
   |omega
   |exact⟨c+1,J,G,J,aP,e⟩
 obtain rfl:c=β X:=G;clear L;go_wp2_with fail;apply y7;exact F
structure PE(w w':World)(mb:Nat)(C X K I:List Ln):Prop where
 c:∀l∈C,xA w' 56 3 ovC l
 x:∀l∈X,xA w' 9 1 ovX l
 k:∀l∈K,xA w' 50 3 ovK l
 ah:dX w w' [56,9,50,3]
 jH:Below mb w w'
 pV:∀(q:Nat) (cur:Array Value) (fz:Nat×Nat),w.heap[q]? =some (.cells cur 3 fz)->(∀l∈I,q≠l.g)->w'.heap[q]? =w.heap[q]?
theorem Ry{w0 w:χ}{mb r F x s L y t N z u O B C X K I}(b:w.heap[mb]? =M (η #[V r F x,m,V s L y,V u O B,V t N z,d,j,p,v] 118 (0,0)))(k:bE (mQ Lr w0 3) w 56 227 3 qR mb (V r F x) C)(g:bE (mQ KX w0 1) w 9 294 1 uW mb (V s L y) X)(f:bE (mQ PG w0 3) w 50 290 3 uV mb (V t N z) K)(c:bE (mQ IZ w0 1) w 3 256 1 vO mb (V u O B) I)(P:Bl w0 w)(e:H (A w0)<=mb)(a2:β C<=2199023255552)(a5:β X<=2199023255552)(a4:β K<=2199023255552)(a3:β I<=2199023255552):
  S7 ψ 81 #[ρ (M (D mb 0 U))] w λa1 a6=>a1=Q5 (ι σ)/\PE w a6 mb C X K I:=by
 obtain⟨rfl,_⟩:=eU k;obtain⟨rfl,_⟩:=eU g;obtain⟨rfl,_⟩:=eU f;obtain⟨rfl,_⟩:=eU c;change Γ _ at g;change Γ _ at f;change Γ _ at k;change Γ _ at c;change Γ _ at b;go_enter func81,ntmps81;go_upto_block 0 with fail
 refine OL b J k P e a2 ?_;intro _ d j _ _ _ _ v20 v21 _ _ _ _ _ _ _ _ _ _ _ _ _ _ _ v37 _ _ _ _ _ _ _ _ v46 _ _ _ _ v51 _ v53 _ _ _ _ _ _ _ _ _ _ _ _ _ _ _ _ v70 _ v72 _ _ v75 v76 _ _ _ _ a7 a;dsimp only;change Γ _ at a;have a8:Γ _:=g.out.bW a.ah E E;have l:Γ _:=c.out.bW a.ah E E;have n:Γ _:=f.out.bW a.ah E E;have i:Γ _:=(a.ah _ _ _ _ b E).trans b;have R:Bl w0 a7:=P.trans (a.jH.mono e);clear g c f b;go_upto_block 4 with fail
 refine OM i J a8 R e a5 ?_;intro p v _ _ _ _ _ v85 _ _ _ _ _ _ _ _ _ _ _ _ _ _ _ _ _ _ _ _ _ _ _ _ _ _ _ _ _ _ _ _ _ _ _ _ _ _ _ _ _ v127 _ _ _ _ _ _ _ _ _ _ _ _ _ _ _ v143 a9 b;dsimp only;change Γ _ at b;have b0:Γ _:=l.out.bW b.ah E E;have g:Γ _:=n.out.bW b.ah E E;have f:Γ _:=(b.ah _ _ _ _ i E).trans i;have S:Bl w0 a9:=R.trans (b.jH.mono e);clear l n i;go_upto_block 8 with fail
 refine RA f J b0 S e a3 ?_;intro _ _ _ _ v145 v146 _ _ _ _ _ _ _ _ _ _ _ _ _ _ _ _ _ _ _ _ v167 v168 _ _ v171 _ v173 _ v175 _ _ _ _ _ _ _ _ _ _ _ _ _ _ _ _ _ _ _ _ _ _ _ _ _ _ _ _ _ _ _ b1 c;dsimp only;change Γ _ at c;have b2:Γ _:=g.out.bW c.ah E E;have i:Γ _:=(c.ah _ _ _ _ f E).trans f;have b3:Bl w0 b1:=S.trans (c.jH.mono e);clear g f;go_upto_block 12 with fail
 refine Rz i J b2 b3 e a4 ?_;intro _ _ _ _ _ _ v210 _ v212 _ _ _ _ _ _ _ _ _ _ _ _ _ _ _ _ _ _ _ v232 v233 _ _ _ _ _ _ _ _ _ _ _ _ _ _ _ _ _ _ _ _ _ _ _ _ _ _ _ _ _ _ _ _ _ _ _ _ _ _ _ f;dsimp only;change Γ _ at f;clear i
 go_wp2
 go_ret;have b4:=(a.out.ah.mono (S':=[56,9,50,3]) E).trans (b.ah.mono E);refine⟨J,λn l=>?_,λn l=>?_,f.all, ?_,((a.jH.trans b.jH).trans c.jH).trans f.jH,λi o q g b5=>?_⟩
 ·exact ja (ja (ja (a.all n l) b.ah E) c.ah E) f.ah E
 ·exact ja (ja (b.all n l) c.ah E) f.ah E
 ·exact(b4.trans (c.ah.mono E)).trans (f.ah.mono E)
 have T:=a.out.ah i o _ q g E;have W:=(b.out.ah i o _ q (T.trans g) E).trans T;have a0:=(c.out.pV i (aH (W.trans g)) b5).trans W;exact(f.ah i o _ q (a0.trans g) E).trans a0
theorem QP{w0 w:χ}{mb}(i r n k s o l t q){F}(Y Z)(b:w.heap[mb]? =M (η #[p,v,m,N,d,j,V i r n,V k s o,V l t q] 118 (0,0)))(hF:bE (mQ Ws w0 3) w 48 185 3 xE mb (V i r n) F)(e:bE (mQ TyT w0 2) w 59 243 2 Az mb (V k s o) Y)(f:bE (mQ TyO w0 2) w 245 247 2 Aw mb (V l t q) Z)(u:Bl w0 w)(c:H (A w0)<=mb)(C:β F<=2199023255552)(K:β Y<=2199023255552)(L:β Z<=2199023255552):
  S7 ψ 83 #[ρ (M (D mb 0 U))] w λB x=>B=Q5 (ι σ)/\S6 mb w x/\dX w x [48,59,245]:=by
 obtain⟨rfl,_⟩:=eU hF;obtain⟨rfl,_⟩:=eU e;obtain⟨rfl,_⟩:=eU f;change Γ _ at hF;change Γ _ at e;change Γ _ at f;change Γ _ at b;go_enter func83,ntmps83;go_upto_block 0 with fail
 refine NU b J hF u c C ?_;intro d j _ _ _ _ _ _ _ _ v20 v21 _ _ _ _ _ _ _ _ _ _ _ _ _ _ _ v37 _ _ _ _ _ _ _ _ v46 _ _ _ _ v51 _ v53 _ _ _ _ _ _ _ _ _ _ _ _ _ _ _ _ v70 _ v72 _ _ v75 v76 _ O a;dsimp only;change Γ _ at a;have P:Γ _:=e.out.bW a.ah E E;have y:Γ _:=f.out.bW a.ah E E;have g:Γ _:=(a.ah _ _ _ _ b E).trans b;have z:Bl w0 O:=u.trans (a.jH.mono c);clear e f b;go_upto_block 4 with fail
 refine NV g J P z c K ?_;intro _ _ _ _ _ _ _ _ _ _ v85 _ _ _ _ _ _ _ _ _ _ _ _ _ _ _ _ _ _ _ _ _ _ _ _ _ _ _ _ _ _ _ _ _ _ _ _ _ _ _ _ _ v127 _ _ _ _ _ _ _ _ _ _ _ _ _ _ _ R b;dsimp only;change Γ _ at b;have S:Γ _:=y.out.bW b.ah E E;have f:Γ _:=(b.ah _ _ _ _ g E).trans g;have T:Bl w0 R:=z.trans (b.jH.mono c);clear y g;go_upto_block 8 with fail
 refine QQ f J S T c L ?_;intro _ _ _ v143 _ v145 v146 _ _ _ _ _ _ _ _ _ _ _ _ _ _ _ _ _ _ _ _ v167 v168 _ _ v171 _ v173 _ v175 _ _ _ _ _ _ _ _ _ _ _ _ _ _ _ _ _ _ _ _ _ _ _ _ _ _ _ _ _ _ _ _ _ e;dsimp only;change Γ _ at e;clear f
 go_wp2
 go_ret;exact⟨J,(a.jH.trans b.jH).trans e.jH,((a.ah.mono E).trans (b.ah.mono E)).trans (e.ah.mono E)⟩
abbrev aae:Ψ TypeId:=[56,9,50,3,57,54,48,59,245]
theorem uL{w0 w:χ}(mb){C R X K B F}(I){Y Z}(a2:eY w0 w mb C R X K B F I Y Z)(a3:acE C R X K B F)(e0:β I<=1)(e1:β Y<=1)(e2:β Z<=1)(s:Bl w0 w)(j:H (A w0)<=mb):
  S7 ψ 38 #[ρ (M (D mb 0 U))] w λi d=>i=Q5 (ι σ)/\S6 mb w d/\dX w d aae/\∀(e:Q0) (m:Array ω) (o:Q0×Q0),w.heap[e]? =M (η m 3 o)->(∀b∈I,e≠b.g)->d.heap[e]? =w.heap[e]? :=by
 obtain⟨_,_,_,_,_,_,_,_,_,⟨⟨⟨_,_,_,rfl⟩,⟨a4,a5,a6,rfl⟩,⟨_,_,_,rfl⟩,⟨_,_,_,rfl⟩,⟨a7,a8,a9,rfl⟩,⟨b0,b1,b2,rfl⟩⟩,⟨_,_,_,rfl⟩,⟨b3,b4,b5,rfl⟩,⟨b6,b7,b8,rfl⟩⟩,f,⟨t,N,u,v,O,hF⟩,P,S,T⟩:=a2;obtain⟨b9,l2,l3,c0,l5,l6⟩:=a3;have c1:=Ry f t u v P s j b9 l3 c0 G;have c2:∀b∈C,b.n<=1048576:=λb p=>(t.each b p).small;have c3:∀b∈X,b.n<=1048576:=λb p=>(u.each b p).small;have c4:∀b∈K,b.n<=1048576:=λb p=>(v.each b p).small;have c5:∀x:χ,PE w x mb C X K I->S7 ψ 82 #[ρ (M (D mb 0 U))] x λi d=>i=Q5 (ι σ)/\dX x d [57,54]/\S6 mb x d:=λx a=>
  UO a4 a5 a6 a7 a8 a9 ((a.ah _ _ _ _ f E).trans f) (N.bW a.ah E E) (O.bW a.ah E E) a.c c2 a.x c3 a.k c4 (s.trans (a.jH.mono j)) j l2 l5
 have c6:∀x l:χ,PE w x mb C X K I->dX x l [57,54]->S6 mb x l->S7 ψ 83 #[ρ (M (D mb 0 U))] l λi d=>i=Q5 (ι σ)/\S6 mb l d/\dX l d [48,59,245]:=λx l a r c7=>
  QP b0 b1 b2 b3 b4 b5 b6 b7 b8 Y Z ((r _ _ _ _ ((a.ah _ _ _ _ f E).trans f) E).trans ((a.ah _ _ _ _ f E).trans f)) ((hF.bW a.ah E E).bW r E E) ((S.bW a.ah E E).bW r E E) ((T.bW a.ah E E).bW r E E) ((s.trans (a.jH.mono j)).trans (c7.mono j)) j l6 G G
 clear f t N u v O hF P S T;go_enter func38,ntmps38;go_wp2_with(first
  |(go_at_call 81;refine cB c1 ?_;rintro _ q)
  |(go_at_call 82;refine(c5 _ q).mono ?_;rintro i _ ⟨rfl,y,W⟩)
  |(go_at_call 83;refine(c6 _ _ q y W).mono ?_;rintro i _ ⟨rfl,c8,a0⟩))
 go_ret;refine⟨J,(q.jH.trans W).trans c8,((q.ah.mono E).trans (y.mono E)).trans (a0.mono E),λe m o z c9=>?_⟩;have L:=q.pV e m o z c9;have a1:=y e m _ o (L.trans z) E;exact(a0 e m _ o ((a1.trans L).trans z) E).trans (a1.trans L)
end Go.Proofs.YthkeffolmbnkaaaGreatDoor

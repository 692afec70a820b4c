import Derived.Test.YthkeffolmbnkaaaGreatDoorQbBZ
set_option linter.unusedVariables false
set_option linter.unusedSimpArgs false
set_option maxRecDepth 100000
set_option maxHeartbeats 0
open Array renaming size->H
open Go renaming bodyPost_ret->α,heap_alloc_new->β,results->ε,Calls->μ,World->Θ,Addr->Ξ
open Go.IntKind renaming i64->I
open Go.Obj renaming cells->G
open Go.Proofs.Tryz renaming results84->δ,results40->κ,prog->φ,results43->χ
open Go.RowKit renaming Hid->U
open Go.RowKit.Below renaming setCell->ζ,refl->θ
open Go.Value renaming slice->J,int->D,string->Z,agg->Y,tuple->Q
open Go.World renaming heap->A,size_setCell->η,size_alloc->υ
open List renaming length->V
open Nat renaming le_trans->γ,le_refl->ι,ne_of_lt->ρ,lt_of_lt_of_le->τ,zero_le->Δ
open Option renaming none->M
open Or renaming inl->σ,inr->Γ
open _root_ renaming rfl->E,if_false->ν,absurd->ξ,Option->ο,if_true->ψ,Nat->ω,List->Φ,Int->Ψ
namespace Go.Proofs.YthkeffolmbnkaaaGreatDoor
open Go.Proofs.Tryz
open Go.RowKit
variable{k:List aJ}{l:List qB}{c e g m n o j r:Nat}{d f i p q s:Option Addr}{b:World}{a:qD}
theorem xO{cap}(v5:ik b (J p m cap) l)(v6:kV b (J q o n) k)(user)(v3:rV b d c f e i g a):
  μ φ 84 #[Y #[J p m cap,J q o n],Z (ae user),Y #[J d (V a.from_) c,Z (ae a.aL),J f (V a.outs) e,J i (V a.order) g,D I a.bi]] b λy X=>aev b (lh l k user a) y X:=by
 obtain⟨a2,m6⟩:=au (((b.alloc (G #[J p m cap,J q o n] 67)).alloc (G #[J d (V a.from_) c,Z (ae a.aL),J f (V a.outs) e,J i (V a.order) g,D I a.bi] 63)).alloc (G #[J M 0 0,Z ⟨#[]⟩,J M 0 0,J M 0 0,D I 0,J M 0 0,J M 0 0,J M 0 0] 250));obtain⟨p7,a1,h3,j8,q'⟩:=jF (w2:=a2) (w:=b) (o:=G #[J p m cap,J q o n] 67) (o':=G #[J d (V a.from_) c,Z (ae a.aL),J f (V a.outs) e,J i (V a.order) g,D I a.bi] 63) (o2:=G #[J M 0 0,Z ⟨#[]⟩,J M 0 0,J M 0 0,D I 0,J M 0 0,J M 0 0,J M 0 0] 250) (by rw[m6];exact θ _ _);have i1:U (rV a2 d c f e i g a):=v3.ah j8;have n1:=Km (v5.ah j8) (v6.ah j8) user;have j2:U (Bl b a2):=j8;obtain⟨b8,o8⟩:=au (lh l k user a);rw[<-o8];have o1:U (b8=_):=o8;obtain⟨h8,hF⟩:=au (V a.from_:ω);obtain⟨j6,p0⟩:=au (V a.outs:ω);obtain⟨m1,h2⟩:=au (V a.order:ω);rw[<-hF,<-p0,<-h2]at a1 m6 ⊢;have n8:U (h8=V a.from_):=hF;have r9:U (j6=V a.outs):=p0;have x4:U (m1=V a.order):=h2;clear hF p0 h2 o8 v3 v5 v6 j8;obtain⟨u0,m4⟩:=au (H (A b)+1);obtain⟨u1,o9⟩:=au (H (A b)+2);rw[<-m4]at a1;rw[<-o9]at h3;have k':U (u0=H (A b)+1):=m4;have l9:U (u1=H (A b)+2):=o9;have u8:u1=u0+1:=aa;go_enter func84,ntmps84;go_upto_region 1 with fail
 rw[<-m6];rw[<-m4,<-u8];clear m6 m4 o9 u8;go_cut [8,9] (λz7 c8 B=>∃(b4:ω) (x:Φ ω) (P:ο Ξ) (O N:ω) (aS:ο Ξ) (e0 c9:ω) (w:Ψ) (fns:Φ Fn) (R:Φ (aJ×Ex)),z7=.pointer (some (Addr.mk b4 0 M))/\c8=D I w/\Bl a2 B/\H (A a2)<=b4/\B.heap[b4]? =some (G #[J P O N,J aS e0 c9] 194 (0,0))/\kF B x (J P O N) fns/\dA B x (J aS e0 c9) R/\U ((pM user (eG l k)=.error w/\w≠0/\R= [])\/(pM user (eG l k)=.ok (fns,R)/\w=0)))
 ·have c1:=(aI p7 (j:=0)).trans E;have c2:=(aI p7 (j:=1)).trans E;go_wp2_with(go_at_call 67;refine n1.mono ?_);rintro y w6 ⟨u9,x,P,O,N,aS,e0,c9,w,fns,R,rfl,hF,m5,g8⟩;have v4:=u9.size;clear n1 c1 c2
  go_wp2
  go_meet;have e2:=ai w6 (G #[J P O N,J aS e0 c9] 194);exact⟨_,x,P,O,N,aS,e0,c9,w,fns,R,E,E,u9.trans (e2.mono v4),v4,β w6 _,hF.ah e2,m5.ah e2,g8⟩
 obtain⟨b4,x,P,O,N,aS,e0,c9,w,fns,R,rfl,rfl,e2,i6,p8,u5,m5,g8⟩:=hcut;clear n1 p7;have v8:=(e2.block _ (af a1)).trans a1;obtain⟨⟨a9,b0,b1,b2,b3⟩,k1⟩:=qV v8;have n2:μ φ 141 #[Y #[J d h8 c,Z (ae a.aL),J f j6 e,J i m1 g,D I a.bi]] wc (RB (D I (fT (!iQ a) 8)) wc):=by
  rw[n8.out,r9.out,x4.out];exact Cz d c f e (i1.ah e2).keys
 obtain⟨g9,p2⟩:=au (iQ a);rw[<-p2]at n2;have l4:U (g9=iQ a):=p2;have q5:U (Bl a2 wc):=e2;have r4:U (kF wc x (J P O N) fns):=u5;have s6:U (dA wc x (J aS e0 c9) R):=m5;clear p2 e2 u5 m5;go_upto_region 2 with fail
 go_cut [9] (λc8 B=>c8=D I (aT [w,fT (!g9) 8])/\Bl wc B)
 ·go_wp2_with(first
   |(go_at_call 141;refine cB n2 ?_;rintro q3 e4)
   |(go_at_call 65;refine(iU q3 w (fT (!g9) 8)).mono ?_;rintro y n0 ⟨rfl,rfl⟩))
  go_meet;exact⟨E,e4.trans ((ai q3 _).mono e4.size)⟩
 clear n2 a9 b0 b1 b2 b3 v8;obtain⟨rfl,e4⟩:=hcut;rename_i B;obtain⟨C,L⟩:=au (aT [w,fT (!g9) 8]);rw[<-L];have h9:U (Bl a2 wc):=bT q5 e4;have y9:=(h9.out.block _ (af h3)).trans h3;obtain⟨⟨c1,c2,g1,g2,g3,g4,g5,g6⟩,k6,i7⟩:=yY y9;by_cases b6:C=0
 ·subst b6;have r1:U (kF wc x (J P O N) fns):=r4.out.ah e4;have s0:U (dA wc x (J aS e0 c9) R):=s6.out.ah e4;have n4:U (g9=true):=by
   cases m7:g9 with
   |true=>rfl
   |false=>
    rw[m7]at L;rcases g8.out with⟨-,t, -⟩|⟨-,t⟩
    ·simp only[aT,t,ν]at L;exact ξ L.symm t
    simp only[aT,t,ψ]at L;cases L
  have m0:U (pM user (eG l k)=.ok (fns,R)):=by
   rcases g8.out with⟨-,t, -⟩|⟨v, -⟩
   ·simp only[aT,t,ν]at L;exact ξ L.symm t
   exact v
  have l8:U (b8=match dh R user [] a.from_ with
    | .error w=>.error w
    | .ok r=>match fw ((aK 0 r a.from_).map (·.1),[]) fns a.aL with
     | .error w=>.error w
     | .ok u=>match eF ((aK 0 r a.from_).map (·.1),[]) fns a.outs with
      | .error w=>.error w
      | .ok K=>.ok ⟨fns,r,aK 0 r a.from_,u,K⟩):=by
   rw[U,o1.out,lh,m0.out];simp only[<-l4.out,n4.out];rfl
  have o0:U (V a.from_<=4/\V a.outs<=4):=by
   have z:=l4.out;rw[n4.out]at z;unfold iQ at z;have z:=z.symm;simp only[Bool.and_eq_true,decide_eq_true_eq]at z;exact⟨aa,aa⟩
  have j5:U (rV wc d c f e i g a):=i1.out.ah h9;have k9:μ φ 142 #[Y #[J P O N,J aS e0 c9],Z (ae user),J d h8 c] wc λy X=>Le wc x (dh R user [] a.from_) y X:=by
   rw[n8.out];exact Eg P O N s0 user j5.BK o0.1 j5.aeP j5.LA
  have k4:=(e4.block _ (af p8)).trans p8;have q1:=(h9.out.block _ (af a1)).trans a1;clear L g8 o1 r4 s6 q5 l4 n4 e4 p8 k1;clear c1 c2 g1 g2 g3 g4 g5 g6 k6 i7;go_upto_region 5 with fail
  go_cut [10,9] (λz1 c8 B=>∃(W:ο Ξ) (k5 T:ω) (w:Ψ),z1=J W k5 T/\c8=D I w/\Bl wc B/\U ((dh R user [] a.from_=.error w/\w≠0)\/(∃r,dh R user [] a.from_=.ok r/\w=0/\dA B x (J W k5 T) r)))
  ·obtain⟨i3, -,u2, -⟩:=nP k4;obtain⟨⟨a9,b0,b1,b2,b3⟩,k1⟩:=qV q1;go_wp2_with(go_at_call 142;refine k9.mono ?_);rintro y n0 ⟨S,k2⟩;rcases k2 with⟨c7,v,t,rfl⟩|⟨r,g0,v,rfl,t⟩
   ·have F:U (dh R user [] a.from_=.error c7/\c7≠0):=⟨v,t⟩;clear v t i3 u2 a9 b0 b1 b2 b3 k9
    go_wp2
    go_meet;exact⟨_,_,_,c7,E,E,S,σ F⟩
   obtain⟨W,T,rfl, -⟩:=id t;have F:U (dh R user [] a.from_=.ok r/\dA n0 x (J W (V r) T) r):=⟨v,t⟩;clear v t i3 u2 a9 b0 b1 b2 b3 k9
   go_wp2
   go_meet;exact⟨_,_,_,0,E,E,S,Γ ⟨r,F.1,E,F.2⟩⟩
  clear k9;obtain⟨W,k5,T,c7,rfl,rfl,S,F⟩:=hcut;rename_i wd;have i0:U (Bl a2 wc):=bT h9 S;have z0:=(i0.out.block _ (af h3)).trans h3;obtain⟨⟨c1,c2,g1,g2,g3,g4,g5,g6⟩,k6,i7⟩:=yY z0;by_cases b6:c7=0
  ·subst b6;obtain⟨r,p3,a7⟩:∃r,dh R user [] a.from_=.ok r/\dA wc x (J W k5 T) r:=by
    rcases F.out with⟨-,t⟩|⟨r,v, -,t⟩
    ·exact ξ E t
    exact⟨r,v,t⟩
   have y7:k5=V r:=by obtain⟨_,_,y,_⟩:=a7;cases y;rfl
   subst y7;have s1:U (dA wc x (J W (V r) T) r):=a7;have r2:U (kF wc x (J P O N) fns):=r1.out.ah S;have r7:U (rV wc d c f e i g a):=i1.out.ah i0;have n9:U (∀u3∈fns,0<=u3.body.size/\u3.body.size<=300):=(uw (JC m0).1).1;have g7:U (V r=V a.from_/\V r<=4/\(∀j1∈r,bG j1.1=true)/\∀p6∈a.from_,aW p6.2=true):=by
    obtain⟨o4,o5,h0⟩:=vT _ _ _ p3;exact⟨o4,cz o0.out.1,λj1 p5=>(uw (JC m0).1).2.1 j1 (o5 j1 p5),h0⟩
   obtain⟨s,m3⟩:=au (aK 0 r a.from_);have n7:U (s=aK 0 r a.from_):=m3;have r5:U (b8=match fw (s.map (·.1),[]) fns a.aL with
    | .error w=>.error w
    | .ok u=>match eF (s.map (·.1),[]) fns a.outs with
     | .error w=>.error w
     | .ok K=>.ok ⟨fns,r,s,u,K⟩):=by
    rw[U,l8.out,p3,m3]
   have q4:μ φ 143 #[J W (V r) T,J d h8 c] wc λy X=>∃g0,y=.returned g0/\fE X g0 s/\Bl wc X:=by
    rw[n8.out,m3];obtain⟨o4,o5,h0,x7⟩:=g7.out;refine FM a7 d (V a.from_) c ?_ o4 o5 (λj1 p5=>?_) (λp6 y3=>?_)
    ·obtain⟨z8,z9,a',C',b'⟩:=r7.out.BK;exact⟨z8,z9,a',aa,b'⟩
    ·have:=kY (h0 j1 p5);exact⟨this.1.1,λa0 y0=>cz (wQ (this.2.1 a0 y0).1)⟩
    have:=wQ (x7 p6 y3);omega
   have p9:=(S.block _ (af k4)).trans k4;have v9:=(i0.out.block _ (af a1)).trans a1;clear F l8 j5 q1 k4 m0 p3 m3 a7 r1 s0 h9 S c1 c2 g1 g2 g3 g4 g5 g6 k6 i7;go_upto_region 8 with fail
   go_cut [11] (λz2 B=>∃a6 a0,z2=J a6 (V s) a0/\Bl wc B/\fE B (J a6 (V s) a0) s)
   ·obtain⟨⟨a9,b0,b1,b2,b3⟩,k1⟩:=qV v9;go_wp2_with(go_at_call 143;refine q4.mono ?_;rintro y n0 ⟨g0,rfl,j9,S⟩;obtain⟨a6,a0,rfl, -⟩:=id j9);go_meet;exact⟨a6,a0,E,S,j9⟩
   clear q4;obtain⟨a6,a0,rfl,S,j9⟩:=hcut;rename_i we;have q6:U (Bl a2 wc):=bT i0 S;have s2:U (dA wc x (J W (V r) T) r):=s1.out.ah S;have r3:U (kF wc x (J P O N) fns):=r2.out.ah S;have n6:U (fE wc (J a6 (V s) a0) s):=j9;have q0:=(S.block _ (af p9)).trans p9;obtain⟨i3, -, -, -⟩:=nP q0;have k0:=af q0;have n3:∀c0:Θ,Bl wc c0->μ φ 144 #[J a6 (V s) a0] c0 λy X=>∃a5 a4 a3,y=.returned (J a5 a4 a3)/\gN X (J a5 a4 a3) (s.map (·.1))/\Bl c0 X:=λc0 k3=>Jy (n6.ah k3);clear p9 v9 r7 r2 s1 i0 j9 S;go_upto_region 9 with fail
   go_cut [12] (λz3 B=>∃(m9:ω) (a5:ο Ξ) (a4 a3:ω),z3=.pointer (some (Addr.mk m9 0 M))/\Bl wc B/\H (A wc)<=m9/\B.heap[m9]? =some (G #[J a5 a4 a3,J M 0 0,J P O N] 332 (0,0))/\gN B (J a5 a4 a3) (s.map (·.1)))
   ·obtain⟨l',o'⟩:=au (G #[J M 0 0,J M 0 0,J M 0 0] 332 (0,0):Obj);go_region_with(first
     |(go_at_call 144;refine(n3 _ ?_).mono ?_;(first|exact θ _ wc|exact(θ _ wc).drew);rintro y e1 ⟨a5,a4,a3,rfl,p4,j7⟩;have e5:Bl wc e1:=(by first|exact j7|exact jy j7);have x6:=cK e5 k0 i3;have y1:b4<H (A e1):=τ k0 e5.size;have y2:b4≠H (A e1):=ρ y1)
     |(go_at_call 144;refine(n3 _ ?_).mono ?_;(first|exact ai wc _|exact(ai wc _).drew);rintro y e1 ⟨a5,a4,a3,rfl,p4,j7⟩;have e6:Below (H (A (wc.alloc (G #[J M 0 0,J M 0 0,J M 0 0] 332 (0,0))))) (wc.alloc (G #[J M 0 0,J M 0 0,J M 0 0] 332 (0,0))) e1:=(by first|exact j7|exact jy j7);have e5:Bl wc e1:=(ai wc _).trans (e6.mono (Nat.le_of_lt (af (β wc _))));have x6:=cK e5 k0 i3;have y2:b4≠H (A wc):=ρ k0;have e7:=(e6.block _ (af (β wc _))).trans (β wc _);have i4:=Jt e7;have i8:=i4.1.1;have i9:=i4.1.2.1;have j0:=i4.1.2.2;have z':=i4.2.1;have A':=i4.2.2;clear i4))
    all_goals(go_wp2;go_meet)
    all_goals first
     |exact⟨_,a5,a4,a3,E,e5.trans ((ai e1 _).mono e5.size),e5.size,β e1 _,p4.ah (ai e1 _)⟩
     |exact⟨_,a5,a4,a3,E,((e5.setCell (p:=(Addr.mk (H (A wc)) 0 M)) (ι _) _).setCell (p:=(Addr.mk (H (A wc)) 1 M)) (ι _) _).setCell (p:=(Addr.mk (H (A wc)) 2 M)) (ι _) _,ι _,Rt e7,JY p4 e7 (by simp[η]) λb4 i6=>OH i6⟩
   obtain⟨m9,a5,a4,a3,rfl,e6,p',e7,v1⟩:=hcut;rename_i wf;clear n3 i3 k0;have n5:U (Bl a2 wc):=bT q6 e6;have s3:U (dA wc x (J W (V r) T) r):=s2.out.ah e6;have q8:U (fE wc (J a6 (V s) a0) s):=n6.out.ah e6;have o2:U (Du wc x (J a5 a4 a3) (J M 0 0) (J P O N) (s.map (·.1),[]) fns):=⟨v1,⟨M,0,E,Δ _,σ E⟩,r3.ah e6⟩;have w0:=(n5.out.block _ (af a1)).trans a1;clear q0 r3 n6 s2 q6 v1 e6;have k7:=Gc n9 i1.aeh o2;go_upto_region 10 with fail
   go_cut [13,9] (λz4 c8 B=>∃(c4:ο Ξ) (h1 c3:ω) (w:Ψ),z4=J c4 h1 c3/\c8=D I w/\Bl wc B/\U ((fw (s.map (·.1),[]) fns a.aL=.error w/\w≠0)\/(∃u C,fw (s.map (·.1),[]) fns a.aL=.ok u/\w=0/\C<=H (A B)/\dO B (H (A wc)) C x (J c4 h1 c3) u)))
   ·obtain⟨⟨a9,b0,b1,b2,b3⟩,k1⟩:=qV w0;obtain⟨⟨i8,i9,j0⟩, -,y6⟩:=Jt e7;go_wp2_with(go_at_call 145;refine k7.mono ?_);rintro y w7 ⟨c5,k2⟩;rcases k2 with⟨b9,v,t,rfl⟩|⟨u,g0,o3,v,rfl,t,a7⟩
    ·have F:U (fw (s.map (·.1),[]) fns a.aL=.error b9/\b9≠0):=⟨v,t⟩;clear v t a9 b0 b1 b2 b3 i8 i9 j0 k7
     go_wp2
     go_meet;exact⟨_,_,_,b9,E,E,c5,σ F⟩
    obtain⟨c4,c3,rfl⟩:=a7.val;have F:U (fw (s.map (·.1),[]) fns a.aL=.ok u/\o3<=H (A w7)/\dO w7 (H (A wc)) o3 x (J c4 (V u) c3) u):=⟨v,t,a7⟩;clear v t a7 a9 b0 b1 b2 b3 i8 i9 j0 k7
    go_wp2
    go_meet;exact⟨_,_,_,0,E,E,c5,Γ ⟨u,o3,F.1,E,F.2⟩⟩
   clear k7;obtain⟨c4,h1,c3,b9,rfl,rfl,c5,s7⟩:=hcut;rename_i wg;have l0:U (Bl a2 wc):=bT n5 c5;have s4:U (dA wc x (J W (V r) T) r):=s3.out.ah c5;have q9:U (fE wc (J a6 (V s) a0) s):=q8.out.ah c5;have r8:U (Du wc x (J a5 a4 a3) (J M 0 0) (J P O N) (s.map (·.1),[]) fns):=o2.out.ah c5;have w1:=(l0.out.block _ (af a1)).trans a1;have w5:=(c5.block _ (af e7)).trans e7;have k8:μ φ 146 #[Y #[J a5 a4 a3,J M 0 0,J P O N],J f j6 e] wc λy X=>Sm wc x (eF (s.map (·.1),[]) fns a.outs) y X:=by
    rw[r9.out];exact Kn n9 (by have:=o0.out.2;omega) i1.adq r8 (i1.ah l0).outs
   clear w0 e7 o2 q8 s3 n5 c5;go_upto_region 11 with fail
   go_cut [14,15] (λz5 z6 B=>∃(h7:ο Ξ) (h6 h5:ω) (w:Ψ),z5=J h7 h6 h5/\z6=D I w/\Bl wc B/\U ((eF (s.map (·.1),[]) fns a.outs=.error w/\w≠0)\/(∃K,eF (s.map (·.1),[]) fns a.outs=.ok K/\w=0)))
   ·obtain⟨⟨a9,b0,b1,b2,b3⟩,k1⟩:=qV w1;obtain⟨⟨i8,i9,j0⟩, -,y6⟩:=Jt w5;go_wp2_with(go_at_call 146;refine k8.mono ?_);rintro y B' ⟨c6,k2⟩;rcases k2 with⟨h4,v,t,rfl⟩|⟨K,g0,v,rfl,t⟩
    ·have F:U (eF (s.map (·.1),[]) fns a.outs=.error h4/\h4≠0):=⟨v,t⟩;clear v t a9 b0 b1 b2 b3 i8 i9 j0 k8
     go_wp2
     go_meet;exact⟨_,_,_,h4,E,E,c6,σ F⟩
    obtain⟨h7,h6,h5,rfl⟩:∃h7 h6 h5,g0=J h7 h6 h5:=by
     obtain⟨_,y4, -⟩:=t;rcases y4.2 with⟨y, -⟩|⟨b4,m',n',x8,_⟩
     ·exact⟨_,_,_,y⟩
     exact⟨_,_,_,x8⟩
    have F:U (eF (s.map (·.1),[]) fns a.outs=.ok K):=v;clear v t a9 b0 b1 b2 b3 i8 i9 j0 k8
    go_wp2
    go_meet;exact⟨_,_,_,0,E,E,c6,Γ ⟨K,F,E⟩⟩
   clear k8;obtain⟨h7,h6,h5,h4,rfl,rfl,c6,s9⟩:=hcut;rename_i wh;have q7:U (Bl a2 wc):=bT l0 c6;have s5:U (dA wc x (J W (V r) T) r):=s4.out.ah c6;have r0:U (fE wc (J a6 (V s) a0) s):=q9.out.ah c6;have s8:U ((fw (s.map (·.1),[]) fns a.aL=.error b9/\b9≠0)\/(∃u base C,fw (s.map (·.1),[]) fns a.aL=.ok u/\b9=0/\C<=H (A wc)/\dO wc base C x (J c4 h1 c3) u)):=by
    rcases s7.out with z|⟨u,C,v,t,a7,o6⟩
    ·exact σ z
    exact Γ ⟨u,_,C,v,t,γ a7 c6.size,o6.ah c6⟩
   clear w1 w5 r8 q9 s4 l0 s7 c6;go_upto_region 12 with fail
   go_cut [9] (λc8 B=>c8=D I (aT [b9,h4])/\Bl wc B)
   ·go_wp2_with(go_at_call 65;refine(iU wc b9 h4).mono ?_;rintro y n0 ⟨rfl,rfl⟩);go_meet;exact⟨E,ai wc _⟩
   obtain⟨rfl,i5⟩:=hcut;rename_i wi;have l1:U (Bl a2 wc):=bT q7 i5;have x5:U (dA wc x (J W (V r) T) r):=s5.out.ah i5;have w9:U (fE wc (J a6 (V s) a0) s):=r0.out.ah i5;obtain⟨e3,b5⟩:=au (aT [b9,h4]);rw[<-b5];have w3:=(l1.out.block _ (af h3)).trans h3;have l7:U ((e3≠0/\b8=.error e3)\/(e3=0/\∃u K base C,fw (s.map (·.1),[]) fns a.aL=.ok u/\b8=.ok ⟨fns,r,s,u,K⟩/\C<=H (A wc)/\dO wc base C x (J c4 h1 c3) u)):=by
    rw[U,r5.out];rcases s8.out with⟨v,t⟩|⟨u,base,C,v,t,a7,o6⟩
    ·simp only[aT,t,ν]at b5;refine σ ⟨by rw[b5];exact t, ?_⟩;rw[v,b5]
    rw[v];simp only[aT,t,ψ]at b5;rcases s9.out with⟨o7,m2⟩|⟨K,o7,m2⟩
    ·simp only[m2,ν]at b5;refine σ ⟨by rw[b5];exact m2, ?_⟩;simp only[o7,b5]
    simp only[m2,ψ]at b5;refine Γ ⟨b5,u,K,base,C,E, ?_,γ a7 i5.size,o6.ah i5⟩;simp only[o7]
   clear r5 s8 s9 b5 r0 s5 q7 i5;obtain⟨⟨c1,c2,g1,g2,g3,g4,g5,g6⟩,k6,i7⟩:=yY w3;by_cases b6:e3=0
   ·subst b6;obtain⟨u,K,base,C,v7,u7,u6,u4⟩:∃u K base C,fw (s.map (·.1),[]) fns a.aL=.ok u/\b8=.ok ⟨fns,r,s,u,K⟩/\C<=H (A wc)/\dO wc base C x (J c4 h1 c3) u:=by
     rcases l7.out with⟨z, -⟩|⟨-,z⟩
     ·exact ξ E z
     exact z
    have i2:=rE n9 v7;rw[List.length_map]at i2;have v0:∀h0∈s,h0.2.1<4:=by
     rw[n7.out];exact λh0 x9=>(DU g7.2.1 g7.2.2.1 h0 x9).1
    have x3:U (∀c0:Θ,Bl wc c0->μ φ 147 #[J a6 (V s) a0,J c4 h1 c3] c0 λy X=>∃e9 e8,y=.returned (J e9 (V u) e8)/\gy X (H (A c0)) C x s (J e9 (V u) e8) u/\Bl c0 X):=λc0 k3=>
     (Vq v0 i2.1 (by have:=i2.2;omega) (γ u6 k3.size) (w9.ah k3) (u4.ah k3)).mono (by
      rintro y X ⟨g0,rfl,v,t⟩;obtain⟨e9,e8,rfl⟩:=v.val;exact⟨e9,e8,E,v,t⟩)
    have r6:U (Am (nH.pq ⟨fns,r,s,u,K⟩)/\∀a8∈(nH.pq ⟨fns,r,s,u,K⟩).parts,a8.2.1<=9223372036854775807/\a8.1<16):=by
     have z:=i2.1;rw[U,n7.out];rw[n7.out]at z;exact Tp g7.2.1 g7.2.2.1 z
    have x0:U (V u<=1000):=by have:=i2.2;exact γ this ag
    have x1:U (b8=.ok ⟨fns,r,s,u,K⟩):=u7;have w2:=(l1.out.block _ (af a1)).trans a1;obtain⟨⟨a9,b0,b1,b2,b3⟩,y5⟩:=qV w2;clear l7 v7 u7 u6 u4 i2 v0;go_upto_region 15 with fail
    go_region_with(go_at_call 147;refine(x3 _ ?_).mono ?_;(first|exact θ _ wc|exact(θ _ wc).drew);rintro y w8 ⟨e9,e8,rfl,v2,p1⟩;have m8:Bl wc w8:=(by first|exact p1|exact jy p1);have x2:U (gy w8 (H (A wc)) C x s (J e9 (V u) e8) u):=v2;have w4:=(m8.block _ i7).trans w3;have y8:=(m8.block _ y5).trans w2;have b7:=yY w4;have c':=b7.1.1;have d':=b7.1.2.1;have e':=b7.1.2.2.1;have f':=b7.1.2.2.2.1;have g':=b7.1.2.2.2.2.1;have h':=b7.1.2.2.2.2.2.1;have i':=b7.1.2.2.2.2.2.2.1;have j':=b7.1.2.2.2.2.2.2.2;have D':=b7.2.1;have E':=b7.2.2;have a8:=qV y8;have u':=a8.1.1;have v':=a8.1.2.1;have w':=a8.1.2.2.1;have x':=a8.1.2.2.2.1;have y':=a8.1.2.2.2.2;clear b7 a8 v2 p1);all_goals
     clear c1 c2 g1 g2 g3 g4 g5 g6 k6;go_wp2_with fail
    all_goals
     refine α (v:=Q #[Y #[J d h8 c,Z (ae a.aL),J f j6 e,J i m1 g,D I a.bi,J W (V r) T,J e9 (V u) e8,J h7 h6 h5],D I 0]) (by simp[ε,δ,go_sem,c',d',e',f',g',h',i',j']) E ⟨?_,Γ ⟨_,⟨d,h8,c,a.aL,f,j6,e,i,m1,g,a.bi,W,V r,T,e9,V u,e8,h7,h6,h5⟩,x1,E,E,g7.2.1,⟨Mf (x5.ah m8) g7.2.1 w4 (by simp[η]) (λb4 i6=>Cn i6),Ob x2 x0 i7 (by simp[η]) (λb4 i6=>Cn i6),r6.1,r6.2⟩⟩⟩;have z:=j2.out.trans ((bT l1 m8).mono j2.size);have h2:=l9.out
     repeat(refine ζ ?_ CE _)
     exact z
   have j3:U (b8=.error e3):=by
    rcases l7.out with⟨-,z⟩|⟨z, -⟩
    ·exact z
    exact ξ z b6
   have j4:U (e3≠0):=b6;clear l7;go_wp2_with fail;refine α (v:=Q #[Y #[J M 0 0,Z ⟨#[]⟩,J M 0 0,J M 0 0,D I 0,J M 0 0,J M 0 0,J M 0 0],D I e3]) (by simp[ε,δ,go_sem,c1,c2,g1,g2,g3,g4,g5,g6]) E ⟨?_,σ ⟨e3,j3,j4,E⟩⟩;have z:=bT j2 l1;have h2:=l9.out
   repeat(refine ζ ?_ CE _)
   exact z
  have j3:U (b8=.error c7):=by
   rw[U,l8.out];rcases F.out with⟨v, -⟩|⟨r, -,t, -⟩
   ·rw[v]
   exact ξ t b6
  have j4:U (c7≠0):=b6;clear F l8 j5 q1 k4;go_wp2_with fail;refine α (v:=Q #[Y #[J M 0 0,Z ⟨#[]⟩,J M 0 0,J M 0 0,D I 0,J M 0 0,J M 0 0,J M 0 0],D I c7]) (by simp[ε,δ,go_sem,c1,c2,g1,g2,g3,g4,g5,g6]) E ⟨?_,σ ⟨c7,j3,j4,E⟩⟩;have z:=bT j2 i0;have h2:=l9.out
  repeat(refine ζ ?_ CE _)
  exact z
 have j3:U (b8=.error C):=by
  rw[U,o1.out,lh];rcases g8.out with⟨v,t, -⟩|⟨v,t⟩
  ·rw[v];simp only[aT,t,ν]at L;rw[L]
  rw[v];simp only[aT,t,ψ]at L;rw[<-l4.out]
  cases m7:g9 with
  |true=>rw[m7]at L;exact ξ L b6
  |false=>rw[m7]at L;rw[L];rfl
 have j4:U (C≠0):=b6;clear L g8;go_wp2_with fail;refine α (v:=Q #[Y #[J M 0 0,Z ⟨#[]⟩,J M 0 0,J M 0 0,D I 0,J M 0 0,J M 0 0,J M 0 0],D I C]) (by simp[ε,δ,go_sem,c1,c2,g1,g2,g3,g4,g5,g6]) E ⟨?_,σ ⟨C,j3,j4,E⟩⟩;have z:=bT j2 h9;have h2:=l9.out
 repeat(refine ζ ?_ CE _)
 exact z
def IY(w:Θ)(o:Except Ψ nH)(e:Ending)(w':Θ):Prop:=Below (H (A w)) w w'/\
 ((∃n:Ψ,o=.error n/\n≠0/\e=.returned (Q #[J M 0 0,D I n]))\/
  (∃(r:nH) (ao:ο Ξ) (an ac:ω) (rs:Φ iP) (od:Φ ω) (B:ω),o=.ok r/\e=.returned (Q #[J ao an ac,D I 0])/\H (A w)<=B/\nN w' B (J ao an ac) rs/\iL rs=iA r.pq.parts 0 od/\tL r.pq (V r.bI) od))
def oP(o:Except Ψ nH)(od:Φ Ψ):Ψ×Ψ:=match o with
 | .error n=>(0,n)
 | .ok r=>if kw (V r.bI) od=true then(aZ r.pq (od.map Int.toNat),0)else(0,9)
theorem Ah(a):(zs a).map Int.toNat=a:=by
 have:(Int.toNat ∘ λb:Nat=>(b:Ψ))=id:=by funext b;simp
 simp[zs,this]
theorem Mq{cap}(u:ik b (J d c cap) l)(v:kV b (J q o n) k)(user)(s:rV b f e i g p m a):
  μ φ 43 #[Y #[J d c cap,J q o n],Z (ae user),Y #[J f (V a.from_) e,Z (ae a.aL),J i (V a.outs) g,J p (V a.order) m,D I a.bi]] b λt F=>IY b (lh l k user a) t F:=by
 have j:=aV b (G #[J d c cap,J q o n] 67) (G #[J f (V a.from_) e,Z (ae a.aL),J i (V a.outs) g,J p (V a.order) m,D I a.bi] 63);have r:=xO (u.ah j) (v.ah j) user (s.ah j);obtain⟨B,w⟩:=au (lh l k user a);rw[<-w]at r ⊢;clear w s u v j;go_enter func43,ntmps43;go_wp2_with(go_at_call 84;refine r.mono ?_);rintro t u ⟨s,K⟩;obtain⟨-, -,j,v⟩:_/\_/\_/\_:=⟨trivial,trivial,(aV b (G #[J d c cap,J q o n] 67) (G #[J f (V a.from_) e,Z (ae a.aL),J i (V a.outs) g,J p (V a.order) m,D I a.bi] 63)).trans (s.mono gL),s.size⟩;change U _ at j;clear r s v;rcases K with⟨v,r,L,rfl⟩|⟨w,s,r,rfl,x,N,C⟩
 ·have y:U (B=.error v):=r;clear r;go_wp2_with fail;refine α (v:=Q #[J M 0 0,D I v]) (by simp[ε,χ,go_sem]) E ?_;exact⟨j.trans ((ai u _).mono j.size),σ ⟨v,y,L,E⟩⟩
 have y:U (B=.ok w):=r;have z:=VT (C.ah (ai u (G s.arr 250)));rw[x]at z;have:U (s.tn=V w.bI):=x;clear r x N C;simp only[QV.arr]at z ⊢;go_wp2_with(go_at_call 89;refine z.mono ?_;rintro t _ ⟨C,x,r,T,S,rfl,N,O,P,R⟩);refine α (v:=Q #[J C x r,D I 0]) (by simp[ε,χ,go_sem]) E ?_;exact⟨j.trans (((ai u _).trans (R.mono gL)).mono j.size),Γ ⟨w,C,x,r,T,S,_,y,E,γ j.size gL,N,O,P⟩⟩
theorem Mo{cap}(y:ik b (J f g cap) l)(z:kV b (J s r j) k)(user)(x:rV b i m p n q o a){u}(w:aY b (J d e c) u):
  μ φ 40 #[Y #[J f g cap,J s r j],Z (ae user),Y #[J i (V a.from_) m,Z (ae a.aL),J p (V a.outs) n,J q (V a.order) o,D I a.bi],J d e c] b (RB (Q #[D I (oP (lh l k user a) u).1,D I (oP (lh l k user a) u).2]) b):=by
 have t:=aV b (G #[J f g cap,J s r j] 67) (G #[J i (V a.from_) m,Z (ae a.aL),J p (V a.outs) n,J q (V a.order) o,D I a.bi] 63);have v:=xO (y.ah t) (z.ah t) user (x.ah t);obtain⟨R,B⟩:=au (lh l k user a);rw[<-B]at v ⊢;have C:U (Bl b ((b.alloc (G #[J f g cap,J s r j] 67)).alloc (G #[J i (V a.from_) m,Z (ae a.aL),J p (V a.outs) n,J q (V a.order) o,D I a.bi] 63))):=t;have X:U (aY b (J d e c) u):=w;clear B x y z t w;go_enter func40,ntmps40;go_wp2_with(go_at_call 84;refine v.mono ?_);rintro a0 t ⟨x,a9⟩;have w:U (Bl b t):=bT C x;clear v x C;rcases a9 with⟨L,y,a6,rfl⟩|⟨N,v,y,rfl,K,W,B⟩
 ·have O:U (oP R u=(0,L)):=by rw[U,y];rfl
  have T:U (L≠0):=a6;have x:=wu (t.alloc (G #[J M 0 0,Z ⟨#[]⟩,J M 0 0,J M 0 0,D I 0,J M 0 0,J M 0 0,J M 0 0] 250)) ⟨M,0,0,[],M,0,0,M,0,0,0,M,0,0,M,0,0,M,0,0⟩ (Δ _) u (J d e c) (X.ah (w.trans ((ai t _).mono w.size)));obtain⟨F,P⟩:=au (fT (!kw 0 u) 9);simp only[QV.arr]at x;rw[<-P]at x;clear y P;go_wp2_with(first
   |(go_at_call 85;refine cB x ?_;rintro z C;have S:aT [L,F]=L:=MG a6)
   |(go_at_call 65;refine(iU z L F).mono ?_;rw[S];rintro a0 a7 ⟨rfl,rfl⟩))
  refine α (v:=Q #[D I 0,D I L]) (by simp[ε,κ,go_sem]) E ?_;exact⟨by rw[O.out],w.trans ((((ai t _).trans (C.mono gL)).trans ((ai z _).mono (by have:=C.size;simp only[υ]at this;omega))).mono w.size)⟩
 have a1:U (Sn t v N.pq):=B;have S:U (R=.ok N/\v.tn=V N.bI):=⟨y,K⟩;have x:=wu (t.alloc (G v.arr 250)) v B.len u (J d e c) (X.ah (w.trans ((ai t _).mono w.size)));have a2:=β t (G v.arr 250);have T:U (Bl t (t.alloc (G v.arr 250))):=ai t _;clear y K W B
 cases K:kw v.tn u with
 |false=>
  rw[K]at x;have O:U (oP R u=(0,9)):=by
   rw[U,S.out.1];simp only[oP];rw[<-S.out.2,K];rfl
  clear K;simp only[QV.arr]at x T ⊢;go_wp2_with(first
   |(go_at_call 85;refine cB x ?_;rintro z C)
   |(go_at_call 65;refine(iU z 0 9).mono ?_;rintro a0 a7 ⟨rfl,rfl⟩))
  refine α (v:=Q #[D I 0,D I 9]) (by simp[ε,κ,go_sem];rfl) E ?_;have B:=bT T C;exact⟨by rw[O.out],w.trans ((B.trans ((ai z _).mono B.size)).mono w.size)⟩
 |true=>
  rw[K]at x;obtain⟨W,a3,a4⟩:=BZ K;have O:U (oP R u=(aZ N.pq W,0)):=by
   rw[U,S.out.1];simp only[oP];rw[<-S.out.2,K,if_pos E,a3,Ah]
  have a5:U (∀F:Θ,Bl t F->μ φ 86 #[Y v.arr,J d e c] F (RB (D I (aZ N.pq W)) F)):=λF P=>
   Ki (a1.ah P) W (by rw[<-a3];exact X.ah (bT w P)) (by have:=a1.out.len;have:=a4.2;omega) (λa8 y=>τ (a4.1.2 a8 y) a1.len)
  obtain⟨b0,a8⟩:=au (aZ N.pq W);rw[<-a8]at a5 O;clear K a3 a4 a8;simp only[QV.arr]at x T a5 a2 ⊢;go_wp2_with(first
   |(go_at_call 85;refine cB x ?_;rintro z C;have B:=bT T C;have b2:=(C.block _ (af a2)).trans a2;have y:=yY b2;have b5:=y.1.1;have b6:=y.1.2.1;have b7:=y.1.2.2.1;have b8:=y.1.2.2.2.1;have b9:=y.1.2.2.2.2.1;have c0:=y.1.2.2.2.2.2.1;have c1:=y.1.2.2.2.2.2.2.1;have c2:=y.1.2.2.2.2.2.2.2;have b4:=y.2.2;have c3:=ρ b4;clear y)
   |(go_at_call 65;refine(iU z 0 0).mono ?_;rintro a0 a7 ⟨rfl,rfl⟩)
   |(go_at_call 86;refine cB (a5 _ (B.trans ((ai z _).mono B.size))) ?_;rintro b3 b1))
  refine α (v:=Q #[D I b0,D I 0]) (by simp[ε,κ,go_sem]) E ?_;have y:Bl t b3:=(B.trans ((ai z _).mono B.size)).trans (b1.mono (by have:=B.size;simp only[υ];omega));exact⟨by rw[O.out],bT w y⟩
end Go.Proofs.YthkeffolmbnkaaaGreatDoor

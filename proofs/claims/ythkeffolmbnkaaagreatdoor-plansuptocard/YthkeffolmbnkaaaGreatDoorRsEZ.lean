import Derived.Test.YthkeffolmbnkaaaGreatDoorRtUZ
import Derived.Test.YthkeffolmbnkaaaGreatDoorBaGZ
import Derived.Test.YthkeffolmbnkaaaGreatDoorLqGZ
set_option linter.unusedVariables false
set_option linter.unusedSimpArgs false
set_option maxRecDepth 100000
set_option maxHeartbeats 0
open Array renaming size->D,getElem?_modify->D4
open Bool renaming false->κ,and_eq_true->ξ,true->Θ,or_eq_false_iff->B8,not_eq_true'->E9,true_and->F7
open Go renaming heap_alloc_new->δ,World->ο,Value->Ξ,Calls->A1,bodyPost_ret->A8,step_append_lies->B7,Addr->C6,results->D1,maxLen->D6,info_parts->D7,wpList_append_own->F9,TypeId->G3,Ending->G5
open Go.Addr renaming mk->G,add_lit->G1,add->G2
open Go.Ending renaming returned->A9
open Go.IntKind renaming i64->ρ
open Go.Obj renaming cells->Y
open Go.Proofs.Tryz renaming prog->φ,results26->A5,ntmps26->D3,func26->D9,f63->E0,underlying174->E3,underlying52->E8
open Go.Proofs.YthkeffolmbnkaaaGreatDoor renaming ae->Z,Bl->Q,post->C3,RowsIn->G4
open Go.RowKit renaming Hid->V,Below->Γ,ownsRow_setCell_below->F3,intOf->G0
open Go.RowKit.Below renaming heap_setCell->β,refl->μ,heap_alloc->C1
open Go.Value renaming slice->J,string->A,pointer->η,int->ι,ownBlock->A4,agg->B0,bool->B4,tuple->D2
open Go.World renaming heap->I,cell?->α,size_alloc->ν,ownsRow_nil->σ,news_of_block->A2,frozen?->B9,setCell->D0,cell?_of_block->D8
open Go.World.ownsRow renaming alloc->χ,drew->ψ,lt->Δ
open List renaming length->E,getElem?_eq_getElem->γ,drop_eq_getElem_cons->ε,drop_of_length_le->θ,take_succ_eq_append_getElem->Φ,getElem?_map->Ψ,getElem?_eq_some_iff->A7,length_eq_zero_iff->B2,getElem_mem->B3,mem_map->B5,length_map->B6,take_append_of_le_length->C2,map_append->C4,getElem?_append_right->C7,exists_cons_of_ne_nil->C8,getElem?_append_left->C9,length_append->E2,flatMap_cons->E6,findIdx?_map->E7,take_length->F1,not_mem_nil->F2,mem_append->F4,mem_cons->F6
open Nat renaming le_refl->ζ,zero_le->υ,zero_add->D5,lt_of_lt_of_le->E4,add_sub_cancel->E5,add_assoc->F8
open Option renaming none->U,some->M
open Option.some renaming inj->C0
open Or renaming inl->A3,inr->F0
open _root_ renaming rfl->H,decide_eq_false->τ,List->ω,decide_eq_true->Ω,Option->A0,Nat->A6,Int->B1,decide_eq_true_eq->C5,decide_eq_false_iff_not->E1,if_pos->F5
namespace Go.Proofs.YthkeffolmbnkaaaGreatDoor
open Go.Proofs.Tryz
open Go.RowKit
variable{S:Act->World->Prop}{K:Array Value}{v:Bs}{h0 h1:ByteArray}{j7:Ending->World->Prop}{C:Int}{i:List Aj}{u:List RF}{n k0:List Value}{F R:List gB}{b d f j m p B h2 h3 h4 h5:Nat}{j8:Obj}{e k h6:Option Addr}{l y q s L N O P T W X a0 a1 a2 a3 a4 a5 a6 a7 a8 a9 b0 b1 b2 b3 b4 b5 b6 b7 b8 b9 c0 c1 c2 c3 c4 c5 c6 c7 c8 c9 e0 e1 e2 e3 e4 e5 e6 e7 e8 e9 g0 g1 g2 g3 g4 g5 g6 g7 g8 g9 h7 h8 h9 i0 i1 i2 i3 i4 i5 i6 i7 i8 i9 j0 j1 j2 j3 j4 j5 j6:Value}{a o j9:World}{c:aJ}{z:gB}
theorem EE(j2:Ao a b i)(e5:E i<=7)(N:Fx (i.map (·.1))){name args:Bs}(body:Bs)(j3:E name<=D6)(e6:E args<=D6):
  A1 φ 62 #[η (M (G b 0 U)),B0 #[A (Z name),A (Z args),A (Z body)]] a λl e7=>aas a b i args (nI (bJ i) name args body) l e7:=by
 obtain⟨o,p,q,b1,a7,j4,e8⟩:=j2;have b9:=af b1;have a8:=uB a7 j4 e8;obtain⟨g,a9⟩:=au (a.alloc (Y #[A (Z name),A (Z args),A (Z body)] 48));have m:V (a.alloc (Y #[A (Z name),A (Z args),A (Z body)] 48)=g):=a9.symm;have x:Q a g:=by rw[a9];exact ai a _
 have e9:g.heap[D (I a)]? =M (Y #[A (Z name),A (Z args),A (Z body)] 48 (0,0)):=by rw[a9];exact δ a _
 have g0:D (I g)=D (I a)+1:=by rw[a9];simp[ν]
 have g1:=(x.block b b9).trans b1;have z:∀c:ο,Q g c->(α c (G (D (I a)) 0 U)=M (A (Z name))/\α c (G (D (I a)) 1 U)=M (A (Z args))/\α c (G (D (I a)) 2 U)=M (A (Z body)))/\α c (G b 0 U)=M (J o p q)/\(D (I a)<D (I c)/\b<D (I c)):=by
  intro c T;have d:=(T.block (D (I a)) aa).trans e9;have e:=(T.block b aa).trans g1;have:=T.size;exact⟨⟨aC d,aC d,aC d⟩,aC e,aa,aa⟩
 have e:∀c:ο,A1 φ 111 #[A (Z name)] c (RE (B4 (aW name)) c):=by
  intro c;have:=iZ (Z name) c (by rw[aX];exact j3);rw[ay]at this;exact this
 have j:∀c:ο,A1 φ 112 #[A (Z name)] c (RE (B4 (nG name)) c):=by
  intro c;have:=eH (s:=(Z name)) (w:=c);rw[ay]at this;exact this
 have F:∀c:ο,A1 φ 115 #[A (Z args)] c (RE (B4 (args.all fM)) c):=by
  intro c;have:=zS (Z args) c (by rw[aX];exact e6);rw[ay]at this;exact this
 have n:∀(c:ο) (c0:A6),c.heap[c0]? =M (Y (lu.map λd=>A (Z d)).toArray 9 (0,0))->A1 φ 113 #[J (M (G c0 0 U)) 8 8,A (Z name)] c (RE (B4 (bC lu name)) c):=λc c0 j5=>CY 8 H aa j5 name;have w:=zV;have k:∀c:ο,Q g c->A1 φ 66 #[B0 #[J U 0 0,J U 0 0,A ⟨#[]⟩,J o p q],A (Z name)] c (RB (ι ρ (Hw (dG (bJ i) name))) g):=λc T=>
  (mi (a8.ah (bT x T)) name).mono λl e7 f=>⟨f.1,bT T f.2⟩
 have B:=Uu (fns:=bJ i) name;obtain⟨g4,c3⟩:=au (aW name);obtain⟨j7,g3⟩:=au (nG name);obtain⟨g5,c4⟩:=au (bC lu name);obtain⟨g2,c1⟩:=au (dG (bJ i) name);obtain⟨j6,W⟩:=au (args.all fM);obtain⟨c5,c2⟩:=au (Y (lu.map λd=>A (Z d)).toArray 9);rw[<-c3]at e B;rw[<-g3]at j B;simp only[<-c4,<-c2]at n;rw[<-c4,<-c1]at B;simp only[<-c1]at k;simp only[<-c2]at w;rw[<-W]at F;change V _ at B;change V _ at W;have n0:V (g4=aW name):=c3;clear c3 g3 c4 c1 c2 a9;obtain⟨⟨t,u,y⟩,v,r,s⟩:=z g (μ _ _);go_enter func62,ntmps62;go_upto_region 3 with(first
  |(go_at_call 111;refine bP (e _) ?_)
  |(go_at_call 112;refine bP (j _) ?_))
 rw[m.out];clear m e j;go_cut [7] (λj e=>j=B4 g5/\Q g e)
 ·clear k F z g0;go_region_with(first
   |(go_at_call 114;refine(w _).mono ?_;rintro l j ⟨rfl,rfl⟩)
   |(go_at_call 113;refine(n _ _ ?_).mono ?_;(first|exact δ _ _|exact δ g c5);rintro l g6 ⟨rfl,rfl⟩))
  all_goals(go_wp2;go_meet)
  all_goals exact⟨H,by first|exact ai g c5|exact(ai g c5).drew⟩
 obtain⟨rfl,m⟩:=hcut;clear t u y v r s n w;generalize n:wc=w3 at*;clear n;obtain⟨⟨t,u,y⟩,v,r,s⟩:=z w3 m;go_upto_region 4 with fail
 go_cut [8] (λn e=>n=ι ρ (Hw g2)/\Q g e)
 ·clear F z;go_region_with(go_at_call 66;refine(k _ ?_).mono ?_;(first|exact m|exact m.drew);rintro l j ⟨rfl,X⟩);all_goals(go_wp2;go_meet)
  all_goals exact⟨H,by first|exact X|exact X.drew⟩
 obtain⟨rfl,K⟩:=hcut;clear t u y v r s k m;generalize k:wc=w4 at*;clear k;obtain⟨⟨t,u,y⟩,v,r,s⟩:=z w4 K
 cases g4 with
 |false=>
  have m:V (nI (bJ i) name args body=.error 2):=yR (by rw[B.out];rfl)
  go_wp2
  go_ret;exact A3 ⟨2,m,ag,H,bT x K⟩
 |true=>
  cases j7 with
  |true=>
   have m:V (nI (bJ i) name args body=.error 2):=yR (by rw[B.out];rfl)
   go_wp2
   go_ret;exact A3 ⟨2,m,ag,H,bT x K⟩
  |false=>
   cases g5 with
   |true=>
    have m:V (nI (bJ i) name args body=.error 2):=yR (by rw[B.out];rfl)
    go_wp2
    go_ret;exact A3 ⟨2,m,ag,H,bT x K⟩
   |false=>
    cases g2 with
    |some k=>
     have j8:Hw (M k)=(k:B1):=H;have m:V (nI (bJ i) name args body=.error 2):=yR (by rw[B.out];rfl)
     go_wp2
     go_ret;exact A3 ⟨2,m,ag,H,bT x K⟩
    |none=>
     have j8:Hw U= -1:=H;have b2:V (sJ (bJ i) name=Θ):=by rw[V,B.out];rfl
     have g7:(Z args).size=E args:=aX _
     cases j6 with
     |false=>
      have m:V (nI (bJ i) name args body=.error 9):=Gw b2 (by rw[yK,<-W.out,Bool.and_false]);go_wp2_with(go_at_call 115;refine(F _).mono ?_;rintro l O ⟨rfl,rfl⟩);go_ret;exact A3 ⟨9,m,ag,H,bT x K⟩
     |true=>
      by_cases c6:E args<=4
      ·have j9:V (fO args=Θ):=by rw[V,yK,<-W.out,Ω c6];rfl
       have g8:decide ((4:B1)<((Z args).size:B1))=κ:=by rw[g7];simp;omega
       go_upto_region 10 with(go_at_call 115;refine(F _).mono ?_;rintro l O ⟨rfl,rfl⟩)
       generalize k:O=w4 at*;clear k;go_cut [10] (λk e=>∃L:A6,k=η (M (G L 0 U))/\Q w4 e/\D (I w4)<=L/\e.heap[L]? =M (Y #[J U 0 0,J U 0 0,A (Z args),J o p q] 214 (0,0)))
       ·clear F z g0;go_region;all_goals(go_wp2;go_meet)
        all_goals exact⟨D (I w4),H,by first|exact ai w4 _|exact(ai w4 _).drew,ζ _,δ w4 _⟩
       obtain⟨L,rfl,k0,_,c7⟩:=hcut;clear t u y v r s F g8 c6;generalize e:wc=O at*;clear e;have c8:Q g O:=bT K k0;have g9:Q a O:=bT x c8;obtain⟨⟨t,u,y⟩,v,r,s⟩:=z O c8;have k1:=af c7;obtain⟨⟨k2,k3,k4,k5⟩,_⟩:=bM c7;have a0:tN (([]:ω (Bs×B1)),bB args) args (i.map (·.1)):=N.known W.symm (λk e=>by simp at e) (λk e=>by simp at e);have e:=ry (El (a8.ah g9)) e6 a0 body;have h0:V _:=aaB (body:=body) b2 j9;change V _ at e9;change V _ at g1;go_wp2_with(go_at_call 116;refine e.mono ?_);clear e;rintro l j ⟨X,k6⟩;have w:Q a j:=bT g9 X;have h1:Q g j:=bT c8 X;rcases k6 with⟨b3,a1,h2,rfl⟩|⟨c,d,k,cap,h3,a1,k7,a2,b0,rfl,_,a3⟩
       ·have m:V (nI (bJ i) name args body=.error b3):=by
         rw[V,h0.out];have:dH bL ([],bB args) (bJ i) body=.error b3:=a1;rw[this]
        have e:(b3==0)=κ:=by simpa using h2
        clear a1
        go_wp2
        go_ret;exact A3 ⟨b3,m,h2,H,w.alloc w.size _⟩
       have m:V (nI (bJ i) name args body=.ok ⟨name,bB args,c⟩):=by
        rw[V,h0.out];have:dH bL ([],bB args) (bJ i) body=.ok c:=a1;rw[this]
       obtain⟨pm,a4⟩:∃pm,E (C3 d)=pm+1:=⟨E (C3 d)-1,cz (sU d)⟩;rw[a4];have a5:=ai j (Y #[J (M (G k 0 U)) (pm+1) cap] 102);have a6:=(X.block L k1).trans c7;have h4:(E (C3 d):B1)+pU ((C3 d).map (KO (i.map (·.1))))=c.size:=by
        rw[Bc d c b0 a2];congr 2;exact List.map_congr_left λP _=>OV a0 P
       have S:=Ch U 0 0 U 0 0 o p q (El (a8.ah (w.alloc w.size _))) a0 (a3.ah a5);rw[h4,a4]at S;have h5:yD (i.map (·.1)) d=c.quiet:=(zL a0 d c b0 a2).symm;have h6:(C3 d)[pm]? =M d:=by have:=fQ d;rw[a4,E5]at this;exact this
       have b7:∀P:ο,Γ (D (I (j.alloc (Y #[J (M (G k 0 U)) (pm+1) cap] 102)))) (j.alloc (Y #[J (M (G k 0 U)) (pm+1) cap] 102)) P->A1 φ 118 #[B0 #[J U 0 0,J U 0 0,A (Z args),J o p q],B0 #[J (M (G k 0 U)) (pm+1) cap],ι ρ (pm:B1)] P (RB (B4 c.quiet) P):=by
        intro P e;have:=uA (SizeOf.sizeOf d) d P U 0 0 U 0 0 args o p q ([],bB args) (i.map (·.1)) k cap (C3 d) _ h3 pm (ζ _) (El (a8.ah ((w.alloc w.size _).trans (e.mono (w.alloc w.size _).size)))) a0 ((a3.ah a5).ah e) h6;rw[h5,a4]at this;exact this
       obtain⟨⟨b8,e4,h7,h8⟩,_⟩:=bM ((a5.block L (af a6)).trans a6);have h9:=δ j (Y #[J (M (G k 0 U)) (pm+1) cap] 102);obtain⟨i0,_⟩:=rM h9;have b4:L<D (I (j.alloc (Y #[J (M (G k 0 U)) (pm+1) cap] 102))):=by rw[ν];have:=af a6;omega
       have i1:D (I j)<D (I (j.alloc (Y #[J (M (G k 0 U)) (pm+1) cap] 102))):=FK;have i2:Q g (j.alloc (Y #[J (M (G k 0 U)) (pm+1) cap] 102)):=h1.alloc h1.size _;have n1:Q a (j.alloc (Y #[J (M (G k 0 U)) (pm+1) cap] 102)):=w.alloc w.size _;have n2:V _:=(a5.block L (af a6)).trans a6;have k8:V _:=a3.ah a5;have i3:0<=c.size/\c.size<=300:=yF (λ_ C=>by
        rw[RF.list,B5]at C;obtain⟨e,n,rfl⟩:=C;exact N.OJ e n) a1
       have i4:fA c.ty:=xx a0 d c b0 a2;have n4:pm+1<=1000:=cz a3.small;have n3:pm+1<=cap:=cz a3.cap;change V _ at a4;change V _ at i4;change V _ at i3;change V _ at a2;change V _ at b0;clear h4 h5 h6 a1 k7 a3 a6 a5 h9 t u y v r s k2 k3 k4 k5;generalize k9:j.alloc (Y #[J (M (G k 0 U)) (pm+1) cap] 102)=g6 at*;obtain⟨⟨t,u,y⟩,v,r,s⟩:=z g6 i2;obtain⟨i8,e0⟩:=au c.size;obtain⟨i7,c9⟩:=au c.quiet;rw[<-e0]at S;simp only[<-c9]at b7;change V _ at e0;change V _ at c9;go_upto_region 16 with(first
        |(go_at_call 117;refine cB S ?_;rintro i6 C;have l0:=cK C b4 b8;have l1:=cK C b4 e4;have l4:=cK C b4 h7;have l7:=cK C b4 h8;have i5:=cK C i1 i0)
        |(go_at_call 118;refine cB (b7 _ C) ?_;rintro R b5))
       have l8:Q g i6:=bT i2 C;have i9:Q g R:=bT l8 b5;have e1:Q a R:=bT x i9;have j0:D (I j)<D (I i6):=E4 i1 C.size;have l9:=cK b5 j0 i5;have m0:D (I j)<D (I R):=E4 j0 b5.size;have b6:R.ownsRow (b+1) 217 5 (J o p q) (E i) (gW i):=aD a7 λj1 m1=>e1.block j1 (a7.lt j1 m1).2;have n5:∀e2:Obj,(R.alloc e2).drew.ownsRow (b+1) 217 5 (J o p q) (E i) (gW i):=λe2=>ψ (χ b6 e2);have n6:(J o p q).ownBlock≠M b:=λl=>cz ((b6.lt _ l).1);have n7:(J o p q).ownBlock≠M (D (I a)):=λl=>cz ((a7.lt _ l).2);have n8:(J o p q).ownBlock≠M (D (I j)):=λl=>by have:=(a7.lt _ l).2;have:=w.size;omega
       have e3:=(e1.block b b9).trans b1;change V _ at e3;have m2:V _:=(k8.ah C).ah b5;clear t u y v r s l0 l1 l4 l7 i5 b8 e4 h7 h8 i0 S b7 a8 b1 k9;obtain⟨⟨t,u,y⟩,v,r,s⟩:=z R i9;refine EF i8 i7 e5 r s m0 t u l9 v b6 e3 ?_;intro v85 _ _ _ _ _ _ _ _ _ _ _ _ _ _ _ _ _ _ _ _ h7 h8 i0;dsimp only
       go_wp2
       go_ret;all_goals
        have m6: [A (Z name),A (Z args),J (M (G k 0 U)) (pm+1) cap,ι ρ i8,B4 i7]=rT ((⟨⟨name,bB args,c⟩,args,d⟩:RF),k,cap):=by
         rw[rT,e0.out,c9.out];simp only[a4.out]
        rw[m6]at h7;have m5:pI R ((⟨⟨name,bB args,c⟩,args,d⟩:RF),k,cap):=by
         refine⟨h3,_,m2, ?_⟩;show nM bL ([],bB args) (RF.list (i.map (·.1))) (C3 d) (E (C3 d)) (E (C3 d)-1)=pQ c.ty;rw[nM,F5 (by have:=sU d;omega),fQ d];show tyR (bO bL ([],bB args) (RF.list (i.map (·.1))) d)=pQ c.ty;rw[a2.out];rfl
        obtain⟨k9,m3⟩:=adU b9 e1 e3 b6 e5 e8 m5 h7 h8 i0;have m7:dU name=κ:=by
         have e4:=b2.out;unfold sJ at e4;simp only[ξ,E9]at e4;exact e4.1.2
        have b7:∀e∈(i++ [((⟨⟨name,bB args,c⟩,args,d⟩:RF),k,cap)]).map (·.1),e∈i.map (·.1)\/e=⟨⟨name,bB args,c⟩,args,d⟩:=by
         intro e n;rw[C4,F4]at n;rcases n with f|f
         ·exact A3 f
         simp at f;exact F0 f
        refine F0 ⟨_,d,k,cap,m,H,k9,⟨λe n=>?_,λe n=>?_,λe n=>?_,λe n=>?_,λb8 e S=>?_⟩,m3⟩
        ·rcases b7 e n with f|rfl
         ·exact N.fty e f
         exact i4
        ·rcases b7 e n with f|rfl
         ·exact N.SG e f
         exact⟨H,W.symm⟩
        ·rcases b7 e n with f|rfl
         ·exact N.free e f
         exact m7
        ·rcases b7 e n with f|rfl
         ·exact N.OJ e f
         exact i3
        rw[C4]at S ⊢;rcases Nat.lt_or_ge b8 (i.map (·.1)).length with f|f
        ·rw[C9 f]at S;rw[C2 aa];exact N.typ b8 e S
        rw[C7 f]at S;have m4:b8-(i.map (·.1)).length=0:=by have:=(A7.mp S).1;simp at this ⊢;omega
        rw[m4]at S;have m8:(⟨⟨name,bB args,c⟩,args,d⟩:RF)=e:=by simpa using S
        subst m8;have m9:b8=(i.map (·.1)).length:=aa;rw[m9,C2 (ζ _),F1];exact⟨a2,b0⟩
      have m:V (nI (bJ i) name args body=.error 9):=Gw b2 (by rw[yK,τ c6];rfl);have g8:decide ((4:B1)<((Z args).size:B1))=Θ:=by rw[g7];simp;omega
      go_wp2_with(go_at_call 115;refine(F _).mono ?_;rintro l O ⟨rfl,rfl⟩);go_ret;exact A3 ⟨9,m,ag,H,bT x K⟩
theorem su(a:mG z=κ):dL F (z::R)=κ:=by rw[dL,a];rfl
theorem Xl(a:kL z.1 F=Θ):dL F (z::R)=κ:=by
 rw[dL,a];simp
theorem Xm(a:mG z=Θ)(b:kL z.1 F=κ):dL F (z::R)=dL (F++ [z]) R:=by
 rw[dL,a,b];simp
theorem CU(b4 b3 b2)(g9:dC a (J k (E c.aB) d) c.aB)(b0:G4 a (J e (E c.rows) b) c.rows)(s:1<=E c.aB/\E c.aB<=4/\0<=c.count/\c.count<=1000000/\E c.rows<=10):
  A1 φ 119 #[B0 #[A (Z c.name),J k (E c.aB) d,J e (E c.rows) b,ι ρ c.count,A (Z c.aR),J b4 b3 b2]] a (RB (B4 (bG c)) a):=by
 have B:V (bG c=(dL [] c.aB&&c.rows.all λl=>jI l c.aB)):=Na s;obtain⟨c0,h0,_,_,h1⟩:=s;have h2:decide ((E c.aB:B1)<1)=κ:=aN;have h3:decide ((4:B1)<(E c.aB:B1))=κ:=aN;have k1:decide (c.count<0)=κ:=τ aa;have k2:decide (1000000<c.count)=κ:=τ aa;have h4:decide ((10:B1)<(E c.rows:B1))=κ:=aN;obtain⟨v,f⟩:=au (a.alloc (Y #[A (Z c.name),J k (E c.aB) d,J e (E c.rows) b,ι ρ c.count,A (Z c.aR),J b4 b3 b2] 54));have g:V (a.alloc (Y #[A (Z c.name),J k (E c.aB) d,J e (E c.rows) b,ι ρ c.count,A (Z c.aR),J b4 b3 b2] 54)=v):=f.symm;have e3:Q a v:=by rw[f];exact ai a _
 have c1:v.heap[D (I a)]? =M (Y #[A (Z c.name),J k (E c.aB) d,J e (E c.rows) b,ι ρ c.count,A (Z c.aR),J b4 b3 b2] 54 (0,0)):=by rw[f];exact δ a _
 have k3:D (I v)=D (I a)+1:=by rw[f];simp[ν]
 have a0:∀j:ο,Q v j->α j (G (D (I a)) 1 U)=M (J k (E c.aB) d)/\α j (G (D (I a)) 2 U)=M (J e (E c.rows) b)/\D (I a)<D (I j):=by
  intro j r;have i:=(r.block (D (I a)) aa).trans c1;have:=r.size;exact⟨aC i,aC i,aa⟩
 obtain⟨_,cap,h5,h6,m,i⟩:=g9
 cases h5;rcases(id i)with s|⟨K,b5,rfl,a1,b6⟩
 ·rw[s]at c0;simp at c0
 obtain⟨L,w⟩:=au (E c.aB);obtain⟨N,a2⟩:=au (E c.rows);rw[<-w]at c0 h0 h2 h3 c1 g ⊢;rw[<-a2]at h1 h4 c1 g ⊢;simp only[<-w,<-a2]at a0;rw[<-w]at h6;change V _ at w;change V _ at a2;change V _ at b6;change V _ at b0;clear f i m;go_enter func119,ntmps119;go_wp2_with fail;rw[g.out];clear g;go_loopg [3] L (λgk b1 wr=>∃i:A6,gk=L-i/\i<=L/\b1=ι ρ i/\Q v wr/\V (dL [] c.aB=dL (c.aB.take i) (c.aB.drop i)))
 ·exact⟨0,H,υ _,H,μ _ _,H⟩
 obtain⟨i,a3,_,rfl,T,o⟩:=hrel;subst a3;generalize f:wr=wo at*;clear f;obtain⟨O,P,W⟩:=a0 wo T;have e5:=T.size;have m:Q a wo:=bT e3 T;by_cases k4:i<L
 ·have b7:i<E c.aB:=by have:=w.out;omega
  obtain⟨f,x⟩:=au (c.aB[i]);obtain⟨⟨y,a4,g⟩,e6,e7⟩:=b6.out i f (by rw[x];exact γ b7);have R:=cK m a1 y;have e8:=cK m a1 a4;have e9:=cK m a1 g;have g5:K<D (I wo):=cz m.size;have n:c.aB.drop i=f::c.aB.drop (i+1):=by rw[x];exact ε b7
  have c5:c.aB.take (i+1)=c.aB.take i++ [f]:=by rw[Φ b7,<-x]
  rw[n]at o;have C:∀j:ο,A1 φ 111 #[A (Z f.1)] j (RE (B4 (aW f.1)) j):=by
   intro j;have:=iZ (Z f.1) j (by rw[aX];exact e6);rw[ay]at this;exact this
  have F:∀j:ο,A1 φ 115 #[A (Z f.2.1)] j (RE (B4 (f.2.1.all fM)) j):=by
   intro j;have:=zS (Z f.2.1) j (by rw[aX];exact e7);rw[ay]at this;exact this
  have u:=oV f;have X:(Z f.2.1).size=E f.2.1:=aX _;obtain⟨g0,p⟩:=au (aW f.1);obtain⟨g1,a5⟩:=au (f.2.1.all fM);rw[<-p]at C u;rw[<-a5]at F u;change V _ at u;change V _ at c5;clear p a5 x n y a4 g
  cases g0 with
  |false=>
   have n:V (bG c=κ):=by rw[V,B.out,o.out,su (by rw[u.out];rfl)];rfl
   go_wp2_with(first
    |(go_at_call 111;refine bP (C _) ?_)
    |(go_at_call 115;refine bP (F _) ?_))
   go_ret;exact⟨aG n.symm,m.alloc m.size _⟩
  |true=>
   cases g1 with
   |false=>
    have n:V (bG c=κ):=by rw[V,B.out,o.out,su (by rw[u.out];rfl)];rfl
    go_wp2_with(first
     |(go_at_call 111;refine bP (C _) ?_)
     |(go_at_call 115;refine bP (F _) ?_))
    go_ret;exact⟨aG n.symm,m.alloc m.size _⟩
   |true=>
    by_cases a9:E f.2.1=1
    ·have c6:(((Z f.2.1).size:B1) != 1)=κ:=by rw[X,a9];rfl
     clear X;by_cases b8:f.2.2<1
     ·have c7:decide (f.2.2<1)=Θ:=Ω b8;have n:V (bG c=κ):=by rw[V,B.out,o.out,su (by rw[u.out];rw[τ (show¬1<=f.2.2 by omega)];simp)];rfl
      go_wp2_with(first
       |(go_at_call 111;refine bP (C _) ?_)
       |(go_at_call 115;refine bP (F _) ?_))
      go_ret;exact⟨aG n.symm,m.alloc m.size _⟩
     have c7:decide (f.2.2<1)=κ:=τ b8;by_cases b9:1000000<f.2.2
     ·have c8:decide (1000000<f.2.2)=Θ:=Ω b9;have n:V (bG c=κ):=by rw[V,B.out,o.out,su (by rw[u.out];rw[τ (show¬f.2.2<=1000000 by omega)];simp)];rfl
      go_wp2_with(first
       |(go_at_call 111;refine bP (C _) ?_)
       |(go_at_call 115;refine bP (F _) ?_))
      go_ret;exact⟨aG n.symm,m.alloc m.size _⟩
     have c8:decide (1000000<f.2.2)=κ:=τ b9;have g2:V (mG f=Θ):=by
      rw[V,u.out,Ω a9,Ω (show 1<=f.2.2 by omega),Ω (show f.2.2<=1000000 by omega)];rfl
     have e0:=ai wo (Y #[A (Z f.1),A (Z f.2.1),ι ρ f.2.2] 50);have e1:=δ wo (Y #[A (Z f.1),A (Z f.2.1),ι ρ f.2.2] 50);have g3:D (I (wo.alloc (Y #[A (Z f.1),A (Z f.2.1),ι ρ f.2.2] 50)))=D (I wo)+1:=ek;obtain⟨c9,c2⟩:=au (wo.alloc (Y #[A (Z f.1),A (Z f.2.1),ι ρ f.2.2] 50));have g:V (wo.alloc (Y #[A (Z f.1),A (Z f.2.1),ι ρ f.2.2] 50)=c9):=c2.symm;rw[<-c2]at e0 e1 g3;clear c2 a9 b8 b9;go_wp2_with(first
      |(go_at_call 111;refine bP (C _) ?_)
      |(go_at_call 115;refine bP (F _) ?_))
     rw[g.out];clear g C F R e8 e9 O P c6 c7 c8;go_loopw [7] (λa6 S=>∃g:A6,g<=i/\a6=ι ρ g/\Q c9 S/\V (kL f.1 (c.aB.take i)=kL f.1 ((c.aB.take i).drop g))) (λa6 _=>i-(G0 a6).toNat)
     ·exact⟨0,υ _,H,μ _ _,H⟩
     obtain⟨g,h7,rfl,z,p⟩:=hrel;generalize c3:wr=wj at*;clear c3;have e2:Q wo wj:=bT e0 z;have a7:Q v wj:=bT T e2;have q:Q a wj:=bT m e2;obtain⟨O,P,_⟩:=a0 wj a7;have g6:α wj (G (D (I wo)) 0 U)=M (A (Z f.1)):=(aI ((z.block (D (I wo)) aa).trans e1)).trans H;have g7:D (I wo)<D (I wj):=cz z.size;have g8:K<D (I wj):=aa;by_cases h8:g<i
     ·have g4:g<E c.aB:=by omega
      obtain⟨⟨y,_,_⟩,_⟩:=b6.out g c.aB[g] (γ g4);have R:=cK q a1 y;have a8:g<L:=aa;have h9:(Z c.aB[g].1).toList=c.aB[g].1:=ay;have i0:(Z f.1).toList=f.1:=ay;have t:V (kL f.1 ((c.aB.take i).drop g)=((c.aB[g].1==f.1)||kL f.1 ((c.aB.take i).drop (g+1)))):=by
       have c4:g<E (c.aB.take i):=PS;rw[V,ε c4];simp[kL,List.getElem_take]
      clear y
      cases e4:(c.aB[g].1==f.1)with
      |true=>
       have n:V (bG c=κ):=by rw[V,B.out,o.out,Xl (by rw[p.out,t.out,e4];rfl)];rfl
       clear t p o;go_wp2_with fail;go_region;all_goals(try go_wp2_with fail)
       all_goals go_ret
       all_goals exact⟨aG n.symm,by first|exact q|exact q.drew⟩
      |false=>
       have c4:V (kL f.1 (c.aB.take i)=kL f.1 ((c.aB.take i).drop (g+1))):=by rw[V,p.out,t.out,e4];rfl
       clear t p;go_wp2_with fail;go_region;all_goals(try go_wp2_with fail)
       all_goals go_roundw
       case rel=>exact⟨g+1,aa,aP,by first|exact z|exact z.drew,c4⟩
       simp[G0];omega
     have e4:V (dL [] c.aB=dL (c.aB.take (i+1)) (c.aB.drop (i+1))):=by
      have g4:kL f.1 (c.aB.take i)=κ:=by rw[p.out,θ PS];rfl
      rw[V,o.out,Xm g2.out g4,c5.out]
     clear p o
     go_wp2
     go_roundg (L-(i+1))
     case measure=>omega
     exact⟨i+1,H,aa,aP,a7,e4⟩
    have c6:(((Z f.2.1).size:B1) != 1)=Θ:=by rw[X];simp;omega
    clear X;have n:V (bG c=κ):=by rw[V,B.out,o.out,su (by rw[u.out];rw[τ a9];rfl)];rfl
    go_wp2_with(first
     |(go_at_call 111;refine bP (C _) ?_)
     |(go_at_call 115;refine bP (F _) ?_))
    go_ret;exact⟨aG n.symm,m.alloc m.size _⟩
 have h9:i=L:=aa;subst h9;have u:dL [] c.aB=Θ:=by rw[o.out,θ (by have:=w.out;omega)];rfl
 have i0:V (∀f∈c.aB,mG f=Θ):=jZ c.aB [] u;have c2:V (bG c=c.rows.all λl=>jI l c.aB):=by rw[V,B.out,u,F7]
 obtain⟨_,_,i1,C,e4⟩:=b0.out
 cases i1;change V _ at e4;clear o B b0 u C;go_wp2_with fail;go_loopg [8] N (λgk b1 S=>∃l:A6,gk=N-l/\l<=N/\b1=ι ρ l/\Q v S/\V ((c.rows.all λl=>jI l c.aB)=(c.rows.drop l).all λl=>jI l c.aB))
 ·exact⟨0,H,υ _,H,T,H⟩
 clear T O P W e5 m;obtain⟨l,a3,_,rfl,c5,C⟩:=hrel;subst a3;generalize m:wr=wq at*;clear m;obtain⟨O,P,W⟩:=a0 wq c5;have T:Q a wq:=bT e3 c5;by_cases k5:l<N
 ·have b7:l<E c.rows:=by have:=a2.out;omega
  rcases e4.out with s|⟨F,a9,rfl,e5,o⟩
  ·rw[s]at b7;simp at b7
  obtain⟨row,m⟩:=au (c.rows[l]);obtain⟨_,_,c6,y,i2⟩:=o l row (by rw[m];exact γ b7);obtain⟨_,_,i3,_,e6⟩:=i2
  cases i3;have R:=cK T e5 y;have k6:F<D (I wq):=cz T.size;have b0:V (((c.rows.drop l).all λl=>jI l c.aB)=(jI row c.aB&&(c.rows.drop (l+1)).all λl=>jI l c.aB)):=by
   rw[V,ε b7,List.all_cons,<-m]
  change V _ at e6;change V _ at y;clear o m;by_cases b8:E row=i
  ·have i4:((E row:B1) != (i:B1))=κ:=by rw[b8];simp
   have c7:V _:=b8;clear b8;go_wp2_with fail;go_region;all_goals(try go_wp2_with fail)
   go_loopg [9] i (λgk a6 S=>∃g:A6,gk=i-g/\g<=i/\a6=ι ρ g/\Q wq S/\V (jI row c.aB=jI (row.drop g) (c.aB.drop g)))
   ·exact⟨0,H,υ _,H,(μ _ wq).drew,H⟩
   clear O P W R;obtain⟨g,a3,h7,rfl,z,p⟩:=hrel;subst a3;generalize c3:wr=wj at*;clear c3;have a7:Q v wj:=bT c5 z;have q:Q a wj:=bT T z;obtain⟨O,P,W⟩:=a0 wj a7;by_cases h8:g<i
   ·have a8:g<E c.aB:=by have:=w.out;omega
    have X:g<E row:=cz c7.out;obtain⟨f,x⟩:=au (c.aB[g]);obtain⟨⟨_,a4,_⟩,_⟩:=b6.out g f (by rw[x];exact γ a8);have b1:=i0.out f (by rw[x];exact B3 a8);rw[oV]at b1;simp only[ξ,C5]at b1;obtain⟨o,b9⟩:∃o,f.2.1= [o]:=by
     have:=b1.1.1.2.2
     match f.2.1,this with
     | [o],_=>exact⟨o,H⟩
    have g1:fM o=Θ:=by have:=b1.1.1.2.1;rw[b9]at this;simpa using this
    rcases e6.out with s|⟨u,B,rfl,e2,g0⟩
    ·rw[s]at X;simp at X
    obtain⟨m,c9⟩:=au (row[g]);obtain⟨g5,g6,g7⟩:=g0 g m (by rw[c9];exact γ X);have j7:=cK q e2 g5;have j8:=cK q e2 g6;have j9:=cK q e2 g7;have g8:=cK q a1 a4;rw[b9,show Z [o]=⟨#[o]⟩from H]at g8;obtain⟨_,_,_,g3,j0⟩:∃e g4 b,α a ⟨F,a9+l,U⟩=M (J e g4 b)/\(J e g4 b=J (M (G u B U)) (E row) c6):=⟨_,_,_,y,H⟩
    cases j0;have R:=cK q e5 g3;have e0:u<D (I wj):=cz q.size;have j1:K<D (I wj):=cz q.size;have j2:F<D (I wj):=cz q.size;have a5:iF f=lK o.toNat:=by obtain⟨_,j5,_⟩:=f;have:j5= [o]:=b9;subst this;rfl
    have t:V (jI (row.drop g) (c.aB.drop g)=(dZ (m.1,m.2.1,m.2.2) (lK o.toNat)&&jI (row.drop (g+1)) (c.aB.drop (g+1)))):=by
     rw[V,ε X,ε a8,jI,<-c9,<-x,a5]
    have e7:∀j:ο,Q wj j->A1 φ 73 #[B0 #[ι ρ m.1,ι ρ m.2.1,A (Z m.2.2)],ι .u8 (o.toNat:B1)] j (RB (B4 (dZ (m.1,m.2.1,m.2.2) (lK o.toNat))) wj):=by
     intro j r;have:=Gh m.1 m.2.1 (Z m.2.2) g1 j;rw[ay]at this;exact this.mono λi9 _ s=>⟨s.1,bT r s.2⟩
    obtain⟨g2,e1⟩:=au (dZ (m.1,m.2.1,m.2.2) (lK o.toNat));rw[<-e1]at t;simp only[<-e1]at e7;have j3:g<E row:=X;have e8:E row=i:=c7.out;rw[e8]at R;clear e1 a5 c9 x b1 a4 g5 g6 g7 g3 g0 g1 b9 j3 e8 X a8;go_upto_region 24 with fail
    go_cut [10] (λj6 S=>j6=B4 g2/\Q wj S)
    ·have i7:∀j:ο,Q wj j->α j (G (D (I a)) 1 U)=M (J (M (G K b5 U)) i d)/\α j (G (D (I a)) 2 U)=M (J (M (G F a9 U)) N b)/\α j ⟨F,a9+l,U⟩=M (J (M (G u B U)) i c6)/\α j ⟨u,B+g*3,U⟩=M (ι ρ m.1)/\α j ⟨u,B+g*3+1,U⟩=M (ι ρ m.2.1)/\α j ⟨u,B+g*3+2,U⟩=M (A (Z m.2.2))/\α j ⟨K,b5+g*3+1,U⟩=M (A ⟨#[o]⟩):=λj r=>⟨cK r W O,cK r W P,cK r j2 R,cK r e0 j7,cK r e0 j8,cK r e0 j9,cK r j1 g8⟩;go_region_held2 (λj=>α j (G (D (I a)) 1 U)=M (J (M (G K b5 U)) i d)/\α j (G (D (I a)) 2 U)=M (J (M (G F a9 U)) N b)/\α j ⟨F,a9+l,U⟩=M (J (M (G u B U)) i c6)/\α j ⟨u,B+g*3,U⟩=M (ι ρ m.1)/\α j ⟨u,B+g*3+1,U⟩=M (ι ρ m.2.1)/\α j ⟨u,B+g*3+2,U⟩=M (A (Z m.2.2))/\α j ⟨K,b5+g*3+1,U⟩=M (A ⟨#[o]⟩)) (go_keep) (first|(go_at_call 73;refine(e7 _ ?_).mono ?_;(first|exact μ _ wj|exact(μ _ wj).drew);rintro i9 k0 ⟨rfl,c8⟩;obtain⟨_,_,_,_,_,_,_⟩:=i7 k0 c8));all_goals(go_wp2;go_meet)
     all_goals exact⟨H,by first|exact c8|exact c8.drew⟩
    obtain⟨rfl,e9⟩:=hcut;have i5:Q a wc:=bT q e9;have i6:Q wq wc:=bT z e9
    cases g2 with
    |true=>
     have c4:V (jI row c.aB=jI (row.drop (g+1)) (c.aB.drop (g+1))):=by rw[V,p.out,t.out];rfl
     clear t p
     go_wp2
     go_roundg (i-(g+1))
     case measure=>omega
     exact⟨g+1,H,aa,aP,i6,c4⟩
    |false=>
     have n:V (bG c=κ):=by rw[V,c2.out,C.out,b0.out,p.out,t.out];rfl
     clear t p
     go_wp2
     go_ret;exact⟨aG n.symm,i5⟩
   have i8:V (((c.rows.all λl=>jI l c.aB))=(c.rows.drop (l+1)).all λl=>jI l c.aB):=by
    have j4:jI row c.aB=Θ:=by
     rw[p.out,θ (by have:=c7.out;omega),θ (by have:=w.out;omega)];rfl
    rw[V,C.out,b0.out,j4,F7]
   clear p b0 C
   go_wp2
   go_roundg (N-(l+1))
   case measure=>omega
   exact⟨l+1,H,aa,aP,a7,i8⟩
  have n:V (bG c=κ):=by
   rw[V,c2.out,C.out,b0.out,EN row c.aB (by rw[<-w.out];exact b8)];rfl
  have i4:((E row:B1) != (i:B1))=Θ:=aN;clear b0 C;go_wp2_with fail;go_region;all_goals(try go_wp2_with fail)
  all_goals go_ret
  all_goals exact⟨aG n.symm,by first|exact T|exact T.drew⟩
 have n:V (bG c=Θ):=by rw[V,c2.out,C.out,θ (by have:=a2.out;omega)];rfl
 clear C
 go_wp2
 go_ret;exact⟨aG n.symm,T⟩
theorem EI(l i g)(n:dC a (J e d b) c.aB)(o:G4 a (J k j f) c.rows):
  A1 φ 119 #[B0 #[A (Z c.name),J e d b,J k j f,ι ρ c.count,A (Z c.aR),J l i g]] a (RB (B4 (bG c)) a):=by
 have q:d=E c.aB:=by obtain⟨_,_,m,_⟩:=n;cases m;rfl
 have r:j=E c.rows:=by obtain⟨_,_,m,_⟩:=o;cases m;rfl
 subst q r;by_cases p:1<=E c.aB/\E c.aB<=4/\0<=c.count/\c.count<=1000000/\E c.rows<=10
 ·exact CU l i g n o p
 exact EJ a e b k f l i g p
theorem XQ:(φ.info? 9).map (λa=>(a.zero,a.size,a.bytes))=M (M (A ⟨#[]⟩),1,16):=aF
theorem adh:(φ.info? 5).map (λa=>(a.zero,a.size,a.bytes))=M (M (ι .u8 0),1,1):=aF
theorem Ag{k t v}(C:o.heap[b]? =M (Y K v (0,0)))(own:o.ownsRow (b+1) t 1 (J e j f) d n)(i:Γ b j9 o)(l:(o.alloc j8).drew.grownBy a (J e j f).ownBlock)(O:a.ownsRow (b+1) t 1 (J (M (G p 0 U)) (d+1) m) (d+1) (n++k0))(q):
  a.heap[b]? =M (Y K v (0,0))/\(a.setCell (G b k U) q).heap[b]? =M (Y (K.setIfInBounds k q) v (0,0))/\
  (a.setCell (G b k U) q).ownsRow (b+1) t 1 (J (M (G p 0 U)) (d+1) m) (d+1) (n++k0)/\Γ b j9 (a.setCell (G b k U) q)/\
  ∀(u:G3) (x:Ξ) (w:A6) (y:ω Ξ),u≠t->o.ownsRow (b+1) u 1 x w y->(a.setCell (G b k U) q).ownsRow (b+1) u 1 x w y:=by
 have P:=af C;have R:=l.size;simp only[World.size_drew,ν]at R;have S:(J e j f).ownBlock≠M b:=λc=>cz ((own.lt _ c).1);have ah:∀g,g<D (I o)->(J e j f).ownBlock≠M g->a.heap[g]? =o.heap[g]? :=λg T W=>
  (l.block g LZ (λc=>W c.symm)).trans (C1 _ _ _ T)
 have F:a.heap[b]? =M (Y K v (0,0)):=(ah b P S).trans C;refine⟨F,by simp[D0,D4,F],F3 O (by show b<b+1;omega) _, ?_,λu x w y X z=>?_⟩
 ·suffices r:Γ b j9 a from r.setCell (p:=(G b k U)) (ζ _) _
  refine⟨l.os.trans i.os,l.tape.trans i.tape,l.output.trans i.output,cz i.size,λg s=>?_⟩;exact(ah g aa (λc=>cz ((own.lt _ c).1))).trans (i.block g s)
 refine F3 (aD z λL s=>ah L (z.lt L s).2 λc=>?_) (by show b<b+1;omega) _;rcases own.2 with⟨r,_⟩|⟨_,_,_,r,_,a0,_⟩
 ·rw[r]at c;cases c
 rw[r]at c;cases c;rcases z.2 with⟨B,_⟩|⟨_,_,_,B,_,N,_⟩
 ·rw[B]at s;cases s
 rw[B]at s;cases s;rw[a0]at N;cases N;exact X H
def qi:Bs:=[114,111,119]
def nmC(cs:ω gB):ω Ξ:=cs.map λc=>A (Z (bD qi c).1)
def ltC(cs:ω gB):ω Ξ:=cs.map λc=>ι .u8 (pQ (iF c))
def afz(W4:ο)(O:A6)(cs:ω gB)(fv:Ξ)(i:A6)(wr:ο):Prop:=∃(a1:A0 C6) (n1 c1:A6) (a2:A0 C6) (n2 c2:A6),wr.heap[O]? =M (Y #[J a1 n1 c1,J a2 n2 c2,A ⟨#[]⟩,fv] 214 (0,0))/\wr.ownsRow (O+1) 9 1 (J a1 n1 c1) i (nmC (cs.take i))/\wr.ownsRow (O+1) 5 1 (J a2 n2 c2) i (ltC (cs.take i))/\Γ O W4 wr
theorem afw:ByteArray.mk #[114,111,119,46]++Z v=Z (qi++ [46]++v):=WV [114,111,119,46] v
theorem nY{m len}(own:a.ownsRow b m 1 (J e f d) len n):f=len/\len<=d/\(len=0\/∃c,e=M (G c 0 U)/\b<=c/\c<D (I a)/\∀(g:A6) (i:Ξ),n[g]? =M i->α a (G c g U)=M i):=by
 have:=own.1;rcases own.2 with⟨j,k⟩|⟨c,cap,_,j,o,p,q,_⟩
 ·cases j;exact⟨k.symm,aa,A3 k⟩
 cases j;refine⟨H,q,F0 ⟨c,H,o,af p,λg i l=>?_⟩⟩;have:=(A7.mp l).1;exact(own.cellAt g aa).trans l
structure ig where
 t:aJ
 x:Ex
 tr:Tr
 g:Nat
 cap:Nat
 co:Option Addr
 cn:Nat
 cc:Nat
 ro:Option Addr
 rn:Nat
 rc:Nat
 uo:Option Addr
 un:Nat
 uc:Nat
def wE(r:ig):ω Ξ:=[A (Z r.t.name),J r.co r.cn r.cc,J r.ro r.rn r.rc,ι ρ r.t.count,A (Z r.t.aR),J r.uo r.un r.uc]
def mq(l:ω ig):ω Ξ:=l.flatMap wE
def YU(r:ig):Ξ:=J (M ⟨r.g,0,U⟩) (E (C3 r.tr)) r.cap
def xm(l:ω ig):ω Ξ:=l.map YU
theorem Oy(a b):mq (a++b)=mq a++mq b:=by simp[mq]
theorem pz:∀(e:ω ig) (c:A6) (d:ig) (b:A6),e[c]? =M d->b<6->(mq e)[c*6+b]? =(wE d)[b]?
 | [],c,r,b,h,_=>by simp at h
 |a::rs,0,r,b,h,hj=>by
  simp at h;subst h;rw[Nat.zero_mul,D5,mq,E6,C9 (by simp[wE];omega)]
 |a::rs,c+1,r,b,h,hj=>by
  have:=pz rs c r b (by simpa using h) hj;have f:E (wE a)=6:=by simp[wE]
  rw[mq,E6,C7 (by rw[f];omega),f,show(c+1)*6+b-6=c*6+b by omega];exact this
def yP(w:ο)(r:ig):Prop:=∃(cs:ω Ξ) (Bo:A6->B1),iN w r.g r.cap (post r.tr) Bo cs/\Bo (E (post r.tr)-1)=pQ r.x.ty/\(∀y∈post r.tr,kg y)/\lQ r.t.aR=M r.tr
theorem yP.ah{w x a}(b:yP w a)(c:Q w x):yP x a:=by
 obtain⟨d,Bo,e,f⟩:=b;exact⟨d,Bo,e.ah c,f⟩
theorem yP.move{x:ο}{d}(g:yP a d)(i:∀(c:A6) (e:Array Ξ) (b:G3) (f:A6×A6),a.heap[c]? =M (Y e b f)->b=183\/b=3->x.heap[c]? =a.heap[c]?):yP x d:=by
 obtain⟨j,Bo,k,l⟩:=g;exact⟨j,Bo,k.move i,l⟩
structure aeu(w:World)(r:ig):Prop where
 aB:dC w (.slice r.co r.cn r.cc) r.t.aB
 rows:RowsIn w (.slice r.ro r.rn r.rc) r.t.rows
 gZ:gD w (.slice r.uo r.un r.uc) r.t.gZ
def kU(w0 w:ο)(xb:A6)(l:ω Aj)(ts:ω ig):Prop:=∃(fo:A0 C6) (fnn fc:A6) (aS:A0 C6) (tn tc:A6) (po:A0 C6) (pn pc:A6),
 (D (I w0)<=xb/\Γ (D (I w0)) w0 w)/\w.heap[xb]? =M (Y #[J fo fnn fc,J aS tn tc,J po pn pc] 200 (0,0))/\
 (w.ownsRow (xb+1) 217 5 (J fo fnn fc) (E l) (gW l)/\E l<=8/\∀e∈l,pI w e)/\
 w.ownsRow (xb+1) 54 6 (J aS tn tc) (E ts) (mq ts)/\w.ownsRow (xb+1) 102 1 (J po pn pc) (E ts) (xm ts)/\E ts<=4/\∀r∈ts,aeu w0 r/\yP w r
theorem kU.ah{w x l f}(p:kU a w b l f)(d:Q w x):kU a x b l f:=by
 obtain⟨q,r,s,aS,t,u,v,y,z,⟨B,C⟩,g,⟨i,F,K⟩,j,k,L,m⟩:=p;exact⟨q,r,s,aS,t,u,v,y,z,⟨B,bT C d⟩,(d.block b (af g)).trans g,⟨aD i λc e=>d.block c (i.lt c e).2,F,λN O=>(K N O).ah d⟩,
  aD j λc e=>d.block c (j.lt c e).2,aD k λc e=>d.block c (k.lt c e).2,L,λo n=>⟨(m o n).1,(m o n).2.ah d⟩⟩
theorem Og{w0}(c:Ao a b i)(d:D (I w0)<=b)(e:Q w0 a):kU w0 a b i []:=by
 obtain⟨f,g,j,k,l,m,n⟩:=c;exact⟨f,g,j,U,0,0,U,0,0,⟨d,e⟩,k,⟨l,m,n⟩,σ _ _ _ _,σ _ _ _ _,ak,λ_ o=>by simp at o⟩
theorem Yp{aS}{c:ω ig}(j:a.ownsRow f 54 6 (J aS d b) (E c) (mq c))(p:E c<=4):oK a (J aS d b) (c.map (·.t.name)):=by
 rcases j.2 with⟨e,k⟩|⟨l,cap,_,e,_,_,_⟩
 ·cases e;exact⟨U,0,by rw[B6,k],by rw[B6];omega,A3 (by rw[B2.mp k];rfl)⟩
 cases e;refine⟨_,_,by rw[B6],by rw[B6];omega,F0 ⟨l,H,(j.lt l H).2,λm n g=>?_⟩⟩;rw[Ψ]at g
 cases i:c[m]? with
 |none=>rw[i]at g;cases g
 |some e=>
  rw[i]at g;have o:e.t.name=n:=C0 g;subst o;have:=(A7.mp i).1;exact(j.cellAt _ aa).trans (pz c m e 0 i aa)
def Er(aB:ω (Bs×B1)):ω Ξ:=aB.map λc=>A (Z c.1)
def Ib(aB:ω (Bs×B1)):ω Ξ:=aB.map λc=>ι .u8 (pQ c.2)
def aey(W4:ο)(O:A6)(as':Bs)(pre:ω (Bs×B1))(cs:ω gB)(fv:Ξ)(i:A6)(wr:ο):Prop:=∃(a1:A0 C6) (n1 c1:A6) (a2:A0 C6) (n2 c2:A6),wr.heap[O]? =M (Y #[J a1 n1 c1,J a2 n2 c2,A ⟨#[]⟩,fv] 214 (0,0))/\wr.ownsRow (O+1) 9 1 (J a1 n1 c1) (E pre+i) (Er (pre++(cs.take i).map (bD as')))/\wr.ownsRow (O+1) 5 1 (J a2 n2 c2) (E pre+i) (Ib (pre++(cs.take i).map (bD as')))/\Γ O W4 wr
def aay(w:ο)(fv:Ξ)(aB:ω (Bs×B1))(e:G5)(w':ο):Prop:=∃co' cn' cc' aS tn' tc',e=A9 (B0 #[J co' cn' cc',J aS tn' tc',A ⟨#[]⟩,fv])/\w'.ownsRow (D (I w)) 9 1 (J co' cn' cc') (E aB) (Er aB)/\w'.ownsRow (D (I w)) 5 1 (J aS tn' tc') (E aB) (Ib aB)/\Γ (D (I w)) w w'
theorem aU(c:α a (G b d U)=M l):b<D (I a):=World.block_lt_of_cell? a (G b d U) c
theorem ax(c:α a (G b d U)=M l)(e:Q a o):α o (G b d U)=M l:=cK e (aU c) c
theorem Nn{aS aB}(p:a.ownsRow b 9 1 (J e f d) (E aB) (Er aB))(q:a.ownsRow b 5 1 (J aS m j) (E aB) (Ib aB))(r:E aB<=1000)(hF:pJ a l u):qP a e f d aS m j l aB u:=by
 obtain⟨rfl,s,t⟩:=nY p;obtain⟨rfl,v,w⟩:=nY q;refine⟨H,H,r, ?_, ?_,s,v,hF⟩
 ·rcases t with c|⟨g,rfl,x,i,k⟩
  ·exact A3 (B2.mp c)
  exact F0 ⟨g,H,i,λo y n=>k o _ (by rw[Er,Ψ,n];rfl)⟩
 rcases w with c|⟨g,rfl,x,i,k⟩
 ·exact A3 (B2.mp c)
 exact F0 ⟨g,H,i,λo y n=>k o _ (by rw[Ib,Ψ,n];rfl)⟩
theorem zU(b:ο)(l:A0 C6)(k j:A6)(k3:ω RF)(f:Bs)(k1:E f<=1000)(a:ω (Bs×B1))(m7:E a<=12)(O:A0 C6)(N:A6)(R:A0 C6)(P:A6)(m:qP b O (E a) N R (E a) P (J l k j) a k3)(b9:a= []->(O=U/\N=0)/\R=U/\P=0)(d:aJ)(a8 a9:Ξ)(cnt:Ξ)(a1:A0 C6)(h4 L:A6)(b0 b1:Ξ)(k2:a8.oneCell'=Θ/\a9.oneCell'=Θ/\cnt.oneCell'=Θ/\b0.oneCell'=Θ/\b1.oneCell'=Θ)(k0:dC b (J a1 h4 L) d.aB)(c:bZ d.aB=Θ):
  A1 φ 120 #[B0 #[J O (E a) N,J R (E a) P,A ⟨#[]⟩,J l k j],A (Z f),B0 #[a8,J a1 h4 L,b0,cnt,a9,b1]] b λB k4=>aay b (J l k j) (a++d.aB.map (bD f)) B k4:=by
 obtain⟨h5,h6,h7,h8,h9⟩:=D7 XQ;obtain⟨i0,i1,i2,i3,i4⟩:=D7 adh;have i5:=jZ d.aB [] (by unfold bZ at c;rw[ξ]at c;exact c.2);have k5:=(xX c).2;have m8:E d.aB<=4:=by
  unfold bZ at c;rw[ξ,E9,B8,E1,E1]at c;omega
 obtain⟨_,cap,k6,_,r,i6⟩:=k0
 cases k6;obtain⟨n,p⟩:=au ((((b.alloc (Y #[J O (E a) N,J R (E a) P,A ⟨#[]⟩,J l k j] 214)).alloc (Y #[a8,J a1 (E d.aB) L,b0,cnt,a9,b1] 54)).alloc (Y #[J U 0 0,J U 0 0,A ⟨#[]⟩,J U 0 0] 214)).alloc (Y #[J U 0 0,J U 0 0,A ⟨#[]⟩,J l k j] 214));have q:V (((((b.alloc (Y #[J O (E a) N,J R (E a) P,A ⟨#[]⟩,J l k j] 214)).alloc (Y #[a8,J a1 (E d.aB) L,b0,cnt,a9,b1] 54)).alloc (Y #[J U 0 0,J U 0 0,A ⟨#[]⟩,J U 0 0] 214)).alloc (Y #[J U 0 0,J U 0 0,A ⟨#[]⟩,J l k j] 214))=n):=p.symm;have e:=jF (w:=b) (o:=(Y #[J O (E a) N,J R (E a) P,A ⟨#[]⟩,J l k j] 214)) (o':=(Y #[a8,J a1 (E d.aB) L,b0,cnt,a9,b1] 54)) (o2:=(Y #[J U 0 0,J U 0 0,A ⟨#[]⟩,J U 0 0] 214)) (ai _ (Y #[J U 0 0,J U 0 0,A ⟨#[]⟩,J l k j] 214));rw[<-p]at e;have K:n.heap[D (I b)+3]? =M (Y #[J U 0 0,J U 0 0,A ⟨#[]⟩,J l k j] 214 (0,0)):=by
  rw[p];have:=δ (((b.alloc (Y #[J O (E a) N,J R (E a) P,A ⟨#[]⟩,J l k j] 214)).alloc (Y #[a8,J a1 (E d.aB) L,b0,cnt,a9,b1] 54)).alloc (Y #[J U 0 0,J U 0 0,A ⟨#[]⟩,J U 0 0] 214)) (Y #[J U 0 0,J U 0 0,A ⟨#[]⟩,J l k j] 214);simp only[ν]at this;exact this
 have k7:D (I n)=D (I b)+4:=by rw[p];simp[ν]
 change V _ at k7;change V _ at i6;change V _ at i5;have g2:V (a= []\/∃o,O=M (G o 0 U)/\o<D (I b)/\∀(g:A6) (i:Bs×B1),a[g]? =M i->α b (G o g U)=M (A (Z i.1))):=m.zu;have g3:V (a= []\/∃o,R=M (G o 0 U)/\o<D (I b)/\∀(g:A6) (i:Bs×B1),a[g]? =M i->α b (G o g U)=M (ι .u8 (pQ i.2))):=m.Qp;change V _ at b9;have n0:=m.acR;have n1:=m.KP;obtain⟨_,_,_,_,_⟩:=k2;have n2:(Z f).size<=1000:=by rw[aX];exact k1
 clear p r c m;go_enter func120,ntmps120;go_upto_region 2 with fail
 rw[q.out];clear q;obtain⟨c,m⟩:=au (D (I b)+3);have e7:V (c=D (I b)+3):=m;rw[<-m]at K ⊢;clear m;have a4:=af K;have e1:V (Q b n):=e.2.2.2.1;have c7:V (n.heap[D (I b)]? =_):=e.1;have i7:V (n.heap[D (I b)+1]? =_):=e.2.1;have k8:V (n.heap[D (I b)+2]? =_):=e.2.2.1;clear e;go_cut [7] (λc0 t=>c0=η (M (G c 0 U))/\∃(q:A0 C6) (r:A6),t.heap[c]? =M (Y #[J q (E a) r,J U 0 0,A ⟨#[]⟩,J l k j] 214 (0,0))/\V (t.ownsRow (c+1) 9 1 (J q (E a) r) (E a) (Er a))/\Γ c n t)
 ·obtain⟨⟨b2,b3,a2,b4⟩,b5,b6,_,_⟩:=bM K;obtain⟨⟨c8,c9,e0,e4⟩,_⟩:=bM c7;have g5:=af c7;rcases g2.out with a0|⟨o,rfl,e2,T⟩
  ·obtain⟨⟨rfl,rfl⟩, -, -⟩:=b9.out a0;subst a0
   go_wp2
   go_meet;exact⟨H,U,0,(aQ (P:=φ) (j:=0) K ak (v:=J U 0 0) H).2,σ _ _ _ _,(μ _ _).setCell (p:=(G c 0 U)) (ζ _) _⟩
  have a6:V (∀(p:A6) (s:Ξ),(Er a)[p]? =M s->α n (G2 (G o 0 U) p)=M s):=λp s u=>by
   rw[Er,Ψ]at u
   cases z:a[p]? with
   |none=>rw[z]at u;cases u
   |some i=>rw[z]at u;rw[G1,D5,<-C0 u];exact ax (T p i z) e1
  have a7:V (E (Er a)=E a*1):=by simp[V,Er]
  have b7:V (∀s∈Er a,s.oneCell'=Θ):=λs v=>by
   simp only[Er,B5]at v;obtain⟨g6, -,rfl⟩:=v;rfl
  clear T;go_wp2_with(at_builtin;refine F9 _ H (.tmp 15) (.tmp 17) 52 H (c+1) 9 h5 _ 1 16 E8 h6 h7 h8 h9 H ag (J U 0 0) 0 [] H (σ _ _ _ _) (G o 0 U) (E a) N (Er a) H a7 a6 b7 fD aa aa ?_);intro e6 x F y _;obtain⟨q,r,rfl⟩:∃q r,e6=J q (E a) r:=by
   rcases F.2 with⟨B,c6⟩|⟨g7,g8,g9,B,_⟩
   ·exact⟨U,0,by rw[B,c6]⟩
   exact⟨_,_,B⟩
  have w:x.heap[c]? =M (Y #[J U 0 0,J U 0 0,A ⟨#[]⟩,J l k j] 214 (0,0)):=(y.block c a4 (by simp[A4])).trans K;have C:V (x.ownsRow (c+1) 9 1 (J q (E a) r) (E a) (Er a)):=by rw[V];simpa using F
  have e8:V (Γ c n x):=(μ c n).grown y aa (λc1 e9=>by simp[A4]at e9);obtain⟨⟨c2,c3,c4,c5⟩,h0,g0,_,_⟩:=bM w;have h1:=af w;have g1:V _:=w;clear F y b2 b3 a2 b4 b5 b6 c8 c9 e0 e4 a6 a7 b7 w
  go_wp2
  go_meet;refine⟨H,q,r,(aQ (P:=φ) (j:=0) g1 ak (v:=J q (E a) r) H).2,aD C λe m=>β _ _ _ _ ?_,e8.setCell (p:=(G c 0 U)) (ζ _) _⟩;show e≠c;have:=(Δ C e m).1;omega
 case rest=>
 obtain⟨rfl,q,r,W,b8,X⟩:=hcut;generalize a5:wc=w5 at*;clear a5 K a4;go_upto_region 3 with fail
 go_cut [7] (λc0 t=>c0=η (M (G c 0 U))/\∃(a4:A0 C6) (a5:A6),t.heap[c]? =M (Y #[J q (E a) r,J a4 (E a) a5,A ⟨#[]⟩,J l k j] 214 (0,0))/\V (t.ownsRow (c+1) 9 1 (J q (E a) r) (E a) (Er a))/\V (t.ownsRow (c+1) 5 1 (J a4 (E a) a5) (E a) (Ib a))/\Γ c n t)
 ·obtain⟨⟨b2,b3,a2,b4⟩,b5,b6,_,_⟩:=bM W;have g4:Q b w5:=e1.out.trans (X.mono (by have:=e7.out;omega));have K:=(X.block (D (I b)) (by have:=e7.out;omega)).trans c7;obtain⟨⟨c8,c9,e0,e4⟩,_⟩:=bM K;have g5:=af K;have h2:=af W;rcases g3.out with a0|⟨o,rfl,e2,T⟩
  ·obtain⟨-,rfl,rfl⟩:=b9.out a0;subst a0
   go_wp2
   go_meet;refine⟨H,U,0,(aQ (P:=φ) (j:=1) W ak (v:=J U 0 0) H).2,aD b8 λe m=>β _ _ _ _ ?_,σ _ _ _ _,X.setCell (p:=(G c 1 U)) (ζ _) _⟩;show e≠c;have:=(Δ b8 e m).1;omega
  have a6:V (∀(p:A6) (s:Ξ),(Ib a)[p]? =M s->α w5 (G2 (G o 0 U) p)=M s):=λp s u=>by
   rw[Ib,Ψ]at u
   cases z:a[p]? with
   |none=>rw[z]at u;cases u
   |some i=>rw[z]at u;rw[G1,D5,<-C0 u];exact ax (T p i z) g4
  have a7:V (E (Ib a)=E a*1):=by simp[V,Ib]
  have b7:V (∀s∈Ib a,s.oneCell'=Θ):=λs v=>by
   simp only[Ib,B5]at v;obtain⟨g6, -,rfl⟩:=v;rfl
  change V _ at g4;have z:V (Γ c n w5):=X;have g6:V _:=W;clear T X K;go_wp2_with(at_builtin;refine F9 _ H (.tmp 21) (.tmp 23) 174 H (c+1) 5 i0 _ 1 1 E3 i1 i2 i3 i4 H ag (J U 0 0) 0 [] H (σ _ _ _ _) (G o 0 U) (E a) P (Ib a) H a7 a6 b7 fD aa aa ?_);intro e6 x F y _;obtain⟨a4,a5,rfl⟩:∃q r,e6=J q (E a) r:=by
   rcases F.2 with⟨B,c6⟩|⟨g7,g8,g9,B,_⟩
   ·exact⟨U,0,by rw[B,c6]⟩
   exact⟨_,_,B⟩
  have w:x.heap[c]? =M (Y #[J q (E a) r,J U 0 0,A ⟨#[]⟩,J l k j] 214 (0,0)):=(y.block c h2 (by simp[A4])).trans g6;have C:V (x.ownsRow (c+1) 5 1 (J a4 (E a) a5) (E a) (Ib a)):=by rw[V];simpa using F
  have c6:V (x.ownsRow (c+1) 9 1 (J q (E a) r) (E a) (Er a)):=aD b8 λe m=>y.block e (Δ b8 e m).2 (by simp[A4]);have e8:V (Γ c n x):=z.out.grown y aa (λc1 e9=>by simp[A4]at e9);obtain⟨⟨c2,c3,c4,c5⟩,h0,g0,_,_⟩:=bM w;have h1:=af w;have g1:V _:=w;clear F y b2 b3 a2 b4 b5 b6 c8 c9 e0 e4 a6 a7 b7 w W
  go_wp2
  go_meet;refine⟨H,a4,a5,(aQ (P:=φ) (j:=1) g1 ak (v:=J a4 (E a) a5) H).2,aD c6 λe m=>β _ _ _ _ ?_,aD C λe m=>β _ _ _ _ ?_,e8.setCell (p:=(G c 1 U)) (ζ _) _⟩
  ·show e≠c;have:=(Δ c6 e m).1;omega
  show e≠c;have:=(Δ C e m).1;omega
 case rest=>
 obtain⟨rfl,a4,a5,p,c6,u,w⟩:=hcut;generalize x:wc=w6 at*;clear x W X b8;have x:V (aey n c f a d.aB (J l k j) 0 w6):=⟨_,_,_,_,_,_,p,by simpa using c6.out,by simpa using u.out,w⟩;clear c6 u p w g2 g3 b9 c7;go_wp2_with fail;go_loopg [8] (E d.aB) (λgk p wr=>∃g:A6,gk=E d.aB-g/\g<=E d.aB/\p=ι ρ (g:B1)/\V (aey n c f a d.aB (J l k j) g wr))
 ·exact⟨0,H,υ _,H,x⟩
 clear x;obtain⟨g,k9,_,rfl,p⟩:=hrel;subst k9;obtain⟨W,X,a0,u,w,x,b7,y,F,a6⟩:=p.out;clear p;generalize p:wr=wo at*;clear p;have n3:=af b7;obtain⟨⟨b2,b3,a2,b4⟩,b5,b6,_,_⟩:=bM b7;have p:=e7.out;have e8:=(a6.block (D (I b)+1) aa).trans i7;have i8:α wo ⟨D (I b)+1,1,U⟩=M (J a1 (E d.aB) L):=aC e8;have c7:Q b wo:=e1.out.trans (a6.mono aa);have l0:D (I b)+1<D (I wo):=aa;have K:V (c=D (I b)+3):=p;clear p;by_cases a7:g<E d.aB
 ·rcases i6.out with l1|⟨o,l4,rfl,e2,T⟩
  ·rw[l1]at a7;simp at a7
  obtain⟨i,b8⟩:=au (d.aB[g]);obtain⟨⟨e0,i9,_⟩,_⟩:=T g i (by rw[b8];exact γ a7);have j7:=cK c7 e2 e0;have l7:o<D (I wo):=cz c7.size;have e6:E i.1<=1000:=k5 i (by rw[b8];exact B3 a7);have l8:(Z i.1).size<=1000:=by rw[aX];exact e6
  have e4:=Qf f i.1;have e9:Z f++ByteArray.mk #[46]=Z (f++ [46]):=rX f [46];have j0:(Z (f++ [46])).size<=1001:=by rw[aX];simp;omega
  rw[e9]at e4;have g0:¬9223372036854775807<(Z f).size+1:=aa;have j1:¬9223372036854775807<(Z (f++ [46])).size+(Z i.1).size:=aa;have g1:V (Er (a++(d.aB.take (g+1)).map (bD f))=Er (a++(d.aB.take g).map (bD f))++ [A (Z (f++ [46]++i.1))]):=by
   rw[V,Φ a7,<-b8];simp[Er,bD]
  have g2:V (∀p:UInt8,pQ (iF i)=(p.toNat:B1)->Ib (a++(d.aB.take (g+1)).map (bD f))=Ib (a++(d.aB.take g).map (bD f))++ [ι .u8 (p.toNat:B1)]):=λp b9=>by
   rw[Φ a7,<-b8];simp[Ib,bD,b9]
  obtain⟨l9,g4⟩:=au (f++ [46]++i.1);obtain⟨_,g5⟩:=au (f++ [46]);rw[<-g4]at e4 g1;rw[<-g5]at e4 e9 j0 j1;obtain⟨z,c8⟩:=au (E a+g);have j2:V (z=E a+g):=c8;have n4:z<=16:=aa;rw[<-c8]at y F;obtain⟨j3,g6⟩:=au (Er (a++(d.aB.take g).map (bD f)));obtain⟨g3,c9⟩:=au (Ib (a++(d.aB.take g).map (bD f)));rw[<-g6]at y g1;rw[<-c9]at F;simp only[<-c9]at g2;have e5:∀S:Obj,(wo.alloc S).drew.ownsRow (c+1) 9 1 (J W X a0) z j3:=λS=>ψ (χ y S);change V _ at b8;change V _ at b7;have C:V _:=y;have j4:V _:=F;clear T e0 g4 g5 y F e6 c8 g6 c9;go_upto_region 7 with fail
  go_cut [7] (λc0 t=>c0=η (M (G c 0 U))/\∃(g4:A0 C6) (g5 g6:A6),t.heap[c]? =M (Y #[J g4 g5 g6,J u w x,A ⟨#[]⟩,J l k j] 214 (0,0))/\V (t.ownsRow (c+1) 9 1 (J g4 g5 g6) (z+1) (Er (a++(d.aB.take (g+1)).map (bD f))))/\V (t.ownsRow (c+1) 5 1 (J u w x) z g3)/\Γ c n t)
  ·go_region_law (refine B7 _ H (.tmp 34) (.tmp 44) 52 H (c+1) 9 h5 _ 1 16 E8 h6 h7 h8 h9 H ag (J W X a0) z j3 jl (e5 _) (G (D (I wo)) 0 U) 1 1 [A (Z l9)] jl H (A2 (nO wo)) (by intro s v;simp at v;subst v;rfl) ag fD aa aN (D (I wo)+1) ak ?_;intro g7 g8 m0 t c0 m1 m2;have c8:=(Ag (k:=0) b7 C a6 c0 t (J U 0 0)).1;have m3:=af c8;obtain⟨⟨c2,c3,c4,c5⟩,j5,j6,_,_⟩:=bM c8)
   all_goals(go_wp2;go_meet)
   all_goals
    obtain⟨_,g9,h0,h1,h2⟩:=Ag (k:=0) b7 C a6 c0 t (J (M (G g7 0 U)) (z+1) g8);exact⟨H,_,_,_,g9,by rw[g1.out];exact h0,h2 5 _ _ _ ag j4,h1⟩
  obtain⟨rfl,g4,g5,g6,c9,m4,h3,e6⟩:=hcut;clear b2 b3 a2 b4 b5 b6 i8 j7 e5 e8;generalize e0:wc=w8 at*;clear e0;have n5:=af c9;obtain⟨⟨b2,b3,a2,b4⟩,b5,b6,_,_⟩:=bM c9;have j7:Q b w8:=e1.out.trans (e6.mono (by have:=K.out;omega));have i8:α w8 ⟨D (I b)+1,1,U⟩=M (J (M (G o l4 U)) (E d.aB) L):=(aI ((e6.block (D (I b)+1) (by have:=K.out;omega)).trans i7)).trans H;have n6:D (I b)+1<D (I w8):=cz K.out;have n7:o<D (I w8):=cz j7.size;have e0:=i5.out i (by rw[b8.out];exact B3 a7);rw[oV]at e0;simp only[ξ,C5]at e0;obtain⟨p,b9⟩:∃p,i.2.1= [p]:=by
   have:=e0.1.1.2.2
   match i.2.1,this with
   | [p],_=>exact⟨p,H⟩
  have j8:fM p=Θ:=by have:=e0.1.1.2.1;rw[b9]at this;simpa using this
  have j9:pQ (iF i)=(p.toNat:B1):=by
   have:iF i=lK p.toNat:=by obtain⟨_,m5,_⟩:=i;have:m5= [p]:=b9;subst this;rfl
   rw[this];exact(oq j8).2
  have m5:V _:=g2.out p j9;have m6:=cK j7 e2 i9;rw[b9,show Z [p]=⟨#[p]⟩from H]at m6;have e5:∀S:Obj,(w8.alloc S).drew.ownsRow (c+1) 5 1 (J u w x) z g3:=λS=>ψ (χ h3 S);change V _ at c9;clear e0 j8 j9 b9 i9 a6 b7 C j4 c7 l0 l7 l8 e4 e9 j0 g0 j1 g2;go_upto_region 8 with fail
  go_region_law (refine B7 _ H (.tmp 48) (.tmp 56) 174 H (c+1) 5 i0 _ 1 1 E3 i1 i2 i3 i4 H ag (J u w x) z g3 jl (e5 _) (G (D (I w8)) 0 U) 1 1 [ι .u8 (p.toNat:B1)] jl H (A2 (nO w8)) (by intro s v;simp at v;subst v;rfl) ag fD aa aN (D (I w8)+1) ak ?_;intro g7 g8 m0 t c0 m1 m2;have c8:=(Ag (k:=1) c9 h3 e6 c0 t (J U 0 0)).1;have m3:=af c8;obtain⟨⟨c2,c3,c4,c5⟩,j5,j6,_,_⟩:=bM c8)
  all_goals(go_wp2_with fail)
  all_goals go_roundg (E d.aB-(g+1))
  all_goals first
   |omega
   |(obtain⟨_,g9,h0,h1,h2⟩:=Ag (k:=1) c9 h3 e6 c0 t (J (M (G g7 0 U)) (z+1) g8)
     exact⟨g+1,H,aa,aP,_,_,_,_,_,_,g9,by rw[<-F8,<-j2.out];exact h2 9 _ _ _ ag m4,by rw[<-F8,<-j2.out,m5.out];exact h0,h1⟩)
 have v:g=E d.aB:=aa;subst v;rw[F1]at y F;have z:=(a6.block (D (I b)+2) (by have:=K.out;omega)).trans k8;obtain⟨⟨c2,c3,c4,c5⟩,j5,j6,_,_⟩:=bM z;have b8:D (I b)+2<D (I wo):=cz K.out;have p:E (a++d.aB.map (bD f))=E a+E d.aB:=ak;have s:∀e,e≠D (I b)+2->((((wo.setCell ⟨D (I b)+2,0,U⟩ (J W X a0)).setCell ⟨D (I b)+2,1,U⟩ (J u w x)).setCell ⟨D (I b)+2,2,U⟩ (A ⟨#[]⟩)).setCell ⟨D (I b)+2,3,U⟩ (J l k j)).heap[e]? =wo.heap[e]? :=λe m=>(β _ _ _ _ m).trans ((β _ _ _ _ m).trans ((β _ _ _ _ m).trans (β _ _ _ _ m)));have t:Q b ((((wo.setCell ⟨D (I b)+2,0,U⟩ (J W X a0)).setCell ⟨D (I b)+2,1,U⟩ (J u w x)).setCell ⟨D (I b)+2,2,U⟩ (A ⟨#[]⟩)).setCell ⟨D (I b)+2,3,U⟩ (J l k j)):=(((c7.setCell (p:=⟨D (I b)+2,0,U⟩) ak _).setCell (p:=⟨D (I b)+2,1,U⟩) ak _).setCell (p:=⟨D (I b)+2,2,U⟩) ak _).setCell (p:=⟨D (I b)+2,3,U⟩) ak _;have C:V (((((wo.setCell ⟨D (I b)+2,0,U⟩ (J W X a0)).setCell ⟨D (I b)+2,1,U⟩ (J u w x)).setCell ⟨D (I b)+2,2,U⟩ (A ⟨#[]⟩)).setCell ⟨D (I b)+2,3,U⟩ (J l k j)).ownsRow (D (I b)) 9 1 (J W X a0) (E (a++d.aB.map (bD f))) (Er (a++d.aB.map (bD f)))):=by
  rw[p];exact aD (bY y λe m=>by have:=(y.lt e m).1;have:=K.out;omega) λe m=>s e (by have:=(y.lt e m).1;have:=K.out;omega)
 have T:V (((((wo.setCell ⟨D (I b)+2,0,U⟩ (J W X a0)).setCell ⟨D (I b)+2,1,U⟩ (J u w x)).setCell ⟨D (I b)+2,2,U⟩ (A ⟨#[]⟩)).setCell ⟨D (I b)+2,3,U⟩ (J l k j)).ownsRow (D (I b)) 5 1 (J u w x) (E (a++d.aB.map (bD f))) (Ib (a++d.aB.map (bD f)))):=by
  rw[p];exact aD (bY F λe m=>by have:=(F.lt e m).1;have:=K.out;omega) λe m=>s e (by have:=(F.lt e m).1;have:=K.out;omega)
 change V _ at t;clear y F s p a6 c7 e8;go_wp2_with fail;exact A8 (v:=B0 #[J W X a0,J u w x,A ⟨#[]⟩,J l k j]) (by simp[D1,results120,go_sem,c2,c3,c4,c5]) H ⟨_,_,_,_,_,_,H,C,T,t⟩
theorem Oq(hF:pJ a (J e d b) u)(r q p x w v)(z:dC a (J k j f) c.aB)(o:bZ c.aB=Θ):
  A1 φ 120 #[B0 #[J U 0 0,J U 0 0,A ⟨#[]⟩,J e d b],A ⟨#[114,111,119]⟩,B0 #[A (Z c.name),J k j f,J r q p,ι ρ c.count,A (Z c.aR),J x w v]] a λn g=>∃m l i aS t s,n=A9 (B0 #[J m l i,J aS t s,A ⟨#[]⟩,J e d b])/\qP g m l i aS t s (J e d b) (c.aB.map (bD qi)) u/\Q a g:=by
 have B:qP a U 0 0 U 0 0 (J e d b) [] u:=⟨H,H,υ _,A3 H,A3 H,υ _,υ _,hF⟩;refine(zU a e d b u qi ag [] ag U 0 U 0 B (λ_=>⟨⟨H,H⟩,H,H⟩) c (A (Z c.name)) (A (Z c.aR)) (ι ρ c.count) k j f (J r q p) (J x w v) ⟨H,H,H,H,H⟩ z o).mono ?_;rintro n g ⟨C,F,K,L,N,O,P,R,S,y⟩;exact⟨C,F,K,L,N,O,P,Nn R S (by simpa using(xX o).1) (hF.ah y),y⟩
theorem XT:(φ.info? 54).map (λa=>(a.zero,a.size,a.bytes))=M (M (B0 #[A ⟨#[]⟩,J U 0 0,J U 0 0,ι ρ 0,A ⟨#[]⟩,J U 0 0]),6,112):=aF
theorem Hm:(φ.info? 102).map (λa=>(a.zero,a.size,a.bytes))=M (M (B0 #[J U 0 0]),1,24):=aF
theorem GL{k g m}(c:a.heap[b]? =M (Y K g m))(own:a.ownsRow d k j l f n)(q:(a.alloc j8).drew.grownBy o l.ownBlock)(p:g≠k):o.heap[b]? =M (Y K g m):=by
 have r:=af c;refine((q.block b LZ (λe=>?_)).trans (C1 _ _ _ r)).trans c;rcases own.2 with⟨i,_⟩|⟨_,_,_,i,_,s,_⟩
 ·rw[i]at e;cases e
 rw[i]at e;cases e;rw[s]at c;cases c;exact p H
def abP(f:Func):Code:=((f.body.bind (lU 15)).getD .skip)
def abQ(f:Func):Code:=((f.body.bind (lU 16)).getD .skip)
theorem Gf{aS}(l1:f<=3)(c:a.heap[d]? =M (Y #[A h0,J e B p,J k h3 h2,ι ρ C,A h1,J h6 h5 h4] 54 (0,0)))(t:a.ownsRow (b+1) 54 6 (J aS m j) f n)(i:a.heap[b]? =M (Y #[l,J aS m j,y] 200 (0,0)))(v:∀(F K R j8 j9 k0 k1 k2 k3 v70:Ξ) (r o:A6) (g:ο) (z:Obj),g.ownsRow (b+1) 54 6 (J (M (G r 0 U)) (f+1) o) (f+1) (n++ [A h0,J e B p,J k h3 h2,ι ρ C,A h1,J h6 h5 h4])->(a.alloc z).drew.grownBy g (J aS m j).ownBlock->S ⟨#[η (M (G b 0 U)),q,s,η (M (G d 0 U)),L,N,O,P,T,W,X,a0,a1,a2,a3,a4,a5,a6,a7,a8,a9,b0,b1,b2,b3,b4,b5,b6,b7,b8,b9,c0,c1,c2,c3,c4,c5,c6,c7,c8,c9,e0,e1,e2,e3,e4,e5,e6,e7,e8,e9,g0,g1,g2,g3,g4,g5,g6,g7,g8,g9,F,K,R,j8,j9,k0,k1,k2,k3,v70,i7,i8,i9,j0,j1,j2,j3,j4,j5,j6],[]⟩ (g.setCell (G b 1 U) (J (M (G r 0 U)) (f+1) o))):
  Code.wp φ (abP E0) (Exit.then S (bodyPost φ E0 j7)) ⟨#[η (M (G b 0 U)),q,s,η (M (G d 0 U)),L,N,O,P,T,W,X,a0,a1,a2,a3,a4,a5,a6,a7,a8,a9,b0,b1,b2,b3,b4,b5,b6,b7,b8,b9,c0,c1,c2,c3,c4,c5,c6,c7,c8,c9,e0,e1,e2,e3,e4,e5,e6,e7,e8,e9,g0,g1,g2,g3,g4,g5,g6,g7,g8,g9,h7,h8,h9,i0,i1,i2,i3,i4,i5,i6,i7,i8,i9,j0,j1,j2,j3,j4,j5,j6],[]⟩ a:=by
 conv=>arg 2;whnf
 change V _ at v;have:=af i;have:=af c;have:α a (G d 0 U)=M (A h0):=aC c;have:α a (G d 1 U)=M (J e B p):=aC c;have:α a (G d 2 U)=M (J k h3 h2):=aC c;have:α a (G d 3 U)=M (ι ρ C):=aC c;have:α a (G d 4 U)=M (A h1):=aC c;have:α a (G d 5 U)=M (J h6 h5 h4):=aC c;have:α a (G b 1 U)=M (J aS m j):=aC i;have k4:∀u:Obj,(a.alloc u).drew.ownsRow (b+1) 54 6 (J aS m j) f n:=λu=>ψ (χ t u);change V _ at i;change V _ at t;clear c;obtain⟨k5,k6,k7,k8,k9⟩:=D7 XT
 go_region_law (refine B7 _ H (.tmp 65) (.tmp 67) 65 H (b+1) 54 k5 _ 6 112 underlying65 k6 k7 k8 k9 H ag (J aS m j) f n jl (k4 _) (G (D (I a)) 0 U) 1 1 [A h0,J e B p,J k h3 h2,ι ρ C,A h1,J h6 h5 h4] jl H (A2 (bS a)) (by intro _ x;simp only[F6,F2,or_false]at x;rcases x with rfl|rfl|rfl|rfl|rfl|rfl<;>rfl) ag fD aa aN (D (I a)+1) ak ?_;intro r o g l0 w _ _;have c:=GL i t w ag;have:=af c;have:α g (G b 1 U)=M (J aS m j):=aC c;have:B9 g (G b 1 U)=κ:=(by simp[B9,c]))
 all_goals exact v _ _ _ _ _ _ _ _ _ _ _ _ _ _ l0 w
theorem Gg(k0:d<=3)(r:a.heap[m]? =M (Y #[J k B p] 102 (0,0)))(t:a.ownsRow (b+1) 102 1 (J e j f) d n)(g:a.heap[b]? =M (Y #[l,y,J e j f] 200 (0,0)))(v:∀(z v72 C F v75 v76 K R h0 h1:Ξ) (o i:A6) (c:ο) (x:Obj),c.ownsRow (b+1) 102 1 (J (M (G o 0 U)) (d+1) i) (d+1) (n++ [J k B p])->(a.alloc x).drew.grownBy c (J e j f).ownBlock->S ⟨#[η (M (G b 0 U)),q,s,L,N,O,P,T,W,η (M (G m 0 U)),X,a0,a1,a2,a3,a4,a5,a6,a7,a8,a9,b0,b1,b2,b3,b4,b5,b6,b7,b8,b9,c0,c1,c2,c3,c4,c5,c6,c7,c8,c9,e0,e1,e2,e3,e4,e5,e6,e7,e8,e9,g0,g1,g2,g3,g4,g5,g6,g7,g8,g9,h7,h8,h9,i0,i1,i2,i3,i4,i5,i6,z,v72,C,F,v75,v76,K,R,h0,h1],[]⟩ (c.setCell (G b 2 U) (J (M (G o 0 U)) (d+1) i))):
  Code.wp φ (abQ E0) (Exit.then S (bodyPost φ E0 j7)) ⟨#[η (M (G b 0 U)),q,s,L,N,O,P,T,W,η (M (G m 0 U)),X,a0,a1,a2,a3,a4,a5,a6,a7,a8,a9,b0,b1,b2,b3,b4,b5,b6,b7,b8,b9,c0,c1,c2,c3,c4,c5,c6,c7,c8,c9,e0,e1,e2,e3,e4,e5,e6,e7,e8,e9,g0,g1,g2,g3,g4,g5,g6,g7,g8,g9,h7,h8,h9,i0,i1,i2,i3,i4,i5,i6,i7,i8,i9,j0,j1,j2,j3,j4,j5,j6],[]⟩ a:=by
 conv=>arg 2;whnf
 change V _ at v;have:=af g;have:=af r;have:α a (G m 0 U)=M (J k B p):=aC r;have:α a (G b 2 U)=M (J e j f):=aC g;have h2:∀u:Obj,(a.alloc u).drew.ownsRow (b+1) 102 1 (J e j f) d n:=λu=>ψ (χ t u);change V _ at g;change V _ at t;clear r;obtain⟨h3,h4,h5,h6,j8⟩:=D7 Hm
 go_region_law (refine B7 _ H (.tmp 75) (.tmp 77) 198 H (b+1) 102 h3 _ 1 24 underlying198 h4 h5 h6 j8 H ag (J e j f) d n jl (h2 _) (G (D (I a)) 0 U) 1 1 [J k B p] jl H (A2 (bS a)) (by intro _ r;simp only[F6,F2,or_false]at r;rcases r with rfl;rfl) ag fD aa aN (D (I a)+1) ak ?_;intro o i c j9 w _ _;have r:=GL g t w ag;have:=af r;have:α c (G b 2 U)=M (J e j f):=aC r;have:B9 c (G b 2 U)=κ:=(by simp[B9,r]))
 all_goals exact v _ _ _ _ _ _ _ _ _ _ _ _ _ _ j9 w
def fB(ts:ω ig):ω (aJ×Ex):=ts.map λr=>(r.t,r.x)
theorem Pd(b:ω ig)(a):dS (fB b) a=(b.map (·.t.name)).findIdx? (λc=>c==a):=by
 unfold dS fB;rw[E7,E7];rfl
def aat(w0 w:ο)(xb:A6)(l:ω Aj)(ts:ω ig)(t:aJ)(o:Except B1 Ex)(e:G5)(w':ο):Prop:=
 (∃n:B1,o=.error n/\n≠0/\e=A9 (ι ρ n)/\Γ (D (I w)) w w')\/
 (∃r:ig,o=.ok r.x/\r.t=t/\e=A9 (ι ρ 0)/\kU w0 w' xb l (ts++ [r])/\Γ xb w w')
theorem Lu{fns b}{a:aJ}(c:(!aW a.name||(dS b a.name).isSome)=Θ):dY fns b a=.error 2:=by
 have d:fT (!aW a.name||(uH b a.name==0)) 2=2:=by
  have:(!aW a.name||(uH b a.name==0))=Θ:=by
   unfold uH
   cases e:aW a.name with
   |false=>rfl
   |true=>
    rw[e]at c
    cases f:dS b a.name with
    |none=>rw[f]at c;simp at c
    |some g=>rfl
  rw[this];rfl
 unfold dY;rw[d];simp[aT]
theorem PL{fns b}{a:aJ}(c:(!aW a.name||(dS b a.name).isSome)=κ)(d:bG a=κ):dY fns b a=.error 6:=by
 have e:fT (!aW a.name||(uH b a.name==0)) 2=0:=by
  have:(!aW a.name||(uH b a.name==0))=κ:=by
   rw[B8]at c;unfold uH;rw[c.1]
   cases f:dS b a.name with
   |none=>rfl
   |some g=>have:=c.2;rw[f]at this;simp at this
  rw[this];rfl
 unfold dY;rw[e,d];simp[aT,fT]
theorem TT{fns b}{a:aJ}(c:(!aW a.name||(dS b a.name).isSome)=κ)(d:bG a=Θ):dY fns b a=Kk (dH bL (a.aB.map (bD qi),[]) fns a.aR):=by
 have e:fT (!aW a.name||(uH b a.name==0)) 2=0:=by
  have:(!aW a.name||(uH b a.name==0))=κ:=by
   rw[B8]at c;unfold uH;rw[c.1]
   cases f:dS b a.name with
   |none=>rfl
   |some g=>have:=c.2;rw[f]at this;simp at this
  rw[this];rfl
 unfold dY;rw[e,d];simp[aT,fT,qi]
theorem abO(a:aW v=Θ):jq (qi++ [46]++v)=Θ:=by
 have b:(qi++ [46]++v).takeWhile (· != 46)=qi:=by simp[qi,List.takeWhile]
 have c:((qi++ [46]++v).dropWhile (· != 46)).drop 1=v:=by simp[qi,List.dropWhile]
 unfold jq;rw[b,c,a];have:(qi++ [46]++v).contains 46=Θ:=ak;rw[this];decide
theorem IL(l:bG c=Θ):(∀e∈c.aB.map (bD qi),fA e.2)/\(∀e∈c.aB.map (bD qi),jq e.1=Θ):=by
 have f:=qK l;have j:=jZ c.aB [] (by unfold bZ at f;rw[ξ]at f;exact f.2);constructor
 ·intro e g;obtain⟨a,i,rfl⟩:=B5.mp g;have b:=j a i;rw[oV]at b;simp only[ξ,C5]at b;obtain⟨d,k⟩:∃d,a.2.1= [d]:=by
   have:=b.1.1.2.2
   match a.2.1,this with
   | [d],_=>exact⟨d,H⟩
  have m:fM d=Θ:=by have:=b.1.1.2.1;rw[k]at this;simpa using this
  show fA (iF a);have:iF a=lK d.toNat:=by obtain⟨_,n,_⟩:=a;have:n= [d]:=k;subst this;rfl
  rw[this];exact(oq m).1
 intro e g;obtain⟨a,i,rfl⟩:=B5.mp g;have b:=j a i;rw[oV]at b;simp only[ξ]at b;exact abO b.1.1.1
theorem qP.put{x:ο}{aS aB}(g:qP a e f d aS m j l aB u)(w:α a (G b 0 U)=M (J U 0 0))(y:∀p,p≠b->x.heap[p]? =a.heap[p]?)(K:D (I a)<=D (I x))(z:pJ x l u):qP x e f d aS m j l aB u:=by
 refine⟨g.aeM,g.afu,g.small, ?_, ?_,g.acR,g.KP,z⟩
 ·rcases g.zu with k|⟨c,k,B,n⟩
  ·exact A3 k
  by_cases o:aB= []
  ·exact A3 o
  obtain⟨q,C,rfl⟩:=C8 o;have r:c≠b:=λs=>by
   subst s;have:=n 0 q H;rw[w]at this;cases this
  exact F0 ⟨c,k,aa,λi t v=>(D8 (w:=a) (a:=(G c i U)) (y c r)).trans (n i t v)⟩
 rcases g.Qp with k|⟨c,k,B,n⟩
 ·exact A3 k
 by_cases o:aB= []
 ·exact A3 o
 obtain⟨q,C,rfl⟩:=C8 o;have r:c≠b:=λs=>by
  subst s;have:=n 0 q H;rw[w]at this;cases this
 exact F0 ⟨c,k,aa,λi t v=>(D8 (w:=a) (a:=(G c i U)) (y c r)).trans (n i t v)⟩
theorem Zt(c:d≠b):((((a.setCell (G b 0 U) l).setCell (G b 1 U) y).setCell (G b 2 U) q).setCell (G b 3 U) s).heap[d]? =a.heap[d]? :=by
 rw[β _ _ _ _ c,β _ _ _ _ c,β _ _ _ _ c,β _ _ _ _ c]
theorem OG(f:Γ d o a)(c:d<=b):Γ d o ((((a.setCell (G b 0 U) l).setCell (G b 1 U) y).setCell (G b 2 U) q).setCell (G b 3 U) s):=
 (((f.setCell (p:=(G b _ U)) c _).setCell (p:=(G b _ U)) c _).setCell (p:=(G b _ U)) c _).setCell (p:=(G b _ U)) c _
theorem Zr{c}(d:a.heap[b]? =M (Y #[L,N,O,P] c (0,0))):((((a.setCell (G b 0 U) l).setCell (G b 1 U) y).setCell (G b 2 U) q).setCell (G b 3 U) s).heap[b]? =M (Y #[l,y,q,s] c (0,0)):=by
 simp[D0,D4,d]
theorem Yb(a:fA C):(pQ C==98)=(C==3):=by
 rcases a with rfl|rfl|rfl<;>decide
theorem Gd{a5 k w}{j:ω Aj}{i}(r4:kU a5 k w j i)(c5:E i<=3)(r6:Fx (j.map (·.1))){a:aJ}{z y x u t s r q p}(j1:dC a5 (J z y x) a.aB)(m5:G4 a5 (J u t s) a.rows)(r8:gD a5 (J r q p) a.gZ)(s7:E a.name<=D6):
  A1 φ 63 #[η (M (G w 0 U)),B0 #[A (Z a.name),J z y x,J u t s,ι ρ a.count,A (Z a.aR),J r q p]] k λo a4=>aat a5 k w j i a (dY (bJ j) (fB i) a) o a4:=by
 obtain⟨X,W,T,aS,y1,y0,x9,x8,x7,⟨m2,m1⟩,e0,⟨j6,m3,m8⟩,h3,n7,r3,o1⟩:=r4;have j7:=af e0;obtain⟨F,c7⟩:=au (k.alloc (VX a z y x u t s r q p));have l1:V (k.alloc (VX a z y x u t s r q p)=F):=c7.symm;have a0:Q k F:=by rw[c7];exact ai k _
 have j3:F.heap[D (I k)]? =M (VX a z y x u t s r q p):=by rw[c7];exact δ k _
 have u2:D (I F)=D (I k)+1:=by rw[c7];simp[ν]
 have m6:=uB j6 m3 m8;have b7:∀e:ο,Q F e->((α e (G (D (I k)) 0 U)=M (A (Z a.name))/\α e (G (D (I k)) 1 U)=M (J z y x)/\α e (G (D (I k)) 2 U)=M (J u t s))/\α e (G (D (I k)) 3 U)=M (ι ρ a.count)/\α e (G (D (I k)) 4 U)=M (A (Z a.aR))/\α e (G (D (I k)) 5 U)=M (J r q p))/\α e (G w 0 U)=M (J X W T)/\(D (I k)<D (I e)/\w<D (I e)):=by
  intro e R;have b9:=(R.block (D (I k)) aa).trans j3;have r1:=(R.block w aa).trans ((a0.block w j7).trans e0);have:=R.size;exact⟨⟨⟨aC b9,aC b9,aC b9⟩,aC b9,aC b9,aC b9⟩,aC r1,aa,aa⟩
 have i5:∀e:ο,A1 φ 111 #[A (Z a.name)] e (RE (B4 (aW a.name)) e):=by
  intro e;have:=iZ (Z a.name) e (by rw[aX];exact s7);rw[ay]at this;exact this
 have e8:=zR ((aI ((a0.block w j7).trans e0)).trans H) (Yp (wZ h3 λg n=>a0.block g (h3.lt g n).2) r3) a.name;rw[<-Pd]at e8;have h9:Q a5 F:=bT m1 a0;have i1:∀e:ο,Q F e->A1 φ 119 #[B0 #[A (Z a.name),J z y x,J u t s,ι ρ a.count,A (Z a.aR),J r q p]] e (RB (B4 (bG a)) e):=λe R=>
  EI r q p (j1.ah (bT h9 R)) (m5.ah (bT h9 R))
 have c3:V _:= @Lu (bJ j) (fB i) a;have c4:V _:= @PL (bJ j) (fB i) a;have c2:V _:= @TT (bJ j) (fB i) a;obtain⟨w1,o2⟩:=au (aW a.name);obtain⟨r2,n0⟩:=au (dS (fB i) a.name);obtain⟨u8,g6⟩:=au (bG a);rw[<-o2]at i5 c3 c4 c2;rw[<-n0]at e8 c3 c4 c2;simp only[<-g6]at i1;rw[<-g6]at c4 c2;have l7:V _:=g6;have p8:V _:=j3;have p7:V _:=e0;clear o2 n0 g6 c7 j3 e0;obtain⟨⟨⟨b0,b1,b2⟩,b3,b4,b5⟩,b6,a7,a8⟩:=b7 F (μ _ _);go_enter func63,ntmps63;go_upto_region 2 with(go_at_call 111;refine(i5 _).mono ?_;rintro o z8 ⟨rfl,rfl⟩)
 rw[l1.out];clear l1 i5;go_upto_region 3 with(go_at_call 78;refine e8.mono ?_;rintro o k0 ⟨rfl,c8⟩)
 clear b0 b1 b2 b3 b4 b5 b6 a7 a8 e8;have e6:Q k k0:=bT a0 c8;obtain⟨⟨⟨b0,b1,b2⟩,b3,b4,b5⟩,b6,a7,a8⟩:=b7 k0 c8
 cases w1 with
 |false=>
  have C:V (dY (bJ j) (fB i) a=.error 2):=c3.out H
  go_wp2
  go_ret;exact A3 ⟨2,C,ag,H,e6⟩
 |true=>
  cases r2 with
  |some o3=>
   have n3:Hw (M o3)=(o3:B1):=H;have C:V (dY (bJ j) (fB i) a=.error 2):=c3.out H
   go_wp2
   go_ret;exact A3 ⟨2,C,ag,H,e6⟩
  |none=>
   have n3:Hw U= -1:=H;have i0:=i1 k0 c8
   cases u8 with
   |false=>
    have C:V (dY (bJ j) (fB i) a=.error 6):=c4.out H H;go_wp2_with(go_at_call 119;refine i0.mono ?_;rintro o v ⟨rfl,g3⟩);go_ret;exact A3 ⟨6,C,ag,H,bT e6 g3⟩
   |true=>
    have l4:V _:=c2.out H H;obtain⟨s5,s6⟩:=IL l7.symm;have r7:=qK l7.symm;go_upto_region 8 with(go_at_call 119;refine i0.mono ?_;rintro o v ⟨rfl,g3⟩)
    clear b0 b1 b2 b3 b4 b5 b6 a7 a8 i0 i1 c3 c4 c2 n3;have g0:Q F v:=bT c8 g3;clear c8 g3 e6;have k5:Q k v:=bT a0 g0;have p4:Q a5 v:=bT h9 g0;obtain⟨⟨⟨b0,b1,b2⟩,b3,b4,b5⟩,b6,a7,a8⟩:=b7 v g0;have l8:∀e:ο,Q v e->A1 φ 120 #[B0 #[J U 0 0,J U 0 0,A ⟨#[]⟩,J X W T],A ⟨#[114,111,119]⟩,B0 #[A (Z a.name),J z y x,J u t s,ι ρ a.count,A (Z a.aR),J r q p]] e λo a4=>∃P O N aS p1 p0,o=A9 (B0 #[J P O N,J aS p1 p0,A ⟨#[]⟩,J X W T])/\qP a4 P O N aS p1 p0 (J X W T) (a.aB.map (bD qi)) (j.map (·.1))/\Q e a4/\Q v a4:=λe R=>
     (Oq ((m6.ah k5).ah R) u t s r q p ((j1.ah p4).ah R) r7).mono λo a4 ⟨r0,b,c,d,f,m,h1,h2,c5⟩=>⟨r0,b,c,d,f,m,h1,h2,c5,bT R c5⟩
    go_cut [8] (λv8 k1=>∃(a9:A6) (P:A0 C6) (O N:A6) (a3:A0 C6) (a2 a1:A6),v8=η (M (G a9 0 U))/\Q v k1/\D (I v)<=a9/\k1.heap[a9]? =M (Y #[J P O N,J a3 a2 a1,A ⟨#[]⟩,J X W T] 214 (0,0))/\qP k1 P O N a3 a2 a1 (J X W T) (a.aB.map (bD qi)) (j.map (·.1)))
    ·clear b7 u2;go_region_with(go_at_call 120;refine(l8 _ ?_).mono ?_;(first|exact μ _ _|exact(μ _ _).drew|exact(ai v _).drew|exact ai v _);rintro o a6 ⟨P,O,N,a3,a2,a1,rfl,e3,r9,c9⟩;first|(have j5:a6.heap[D (I v)]? =M (Y #[J U 0 0,J U 0 0,A ⟨#[]⟩,J U 0 0] 214 (0,0)):=(r9.block (D (I v)) ek).trans (δ v _);obtain⟨⟨j9,o4,o5,o6⟩,w4,w5,w6,w7⟩:=bM j5;have x2:=af j5)|skip);all_goals(go_wp2;go_meet)
     all_goals first
      |exact⟨D (I a6),P,O,N,a3,a2,a1,H,c9.alloc c9.size _,c9.size,δ a6 _,e3.ah (ai a6 _)⟩
      |exact⟨D (I v),P,O,N,a3,a2,a1,H,OG c9 (ζ _),ζ _,Zr j5,e3.put j9 (λg n=>Zt n) (by simp[D0]) ((m6.ah k5).ah (OG c9 (ζ _)))⟩
    obtain⟨a9,P,O,N,a3,a2,a1,rfl,r5,x1,g9,e3⟩:=hcut;clear b0 b1 b2 b3 b4 b5 b6 a7 a8 l8;generalize u5:wc=a6 at*;clear u5;have j0:Q F a6:=bT g0 r5;have p6:Q k a6:=bT a0 j0;obtain⟨⟨⟨b0,b1,b2⟩,b3,b4,b5⟩,b6,a7,a8⟩:=b7 a6 j0;have s4:=af g9;obtain⟨⟨j9,o4,o5,o6⟩,_⟩:=bM g9;have g1:tN (a.aB.map (bD qi),bB []) [] (j.map (·.1)):=r6.known H s5 s6;have i4:=ry e3 ak g1 a.aR;have g5:Z []=⟨#[]⟩:=H;rw[g5]at i4;have q0:V _:=g9;clear g9;go_wp2_with(go_at_call 116;refine i4.mono ?_);clear i4;rintro o B ⟨g4,u0⟩;have k6:Q k B:=bT p6 g4;have m4:Q F B:=bT j0 g4;rcases u0 with⟨h7,e5,n4,rfl⟩|⟨e,l,m,cap,m0,e5,n9,h4,h0,rfl,x0,c6⟩
    ·have C:V (dY (bJ j) (fB i) a=.error h7):=by
      rw[V,l4.out];have:dH bL (a.aB.map (bD qi),[]) (bJ j) a.aR=.error h7:=e5;rw[this];rfl
     have x4:(h7==0)=κ:=by simpa using n4
     clear e5
     go_wp2
     go_ret;exact A3 ⟨h7,C,n4,H,k6.alloc k6.size _⟩
    have i2:V (dY (bJ j) (fB i) a=Kk (.ok e)):=by
     rw[V,l4.out];have:dH bL (a.aB.map (bD qi),[]) (bJ j) a.aR=.ok e:=e5;rw[this]
    obtain⟨pm,e4⟩:∃pm,E (C3 l)=pm+1:=⟨E (C3 l)-1,cz (sU l)⟩;rw[e4];have e1:=ai B (Y #[J (M (G m 0 U)) (pm+1) cap] 102);have g8:=(g4.block a9 s4).trans q0;have o0:yD (j.map (·.1)) l=e.quiet:=(zL g1 l e h0 h4).symm;have n8:(C3 l)[pm]? =M l:=by have:=fQ l;rw[e4,E5]at this;exact this
    have i3:A1 φ 118 #[B0 #[J P O N,J a3 a2 a1,A ⟨#[]⟩,J X W T],B0 #[J (M (G m 0 U)) (pm+1) cap],ι ρ (pm:B1)] (B.alloc (Y #[J (M (G m 0 U)) (pm+1) cap] 102)) λo a4=>o=A9 (B4 e.quiet)/\Γ (D (I (B.alloc (Y #[J (M (G m 0 U)) (pm+1) cap] 102)))) (B.alloc (Y #[J (M (G m 0 U)) (pm+1) cap] 102)) a4:=by
     have:=uA (SizeOf.sizeOf l) l (B.alloc (Y #[J (M (G m 0 U)) (pm+1) cap] 102)) P O N a3 a2 a1 [] X W T (a.aB.map (bD qi),bB []) (j.map (·.1)) m cap (C3 l) _ m0 pm (ζ _) ((e3.ah g4).ah e1) g1 (c6.ah e1) n8;rw[o0,e4,g5]at this;exact this
    obtain⟨⟨u9,v0,v1,v2⟩,_⟩:=bM ((e1.block a9 (af g8)).trans g8);have j4:=δ B (Y #[J (M (G m 0 U)) (pm+1) cap] 102);obtain⟨v3,_⟩:=rM j4;have x3:a9<D (I (B.alloc (Y #[J (M (G m 0 U)) (pm+1) cap] 102))):=by rw[ν];have:=af g8;omega
    have s3:D (I B)<D (I (B.alloc (Y #[J (M (G m 0 U)) (pm+1) cap] 102))):=FK;have p5:Q F (B.alloc (Y #[J (M (G m 0 U)) (pm+1) cap] 102)):=m4.alloc m4.size _;have q2:V _:=c6.ah e1;have p9:V _:=j4;have u7:fA e.ty:=xx g1 l e h0 h4;have e2:=Yb u7;have q4:V _:=e4;have q7:V _:=h4;have q1:V _:=h0;have q5:V _:=n9;have w9:pm+1<=cap:=cz c6.cap;have x6:pm+1<=1000:=cz c6.small;clear e4 o0 n8 e5 n9 h4 h0 c6 g8 e1 j4 b0 b1 b2 b3 b4 b5 b6 a7 a8 j9 o4 o5 o6;generalize u6:B.alloc (Y #[J (M (G m 0 U)) (pm+1) cap] 102)=w8 at*;obtain⟨w2,j8⟩:=au e.quiet;obtain⟨p2,h6⟩:=au (pQ e.ty);rw[<-j8]at i3;rw[<-h6]at e2;rw[<-h6];have l9:V _:=j8;have w3:V _:=h6;clear j8 h6;go_upto_region 13 with(go_at_call 118;refine i3.mono ?_;rintro o c0 ⟨rfl,j2⟩)
    have k4:Q F c0:=bT p5 j2;have S:Q k c0:=bT a0 k4;clear i3 u9 v0 v1 v2 v3
    cases h5:(e.ty==3)with
    |false=>
     have C:V (dY (bJ j) (fB i) a=.error 5):=by rw[V,i2.out,Kk,h5];rfl
     rw[h5]at e2;have x5:¬p2=98:=by simpa using e2
     go_wp2
     go_ret;exact A3 ⟨5,C,ag,H,S⟩
    |true=>
     rw[h5]at e2;obtain rfl:p2=98:=by simpa using e2
     cases w2 with
     |false=>
      have C:V (dY (bJ j) (fB i) a=.error 5):=by rw[V,i2.out,Kk,<-l9.out,Bool.not_false,Bool.or_true,F5 H]
      go_wp2
      go_ret;exact A3 ⟨5,C,ag,H,S⟩
     |true=>
      have C:V (dY (bJ j) (fB i) a=.ok e):=by rw[V,i2.out,Kk,<-l9.out,h5];rfl
      have s0:=(k4.block (D (I k)) aa).trans p8;have m7:=(S.block w j7).trans p7;have m9:=(j2.block (D (I B)) s3).trans p9;have o8:=wZ h3 λg n=>S.block g (h3.lt g n).2;have v7:=wZ n7 λg n=>S.block g (n7.lt g n).2;have v6:=wZ j6 λg n=>S.block g (j6.lt g n).2;have q3:V _:=q2.out.ah j2;clear u6 b7;go_upto_region 15 with fail
      refine Gf c5 s0 o8 m7 ?_;intro y2 y3 y4 y5 y6 y7 y8 y9 z0 v70 i8 i6 v9 q8 n5 n1;obtain⟨_,h8,k2,k3,c1⟩:=yU (B:=w) (k:=1) m7 o8 (ai c0 q8).drew n1 n5 (J (M (G i8 0 U)) (E i+1) i6) (ζ _);have s2:=(c1 _ _ _ _ m9 ag ag).trans m9;have o7:=gm v7 λg K L n=>c1 g K _ L n ag ag;have v5:=gm v6 λg K L n=>c1 g K _ L n ag ag;dsimp only;generalize u3:v9.setCell (G w 1 U) (J (M (G i8 0 U)) (E i+1) i6)=w11 at*;clear u3;go_upto_region 16 with fail
      refine Gg c5 s2 o7 h8 ?_;intro z1 v72 z2 z3 v75 v76 z4 z5 z6 z7 i9 i7 w0 q9 n6 n2;obtain⟨_,k8,k9,l0,e7⟩:=yU (B:=w) (k:=2) h8 o7 (ai w11 q9).drew n2 n6 (J (M (G i9 0 U)) (E i+1) i7) (ζ _);dsimp only;generalize u4:w0.setCell (G w 2 U) (J (M (G i9 0 U)) (E i+1) i7)=w13 at*;clear u4;have g7:∀(g:A6) (K:Array Ξ) (b8:G3) (L:A6×A6),c0.heap[g]? =M (Y K b8 L)->b8=183\/b8=3->w13.heap[g]? =c0.heap[g]? :=by
       intro g K b8 L n g2;have o:=c1 g K b8 L n (by rcases g2 with rfl|rfl<;>decide) (by rcases g2 with rfl|rfl<;>decide);exact(e7 g K b8 L (o.trans n) (by rcases g2 with rfl|rfl<;>decide) (by rcases g2 with rfl|rfl<;>decide)).trans o
      have s1:xm i++ [J (M (G m 0 U)) (pm+1) cap]=xm (i++ [⟨a,e,l,m,cap,z,y,x,u,t,s,r,q,p⟩]):=by
       rw[xm,xm,C4];simp only[List.map_cons,List.map_nil,YU,q4.out]
      have u1:mq i++ [A (Z a.name),J z y x,J u t s,ι ρ a.count,A (Z a.aR),J r q p]=mq (i++ [⟨a,e,l,m,cap,z,y,x,u,t,s,r,q,p⟩]):=by
       rw[Oy];simp[mq,wE]
      have s8:yP c0 ⟨a,e,l,m,cap,z,y,x,u,t,s,r,q,p⟩:=by
       refine⟨m0,_,q3, ?_,q1,q5⟩;show nM bL (a.aB.map (bD qi),bB []) (RF.list (j.map (·.1))) (C3 l) (E (C3 l)) (E (C3 l)-1)=pQ e.ty;rw[nM,F5 (by have:=sU l;omega),fQ l];show tyR (bO bL (a.aB.map (bD qi),bB []) (RF.list (j.map (·.1))) l)=pQ e.ty;rw[q7.out];rfl
      have k7:Γ w k w13:=((S.mono aa).trans k3).trans l0;have q6:V (kU a5 w13 w j (i++ [⟨a,e,l,m,cap,z,y,x,u,t,s,r,q,p⟩])):=by
       refine⟨X,W,T,M (G i8 0 U),E i+1,i6,M (G i9 0 U),E i+1,i7,⟨m2,m1.trans (k7.mono m2)⟩,k8,⟨gm v5 λg K L n=>e7 g K _ L n ag ag,m3,λo g5=>((m8 o g5).ah S).move g7⟩, ?_, ?_,aN,λo9 s9=>?_⟩
       ·rw[E2,<-u1];exact gm k2 λg K L n=>e7 g K _ L n ag ag
       ·rw[E2,<-s1];exact k9
       rcases F4.mp s9 with e9|e9
       ·exact⟨(o1 o9 e9).1,((o1 o9 e9).2.ah S).move g7⟩
       rw[List.mem_singleton.mp e9];exact⟨⟨j1,m5,r8⟩,s8.move g7⟩
      clear h8 k2 k3 c1 k8 k9 l0 e7 g7 n5 n1 n6 n2
      go_wp2
      go_ret;exact F0 ⟨⟨a,e,l,m,cap,z,y,x,u,t,s,r,q,p⟩,C,H,H,q6,k7⟩
def Lj(w:ο)(o:Except B1 (ω Fn×ω (aJ×Ex)))(e:G5)(w':ο):Prop:=Γ (D (I w)) w w'/\
 ((∃(n:B1) (xb:A6),o=.error n/\n≠0/\e=A9 (D2 #[η (M ⟨xb,0,U⟩),ι ρ n]))\/
  (∃(l:ω Aj) (tl:ω ig) (xb:A6),o=.ok (bJ l,fB tl)/\e=A9 (D2 #[η (M ⟨xb,0,U⟩),ι ρ 0])/\kU w w' xb l tl/\Fx (l.map (·.1))))
theorem XH(b a args d c cap):bJ (b++ [(⟨a,args,d⟩,c,cap)])=bJ b++ [a]:=by simp[bJ,RF.list]
theorem ZY(b)(a:ig):fB (b++ [a])=fB b++ [(a.t,a.x)]:=by simp[fB]
theorem XG:Fx ([]:ω RF):=⟨λb a=>by simp at a,λb a=>by simp at a,λb a=>by simp at a,λb a=>by simp at a,λ_ b a=>by simp at a⟩
theorem tC(c:ο){a b}:(((c.alloc a).alloc b).heap[D (I c)]? =M a/\((c.alloc a).alloc b).heap[D (I c)+1]? =M b)/\Q c ((c.alloc a).alloc b)/\D (I ((c.alloc a).alloc b))=D (I c)+2:=by
 have d:D (I (c.alloc a))=D (I c)+1:=ek;refine⟨⟨?_, ?_⟩,((μ _ c).alloc (ζ _) _).alloc (by rw[d];omega) _,ek⟩
 ·rw[C1 _ _ _ (by rw[d];omega)];exact δ c _
 rw[<-d];exact δ _ _
theorem EL{b c}(b1:E c<=8){n e3 u}(j1:ik b (J n e3 u) c)(e8:∀t∈c,E t.2.1<=D6){e}(b0:E e<=4){m h1 r}(j2:kV b (J m h1 r) e):
  A1 φ 26 #[B0 #[J n e3 u,J m h1 r]] b λa4 j6=>Lj b (eG c e) a4 j6:=by
 obtain⟨j8,cap,i1,l0,g7⟩:=j1
 cases i1;obtain⟨l9,KP,i2,l1,g8⟩:=j2
 cases i2;have c2:V _:=g8;have h9:V _:=g7;have h7:V _:=e8;clear g8 g7 e8;have k7:decide ((8:B1)<(E c:B1))=κ:=aN;have k6:decide ((4:B1)<(E e:B1))=κ:=aN;obtain⟨a3,b7⟩:=au ((b.alloc (Y #[J n (E c) u,J m (E e) r] 67)).alloc (Y #[J U 0 0,J U 0 0,J U 0 0] 200));obtain⟨⟨e9,g6⟩,e7,j0⟩:=tC b (a:=(Y #[J n (E c) u,J m (E e) r] 67)) (b:=(Y #[J U 0 0,J U 0 0,J U 0 0] 200));rw[<-b7]at e9 g6 e7 j0;have c5:V ((b.alloc (Y #[J n (E c) u,J m (E e) r] 67)).alloc (Y #[J U 0 0,J U 0 0,J U 0 0] 200)=a3):=b7.symm;have c6:Ao a3 (D (I b)+1) []:=⟨U,0,0,g6,σ _ _ _ _,ak,λa4 i0=>by simp at i0⟩;clear b7;go_enter D9,D3;go_wp2_with fail;rw[c5.out];clear c5;go_loopw [5] (λz wr=>∃(d:A6) (i:ω Aj),d<=E c/\z=ι ρ d/\E i=d/\Ao wr (D (I b)+1) i/\Fx (i.map (·.1))/\V (iy [] c=iy (bJ i) (c.drop d))/\Γ (D (I b)+1) a3 wr) (λz _=>E c-(G0 z).toNat)
 ·exact⟨0,[],υ _,H,H,c6,XG,H,μ _ _⟩
 clear c6;obtain⟨d,i,k8,rfl,i5,a6,c1,l,S⟩:=hrel;have C:wr.heap[D (I b)]? =M (Y #[J n (E c) u,J m (E e) r] 67 (0,0)):=(S.block _ aa).trans e9;have k3:=af C;have c7:α wr (G (D (I b)) 0 U)=M (J n (E c) u):=aC C;have c8:α wr (G (D (I b)) 1 U)=M (J m (E e) r):=aC C;have N:Q b wr:=e7.trans (S.mono aa);by_cases v:d<E c
 ·obtain⟨f,q,rfl,b8,T⟩:∃f q,n=M (G f q U)/\f<D (I b)/\∀(d:A6) (t:qB),c[d]? =M t->(α b ⟨f,q+d*3,U⟩=M (A (Z t.1))/\α b ⟨f,q+d*3+1,U⟩=M (A (Z t.2.1))/\α b ⟨f,q+d*3+2,U⟩=M (A (Z t.2.2)))/\E t.1<=D6/\E t.2.2<=D6:=by
   rcases h9.out with y|y
   ·subst y;simp at v
   exact y
  obtain⟨⟨O,P,R⟩,b9,i4⟩:=T d c[d] (γ v);have j:∀g,α wr (G f g U)=α b (G f g U):=λg=>N.cell (p:=(G f g U)) b8;have B:=(j _).trans O;have F:=(j _).trans P;have K:=(j _).trans R;have c0:=h7.out c[d] (B3 v);have W:c.drop d=(c[d].1,c[d].2.1,c[d].2.2)::c.drop (d+1):=ε v;rw[W]at l;obtain⟨m4,g3⟩:=au (c[d].1);obtain⟨h4,g4⟩:=au (c[d].2.1);obtain⟨j7,g5⟩:=au (c[d].2.2);rw[<-g3]at B l b9;rw[<-g4]at F l c0;rw[<-g5]at K l;have k5:f<D (I wr):=cz N.size;have x:=EE a6 aa c1 j7 b9 c0;clear j O P R T W g3 g4 g5 b9 i4 c0 a6;go_wp2_with(go_at_call 62;refine x.mono ?_);rintro a4 a0 (⟨p,o,X,rfl,k⟩|⟨e4,L,e5,e2,o,rfl,b2,i7,k⟩)
  ·have a2:V (iy [] c=.error p):=by rw[V,l.out];exact Lt o
   have h5:Q b a0:=bT N k;have i6:(p==0)=κ:=by simpa using X
   clear x l S C c7 c8 k B F K;go_wp2_with fail;exact A8 (v:=D2 #[η (M ⟨D (I b)+1,0,U⟩),ι ρ p]) (by simp[D1,A5,go_sem]) H ⟨h5,A3 ⟨p,D (I b)+1,Ir b1 b0 a2,X,H⟩⟩
  have a9:V (iy [] c=iy (bJ (i++ [(⟨e4,h4,L⟩,e5,e2)])) (c.drop (d+1))):=by rw[V,l.out,XH];exact Sr o
  have RB:Γ (D (I b)+1) a3 a0:=S.trans k;clear x l S C c7 c8 k B F K o
  go_wp2
  go_roundw
  ·exact⟨d+1,i++ [(⟨e4,h4,L⟩,e5,e2)],aa,aP,by simp[i5],b2,i7,a9,RB⟩
  simp[G0];omega
 have a2:V (iy [] c=.ok (bJ i)):=by rw[V,l.out,θ aa];rfl
 have e6:=Og (w0:=b) a6 aa N;generalize j3:wr=wa at*;clear j3 l a6;go_wp2_with fail;go_loopw [7] (λz h3=>∃(g:A6) (w:ω ig),g<=E e/\z=ι ρ g/\E w=g/\kU b h3 (D (I b)+1) i w/\V (kD (bJ i) [] e=kD (bJ i) (fB w) (e.drop g))/\Γ (D (I b)+1) wa h3) (λz _=>E e-(G0 z).toNat)
 ·exact⟨0,[],υ _,H,H,e6,H,μ _ _⟩
 obtain⟨g,w,k9,rfl,i3,a5,s,b3⟩:=hrel;generalize j4:wr=wj at*;clear j4 e6;have g0:wj.heap[D (I b)]? =M (Y #[J n (E c) u,J m (E e) r] 67 (0,0)):=(b3.block _ aa).trans C;have k4:=af g0;have m5:α wj (G (D (I b)) 1 U)=M (J m (E e) r):=aC g0;have a1:Q b wj:=N.trans (b3.mono aa);by_cases v:g<E e
 ·obtain⟨f,q,rfl,b8,T⟩:∃f q,m=M (G f q U)/\f<D (I b)/\∀(d:A6) (L:aJ),e[d]? =M L->Gt b f (q+d*6) L:=by
   rcases c2.out with y|y
   ·subst y;simp at v
   exact y
  obtain⟨k1,k0,j9,l8,l7,l4,m2,m1,m0,⟨O,P,R,c9,e0,e1⟩,b4,b5,b6,g1,i8⟩:=T g e[g] (γ v);have j:∀a7,α wj (G f a7 U)=α b (G f a7 U):=λa7=>a1.cell (p:=(G f a7 U)) b8;have B:=(j _).trans O;have F:=(j _).trans P;have K:=(j _).trans R;have c3:=(j _).trans c9;have c4:=(j _).trans e0;have g9:=(j _).trans e1;have k2:f<D (I wj):=cz a1.size;have W:e.drop g=e[g]::e.drop (g+1):=ε v;rw[W]at s;obtain⟨L,g2⟩:=au (e[g]);rw[<-g2]at B c3 c4 s b4 b5 b6 g1 i8;have x:=Gd a5 aa c1 b4 b5 b6 g1;clear j O P R c9 e0 e1 T W g2 b4 b5 b6 a5 c2;go_wp2_with(go_at_call 63;refine x.mono ?_);rintro a4 a0 (⟨p,o,X,rfl,k⟩|⟨h0,o,i9,rfl,b2,k⟩)
  ·have a8:V (eG c e=.error p):=by rw[V,uy b1 b0 a2.out,s.out,kD,o];rfl
   have h6:Q b a0:=bT a1 k;have i6:(p==0)=κ:=by simpa using X
   clear x s k B F K c3 c4 g9;go_wp2_with fail;exact A8 (v:=D2 #[η (M ⟨D (I b)+1,0,U⟩),ι ρ p]) (by simp[D1,A5,go_sem]) H ⟨h6,A3 ⟨p,D (I b)+1,a8,X,H⟩⟩
  have a9:V (kD (bJ i) [] e=kD (bJ i) (fB (w++ [h0])) (e.drop (g+1))):=by rw[V,s.out,kD,o,ZY,i9]
  have RB:Γ (D (I b)+1) wa a0:=b3.trans k;clear x s k B F K c3 c4 g9 o
  go_wp2
  go_roundw
  ·exact⟨g+1,w++ [h0],aa,aP,by simp[i3],b2,a9,RB⟩
  simp[G0];omega
 have a8:V (eG c e=.ok (bJ i,fB w)):=by rw[V,uy b1 b0 a2.out,s.out,θ aa];rfl
 have h8:V _:=a5;clear s a5 c2;go_wp2_with fail;exact A8 (v:=D2 #[η (M ⟨D (I b)+1,0,U⟩),ι ρ 0]) (by simp[D1,A5,go_sem]) H ⟨a1,F0 ⟨i,w,D (I b)+1,a8,H,h8,c1⟩⟩
theorem Ku{c}(l:ik a (J e d b) c)(i:∀t∈c,E t.2.1<=D6){g}(m:kV a (J k j f) g):
  A1 φ 26 #[B0 #[J e d b,J k j f]] a λs u=>Lj a (eG c g) s u:=by
 by_cases v:E c<=8
 ·by_cases w:E g<=4
  ·exact EL v l i w m
  obtain⟨x,cap,n,y,o⟩:=l
  cases n;obtain⟨z,KP,p,B,q⟩:=m
  cases p;have r:V (eG c g=.error 9):=by rw[V,eG,F5 aa]
  have C:decide ((8:B1)<(E c:B1))=κ:=aN;have:decide ((4:B1)<(E g:B1))=Θ:=aN;clear o q i;go_enter D9,D3;go_wp2_with fail;exact A8 (v:=D2 #[η (M ⟨D (I a)+1,0,U⟩),ι ρ 9]) (by simp[D1,A5,go_sem]) H ⟨(tC a).2.1,A3 ⟨9,_,r,ag,H⟩⟩
 obtain⟨x,cap,n,y,o⟩:=l
 cases n;obtain⟨z,KP,p,B,q⟩:=m
 cases p;have r:V (eG c g=.error 9):=by rw[V,eG,F5 aa]
 have C:decide ((8:B1)<(E c:B1))=Θ:=aN;clear o q i;go_enter D9,D3;go_wp2_with fail;exact A8 (v:=D2 #[η (M ⟨D (I a)+1,0,U⟩),ι ρ 9]) (by simp[D1,A5,go_sem]) H ⟨(tC a).2.1,A3 ⟨9,_,r,ag,H⟩⟩
end Go.Proofs.YthkeffolmbnkaaaGreatDoor

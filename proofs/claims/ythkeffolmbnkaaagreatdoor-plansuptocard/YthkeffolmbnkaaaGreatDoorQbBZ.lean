import Derived.Test.YthkeffolmbnkaaaGreatDoorPlVZ
import Derived.Laws.AppendOwnNone
import Derived.Test.YthkeffolmbnkaaaGreatDoorRsEZ
set_option linter.unusedVariables false
set_option linter.unusedSimpArgs false
set_option maxRecDepth 100000
set_option maxHeartbeats 0
open Array renaming size->G,toArray_toList->I4
open Bool renaming and_eq_true->υ,false->B5,true->B7,false_eq_true->D5,or_eq_false_iff->F9,not_eq_true'->G6,not_false->H6,true_and->H8,and_eq_false_iff->I3,eq_iff_iff->J5,and_false->K0,not_true->K7,and_true->K8
open Go renaming heap_alloc_new->κ,wpAnyH_ready->φ,World->A0,Value->A3,Calls->A4,bodyPost_ret->B2,undef->C0,heap_setCell_other->C7,info_parts->D8,wpList_append_own->D9,results->E1,wpList_append_lies->E8,heap_setCell_same->H1,wpAnyH_done->H7,Ending->I2,Addr->I5,wpList_append_own_none->I6,maxLen->I7,wp_region_held_drew->J8,step_append_lies->L6,Obj->M4
open Go.Act renaming put->ι
open Go.Addr renaming mk->Q,add_lit->I0,add->J9
open Go.AllReadyH renaming cons->μ,nil->ρ
open Go.Calls renaming quiet_of_same->A8
open Go.Ending renaming returned->σ
open Go.IntKind renaming i64->V,wrap->M5,signed->M6,bits->M7
open Go.Obj renaming cells->η
open Go.Proofs.Tryz renaming prog->B0,underlying42->C1,results145->F5,underlying208->G2,results72->H5,results146->J3,results142->J4,ntmps210->K3,ntmps208->K4,ntmps206->K5,ntmps145->K6,ntmps85->K9,ntmps72->L0,func210->L1,func208->L2,func206->L3,func145->L4,func85->L7,func72->L8,f142->M1
open Go.Proofs.YthkeffolmbnkaaaGreatDoor renaming setOf->D0,within->F4,setOf_snoc->K2
open Go.RowKit renaming Hid->D,intOf->B6,Below->G4
open Go.RowKit.Below renaming heap_alloc->Ψ,refl->B3,heap_setCell->E3
open Go.Value renaming int->U,slice->M,string->ε,pointer->ζ,bool->ο,tuple->C4,agg->C9,oneCell'->H3
open Go.Value.slice renaming injEq->D2
open Go.World renaming heap->H,cell?->β,size_alloc->Δ,ownsRow_nil->Ω,news_of_block->A7,frozen?->B4
open Go.World.ownsRow renaming alloc->B8,lt->D4,cellAt->G8,drew->H2
open Int renaming le_refl->E6,toNat->G7,toNat_natCast->I9
open List renaming length->E,setIfInBounds_toArray->α,set_cons_zero->γ,set_cons_succ->δ,getElem?_eq_getElem->θ,take_succ_eq_append_getElem->ν,length_append->ξ,getElem_mem->τ,getElem?_eq_some_iff->ψ,take_of_length_le->Ξ,length_map->Φ,length_eq_zero_iff->A6,length_cons->B1,mem_cons->C2,length_take->C3,mem_singleton->C5,mem_map->C6,not_mem_nil->C8,drop_eq_getElem_cons->D1,mem_append->D3,getElem?_map->D6,drop_of_length_le->D7,length_nil->E0,getElem?_append_right->E4,getElem?_append_left->E5,range->F1,mem_of_mem_take->F7,mem_of_getElem?->F8,length_pos_iff->G1,append_assoc->G5,append_nil->H0,mem_range->H4,all_eq_true->I8,map_append->J1,foldl_cons->J2,drop_zero->J7
open Nat renaming zero_le->χ,lt_of_lt_of_le->ω,le_refl->Θ,le_trans->E2,lt_succ_self->E9,zero_add->F3,min_eq_left->J6,zero_mul->L5
open Option renaming none->I,some->Z
open Or renaming inr->A5,inl->A9
open _root_ renaming rfl->J,Int->Y,List->Γ,beq_eq_false_iff_ne->A1,Nat->A2,if_neg->B9,if_pos->E7,decide_eq_true_eq->F0,Option->F2,decide_eq_false_iff_not->F6,cond->G0,or_false->G3,Except->G9,Bool->H9,beq_iff_eq->I1,if_false->J0,decide_eq_true_iff->K1,decide_eq_false->L9,congrArg->M0,Array->M2,if_true->M3
namespace Go.Proofs.YthkeffolmbnkaaaGreatDoor
open Go.Proofs.Tryz
open Go.RowKit
variable{g4:Act->World->Prop}{X:Bs}{a3:Bs×Bs}{i2:Bs->Int}{u:Ex}{g5:Exit->Act->World->Prop}{a2 b0 b6 e7:Int}{L:List (Bs×Bs)}{a4:List (Bs×Int)}{b7:List (List Nat)}{P:List (Nat×Int×Bool)}{b5 e9:List (Value×List Nat)}{y:List (aJ×Ex)}{i3:List Aj}{c1:List Bs}{m g2:List Ex}{e5:List Int}{f g1:List Nat}{a0 c9:List Value}{e6:List aJ}{F:List dB}{e8:List ig}{e3:List qB}{e j C T b4 b8 k7 k8 k9 l0 l1 l4 l7:Nat}{b2:Nat->Prop}{b9:Nat->dK}{g0:Obj}{z a1 e0 l8 l9:Option Addr}{K:PQ}{e4:Sc}{s N W a5 a6 a7 b1 b3 c2 c3 e1 e2 c4 c5 c6 c7 c8 g6 g7 g8 g9 i4 i5 i6 m0 i7 i8 i9 h0 h1 h2 h3 h4 h5 h6 h7 h8 h9 i0 i1 j0 j1 j2 j3 j4 j5 j6 j7 j8 j9 k0 k1 k2 k3 k5 n0 n1 n2 m1 m2 m3 m4 m5 m6 m7 m8 m9:Value}{a8:Value×List Nat}{d O k6:World}{c0:aJ}{g3:ig}{a9:qD}
theorem MF:A4 B0 65 #[M (Z (Q (G (H d)) 0 I)) 4 4] (d.alloc (η #[U V a2,U V b0,U V b6,U V e7] 68)) λb c=>b=σ (U V (aT [a2,b0,b6,e7]))/\c=d.alloc (η #[U V a2,U V b0,U V b6,U V e7] 68):=by
 refine sI (G (H d)) 4 [a2,b0,b6,e7] ak λe _ a=>?_;rw[aI (κ d _)]
 match e,a with
 |0,a=>simp at a;subst a;rfl
 |1,a=>simp at a;subst a;rfl
 |2,a=>simp at a;subst a;rfl
 |3,a=>simp at a;subst a;rfl
theorem ME:A4 B0 65 #[M (Z (Q (G (H d)) 0 I)) 4 4] (d.alloc (η #[U V a2,U V b0,U V b6,U V e7] 68)).drew λb c=>b=σ (U V (aT [a2,b0,b6,e7]))/\c=(d.alloc (η #[U V a2,U V b0,U V b6,U V e7] 68)).drew:=by
 refine sI (G (H d)) 4 [a2,b0,b6,e7] ak λe _ a=>?_;rw[aI (x:=(d.alloc _).drew) (κ d _)]
 match e,a with
 |0,a=>simp at a;subst a;rfl
 |1,a=>simp at a;subst a;rfl
 |2,a=>simp at a;subst a;rfl
 |3,a=>simp at a;subst a;rfl
theorem Jn(a:qD):aT [fT (decide ((E a.from_:Y)<1)||decide ((E a.from_:Y)>4)) 8,fT (decide ((E a.outs:Y)<1)||decide ((E a.outs:Y)>4)) 8,fT (decide (a.bi< -1)||(!(a.bi== -1)&&((E a.order:Y)==0))) 8,fT (decide ((E a.order:Y)>4)||lS (E a.outs) a.order) 8]=fT (!iQ a) 8:=by
 have c:(!iQ a)=((decide ((E a.from_:Y)<1)||decide ((E a.from_:Y)>4))||(decide ((E a.outs:Y)<1)||decide ((E a.outs:Y)>4))||(decide (a.bi< -1)||(!(a.bi== -1)&&((E a.order:Y)==0)))||(decide ((E a.order:Y)>4)||lS (E a.outs) a.order)):=by
  have d:(a.order.all λb=>decide (0<=b.1)&&decide (b.1<E a.outs))= !lS (E a.outs) a.order:=by
   unfold lS
   induction a.order with
   |nil=>rfl
   |cons b e ih=>
    rw[List.all_cons,List.any_cons,ih,Bool.not_or,xD,J5];simp only[υ,G6,F9,F0,F6,Int.not_lt,Int.not_le]
  unfold iQ;rw[d,J5];generalize lS (E a.outs) a.order=e
  cases e
  ·simp only[G6,I3,Bool.or_eq_true,F0,F6,F9,υ,I1,A1,H6,Bool.true_eq_false,D5,G3];omega
  simp
 rw[c];generalize (decide ((E a.from_:Y)<1)||decide ((E a.from_:Y)>4))=b;generalize (decide ((E a.outs:Y)<1)||decide ((E a.outs:Y)>4))=d;generalize (decide (a.bi< -1)||(!(a.bi== -1)&&((E a.order:Y)==0)))=e;generalize (decide ((E a.order:Y)>4)||lS (E a.outs) a.order)=f
 cases b<;>cases d<;>cases e<;>cases f<;>rfl
theorem Cz(K F B y)(a:mr d (M z a9.order.length e) a9.order):
  A4 B0 141 #[C9 #[M K a9.from_.length F,ε (ae a9.aL),M B a9.outs.length y,M z a9.order.length e,U V a9.bi]] d λa5 a6=>a5=σ (U V (fT (!iQ a9) 8))/\G4 d.heap.size d a6:=by
 rw[<-Jn a9];have a0:D (mr d (M z a9.order.length e) a9.order):=a;clear a;obtain⟨a1,a⟩:=au (lS a9.outs.length a9.order);have a2:D (a1=lS a9.outs.length a9.order):=a;rw[<-a];clear a;obtain⟨T,a⟩:∃T:Γ (Y×H9),T=a9.order:=⟨_,J⟩;rw[<-a]at a0 a2 ⊢;clear a;obtain⟨w,a⟩:=au (a9.bi:Y);rw[<-a];clear a;obtain⟨v,hF⟩:=au (a9.from_.length:A2);rw[<-hF];clear hF;obtain⟨q,a⟩:=au (a9.outs.length:A2);rw[<-a]at a2 ⊢;clear a;obtain⟨u,a⟩:=au (T.length:A2);rw[<-a]at a0 ⊢;clear a;have N:=κ d (η #[M K v F,ε (ae a9.aL),M B q y,M z u e,U V w] 63);have a7:G4 d.heap.size d _:=ai d (η #[M K v F,ε (ae a9.aL),M B q y,M z u e,U V w] 63);obtain⟨s,a⟩:=au (decide ((v:Y)<1));obtain⟨O,b⟩:=au (decide ((v:Y)>4));obtain⟨t,c⟩:=au (decide ((q:Y)<1));obtain⟨P,f⟩:=au (decide ((q:Y)>4));obtain⟨j,g⟩:=au (decide (w< -1));obtain⟨r,i⟩:=au (w== -1);obtain⟨L,k⟩:=au ((u:Y)==0);obtain⟨X,l⟩:=au (decide ((u:Y)>4));rw[<-a,<-b,<-c,<-f,<-g,<-i,<-k,<-l];have C:D ((s=decide ((v:Y)<1)/\O=decide ((v:Y)>4))/\(t=decide ((q:Y)<1)/\P=decide ((q:Y)>4))/\(j=decide (w< -1)/\r=(w== -1)/\L=((u:Y)==0))/\X=decide ((u:Y)>4)):=⟨⟨a,b⟩,⟨c,f⟩,⟨g,i,k⟩,l⟩;clear a b c f g i k l;go_enter func141,ntmps141;go_upto_region 1 with fail
 generalize b1:d.alloc (η #[M K v F,ε (ae a9.aL),M B q y,M z u e,U V w] 63)=W at*;generalize a8:d.heap.size=qb at*;have R:=af N;have a3:G4 d.heap.size d W:=by rw[a8];exact a7
 have g:∀f:A0,G4 W.heap.size W f->(f.cell? (Q qb 0 I)=Z (M K v F)/\f.cell? (Q qb 2 I)=Z (M B q y)/\f.cell? (Q qb 3 I)=Z (M z u e)/\f.cell? (Q qb 4 I)=Z (U V w))/\qb<f.heap.size:=λf S=>⟨⟨cK S R (aC N),cK S R (aC N),cK S R (aC N),cK S R (aC N)⟩,ω R S.size⟩;refine J8 (S:=λf=>G4 W.heap.size W f) aF (B3 _ _).drew (λc=>?_);refine tG 0 3 (ζ (Z (Q qb 0 I))) J J aF (λ_ _ _ a=>a) c ?_ ?_;refine tG 1 4 (M K v F) J J aF (λ_ _ _ a=>a) c ?_ ?_;refine tG 2 5 (U V (v:Y)) J J aF (λ_ _ _ a=>a) c ?_ ?_;simp only[ι,α,γ,δ];refine tG 3 6 (ο s) J J aF (λ_ _ _ a=>a) c ?_ (A9 ⟨by rfl,λf b=>by obtain⟨⟨k,l,m,n⟩,o⟩:=g f b;clear b g;rw[C.out.1.1];go_simp⟩);refine tG 4 7 (ο s) J J aF (λ_ _ _ a=>a) c ?_ ?_;simp only[ι,α,γ,δ];refine tG 5 8 (G0 s C0 (ζ (Z (Q qb 0 I)))) J J aF (λ_ _ _ a=>a) c ?_ (by cases s with|true=>exact A5 ⟨by rfl,J⟩|false=>exact A9 ⟨by rfl,λf b=>by obtain⟨⟨k,l,m,n⟩,o⟩:=g f b;clear b g;go_simp⟩);simp only[ι,α,γ,δ];refine tG 6 9 (G0 s C0 (M K v F)) J J aF (λ_ _ _ a=>a) c ?_ (by cases s with|true=>exact A5 ⟨by rfl,J⟩|false=>exact A9 ⟨by rfl,λf b=>by obtain⟨⟨k,l,m,n⟩,o⟩:=g f b;clear b g;go_simp⟩);simp only[ι,α,γ,δ];refine tG 7 10 (G0 s C0 (U V (v:Y))) J J aF (λ_ _ _ a=>a) c ?_ (by cases s with|true=>exact A5 ⟨by rfl,J⟩|false=>exact A9 ⟨by rfl,λf b=>by obtain⟨⟨k,l,m,n⟩,o⟩:=g f b;clear b g;go_simp⟩);simp only[ι,α,γ,δ];refine tG 8 11 (G0 s C0 (ο O)) J J aF (λ_ _ _ a=>a) c ?_ (by cases s with|true=>exact A5 ⟨by rfl,J⟩|false=>exact A9 ⟨by rfl,λf b=>by obtain⟨⟨k,l,m,n⟩,o⟩:=g f b;clear b g;rw[C.out.1.2];go_simp⟩);simp only[ι,α,γ,δ];refine tG 9 12 (ο (s||O)) J J aF (λ_ _ _ a=>a) c ?_ (A9 ⟨by rfl,by cases s<;>(intro f b;clear g;go_simp)⟩);refine tG 11 14 (ζ (Z (Q qb 2 I))) J J aF (λ_ _ _ a=>a) c ?_ ?_;refine tG 12 15 (M B q y) J J aF (λ_ _ _ a=>a) c ?_ ?_;refine tG 13 16 (U V (q:Y)) J J aF (λ_ _ _ a=>a) c ?_ ?_;simp only[ι,α,γ,δ];refine tG 14 17 (ο t) J J aF (λ_ _ _ a=>a) c ?_ (A9 ⟨by rfl,λf b=>by obtain⟨⟨k,l,m,n⟩,o⟩:=g f b;clear b g;rw[C.out.2.1.1];go_simp⟩);refine tG 22 25 (ζ (Z (Q qb 4 I))) J J aF (λ_ _ _ a=>a) c ?_ ?_;refine tG 23 26 (U V w) J J aF (λ_ _ _ a=>a) c ?_ ?_;simp only[ι,α,γ,δ];refine tG 24 27 (ο j) J J aF (λ_ _ _ a=>a) c ?_ (A9 ⟨by rfl,λf b=>by obtain⟨⟨k,l,m,n⟩,o⟩:=g f b;clear b g;rw[C.out.2.2.1.1];go_simp⟩);refine tG 37 40 (ζ (Z (Q qb 3 I))) J J aF (λ_ _ _ a=>a) c ?_ ?_;refine tG 38 41 (M z u e) J J aF (λ_ _ _ a=>a) c ?_ ?_;refine tG 39 42 (U V (u:Y)) J J aF (λ_ _ _ a=>a) c ?_ ?_;simp only[ι,α,γ,δ];refine tG 40 43 (ο X) J J aF (λ_ _ _ a=>a) c ?_ (A9 ⟨by rfl,λf b=>by obtain⟨⟨k,l,m,n⟩,o⟩:=g f b;clear b g;rw[C.out.2.2.2];go_simp⟩);all_goals try(simp only[ι,α,γ,δ];first|exact A5 ⟨by rfl,J⟩|exact A9 ⟨by rfl,λf b=>by obtain⟨⟨k,l,m,n⟩,o⟩:=g f b;clear b g;go_simp⟩)
 simp only[ι,α,γ,δ];refine φ (rs:=[10]) aF ak ?_;refine μ J (λp i=>?_) ρ
 go_simp
 go_wp2_with(go_at_call 122;refine bP eX ?_);refine i _ _ c (λc=>?_);clear i p;refine tG 15 18 (ο t) J J aF (λ_ _ _ a=>a) c ?_ ?_;simp only[ι,α,γ,δ];refine tG 16 19 (G0 t C0 (ζ (Z (Q qb 2 I)))) J J aF (λ_ _ _ a=>a) c ?_ (by cases t with|true=>exact A5 ⟨by rfl,J⟩|false=>exact A9 ⟨by rfl,λf b=>by obtain⟨⟨k,l,m,n⟩,o⟩:=g f b;clear b g;go_simp⟩);simp only[ι,α,γ,δ];refine tG 17 20 (G0 t C0 (M B q y)) J J aF (λ_ _ _ a=>a) c ?_ (by cases t with|true=>exact A5 ⟨by rfl,J⟩|false=>exact A9 ⟨by rfl,λf b=>by obtain⟨⟨k,l,m,n⟩,o⟩:=g f b;clear b g;go_simp⟩);simp only[ι,α,γ,δ];refine tG 18 21 (G0 t C0 (U V (q:Y))) J J aF (λ_ _ _ a=>a) c ?_ (by cases t with|true=>exact A5 ⟨by rfl,J⟩|false=>exact A9 ⟨by rfl,λf b=>by obtain⟨⟨k,l,m,n⟩,o⟩:=g f b;clear b g;go_simp⟩);simp only[ι,α,γ,δ];refine tG 19 22 (G0 t C0 (ο P)) J J aF (λ_ _ _ a=>a) c ?_ (by cases t with|true=>exact A5 ⟨by rfl,J⟩|false=>exact A9 ⟨by rfl,λf b=>by obtain⟨⟨k,l,m,n⟩,o⟩:=g f b;clear b g;rw[C.out.2.1.2];go_simp⟩);simp only[ι,α,γ,δ];refine tG 20 23 (ο (t||P)) J J aF (λ_ _ _ a=>a) c ?_ (A9 ⟨by rfl,by cases t<;>(intro f b;clear g;go_simp)⟩);all_goals try(simp only[ι,α,γ,δ];first|exact A5 ⟨by rfl,J⟩|exact A9 ⟨by rfl,λf b=>by obtain⟨⟨k,l,m,n⟩,o⟩:=g f b;clear b g;go_simp⟩)
 simp only[ι,α,γ,δ];refine φ (rs:=[21]) aF ak ?_;refine μ J (λp i=>?_) ρ
 go_simp
 go_wp2_with(go_at_call 122;refine bP eX ?_);refine i _ _ c (λc=>?_);clear i p;refine tG 25 28 (ο j) J J aF (λ_ _ _ a=>a) c ?_ ?_;simp only[ι,α,γ,δ];refine tG 26 29 (G0 j C0 (ζ (Z (Q qb 4 I)))) J J aF (λ_ _ _ a=>a) c ?_ (by cases j with|true=>exact A5 ⟨by rfl,J⟩|false=>exact A9 ⟨by rfl,λf b=>by obtain⟨⟨k,l,m,n⟩,o⟩:=g f b;clear b g;go_simp⟩);simp only[ι,α,γ,δ];refine tG 27 30 (G0 j C0 (U V w)) J J aF (λ_ _ _ a=>a) c ?_ (by cases j with|true=>exact A5 ⟨by rfl,J⟩|false=>exact A9 ⟨by rfl,λf b=>by obtain⟨⟨k,l,m,n⟩,o⟩:=g f b;clear b g;go_simp⟩);simp only[ι,α,γ,δ];refine tG 28 31 (G0 j C0 (ο (!r))) J J aF (λ_ _ _ a=>a) c ?_ (by cases j with|true=>exact A5 ⟨by rfl,J⟩|false=>exact A9 ⟨by rfl,λf b=>by obtain⟨⟨k,l,m,n⟩,o⟩:=g f b;clear b g;rw[C.out.2.2.1.2.1];go_simp;rfl⟩);simp only[ι,α,γ,δ];refine tG 29 32 (G0 j C0 (ο (!r))) J J aF (λ_ _ _ a=>a) c ?_ (by cases j with|true=>exact A5 ⟨by rfl,J⟩|false=>exact A9 ⟨by rfl,λf b=>by obtain⟨⟨k,l,m,n⟩,o⟩:=g f b;clear b g;go_simp⟩);simp only[ι,α,γ,δ];refine tG 30 33 (G0 j C0 (G0 r C0 (ζ (Z (Q qb 3 I))))) J J aF (λ_ _ _ a=>a) c ?_ (by cases j with|true=>exact A5 ⟨by rfl,J⟩|false=>cases r with|true=>exact A5 ⟨by rfl,J⟩|false=>exact A9 ⟨by rfl,λf b=>by obtain⟨⟨k,l,m,n⟩,o⟩:=g f b;clear b g;go_simp⟩);simp only[ι,α,γ,δ];refine tG 31 34 (G0 j C0 (G0 r C0 (M z u e))) J J aF (λ_ _ _ a=>a) c ?_ (by cases j with|true=>exact A5 ⟨by rfl,J⟩|false=>cases r with|true=>exact A5 ⟨by rfl,J⟩|false=>exact A9 ⟨by rfl,λf b=>by obtain⟨⟨k,l,m,n⟩,o⟩:=g f b;clear b g;go_simp⟩);simp only[ι,α,γ,δ];refine tG 32 35 (G0 j C0 (G0 r C0 (U V (u:Y)))) J J aF (λ_ _ _ a=>a) c ?_ (by cases j with|true=>exact A5 ⟨by rfl,J⟩|false=>cases r with|true=>exact A5 ⟨by rfl,J⟩|false=>exact A9 ⟨by rfl,λf b=>by obtain⟨⟨k,l,m,n⟩,o⟩:=g f b;clear b g;go_simp⟩);simp only[ι,α,γ,δ];refine tG 33 36 (G0 j C0 (G0 r C0 (ο L))) J J aF (λ_ _ _ a=>a) c ?_ (by cases j with|true=>exact A5 ⟨by rfl,J⟩|false=>cases r with|true=>exact A5 ⟨by rfl,J⟩|false=>exact A9 ⟨by rfl,λf b=>by obtain⟨⟨k,l,m,n⟩,o⟩:=g f b;clear b g;rw[C.out.2.2.1.2.2];go_simp⟩);simp only[ι,α,γ,δ];refine tG 34 37 (G0 j C0 (ο (!r&&L))) J J aF (λ_ _ _ a=>a) c ?_ (by cases j with|true=>exact A5 ⟨by rfl,J⟩|false=>exact A9 ⟨by rfl,by cases r<;>(intro f b;clear g;go_simp)⟩);simp only[ι,α,γ,δ];refine tG 35 38 (ο (j||(!r&&L))) J J aF (λ_ _ _ a=>a) c ?_ (A9 ⟨by rfl,by cases j<;>(intro f b;clear g;go_simp)⟩);all_goals try(simp only[ι,α,γ,δ];first|exact A5 ⟨by rfl,J⟩|exact A9 ⟨by rfl,λf b=>by obtain⟨⟨k,l,m,n⟩,o⟩:=g f b;clear b g;go_simp⟩)
 simp only[ι,α,γ,δ];refine φ (rs:=[36]) aF ak ?_;refine μ J (λp i=>?_) ρ
 go_simp
 go_wp2_with(go_at_call 122;refine bP eX ?_);refine i _ _ c (λc=>?_);clear i p;refine tG 41 44 (ο X) J J aF (λ_ _ _ a=>a) c ?_ ?_;all_goals try(simp only[ι,α,γ,δ];first|exact A5 ⟨by rfl,J⟩|exact A9 ⟨by rfl,λf b=>by obtain⟨⟨k,l,m,n⟩,o⟩:=g f b;clear b g;go_simp⟩)
 simp only[ι,α,γ,δ]
 cases X with
 |true=>
  refine tG 42 45 C0 J J aF (λ_ _ _ a=>a) c ?_ (A5 ⟨by rfl,J⟩);simp only[ι,α,γ,δ];refine tG 43 46 C0 J J aF (λ_ _ _ a=>a) c ?_ (A5 ⟨by rfl,J⟩);simp only[ι,α,γ,δ];refine tG 44 47 C0 J J aF (λ_ _ _ a=>a) c ?_ (A5 ⟨by rfl,J⟩);simp only[ι,α,γ,δ];refine tG 45 48 C0 J J aF (λ_ _ _ a=>a) c ?_ (A5 ⟨by rfl,J⟩);simp only[ι,α,γ,δ];refine tG 46 49 C0 J J aF (λ_ _ _ a=>a) c ?_ (A5 ⟨by rfl,J⟩);simp only[ι,α,γ,δ];refine tG 47 50 C0 J J aF (λ_ _ _ a=>a) c ?_ (A5 ⟨by rfl,J⟩);simp only[ι,α,γ,δ];refine tG 48 51 C0 J J aF (λ_ _ _ a=>a) c ?_ (A5 ⟨by rfl,J⟩);refine tG 49 52 (ο B7) J J aF (λ_ _ _ a=>a) c ?_ ?_;all_goals try(simp only[ι,α,γ,δ];first|exact A5 ⟨by rfl,J⟩|exact A9 ⟨by rfl,λf b=>by clear b g;go_simp⟩)
  simp only[ι,α,γ,δ];refine φ (rs:=[50]) aF ak ?_;refine μ J (λp i=>?_) ρ
  go_simp
  go_wp2_with(go_at_call 122;refine bP eX ?_);refine i _ _ c (λc=>?_);clear i p;refine φ (rs:=[51]) aF ak ?_;refine μ J (λp i=>?_) ρ
  go_simp
  go_wp2_with fail;refine i _ _ (c.trans ((ai _ _).mono c.size)) (λc=>?_);clear i p;refine φ (rs:=[52]) aF ak ?_;refine μ J (λp i=>?_) ρ
  go_simp
  go_wp2_with(go_at_call 65;refine bP ME ?_);refine i _ _ c (λc=>?_);clear i p;refine tG 53 2 (U V (aT [fT (s||O) 8,fT (t||P) 8,fT (j||(!r&&L)) 8,fT B7 8])) J J aF (λ_ _ _ a=>a) c ?_ ?_;all_goals try(simp only[ι,α,γ,δ];first|exact A5 ⟨by rfl,J⟩|exact A9 ⟨by rfl,λf b=>by clear b g;go_simp⟩)
  simp only[ι,α,γ,δ];refine H7 aF ?_ _
  go_wp2
  go_ret;exact⟨J,bT a3 c⟩
 |false=>
  refine tG 42 45 (ζ (Z (Q qb 3 I))) J J aF (λ_ _ _ a=>a) c ?_ ?_;refine tG 43 46 (M z u e) J J aF (λ_ _ _ a=>a) c ?_ ?_;refine tG 44 47 (ζ (Z (Q qb 2 I))) J J aF (λ_ _ _ a=>a) c ?_ ?_;refine tG 45 48 (M B q y) J J aF (λ_ _ _ a=>a) c ?_ ?_;refine tG 46 49 (U V (q:Y)) J J aF (λ_ _ _ a=>a) c ?_ ?_;all_goals try(simp only[ι,α,γ,δ];first|exact A5 ⟨by rfl,J⟩|exact A9 ⟨by rfl,λf b=>by obtain⟨⟨k,l,m,n⟩,o⟩:=g f b;clear b g;go_simp⟩)
  simp only[ι,α,γ,δ];refine φ (rs:=[47]) aF ak ?_;refine μ J (λp i=>?_) ρ
  go_simp
  go_wp2_with(go_at_call 203;refine bP JK ?_);refine i _ _ (c.trans ((ai _ _).mono c.size)) (λc=>?_);clear i p;have a4:=vW ((W.alloc (η #[U V (q:Y)] 3)).drew) (M z u e) T W.heap.size (q:Y) (mr.ah (mr.ah a0 a3) (ai W _).drew) ak ((aI (x:=(W.alloc _).drew) (κ W _)).trans J);rw[<-a2.out]at a4;refine φ (rs:=[48]) aF ak ?_;refine μ J (λp i=>?_) ρ
  go_simp
  go_wp2_with(go_at_call 202;refine cB (a4) ?_;rintro _ b0);refine i _ _ (bT c b0) (λc=>?_);clear i p;clear a4;refine tG 49 52 (ο a1) J J aF (λ_ _ _ a=>a) c ?_ ?_;all_goals try(simp only[ι,α,γ,δ];first|exact A5 ⟨by rfl,J⟩|exact A9 ⟨by rfl,λf b=>by clear b g;go_simp⟩)
  simp only[ι,α,γ,δ];refine φ (rs:=[50]) aF ak ?_;refine μ J (λp i=>?_) ρ
  go_simp
  go_wp2_with(go_at_call 122;refine bP eX ?_);refine i _ _ c (λc=>?_);clear i p;refine φ (rs:=[51]) aF ak ?_;refine μ J (λp i=>?_) ρ
  go_simp
  go_wp2_with fail;refine i _ _ (c.trans ((ai _ _).mono c.size)) (λc=>?_);clear i p;refine φ (rs:=[52]) aF ak ?_;refine μ J (λp i=>?_) ρ
  go_simp
  go_wp2_with(go_at_call 65;refine bP MF ?_);refine i _ _ c (λc=>?_);clear i p;refine tG 53 2 (U V (aT [fT (s||O) 8,fT (t||P) 8,fT (j||(!r&&L)) 8,fT a1 8])) J J aF (λ_ _ _ a=>a) c ?_ ?_;all_goals try(simp only[ι,α,γ,δ];first|exact A5 ⟨by rfl,J⟩|exact A9 ⟨by rfl,λf b=>by clear b g;go_simp⟩)
  simp only[ι,α,γ,δ];refine H7 aF ?_ _
  go_wp2
  go_ret;exact⟨J,bT a3 c⟩
def Dv(tt:Γ (aJ×Ex))(R:A2->dK)(l:Bs)(a0 a1 a2 a3 a4 a5 a6 a7 a8 a9 a10 a11 a12 a13 a14 a15 a16:A3)(n:Y):Prop:=(dS tt l=I/\n=2/\a5=M I 0 0)\/
 (∃(i:A2) (te:aJ×Ex),dS tt l=Z i/\tt[i]? =Z te/\n=0/\ [a0,a1,a2,a3,a4,a5,a6,a7,a8,a9,a10,a11,a12,a13,a14,a15,a16]=(R i).arr.toList)
theorem Dv.gZ{aS}(l:Dv y b9 X s N W a5 a6 a7 b1 b3 c2 c3 e1 e2 c4 c5 c6 c7 c8 a2)(m:vF d f aS y b9):∃g,gD d a7 g/\∀a b,dS y X=Z a->y[a]? =Z b->g=b.1.gZ:=by
 rcases l with⟨c,e,i⟩|⟨a,b,c,e,i,n⟩
 ·exact⟨[],i▸⟨I,0,J,ak,A9 J⟩,λa b j _=>by rw[c]at j;cases j⟩
 have o:a7=M (b9 a).uo (b9 a).un (b9 a).uc:=by have:=M0 (λX:List Value=>X[5]?) n;simpa[dK.arr]using this
 obtain⟨_,_,_,_,p⟩:=m a b e;refine⟨b.1.gZ,by rw[o];exact p.gZ,λ_ _ j k=>?_⟩;rw[c]at j;cases j;rw[e]at k;cases k;rfl
theorem Nf(C B z){aS}(O:dA d f (M aS j e) y)(W:vF d f aS y b9)(F):
  A4 B0 75 #[C9 #[M C B z,M aS j e],ε (ae F)] d λx K=>Bl d K/\∃(b c p q r s t u v w g i k l m n o:A3) (P:Y),nJ b c p q r s t u v w g i k l m n o/\x=σ (C4 #[C9 #[b,c,p,q,r,s,t,u,v,w,g,i,k,l,m,n,o],U V P])/\D (Dv y b9 F b c p q r s t u v w g i k l m n o P):=by
 by_cases L:dS y F=I
 ·refine(vJ C B z O L).mono ?_;rintro x K ⟨N,⟨a,rfl⟩|⟨R,S,_,a,T,rfl,_⟩⟩
  ·exact⟨N,_,_,_,_,_,_,_,_,_,_,_,_,_,_,_,_,_,_,by simp[nJ,H3],J,A9 ⟨a,J,J⟩⟩
  rw[L]at a;cases a
 refine(uK C B z O W L).mono ?_;rintro x K ⟨N,R,S,a,T,rfl⟩;exact⟨N,_,_,_,_,_,_,_,_,_,_,_,_,_,_,_,_,_,_,by simp[nJ,H3],J,A5 ⟨R,S,a,T,J,J⟩⟩
def aet(w2:A0)(tt:Γ (aJ×Ex))(R:A2->dK)(l:Bs)(s12 s13:A3)(wx:A0):Prop:=∃(g:A2) (a0 a1 a2 a3 a4 a5 a6 a7 a8 a9 a10 a11 a12 a13 a14 a15 a16:A3) (n6:Y),s12=ζ (Z ⟨g,0,I⟩)/\s13=U V n6/\G (H w2)<=g/\nJ a0 a1 a2 a3 a4 a5 a6 a7 a8 a9 a10 a11 a12 a13 a14 a15 a16/\wx.heap[g]? =Z (η #[a0,a1,a2,a3,a4,a5,a6,a7,a8,a9,a10,a11,a12,a13,a14,a15,a16] 235 (0,0))/\D (Dv tt R l a0 a1 a2 a3 a4 a5 a6 a7 a8 a9 a10 a11 a12 a13 a14 a15 a16 n6)/\G4 (G (H w2)) w2 wx
def adi(f:Func):Code:=((f.body.bind (fV 6)).getD .skip)
def adj(f:Func):Code:=((f.body.bind (fV 7)).getD .skip)
theorem FU{aS}(a:d.heap[e]? =Z (η #[M z T C,M aS b8 b4] 194 (0,0)))(b:d.heap[j]? =Z (η #[ε (ae a3.1),ε (ae a3.2)] 59 (0,0)))(i:dA d f (M aS b8 b4) y)(g:vF d f aS y b9)(c:∀(k l S X a0 a1 a2 a4 a8:A3) (m:A0),aet d y b9 a3.1 k l m->g4 ⟨#[s,N,W,ζ (Z (Q e 0 I)),a5,a6,a7,b1,b3,c2,ζ (Z (Q j 0 I)),c3,k,l,c4,c5,c6,c7,c8,g6,g7,g8,g9,S,X,a0,a1,a2,a4,a8,h0,h1,h2,h3,h4,h5,h6,h7,h8,h9,i0,i1,j0,j1,j2,j3,j4,j5,j6,j7,j8,j9,k0,k1,k2,k3,k5],[]⟩ m):
  Code.wp B0 (adi M1) (Exit.then g4 g5) ⟨#[s,N,W,ζ (Z (Q e 0 I)),a5,a6,a7,b1,b3,c2,ζ (Z (Q j 0 I)),c3,e1,e2,c4,c5,c6,c7,c8,g6,g7,g8,g9,i4,i5,i6,m0,i7,i8,i9,h0,h1,h2,h3,h4,h5,h6,h7,h8,h9,i0,i1,j0,j1,j2,j3,j4,j5,j6,j7,j8,j9,k0,k1,k2,k3,k5],[]⟩ d:=by
 conv=>arg 2;whnf
 change D _ at c;have o:β d (Q e 0 I)=Z (M z T C):=aC a;have p:β d (Q e 1 I)=Z (M aS b8 b4):=aC a;have q:β d (Q j 0 I)=Z (ε (ae a3.1)):=aC b;have r:=af a;have t:=af b;have n:=Nf z T C i g a3.1;clear i a b g;go_wp2_with(go_at_call 75;refine n.mono ?_;rintro _ a ⟨g,b0,b2,e3,e4,e5,e6,e7,e8,e9,g0,b5,b6,b7,c0,c1,c9,e0,g1,b,rfl,a9⟩);clear n o p q r t;have g2:D _:=b;obtain⟨g3,i2,i3,k4,k6,k7,k8,k9,l0,l1,l4,l7,l8,l9,m1,m2,m3⟩:=b;obtain⟨_,_,_,_,_,_,_,_,_,_,_,_,_,_,_,_,m4,i,n,o,p,q,r,t,u,v,w,x,B,F,K,L,O,P,m5,R⟩:=wH (P:=B0) (κ a (η #[ε ⟨#[]⟩,M I 0 0,M I 0 0,U V 0,ε ⟨#[]⟩,M I 0 0,U V 0,U V 0,U V 0,ο B5,U V 0,U V 0,ε ⟨#[]⟩,U V 0,ε ⟨#[]⟩,ζ I,M I 0 0] 235)) g3 i2 i3 k4 k6 k7 k8 k9 l0 l1 l4 l7 l8 l9 m1 m2 m3;have m6:Bl a m4:=R _ _ (Θ _) (ai a _);clear R;simp only[i,n,o,p,q,r,t,u,v,w,x,B,F,K,L,O,P,Result.andThen];clear i n o p q r t u v w x B F K L O P;go_wp2_with fail;exact c _ _ _ _ _ _ _ _ _ _ ⟨_,b0,b2,e3,e4,e5,e6,e7,e8,e9,g0,b5,b6,b7,c0,c1,c9,e0,g1,J,J,g.size,g2,m5,a9,bT g m6⟩
theorem iM.ah{w x v}(e:iM w v L)(c:Bl w x):iM x v L:=by
 obtain⟨f,cap,g,j,l⟩:=e;refine⟨f,cap,g,j,l.imp id ?_⟩;rintro⟨a,m,n,d,o⟩;refine⟨a,m,n,ω d c.size,λi q r=>?_⟩;have k:∀b,β x (Q a b I)=β w (Q a b I):=λb=>c.cell (p:=(Q a b I)) d;simp only[k];exact o i q r
theorem iM.pre{w cap}(c:iM w (M z e cap) L)(a)(p:a<=E L):iM w (M z a cap) (L.take a):=by
 obtain⟨_,_,d,_,f⟩:=c
 cases d;have g:E (L.take a)=a:=PS;refine⟨z,cap,by rw[g],aa, ?_⟩;rcases f with c|⟨i,j,k,l,m⟩
 ·exact A9 (by rw[c];simp)
 refine A5 ⟨i,j,k,l,λo n b=>m o n ?_⟩;rw[List.getElem?_take]at b;split at b
 ·exact b
 cases b
theorem FV(p user k)(x:nJ s N W a5 a6 a7 b1 b3 c2 c3 e1 e2 c4 c5 c6 c7 c8)(t:d.heap[e]? =Z (η #[s,N,W,a5,a6,a7,b1,b3,c2,c3,e1,e2,c4,c5,c6,c7,c8] 235 (0,0)))(q:d.heap[j]? =Z (η #[ε (ae a3.1),ε (ae a3.2)] 59 (0,0)))(B:iM d (M (Z (Q b4 b8 I)) T C) L)(K:k<=E L)(i3:T=E L)(o2:T<=C)(O:gD d a7 c1)(F:E a3.2<=I7)(f:∀z (y:Act) (i2:A2) (k4:A3) (P:A0),g5 (.panic z) (y.put (Z i2) k4) P->g5 (.panic z) y P)(o:∀(k6 k7 k8 k9 l0 l1 l4 v37 l7 l8 l9 n3 n4 n5 n6 n7 v46 n8:A3) (R:A0),Bl d R->g4 ⟨#[g6,ε (ae user),M (Z (Q b4 b8 I)) T C,g7,g8,g9,i4,i5,i6,U V (k:Y),ζ (Z (Q j 0 I)),.func (Fn.func 204) #[] #[ζ (Z (Q j 0 I))],ζ (Z (Q e 0 I)),U V p,U V (aT [p,fT (!aW a3.2||uX a3.2 (L.take k)) 2,fT (!bC c1 user) 7]),i7,i8,i9,h0,h1,h2,h3,h4,h5,h6,h7,h8,h9,i0,i1,k6,k7,k8,k9,l0,l1,l4,v37,l7,l8,l9,n3,n4,n5,n6,n7,v46,n8,m1,m2,m3,m4,m5,m6,m7,m8,m9],[]⟩ R):
  Code.wp B0 (adj M1) (Exit.then g4 g5) ⟨#[g6,ε (ae user),M (Z (Q b4 b8 I)) T C,g7,g8,g9,i4,i5,i6,U V (k:Y),ζ (Z (Q j 0 I)),.func (Fn.func 204) #[] #[ζ (Z (Q j 0 I))],ζ (Z (Q e 0 I)),U V p,m0,i7,i8,i9,h0,h1,h2,h3,h4,h5,h6,h7,h8,h9,i0,i1,j0,j1,j2,j3,j4,j5,j6,j7,j8,j9,k0,k1,k2,k3,k5,n0,n1,n2,m1,m2,m3,m4,m5,m6,m7,m8,m9],[]⟩ d:=by
 conv=>arg 2;whnf
 change D _ at o;change D _ at f;have S:=af t;have r:=af q;have u:D (∀a:A0,Bl d a->A4 B0 76 #[C9 #[s,N,W,a5,a6,a7,b1,b3,c2,c3,e1,e2,c4,c5,c6,c7,c8],ε (ae user)] a (RB (U V (fT (!bC c1 user) 7)) a)):=λa l=>Ux x (O.ah l) user;have X:D (∀a:A0,A4 B0 170 #[ε (ae a3.2)] a (RE (ο (aW a3.2)) a)):=λa=>by
  have:=mH (ae a3.2) a (by rw[aX];exact F);rw[ay]at this;exact this
 have a2:D (∀a:A0,Bl d a->A4 B0 205 #[M (Z (Q b4 b8 I)) k C,.func (Fn.func 204) #[] #[ζ (Z (Q j 0 I))]] a (RB (ο (uX a3.2 (L.take k))) a)):=λa l=>xI ((B.ah l).pre k K) (ω r l.size) (cK l r (aC q));have m:∀a:A0,Bl d a->(β a (Q e 0 I)=Z s/\β a (Q e 1 I)=Z N/\β a (Q e 2 I)=Z W/\β a (Q e 3 I)=Z a5/\β a (Q e 4 I)=Z a6/\β a (Q e 5 I)=Z a7/\β a (Q e 6 I)=Z b1/\β a (Q e 7 I)=Z b3/\β a (Q e 8 I)=Z c2/\β a (Q e 9 I)=Z c3/\β a (Q e 10 I)=Z e1/\β a (Q e 11 I)=Z e2/\β a (Q e 12 I)=Z c4/\β a (Q e 13 I)=Z c5/\β a (Q e 14 I)=Z c6/\β a (Q e 15 I)=Z c7/\β a (Q e 16 I)=Z c8)/\β a (Q j 1 I)=Z (ε (ae a3.2))/\e<G (H a)/\j<G (H a):=λa l=>⟨(yX ((l.block e S).trans t)).1,cK l r (aC q),ω S l.size,ω r l.size⟩;obtain⟨a1,a9⟩:=au (fT (!bC c1 user) 7);obtain⟨a0,a4⟩:=au (uX a3.2 (L.take k));obtain⟨v,a8⟩:=au (aW a3.2);rw[<-a9]at u o;rw[<-a4]at a2 o;rw[<-a8]at X o;have o5:k<=T:=aa;have o4:¬C<k:=aa;clear t q B O F a9 a4 a8 x i3 K;refine J8 (S:=λa=>Bl d a) aF (B3 _ _).drew (λb=>?_);refine tH 0 30 (U V p) J J aF f b ?_ ?_;refine tH 1 31 (ζ (Z (Q j 1 I))) J J aF f b ?_ ?_;refine tH 2 32 (ε (ae a3.2)) J J aF f b ?_ ?_;refine tH 13 43 (C9 #[s,N,W,a5,a6,a7,b1,b3,c2,c3,e1,e2,c4,c5,c6,c7,c8]) J J aF f b ?_ ?_;refine tH 14 44 (ε (ae user)) J J aF f b ?_ ?_;all_goals try(simp only[ι,α,γ,δ];first|exact A5 ⟨by rfl,J⟩|exact A9 ⟨by rfl,λa i=>by obtain⟨⟨b0,b2,e3,e4,e5,e6,e7,e8,e9,g0,b5,b6,b7,b9,c0,c9,e0⟩,g1,g2,g3⟩:=m a i;clear i m;go_simp⟩)
 simp only[ι,α,γ,δ];refine φ (rs:=[3]) aF ak ?_;refine μ J (λg c=>?_) ρ
 go_simp
 go_wp2_with(go_at_call 170;refine(X _).mono ?_;rintro _ o0 ⟨rfl,rfl⟩);refine c _ _ b (λb=>?_);clear c g;refine tH 4 34 (ο (!v)) J J aF f b ?_ ?_;refine tH 5 35 (ο (!v)) J J aF f b ?_ ?_;all_goals try(simp only[ι,α,γ,δ];first|exact A5 ⟨by rfl,J⟩|exact A9 ⟨by rfl,λa i=>by obtain⟨⟨b0,b2,e3,e4,e5,e6,e7,e8,e9,g0,b5,b6,b7,b9,c0,c9,e0⟩,g1,g2,g3⟩:=m a i;clear i m;go_simp⟩)
 simp only[ι,α,γ,δ]
 cases v with
 |false=>
  refine tH 6 36 C0 J J aF f b ?_ (A5 ⟨by rfl,J⟩);refine tH 7 37 C0 J J aF f b ?_ (A5 ⟨by rfl,J⟩);refine tH 8 38 C0 J J aF f b ?_ (A5 ⟨by rfl,J⟩);refine tH 9 39 C0 J J aF f b ?_ (A5 ⟨by rfl,J⟩);refine tH 10 40 C0 J J aF f b ?_ (A5 ⟨by rfl,J⟩);refine tH 11 41 (ο B7) J J aF f b ?_ ?_;all_goals try(simp only[ι,α,γ,δ];first|exact A5 ⟨by rfl,J⟩|exact A9 ⟨by rfl,λa i=>by clear i m;go_simp⟩)
  simp only[ι,α,γ,δ];refine φ (rs:=[12]) aF ak ?_;refine μ J (λg c=>?_) ρ
  go_simp
  go_wp2_with(go_at_call 122;refine bP eX ?_);refine c _ _ b (λb=>?_);clear c g;refine φ (rs:=[15]) aF ak ?_;refine μ J (λg c=>?_) ρ
  go_simp
  go_wp2_with(go_at_call 76;refine cB (u _ b) ?_;rintro o1 w);refine c _ _ (bT b w) (λb=>?_);clear c g;refine φ (rs:=[16]) aF ak ?_;refine μ J (λg c=>?_) ρ
  go_simp
  go_wp2_with fail;refine c _ _ (b.trans ((ai _ _).mono b.size)) (λb=>?_);clear c g;refine φ (rs:=[17]) aF ak ?_;refine μ J (λg c=>?_) ρ
  go_simp
  go_wp2_with(go_at_call 65;refine bP BH ?_);refine c _ _ b (λb=>?_);clear c g;refine tH 18 14 (U V (aT [p,fT B7 2,a1])) J J aF f b ?_ ?_;all_goals try(simp only[ι,α,γ,δ];first|exact A5 ⟨by rfl,J⟩|exact A9 ⟨by rfl,λa i=>by clear i m;go_simp⟩)
  simp only[ι,α,γ,δ];refine H7 aF ?_ _;exact o _ _ _ _ _ _ _ _ _ _ _ _ _ _ _ _ _ _ _ b
 |true=>
  refine tH 6 36 (M (Z (Q b4 b8 I)) T C) J J aF f b ?_ ?_;refine tH 7 37 (U V (k:Y)) J J aF f b ?_ ?_;refine tH 8 38 (M (Z (Q b4 b8 I)) k C) J J aF f b ?_ ?_;refine tH 9 39 (.func (Fn.func 204) #[] #[ζ (Z (Q j 0 I))]) J J aF f b ?_ ?_;all_goals try(simp only[ι,α,γ,δ];first|exact A5 ⟨by rfl,J⟩|exact A9 ⟨by rfl,λa i=>by obtain⟨⟨b0,b2,e3,e4,e5,e6,e7,e8,e9,g0,b5,b6,b7,b9,c0,c9,e0⟩,g1,g2,g3⟩:=m a i;clear i m;go_simp⟩)
  simp only[ι,α,γ,δ];refine φ (rs:=[10]) aF ak ?_;refine μ J (λg c=>?_) ρ
  go_simp
  go_wp2_with(go_at_call 205;refine cB (a2 _ b) ?_;rintro o0 n9);refine c _ _ (bT b n9) (λb=>?_);clear c g;refine tH 11 41 (ο a0) J J aF f b ?_ ?_;all_goals try(simp only[ι,α,γ,δ];first|exact A5 ⟨by rfl,J⟩|exact A9 ⟨by rfl,λa i=>by clear i m;go_simp⟩)
  simp only[ι,α,γ,δ];refine φ (rs:=[12]) aF ak ?_;refine μ J (λg c=>?_) ρ
  go_simp
  go_wp2_with(go_at_call 122;refine bP eX ?_);refine c _ _ b (λb=>?_);clear c g;refine φ (rs:=[15]) aF ak ?_;refine μ J (λg c=>?_) ρ
  go_simp
  go_wp2_with(go_at_call 76;refine cB (u _ b) ?_;rintro o1 w);refine c _ _ (bT b w) (λb=>?_);clear c g;refine φ (rs:=[16]) aF ak ?_;refine μ J (λg c=>?_) ρ
  go_simp
  go_wp2_with fail;refine c _ _ (b.trans ((ai _ _).mono b.size)) (λb=>?_);clear c g;refine φ (rs:=[17]) aF ak ?_;refine μ J (λg c=>?_) ρ
  go_simp
  go_wp2_with(go_at_call 65;refine bP BH ?_);refine c _ _ b (λb=>?_);clear c g;refine tH 18 14 (U V (aT [p,fT a0 2,a1])) J J aF f b ?_ ?_;all_goals try(simp only[ι,α,γ,δ];first|exact A5 ⟨by rfl,J⟩|exact A9 ⟨by rfl,λa i=>by clear i m;go_simp⟩)
  simp only[ι,α,γ,δ];refine H7 aF ?_ _;exact o _ _ _ _ _ _ _ _ _ _ _ _ _ _ _ _ _ _ _ b
theorem fE.Xp(c:fE d (M z j C) F)(b:e<E F):∃a,z=Z (Q a 0 I)/\a<G (H d)/\j=E F/\β d ⟨a,e*4+3,I⟩=Z (U V (fq F (e:Y))):=by
 obtain⟨_,cap,f,_,g⟩:=c
 cases f;rcases g with c|⟨a,f,i,k⟩
 ·rw[c]at b;simp at b
 refine⟨a,f,i,J, ?_⟩;have:=(k e _ (θ b)).2.2.2;rw[this,fq,I9,θ b]
theorem SA(a)(f:u.head= [61])(g:2<=E u.ops):oQ a u=
  if u.ops[0].sort=2/\u.ops[1].sort=2/\bH a u.ops[0]≠bH a u.ops[1]then max (fq a u.ops[0].place) (fq a u.ops[1].place)
  else if u.ops[0].sort=2/\bH a u.ops[1]=0 then fq a u.ops[0].place
  else if u.ops[1].sort=2/\bH a u.ops[0]=0 then fq a u.ops[1].place else 3:=by
 obtain⟨b,c,d,e⟩:∃b c d,u.ops=b::c::d:=by
  match hm:u.ops,g with
  |b::c::d,_=>exact⟨b,c,d,J⟩
 have i:u.ops[0]=b:=by simp[e]
 have j:u.ops[1]=c:=by simp[e]
 rw[i,j];unfold oQ;rw[B9 (by rw[f];simp),e]
theorem qX(a:lT e u=B7)(d:u.sort=2):∃b:A2,u.place=(b:Y)/\b<e:=by
 rw[za,υ]at a;have c:=a.1;rw[d]at c;obtain⟨_,_⟩:0<=u.place/\u.place<e:=by simpa using c
 exact⟨u.place.toNat,aa,aa⟩
theorem qZ{w}(a:Bl w d)(b:Bl d O):Bl w O:=bT a b
theorem Mv(g8:∀i7∈F,i7.2.1<4)(b7:lT (E F) u=B7)(h4:u.head= [61]->2<=E u.ops)(b5:fE d (M z j e) F){sort size quiet place head}(h5:dF d f b2 [U V sort,U V a2,U V size,ο quiet,U V b0,U V b6,ε (ae X),U V place,ε (ae head),ζ a1,M e0 C T] u):
  A4 B0 208 #[M z j e,C9 #[U V sort,U V a2,U V size,ο quiet,U V b0,U V b6,ε (ae X),U V place,ε (ae head),ζ a1,M e0 C T]] d (RB (U V (oQ F u)) d):=by
 obtain⟨i1,i2,i3,b8, -, -,g9⟩:=h5.op;have w:=ai d (η #[U V sort,U V a2,U V size,ο quiet,U V b0,U V b6,ε (ae X),U V place,ε (ae head),ζ a1,M e0 C T] 210);obtain⟨b9,c0⟩:=au (d.alloc (η #[U V sort,U V a2,U V size,ο quiet,U V b0,U V b6,ε (ae X),U V place,ε (ae head),ζ a1,M e0 C T] 210));have h0:=κ d (η #[U V sort,U V a2,U V size,ο quiet,U V b0,U V b6,ε (ae X),U V place,ε (ae head),ζ a1,M e0 C T] 210);rw[<-c0]at h0 w;obtain⟨⟨-, -, -, -, -, -, -, -,i8, -,i4⟩,i9⟩:=oO h0;have:(ae head).toList=head:=ay;by_cases c1:head= [61]
 ·have S:=h4 (b8.trans c1);have j0:2<=C:=aa;have b:D _:=SA F (b8.trans c1) S;obtain⟨c2,rfl,j1,y,c3,c4,c5,c6,c7,c8,b3,g,c9,e1,e2,e3,i,l⟩:=g9 0 aa;obtain⟨_,h6,a6,r,e4,e5,e6,e7,e8,e9,b4,k,g0,g1,g2,g3,m,s⟩:=g9 1 aa
  cases h6;obtain⟨-,o,q, -⟩:=l.op;obtain⟨-,L,N, -⟩:=s.op;rw[za,υ]at b7;have O:=nQ b7.2 (τ (show 0<E u.ops by omega));have P:=nQ b7.2 (τ (show 1<E u.ops by omega));have R:∀h1,β b9 (Q c2 h1 I)=β d (Q c2 h1 I):=λh1=>w.cell (p:=(Q c2 h1 I)) j1;have W:D (kH b9 c2 0 (U V y) (U V c3) (U V c4) (ο c5) (U V c6) (U V c7) (ε (ae c8)) (U V b3) (ε (ae g)) (ζ c9) (M e1 e2 e3)):=by
   unfold kH at i ⊢;simp only[R,D];exact i
  have a0:D (kH b9 c2 1 (U V r) (U V e4) (U V e5) (ο e6) (U V e7) (U V e8) (ε (ae e9)) (U V b4) (ε (ae k)) (ζ g0) (M g1 g2 g3)):=by
   unfold kH at m ⊢;simp only[R,D];exact m
  have b1:D (∀a,Bl d a->A4 B0 207 #[M z j e,C9 #[U V y,U V c3,U V c4,ο c5,U V c6,U V c7,ε (ae c8),U V b3,ε (ae g),ζ c9,M e1 e2 e3]] a (RB (U .u64 ((bH F u.ops[0]:A2):Y)) a)):=λa x=>AO g8 _ u.ops[0] (E9 _) O a f b2 z j e (b5.ah x) y c3 c4 c5 c6 c7 c8 b3 g c9 e1 e2 e3 (l.ah x);have g5:D (∀a,Bl d a->A4 B0 207 #[M z j e,C9 #[U V r,U V e4,U V e5,ο e6,U V e7,U V e8,ε (ae e9),U V b4,ε (ae k),ζ g0,M g1 g2 g3]] a (RB (U .u64 ((bH F u.ops[1]:A2):Y)) a)):=λa x=>AO g8 _ u.ops[1] (E9 _) P a f b2 z j e (b5.ah x) r e4 e5 e6 e7 e8 e9 b4 k g0 g1 g2 g3 (s.ah x);have p:D (y=2->∃c:A2,b3=(c:Y)/\c<E F):=λg4=>by rw[<-q];exact qX O (o.trans g4)
  have t:D (r=2->∃c:A2,b4=(c:Y)/\c<E F):=λg4=>by rw[<-N];exact qX P (L.trans g4)
  rw[o,L,q,N]at b;obtain⟨v,a3⟩:=au (bH F u.ops[0]);obtain⟨B,a4⟩:=au (bH F u.ops[1]);have j2:=qx g8 u.ops[0];have j3:=qx g8 u.ops[1];rw[<-a3]at b1 b j2;rw[<-a4]at g5 b j3;obtain⟨K,a5⟩:=au (oQ F u);rw[<-a5]at b ⊢;have n:D (fE d (M z j e) F):=b5;have h2:D (Bl d b9):=w;subst c1;clear b5 h5 g9 a5 a3 a4 i m l s O P b7 R i2 i3 b8 h4 h0 w o L q N a6 i1 S;go_enter L2,K4;go_upto_region 1 with fail
  rw[<-c0];clear c0;go_upto_region 3 with fail
  refine acT i9 j0 (by have:=h2.out.size;omega) i4 W a0 ?_;intro l m _ _ _ _ _ _ v20 v21 L q a9 w;dsimp only;have h3:Bl d L:=bT h2 w;obtain⟨⟨h9,i0,i5,i6,j4,j5,j6,j7,j8,j9,k0⟩,g6⟩:=oO q;obtain⟨⟨k1,k2,k3,k4,k5,k6,k7,k8,k9,l0,l1⟩,g7⟩:=oO a9;change D _ at q;change D _ at a9;have i:D _:=h3;clear w W a0 i8 i4;have h7:D (∀(a:A0) (N O P:Y) (R:H9) (S W:Y) (a0:Bs) (a3:Y) (a4:Bs) (a5 a6:F2 I5) (a7 a8:A2),(N=y/\O=c3/\P=c4/\R=c5/\S=c6/\W=c7/\a0=c8/\a3=b3/\a4=g/\a5=c9/\a6=e1/\a7=e2/\a8=e3)->Bl d a->A4 B0 207 #[M z j e,C9 #[U V N,U V O,U V P,ο R,U V S,U V W,ε (ae a0),U V a3,ε (ae a4),ζ a5,M a6 a7 a8]] a (RB (U .u64 ((v:A2):Y)) a)):=by
   rintro a N O P R S W a0 a3 a4 a5 a6 a7 a8 ⟨rfl,rfl,rfl,rfl,rfl,rfl,rfl,rfl,rfl,rfl,rfl,rfl,rfl⟩ x;exact b1 a x
  have h8:D (∀(a:A0) (N O P:Y) (R:H9) (S W:Y) (a0:Bs) (a3:Y) (a4:Bs) (a5 a6:F2 I5) (a7 a8:A2),(N=r/\O=e4/\P=e5/\R=e6/\S=e7/\W=e8/\a0=e9/\a3=b4/\a4=k/\a5=g0/\a6=g1/\a7=g2/\a8=g3)->Bl d a->A4 B0 207 #[M z j e,C9 #[U V N,U V O,U V P,ο R,U V S,U V W,ε (ae a0),U V a3,ε (ae a4),ζ a5,M a6 a7 a8]] a (RB (U .u64 ((B:A2):Y)) a)):=by
   rintro a N O P R S W a0 a3 a4 a5 a6 a7 a8 ⟨rfl,rfl,rfl,rfl,rfl,rfl,rfl,rfl,rfl,rfl,rfl,rfl,rfl⟩ x;exact g5 a x
  clear b1 g5;go_upto_region 4 with fail
  go_cut [7,8] (λo b1 u=>o=U .u64 (v:Y)/\b1=U .u64 (B:Y)/\Bl L u)
  ·go_region_held2 (λa=>β a (Q l 0 I)=Z (U V y)/\β a (Q l 1 I)=Z (U V c3)/\β a (Q l 2 I)=Z (U V c4)/\β a (Q l 3 I)=Z (ο c5)/\β a (Q l 4 I)=Z (U V c6)/\β a (Q l 5 I)=Z (U V c7)/\β a (Q l 6 I)=Z (ε (ae c8))/\β a (Q l 7 I)=Z (U V b3)/\β a (Q l 8 I)=Z (ε (ae g))/\β a (Q l 9 I)=Z (ζ c9)/\β a (Q l 10 I)=Z (M e1 e2 e3)/\β a (Q m 0 I)=Z (U V r)/\β a (Q m 1 I)=Z (U V e4)/\β a (Q m 2 I)=Z (U V e5)/\β a (Q m 3 I)=Z (ο e6)/\β a (Q m 4 I)=Z (U V e7)/\β a (Q m 5 I)=Z (U V e8)/\β a (Q m 6 I)=Z (ε (ae e9))/\β a (Q m 7 I)=Z (U V b4)/\β a (Q m 8 I)=Z (ε (ae k))/\β a (Q m 9 I)=Z (ζ g0)/\β a (Q m 10 I)=Z (M g1 g2 g3)) (go_keep) (first
    |(go_at_call 207;refine((h7 _ _ _ _ _ _ _ _ _ _ _ _ _ _) ?_ ?_).mono ?_;exact⟨J,J,J,J,J,J,J,J,J,J,J,J,J⟩;(first|exact i.trans (s.mono i.size)|exact i|exact⟨i.os,i.tape,i.output,i.size,i.block⟩);rintro g4 g5 ⟨rfl,b1⟩;have o:Bl L g5:=(qZ (by first|exact s|exact fH (w:=L) (n:=1)|exact B3 _ _) b1);have s:D (Bl L g5):=o;obtain⟨⟨a20,a21,l4,l7,l8,l9,m0,m1,m2,m3,a210⟩,n5⟩:=oO ((o.block l g6).trans q);obtain⟨⟨m4,m5,m7,m8,m9,n0,n1,n2,n3,n4,m6⟩,n6⟩:=oO ((o.block m g7).trans a9);clear b1 o)
    |(go_at_call 207;refine((h8 _ _ _ _ _ _ _ _ _ _ _ _ _ _) ?_ ?_).mono ?_;exact⟨J,J,J,J,J,J,J,J,J,J,J,J,J⟩;(first|exact i.trans (s.mono i.size)|exact i|exact⟨i.os,i.tape,i.output,i.size,i.block⟩);rintro g4 g5 ⟨rfl,b1⟩;have o:Bl L g5:=(qZ (by first|exact s|exact fH (w:=L) (n:=1)|exact B3 _ _) b1);have s:D (Bl L g5):=o;obtain⟨⟨a20,a21,l4,l7,l8,l9,m0,m1,m2,m3,a210⟩,n5⟩:=oO ((o.block l g6).trans q);obtain⟨⟨m4,m5,m7,m8,m9,n0,n1,n2,n3,n4,m6⟩,n6⟩:=oO ((o.block m g7).trans a9);clear b1 o))
   go_wp2
   go_meet;exact⟨J,J,s⟩
  case rest=>
  obtain⟨rfl,rfl,b1⟩:=hcut;have o:D (Bl d wc):=bT i b1;obtain⟨⟨_, -, -, -, -, -, -,_, -, -, -⟩,_⟩:=oO ((b1.block l g6).trans q);obtain⟨⟨_, -, -, -, -, -, -,_, -, -, -⟩,_⟩:=oO ((b1.block m g7).trans a9);clear b1 q a9 i h7 h8 h9 i0 i5 i6 j4 j5 j6 j7 j8 j9 k0 k1 k2 k3 k4 k5 k6 k7 k8 k9 l0 l1 g6 g7 h3;by_cases h3:y=2
  ·subst h3;by_cases g5:r=2
   ·subst g5;by_cases i5:v≠B
    ·have:((v:Y) != (B:Y))=B7:=by simp;omega
     have:((v:Y)==(B:Y))=B5:=xW;obtain⟨c,rfl,a9⟩:=p.out J;obtain⟨g6,rfl,i6⟩:=t.out J;obtain⟨h7,rfl,h8,rfl,b1⟩:=(n.ah o).Xp a9;obtain⟨_,h6, -, -,j4⟩:=(n.ah o).Xp i6
     cases h6;have h9:¬(c:Y)<0:=aa;have:¬(g6:Y)<0:=aa;have i:D (K=max (fq F (c:Y)) (fq F (g6:Y))):=by rw[D,b.out,E7 ⟨J,J,i5⟩]
     obtain⟨i0,q⟩:=au (fq F (c:Y));obtain⟨_,g7⟩:=au (fq F (g6:Y));rw[<-q]at b1 i;rw[<-g7]at j4 i;clear q g7 b n p t i5;go_upto_region 5 with fail
     go_quiet (fail)
     go_upto_region 7 with fail
     go_region;all_goals(go_wp2;go_ret)
     all_goals exact⟨by rw[i.out];rfl,o.trans ⟨J,J,J,Θ _,λ_ _=>rfl⟩⟩
    have j4:v=B:=aa;subst j4;by_cases g6:v=0
    ·subst g6;obtain⟨c,rfl,a9⟩:=p.out J;obtain⟨h7,rfl,h8,rfl,b1⟩:=(n.ah o).Xp a9;have h9:¬(c:Y)<0:=aa;have i:D (K=fq F (c:Y)):=by rw[D,b.out,B9 (by rintro⟨-,k,g7⟩;simp_all),E7 ⟨J,J⟩]
     obtain⟨i0,q⟩:=au (fq F (c:Y));rw[<-q]at b1 i;clear q b n p t;go_upto_region 5 with fail
     go_quiet (fail)
     go_wp2
     go_ret;exact⟨by rw[i.out];rfl,o.trans ⟨J,J,J,Θ _,λ_ _=>rfl⟩⟩
    have i6:((v:Y)==0)=B5:=xW;have i:D (K=3):=by rw[D,b.out,B9 (by rintro⟨g,k,g7⟩;simp_all),B9 (by rintro⟨g,k⟩;simp_all),B9 (by rintro⟨g,k⟩;simp_all)]
    clear b n p t;go_upto_region 5 with fail
    go_quiet (fail)
    go_wp2
    go_ret;exact⟨by rw[i.out];rfl,o.trans ⟨J,J,J,Θ _,λ_ _=>rfl⟩⟩
   have i5:(r==2)=B5:=by rw[A1];exact g5
   by_cases g6:B=0
   ·subst g6;obtain⟨c,rfl,a9⟩:=p.out J;obtain⟨h7,rfl,h8,rfl,b1⟩:=(n.ah o).Xp a9;have h9:¬(c:Y)<0:=aa;have i:D (K=fq F (c:Y)):=by rw[D,b.out,B9 (by rintro⟨-,k,g7⟩;simp_all),E7 ⟨J,J⟩]
    obtain⟨i0,q⟩:=au (fq F (c:Y));rw[<-q]at b1 i;clear q b n p t;go_upto_region 5 with fail
    go_quiet (fail)
    go_wp2
    go_ret;exact⟨by rw[i.out];rfl,o.trans ⟨J,J,J,Θ _,λ_ _=>rfl⟩⟩
   have i6:((B:Y)==0)=B5:=xW;have i:D (K=3):=by rw[D,b.out,B9 (by rintro⟨g,k,g7⟩;simp_all),B9 (by rintro⟨g,k⟩;simp_all),B9 (by rintro⟨g,k⟩;simp_all)]
   clear b n p t;go_upto_region 5 with fail
   go_quiet (fail)
   go_wp2
   go_ret;exact⟨by rw[i.out];rfl,o.trans ⟨J,J,J,Θ _,λ_ _=>rfl⟩⟩
  have:(y==2)=B5:=by rw[A1];exact h3
  by_cases g5:r=2
  ·subst g5;by_cases g6:v=0
   ·subst g6;obtain⟨c,rfl,a9⟩:=t.out J;obtain⟨h7,rfl,h8,rfl,b1⟩:=(n.ah o).Xp a9;have h9:¬(c:Y)<0:=aa;have i:D (K=fq F (c:Y)):=by rw[D,b.out,B9 (by rintro⟨g, -⟩;exact h3 g),B9 (by rintro⟨g, -⟩;exact h3 g),E7 ⟨J,J⟩]
    obtain⟨i0,q⟩:=au (fq F (c:Y));rw[<-q]at b1 i;clear q b n p t;go_upto_region 5 with fail
    go_quiet (fail)
    go_wp2
    go_ret;exact⟨by rw[i.out];rfl,o.trans ⟨J,J,J,Θ _,λ_ _=>rfl⟩⟩
   have i6:((v:Y)==0)=B5:=xW;have i:D (K=3):=by rw[D,b.out,B9 (by rintro⟨g,k,g7⟩;simp_all),B9 (by rintro⟨g,k⟩;simp_all),B9 (by rintro⟨g,k⟩;simp_all)]
   clear b n p t;go_upto_region 5 with fail
   go_quiet (fail)
   go_wp2
   go_ret;exact⟨by rw[i.out];rfl,o.trans ⟨J,J,J,Θ _,λ_ _=>rfl⟩⟩
  have i5:(r==2)=B5:=by rw[A1];exact g5
  have i:D (K=3):=by rw[D,b.out,B9 (by rintro⟨g,k,g7⟩;simp_all),B9 (by rintro⟨g,k⟩;simp_all),B9 (by rintro⟨g,k⟩;simp_all)]
  clear b n p t;go_upto_region 5 with fail
  go_quiet (fail)
  go_wp2
  go_ret;exact⟨by rw[i.out];rfl,o.trans ⟨J,J,J,Θ _,λ_ _=>rfl⟩⟩
 have:(head== [61])=B5:=by rw[A1];exact c1
 have b:D (oQ F u=3):=by rw[D,oQ,E7 (by rw[b8];exact c1)]
 have h2:D (Bl d b9):=w;clear b5 h5 g9 i2 i3 b8 h4 h0 w b7 i1;go_enter L2,K4;go_upto_region 1 with fail
 rw[<-c0];clear c0
 go_wp2
 go_ret;exact⟨by rw[b.out];rfl,h2⟩
theorem GU{P:Y->Prop}(c:∀b∈F,P b.2.2)(a:e<E F):P (fq F (e:Y)):=by
 unfold fq;rw[I9,θ a];exact c _ (τ a)
theorem SB(l:∀i∈F,1<=i.2.2/\i.2.2<=9223372036854775807)(e:lT (E F) u=B7)(n:u.head= [61]->2<=E u.ops):1<=oQ F u/\oQ F u<=9223372036854775807:=by
 by_cases d:u.head= [61]
 ·have o:=n d;rw[SA F d o];rw[za,υ]at e;have p:=nQ e.2 (τ (show 0<E u.ops by omega));have q:=nQ e.2 (τ (show 1<E u.ops by omega));have j:u.ops[0].sort=2->1<=fq F u.ops[0].place/\fq F u.ops[0].place<=9223372036854775807:=λc=>by
   obtain⟨r,f,g⟩:=qX p c;rw[f];exact GU (P:=λb=>1<=b/\b<=9223372036854775807) l g
  have k:u.ops[1].sort=2->1<=fq F u.ops[1].place/\fq F u.ops[1].place<=9223372036854775807:=λc=>by
   obtain⟨r,f,g⟩:=qX q c;rw[f];exact GU (P:=λb=>1<=b/\b<=9223372036854775807) l g
  split
  ·next a=>have:=j a.1;have:=k a.2.1;omega
  split
  ·next a=>exact j a.1
  split
  ·next a=>exact k a.1
  decide
 unfold oQ;rw[E7 d];decide
theorem tZ:∀(e:Γ (aJ×Ex)) (g:Γ (Bs×Bs)) (c:A2),∀b∈aK c e g,c<=b.2.1/\b.2.1<c+E e/\∃i∈e,∃d∈i.1.aB,b.2.2=d.2.2
 | [],_,_,b,a=>by simp[aK]at a
 |_::_,[],_,b,a=>by simp[aK]at a
 |i::e,it::g,c,b,a=>by
  rw[aK,D3]at a;rcases a with a|a
  ·obtain⟨d,f,rfl⟩:=C6.mp a;exact⟨Θ _,by rw[B1];show c<_;omega,i,ak,d,f,J⟩
  obtain⟨_,_,j,k,d,f,l⟩:=tZ e g (c+1) b a;exact⟨aa,by rw[B1];omega,j,by simp[k],d,f,l⟩
mutual
def AU:Ex->A2
 | .mk _ _ _ _ _ _ _ _ _ _ o=>1+um o
def um:Γ Ex->A2
 | []=>0
 |e::es=>AU e+um es
end
mutual
theorem ES:∀a:Ex,E (fU a)<=AU a
 | .mk g i m f j k l e d c b=>by
  rw[fU,AU];split
  ·have:=yI b;omega
  simp
theorem yI:∀a:Γ Ex,E (fK a)<=um a
 | []=>by simp[fK]
 |e::a=>by
  rw[fK,um,ξ];have:=ES e;have:=yI a;omega
end
theorem RD(a b):fK (a++b)=fK a++fK b:=by
 induction a with
 |nil=>simp[fK]
 |cons c d ih=>simp[fK,ih]
theorem OO(a:e<E m):fK (m.take (e+1))=fK (m.take e)++fU m[e]:=by
 rw[ν a,RD];simp[fK]
theorem Yv(a b):um (a++b)=um a+um b:=by
 induction a with
 |nil=>simp[um]
 |cons c d ih=>simp[um,ih];omega
theorem Vf(a:Γ Ex)(b):um (a.take b)<=um a:=by
 have:=Yv (a.take b) (a.drop b);rw[List.take_append_drop]at this;omega
theorem Yw(a:u∈m):AU u<=um m:=by
 induction m with
 |nil=>cases a
 |cons b c ih=>
  rw[um];rcases C2.mp a with rfl|a
  ·omega
  have:=ih a;omega
theorem IG:∀a:Ex,fU a=if a.head= [97,110,100]then fK a.ops else [a]
 | .mk g i m f j k l e c b d=>by rw[fU];rfl
theorem Tf:∀a:Ex,AU a=1+um a.ops
 | .mk g i m f j k l e c b d=>by rw[AU];rfl
theorem dF.one(c:dF d f b2 a0 u):∀a∈a0,a.oneCell'=B7:=by
 obtain⟨_,_,_,_,_,_,_,_,_,_,_,_,_,_,_,_, -,rfl, -⟩:=c.inv;intro a b;simp only[C2,C8,G3]at b;rcases b with rfl|rfl|rfl|rfl|rfl|rfl|rfl|rfl|rfl|rfl|rfl<;>rfl
theorem cO.one(c:cO d f b2 a0 m):∀b∈a0,b.oneCell'=B7:=by
 induction m generalizing a0 with
 |nil=>cases c;intro b a;cases a
 |cons i m ih=>
  cases c with
  |cons e g=>
   intro b a;rcases D3.mp a with a|a
   ·exact e.one b a
   exact ih g b a
theorem cO.append(a:cO d f b2 a0 m)(b:cO d f b2 c9 g2):cO d f b2 (a0++c9) (m++g2):=by
 induction m generalizing a0 with
 |nil=>cases a;exact b
 |cons g m ih=>
  cases a with
  |cons c e=>rw[G5];exact .cons c (ih e)
def dO(w:A0)(base N:A2)(FB:Γ A2)(v:A3)(es:Γ Ex):Prop:=∃ccs,w.ownsRow base 210 11 v (E es) ccs/\cO w FB (λg=>g<N) ccs es
theorem MN:(B0.info? 210).map (λa=>(a.zero,a.size,a.bytes))=Z (Z (C9 #[U V 0,U V 0,U V 0,ο B5,U V 0,U V 0,ε ⟨#[]⟩,U V 0,ε ⟨#[]⟩,ζ I,M I 0 0]),11,120):=aF
theorem dO.ah{w x base v}(d:dO w base e f v m)(a:Bl w x):dO x base e f v m:=by
 obtain⟨g,b,i⟩:=d;exact⟨g,aD b λc j=>a.block c (b.lt c j).2,i.ah a⟩
theorem dO.val{base v}(g:dO d base e f v m):∃c b,v=M c (E m) b:=by
 obtain⟨_,i, -⟩:=g;rcases i.2 with⟨a,j⟩|⟨_,cap,_,a,_⟩
 ·exact⟨I,0,by rw[j];exact a⟩
 exact⟨_,_,a⟩
theorem dO.low{base}(b:dO d base e f s m)(c:j<=base):dO d j e f s m:=by
 obtain⟨g,a,i⟩:=b;exact⟨g,bY a λk l=>E2 c (a.lt k l).1,i⟩
theorem dO.nil(c base b a):dO c base b a (M I 0 0) []:=⟨[],Ω _ _ _ _,.nil⟩
theorem dO.Fv{base}(r:e<=base){v:A3}(j:d.ownsRow base 210 11 v (E m) a0)(k:cO d f (λa=>a<e) a0 m)(o:cO d f (λa=>a<e) c9 g2)(n:O.ownsRow base 210 11 s (E m+E g2) (a0++c9))(l:d.grownBy O v.ownBlock):dO O base e f s (m++g2):=by
 refine⟨a0++c9,by rw[ξ];exact n, ?_⟩;have g:∀ {c:Γ A3} {i:Γ Ex},cO d f (λa=>a<e) c i->cO O f (λa=>a<e) c i:=λp=>p.bounded.move (λa b=>l.block a b.2 λq=>cz ((j.lt a q.symm).1)) λ_ b=>b.1;exact(g k).append (g o)
theorem dO.one{base}{a:M2 A3}(k:d.heap[e]? =Z (η a 210 (0,0)))(c:a.toList=a0)(i:base<=e)(g:dF d f (λe=>e<j) a0 u):dO d base j f (M (Z (Q e 0 I)) 1 1) [u]:=by
 have b:=g.DZ;refine⟨a0,⟨by rw[b];rfl,A5 ⟨e,1,a,J,i,k,Θ _,ag, ?_, ?_⟩⟩, ?_⟩
 ·rw[<-Array.length_toList,c,b]
 ·rw[c,Ξ (by rw[b];exact Θ _)]
 have:=cO.cons g cO.nil;simpa using this
theorem VP:∀(t:A2) (f:Ex),SizeOf.sizeOf f<t->AU f<=1000->∀(c:A0) (g:A2),g<=G (H c)->∀(i:Γ A2) (sort p size:Y) (quiet:H9) (q r:Y) (s:Bs) (place:Y) (head:Bs) (n m:F2 I5) (o l:A2),dF c i (λj=>j<g) [U V sort,U V p,U V size,ο quiet,U V q,U V r,ε (ae s),U V place,ε (ae head),ζ n,M m o l] f->
  A4 B0 206 #[C9 #[U V sort,U V p,U V size,ο quiet,U V q,U V r,ε (ae s),U V place,ε (ae head),ζ n,M m o l]] c λe N=>∃z,e=σ z/\dO N (G (H c)) g i z (fU f)/\Bl c N:=by
 intro t
 induction t with
 |zero=>intro f _;omega
 |succ t ih=>
  intro f b2 e9 c g _ i sort p size quiet q r s place head n m o l X;obtain⟨b3,g0,g1,a0, -, -,b4⟩:=X.op;obtain⟨g2,g3,h3,h4,h5⟩:=D8 MN;have k:=ai c (η #[U V sort,U V p,U V size,ο quiet,U V q,U V r,ε (ae s),U V place,ε (ae head),ζ n,M m o l] 210);obtain⟨d,B⟩:=au (c.alloc (η #[U V sort,U V p,U V size,ο quiet,U V q,U V r,ε (ae s),U V place,ε (ae head),ζ n,M m o l] 210));have a1:=κ c (η #[U V sort,U V p,U V size,ο quiet,U V q,U V r,ε (ae s),U V place,ε (ae head),ζ n,M m o l] 210);rw[<-B]at a1 k;have h6:G (H d)=G (H c)+1:=by rw[B,Δ]
  obtain⟨⟨_,_,_,_,_,_,_,_,_,_,_⟩,_⟩:=oO a1;have j2:(ae head).toList=head:=ay;have b5:D (Bl c d):=k;by_cases b6:head= [97,110,100]
  ·subst b6;have O:D (fU f=fK f.ops):=by rw[D,IG,a0,E7 J]
   have h7:um f.ops<=1000:=by rw[Tf]at e9;omega
   obtain⟨b,u⟩:=au f.ops;have g4:D (∀e∈b,SizeOf.sizeOf e<t/\AU e<=1000):=λe b7=>by
    rw[u]at b7;have:=Ex.Ba b7;have:=Yw b7;exact⟨aa,aa⟩
   have j3:E b<=1000:=by
    have v:∀a:Γ Ex,E a<=um a:=λa=>by
     induction a with
     |nil=>simp
     |cons b8 x w=>
      rw[um,B1];have:1<=AU b8:=by rw[Tf];omega
      omega
    have:=v b;rw[u]at this ⊢;omega
   have g5:D (∀(a:A2) (h8:a<E b),∃j,m=Z (Q j 0 I)/\j<G (H c)/\∃(sort p size:Y) (quiet:H9) (q r:Y) (s:Bs) (place:Y) (head:Bs) (n m:F2 I5) (o l:A2),kH c j a (U V sort) (U V p) (U V size) (ο quiet) (U V q) (U V r) (ε (ae s)) (U V place) (ε (ae head)) (ζ n) (M m o l)/\dF c i (λj=>j<g) [U V sort,U V p,U V size,ο quiet,U V q,U V r,ε (ae s),U V place,ε (ae head),ζ n,M m o l] b[a]):=by rw[D,u];exact b4
   rw[<-u]at O b3 h7;subst b3;have b9:D _:=ih;obtain⟨h9,v⟩:=au (fU f);rw[<-v]at O ⊢;clear X b4 g0 g1 a0 a1 k ih u v e9 b2;go_enter L3,K5;go_upto_region 1 with fail
   rw[<-B];clear B;go_wp2_with fail;go_loopw [3,14] (λv u wr=>∃(a:A2),a<=E b/\u=U V a/\D (dO wr (G (H d)) g i v (fK (b.take a)))/\Bl d wr) (λ_ u _=>E b-(B6 u).toNat)
   ·exact⟨0,χ _,J,dO.nil _ _ _ _,B3 _ _⟩
   obtain⟨a,h8,rfl,C,P⟩:=hrel;obtain⟨F,K,rfl⟩:=C.out.val;have i0:=P.size;have v:Bl c wr:=bT b5 P;by_cases a2:a<E b
   ·obtain⟨j,rfl,i1,c0,c1,c2,c3,c4,c5,c6,c7,c8,c9,e0,e1,e2,x,R⟩:=g5.out a a2;obtain⟨S,T⟩:=g4.out b[a] (τ a2);have W:D (kH wr j a (U V c0) (U V c1) (U V c2) (ο c3) (U V c4) (U V c5) (ε (ae c6)) (U V c7) (ε (ae c8)) (ζ c9) (M e0 e1 e2)):=by
     unfold kH at x ⊢;have t:∀u,β wr (Q j u I)=β c (Q j u I):=λu=>v.cell (p:=(Q j u I)) i1;simp only[t,D];exact x
    have w:D (fK (b.take (a+1))=fK (b.take a)++fU b[a]):=OO a2;have g6:E (fK (b.take a))+E (fU b[a])<=1000:=by
     have:=yI (b.take (a+1));have:=Vf b (a+1);rw[<-ξ,<-w.out];omega
    have y:D (∀L,Bl wr L->A4 B0 206 #[C9 #[U V c0,U V c1,U V c2,ο c3,U V c4,U V c5,ε (ae c6),U V c7,ε (ae c8),ζ c9,M e0 e1 e2]] L λe N=>∃z,e=σ z/\dO N (G (H L)) g i z (fU b[a])/\Bl L N):=λL g7=>b9.out b[a] S T L g (by have:=g7.size;have:=v.size;omega) i c0 c1 c2 c3 c4 c5 c6 c7 c8 c9 e0 e1 e2 (R.ah (bT v g7));obtain⟨u,a6⟩:=au (fK (b.take a));obtain⟨a3,a4⟩:=au (fU b[a]);rw[<-a6]at w C g6 ⊢;rw[<-a4]at w y g6;have a5:D _:=P;have a7:D _:=v;clear x R P S T b9 v a6 a4;go_upto_region 6 with fail
    refine Zz l a2 ⟨J,J,J,J,J,J,J,J,J,J,J⟩ W ?_;intro _ _ a6 x k
    try dsimp only
    obtain⟨⟨_,_,_,_,_,_,_,_,_,_,_⟩,_⟩:=oO x;have R:=y.out a6 k;have i2:D (Bl d a6):=a5.out.trans (k.mono i0);have e3:D (dO a6 (G (H d)) g i (M F (E u) K) u):=C.out.ah k;have j4:=k.size;have j5:G (H c)<=G (H a6):=cz a7.out.size;clear W x k a5 y C a7;go_wp2_with fail;refine R.mono ?_;clear R;rintro e a7 ⟨z,rfl,g8,e4⟩;obtain⟨_,i3,rfl⟩:=g8.val;have i4:=e3.out.ah e4;obtain⟨a8,x,a9⟩:=i4;obtain⟨R,S,b0⟩:=g8;have j6:=e4.size;have e5:D (Bl d a7):=bT i2 e4;have e6:=S.1;rcases S.2 with⟨e,g9⟩|⟨h0,_,_,e,_,i5,_,_,i6,i7⟩
    ·have a4:a3= []:=A6.mp g9;subst a4
     cases e;have e7:D (dO a7 (G (H d)) g i (M F (E u) K) (fK (b.take (a+1)))):=by rw[D,w.out,H0];exact⟨a8,x,a9⟩
     have e8:D _:=x;clear w a9 b0 S g9 e6 x e3;go_wp2_with(at_builtin;refine I6 J (.tmp 18) (.tmp 20) 208 J (G (H d)) 210 g2 11 G2 g3 (M F (E u) K) (E u) a8 J e8 J ?_);go_roundw
     ·exact⟨a+1,aa,aP,e7,e5⟩
     simp[B6];omega
    cases e;have i8:D (∀(b1:A2) (T:A3),R[b1]? =Z T->β a7 (J9 (Q h0 0 I) b1)=Z T):=λb1 T h1=>by
     have y:=(ψ.mp h1).1;rw[I0,F3,S.cellAt b1 aa,h1]
    have i9:D (∀T∈R,T.oneCell'=B7):=b0.one;have j0:D (∀(y:A0) (W:A3),y.ownsRow (G (H d)) 210 11 W (E u+E a3) (a8++R)->a7.grownBy y (M F (E u) K).ownBlock->dO y (G (H d)) g i W (fK (b.take (a+1)))/\Bl d y):=λy W b8 h2=>by
     rw[w.out];exact⟨dO.Fv aa x a9 b0 b8 h2,e5.grown h2 e5.size λt b2=>(x.lt t b2).1⟩
    have e8:D _:=x;have j1:D (E R=E a3*11):=e6;clear w a9 b0 S e6 x e3 i5 i7 i6;go_wp2_with(at_builtin;refine D9 _ J (.tmp 18) (.tmp 20) 208 J (G (H d)) 210 g2 _ 11 120 G2 g3 h3 h4 h5 J ag (M F (E u) K) (E u) a8 J e8 (Q h0 0 I) (E a3) i3 R J j1 i8 i9 fD aa aa ?_;intro W y a9 x _;obtain⟨S,w⟩:=j0.out y W a9 x;have e3:D _:=S;have b0:D _:=w;clear a9 x S w);go_roundw
    ·exact⟨a+1,aa,aP,e3,b0⟩
    simp[B6];omega
   have e7:D (dO wr (G (H c)) g i (M F (E (fK (b.take a))) K) h9):=by
    rw[D,O.out];have e:b.take a=b:=Ξ aa;have:=C.out;rw[e]at this ⊢;exact this.low aa
   have a5:D (Bl c wr):=v;clear C P b9 g5 g4 v
   go_wp2
   go_ret;exact⟨_,J,e7,a5⟩
  have b:(head== [97,110,100])=B5:=by rw[A1];exact b6
  have O:D (fU f= [f]):=by rw[D,IG,a0,B9 b6]
  have a:D (dO (d.alloc (η #[U V sort,U V p,U V size,ο quiet,U V q,U V r,ε (ae s),U V place,ε (ae head),ζ n,M m o l] 210)) (G (H c)) g i (M (Z (Q (G (H d)) 0 I)) 1 1) [f]):=
   dO.one (κ d _) J aa (X.ah (k.trans ((ai d _).mono k.size)))
  clear X b4 g0 g1 a0 a1 k ih b3;go_enter L3,K5;go_upto_region 1 with fail
  rw[<-B];clear B h6
  go_wp2
  go_ret;refine⟨_,J,by rw[O.out];exact a,b5.trans ((ai d _).mono b5.size)⟩
structure Gu(w:World)(xb k:Nat)(fo:Option Addr)(fnn fc:Nat)(r:ig):Prop where
 base:∃tb tn tc pb pn pc,w.heap[xb]? =some (.cells #[.slice fo fnn fc,.slice (some ⟨tb,0,none⟩) tn tc,.slice (some ⟨pb,0,none⟩) pn pc] 200 (0,0))/\k<tn/\k<pn/\tb<Array.size (World.heap w)/\pb<Array.size (World.heap w)/\World.cell? w ⟨tb,k*6+1,none⟩=some (.slice r.co r.cn r.cc)/\World.cell? w ⟨tb,k*6+2,none⟩=some (.slice r.ro r.rn r.rc)/\World.cell? w ⟨pb,k,none⟩=some (.slice (some ⟨r.g,0,none⟩) (List.length (post r.tr)) r.cap)/\World.cell? w ⟨tb,k*6+5,none⟩=some (.slice r.uo r.un r.uc)
 aB:dC w (.slice r.co r.cn r.cc) r.t.aB
 rows:RowsIn w (.slice r.ro r.rn r.rc) r.t.rows
 gZ:gD w (.slice r.uo r.un r.uc) r.t.gZ
 pol:yP w r
 k4:k<4
theorem Gu.ah{w x k}(d:Gu w e k z C j g3)(a:Bl w x):Gu x e k z C j g3:=by
 obtain⟨⟨f,g,i,l,m,n,c,o,p,b,q,r,s,t,u⟩,v,y,B,F,K⟩:=d;exact⟨⟨f,g,i,l,m,n,(a.block e (af c)).trans c,o,p,cz a.size,cz a.size,cK a b r,cK a b s,cK a q t,cK a b u⟩,v.ah a,y.ah a,B.ah a,F.ah a,K⟩
theorem kU.vis(s:kU O d e i3 e8):∃g f c,pJ d (M g f c) (i3.map (·.1))/\(∃u t,d.heap[e]? =Z (η #[M g f c,u,t] 200 (0,0)))/\∀(a:A2) (b:ig),e8[a]? =Z b->Gu d e a g f c b:=by
 obtain⟨g,f,c,aS,v,w,_,x,y,⟨_,l⟩,q,⟨z,B,C⟩,r,F,_,K⟩:=s;refine⟨g,f,c,uB z B C,⟨_,_,q⟩,λa b k=>?_⟩;have L:=(ψ.mp k).1;obtain⟨m,N⟩:=K b (F8 k);have n:∀i,i<6->∀o,(wE b)[i]? =Z o->∃j,aS=Z (Q j 0 I)/\j<G (H d)/\v=E e8/\β d ⟨j,a*6+i,I⟩=Z o:=λi P o R=>by
  rcases r.2 with⟨_,_⟩|⟨p,cap,_,S,_,T,_⟩
  ·omega
  cases S;exact⟨p,J,af T,J,(r.cellAt _ aa).trans ((pz e8 a b i k P).trans R)⟩
 obtain⟨j,rfl,S,rfl,T⟩:=n 1 aa _ J;obtain⟨W,p,_,_,X⟩:=n 2 aa _ J
 cases p;obtain⟨W,p,_,_,a0⟩:=n 5 aa _ J
 cases p;obtain⟨_, -,_|⟨a1,rfl,_,a2,a3⟩⟩:=nY F
 ·omega
 refine⟨⟨j,_,w,a1,x,y,q,L,aa,S,a2,T,X,a3 a _ (by rw[xm,D6,k];rfl),a0⟩,m.aB.ah l,m.rows.ah l,m.gZ.ah l,N,aa⟩
def afy(w:A0)(o:G9 Y (Γ Fn×Γ (aJ×Ex)))(e:I2)(w':A0):Prop:=G4 (G (H w)) w w'/\
 ((∃(n:Y) (p:F2 I5),o=.error n/\n≠0/\e=σ (C4 #[ζ p,U V n]))\/
  (∃(l:Γ Aj) (tl:Γ ig) (xb:A2) (w0:A0),o=.ok (bJ l,fB tl)/\e=σ (C4 #[ζ (Z ⟨xb,0,I⟩),U V 0])/\kU w0 w' xb l tl/\Fx (l.map (·.1))))
theorem Oo(f:ik d (M z j e) e3)(c:∀t∈e3,E t.2.1<=I7)(g:kV d (M a1 T C) e6)(user):
  A4 B0 72 #[C9 #[M z j e,M a1 T C],ε (ae user)] d λn u=>afy d (pM user (eG e3 e6)) n u:=by
 have b:=ai d (η #[M z j e,M a1 T C] 67);by_cases i:30<E user
 ·have v:30<(ae user).size:=by rw[aX];exact i
  have w:decide ((30:Y)<((ae user).size:Y))=B7:=aN;have a:D (pM user (eG e3 e6)=.error 9):=by rw[D,pM,E7 i]
  clear f g c;go_enter L8,L0;go_wp2_with fail;exact B2 (v:=C4 #[ζ I,U V 9]) (by simp[E1,H5,go_sem]) J ⟨b,A9 ⟨9,I,a,ag,J⟩⟩
 have v:(ae user).size<=30:=by rw[aX];omega
 have w:decide ((30:Y)<((ae user).size:Y))=B5:=aN;have a:D (pM user (eG e3 e6)=eG e3 e6):=by rw[D,pM,B9 i]
 have k:=Ku (f.ah b) c (g.ah b);clear f g c;go_enter L8,L0;go_wp2_with(go_at_call 26;refine k.mono ?_);clear k;rintro n p ⟨f,⟨k,g,c,x,rfl⟩|⟨q,r,g,c,rfl,s,y⟩⟩
 ·have l:Bl d p:=b.trans (f.mono ek);have m:D (pM user (eG e3 e6)=.error k):=a.out.trans c;clear c f a;go_wp2_with fail;exact B2 (v:=C4 #[ζ (Z (Q g 0 I)),U V k]) (by simp[E1,H5,go_sem]) J ⟨l,A9 ⟨k,_,m,x,J⟩⟩
 have l:Bl d p:=b.trans (f.mono ek);have m:D (pM user (eG e3 e6)=.ok (bJ q,fB r)):=a.out.trans c;change D _ at s;clear c f a;go_wp2_with fail;exact B2 (v:=C4 #[ζ (Z (Q g 0 I)),U V 0]) (by simp[E1,H5,go_sem]) J ⟨l,A5 ⟨q,r,g,_,m,J,s,y⟩⟩
theorem EH(g:Gu d e j z T C g3)(user):
  A4 B0 79 #[ζ (Z (Q e 0 I)),ε (ae user),U V (j:Y)] d (RE (ο (bC g3.t.gZ user)) d):=by
 obtain⟨⟨i,k,l,_,_,_,a,_,_,_,_,m,n,o,_⟩,p,q,c,r,_⟩:=g;have:β d (Q e 1 I)=Z (M (Z (Q i 0 I)) k l):=aC a;have:=af a;have b:=PM (ae user) c;rw[ay]at b;obtain⟨_,f⟩:=au (bC g3.t.gZ user);rw[<-f]at b ⊢;clear f p q c r m n o a;go_enter func79,ntmps79;go_wp2_with(go_at_call 113;refine bP b ?_);go_ret;exact⟨J,J⟩
theorem kU.aed(m:kU O d e i3 e8):∃aS c b,β d (Q e 1 I)=Z (M aS c b)/\oK d (M aS c b) (e8.map λg=>g.t.name):=by
 obtain⟨_,_,_,aS,c,b,_,_,_,_,n,_,k,_,_,_⟩:=m;refine⟨aS,c,b,aC n, ?_⟩;rcases k.2 with⟨i,l⟩|⟨o,cap,_,i,_,p,_⟩
 ·cases i;exact⟨I,0,by simp[l],aN,A9 (by rw[A6.mp l];rfl)⟩
 cases i;refine⟨_,_,by rw[Φ],aN,A5 ⟨o,J,af p,λj _ a=>?_⟩⟩;rw[D6]at a
 cases f:e8[j]? with
 |none=>rw[f]at a;cases a
 |some g=>
  rw[f]at a;have q:=(ψ.mp f).1;have:=(k.cellAt (j*6+0) aa).trans (pz e8 j g 0 f aa);rw[Nat.add_zero]at this;rw[this,<-Option.some.inj a];rfl
theorem GX(b:Γ Y)(a d:A2)(c)(e:a<E b):nR (b.drop a) a d c=nR (b.drop (a+1)) (a+1) d (if d.testBit a then min (c*b[a]) ru else c):=by
 rw[D1 e,nR]
theorem Uk(b a)(c:e<E P):sH (P.drop e) b a=sH (P.drop (e+1)) b (if P[e].1≠0/\P[e].1&&& b=P[e].1 then zg a P[e].2.1 else a):=by
 rw[D1 c,sH]
theorem Yo(c:0<=b0)(d:b0<=ru)(a:0<=a2)(b:a2<=1000000):0<=b0*a2/\b0*a2<=1000000000000000000:=by
 refine⟨Int.mul_nonneg c a, ?_⟩;have:b0*a2<=1000000000000*1000000:=Int.mul_le_mul d b a ag;omega
theorem JA{qM aS}(p:xS d (M aS b4 T) K.cnt)(l:qC d (M z C j) K.parts)(a:Am K)(k:∀m∈K.parts,m.2.1<=9223372036854775807/\m.1<16)(e2:e<16):
  A4 B0 211 #[C9 #[M a1 k7 b8,ε (ae X),M e0 k9 k8,M l8 l1 l0,U V qM,M aS b4 T,M z C j,M l9 l7 l4],U .u64 (e:Y)] d (RB (U V (ni K e)) d):=by
 obtain⟨a5,f⟩:=au (d.alloc (η #[M a1 k7 b8,ε (ae X),M e0 k9 k8,M l8 l1 l0,U V qM,M aS b4 T,M z C j,M l9 l7 l4] 250));have b9:Bl d a5:=by rw[f];exact ai d _
 have a6:=p.ah b9;have B:=l.ah b9;have c0:a5.heap[G (H d)]? =Z (η #[M a1 k7 b8,ε (ae X),M e0 k9 k8,M l8 l1 l0,U V qM,M aS b4 T,M z C j,M l9 l7 l4] 250 (0,0)):=by rw[f];exact κ d _
 have b6:D (ni K e=sH K.parts e (nR K.cnt 0 e 1)):=J;have r:D _:=a;have s:D _:=k;change D _ at a6;change D _ at B;obtain⟨F,q⟩:=au (ni K e);rw[<-q]at b6 ⊢;obtain⟨g,b⟩:=au K.cnt;obtain⟨c,i⟩:=au K.parts;have b7:∀n∈g,0<=n/\n<=1000000:=by rw[b];exact a.cnt
 have e3:∀m∈c,1<=m.2.1/\m.2.1<=9223372036854775807/\m.1<16:=λm a7=>by rw[i]at a7;exact⟨a.parts m a7,k m a7⟩
 rw[<-b,<-i]at b6;rw[<-b]at a6;rw[<-i]at B;change D _ at b7;change D _ at e3;have g0:=af c0;have g1:b4=E g/\E g<=4:=by obtain⟨_,_,o,c1,_⟩:=a6.out;cases o;exact⟨J,c1⟩
 have g2:C=E c/\E c<=1000:=by obtain⟨_,_,o,c1,_⟩:=B.out;cases o;exact⟨J,c1⟩
 obtain⟨rfl,_⟩:=g1;obtain⟨rfl,_⟩:=g2;change D _ at c0;clear p l a k q b i r s;go_enter func211,ntmps211;go_wp2_with fail;rw[<-f];go_loopw [5,13] (λc2 v wr=>∃(a:A2) (b:Y),a<=E g/\c2=U V b/\v=U V a/\0<=b/\b<=ru/\D (nR g 0 e 1=nR (g.drop a) a e b)/\Bl a5 wr) (λ_ v _=>E g-(B6 v).toNat)
 ·exact⟨0,1,χ _,J,J,ag,ag,J,B3 _ _⟩
 obtain⟨a,b,e4,rfl,rfl,q,r,s,i⟩:=hrel;have c3:=i.size;clear f;by_cases k:a<E g
 ·obtain⟨l,rfl,a9,L,N,O,P,R,S,W,a0,a2,a3,c4,c5,c6,c7,c8,c9,b0,b1⟩:∃l,aS=Z (Q l 0 I)/\l<G (H wr)/\∃L N O P R S W a0 a2 a3 c4 c5 c6 c7 c8 c9,nJ L N O (U V g[a]) P R S W a0 a2 a3 c4 c5 c6 c7 c8 c9/\yO wr l a L N O (U V g[a]) P R S W a0 a2 a3 c4 c5 c6 c7 c8 c9:=by
   obtain⟨g3,cap,o,_,e1⟩:=xS.ah a6 i
   cases o;rcases e1 with b2|⟨l,o,a9,a8⟩
   ·rw[b2]at k;simp at k
   exact⟨l,o,a9,a8 a _ (θ k)⟩
  have w:D _:=b1;have x:D _:=b0;obtain⟨e5,e6⟩:=b7.out g[a] (τ k);have f:D (nR g 0 e 1=nR (g.drop (a+1)) (a+1) e (if e.testBit a then min (b*g[a]) ru else b)):=s.out.trans (GX g a e b k);obtain⟨e7,g4⟩:=Yo q r e5 e6;obtain⟨n,a8⟩:=au (g[a]);rw[<-a8]at w x f e5 e6 e7 g4;have:¬9223372036854775807<b*n:=aa;have:¬b*n< -9223372036854775808:=aa;have p:D _:=i;clear s b1 b0 a8 a6 B i;go_upto_region 4 with fail
  refine acX T k x w ?_;intro _ _ _ t y b3;dsimp only;have:β t (Q (G (H wr)) 3 I)=Z (U V n):=aC y;have g5:=af y;have b5:=EP t a e2 aa;have a4:D (Bl a5 t):=p.out.trans (b3.mono c3);clear w x y b3 p
  cases e8:e.testBit a with
  |true=>
   rw[e8]at b5 f;simp only[M3]at f;by_cases e9:b*n<=1000000000000
   ·have u:D (nR g 0 e 1=nR (g.drop (a+1)) (a+1) e (b*n)):=by rw[D,f.out,Int.min_eq_left e9]
    clear f;go_wp2_with(go_at_call 216;refine bP b5 ?_);all_goals
     go_roundw
     ·exact⟨a+1,b*n,aa,by first|rfl|(congr 1;omega),aP,e7,e9,u,a4⟩
     simp[B6];omega
   have u:D (nR g 0 e 1=nR (g.drop (a+1)) (a+1) e 1000000000000):=by rw[D,f.out,Int.min_eq_right (show ru<=b*n by show(1000000000000:Y)<=b*n;omega)]
   clear f;go_wp2_with(go_at_call 216;refine bP b5 ?_);all_goals
    go_roundw
    ·exact⟨a+1,1000000000000,aa,by first|rfl|(congr 1;omega),aP,ag,ag,u,a4⟩
    simp[B6];omega
  |false=>
   rw[e8]at b5 f;simp only[D5,J0]at f;go_wp2_with(go_at_call 216;refine bP b5 ?_);go_roundw
   ·exact⟨a+1,b,aa,J,aP,q,r,f,a4⟩
   simp[B6];omega
 have f:D (nR g 0 e 1=b):=by rw[D,s.out,D7 aa];rfl
 have b5:D (F=sH c e b):=by rw[D,b6.out,f.out]
 clear s f b6 a6 b7;have a6:β wr (Q (G (H d)) 6 I)=Z (M z (E c) j):=cK i g0 (aC c0);have:G (H d)<G (H wr):=aa;have p:D _:=i;clear i;go_wp2_with fail;generalize b6:wr=wo at*;clear b6 a6;go_loopw [5,31] (λc2 v wr=>∃(a:A2) (b:Y),a<=E c/\c2=U V b/\v=U V a/\0<=b/\b<=ru/\D (F=sH (c.drop a) e b)/\Bl a5 wr) (λ_ v _=>E c-(B6 v).toNat)
 ·exact⟨0,b,χ _,J,J,q,r,b5,p⟩
 clear q r b5 e4 k p;obtain⟨a,b,e4,rfl,rfl,q,r,s,i⟩:=hrel;have c3:=i.size;by_cases k:a<E c
 ·obtain⟨l,rfl,a9,L,N,O,P,R,S,W,a0,a2,a3,b0,b1⟩:∃l,z=Z (Q l 0 I)/\l<G (H wr)/\∃L N O P R S W a0 a2 a3,Dn L N O (ο c[a].2.2) P R S W a0 a2 a3 (U .u64 (c[a].1:Y)) (U V c[a].2.1)/\yN wr l a L N O (ο c[a].2.2) P R S W a0 a2 a3 (U .u64 (c[a].1:Y)) (U V c[a].2.1):=by
   obtain⟨g3,cap,o,_,e1⟩:=qC.ah B i
   cases o;rcases e1 with b2|⟨l,o,a9,a8⟩
   ·rw[b2]at k;simp at k
   exact⟨l,o,a9,a8 a _ (θ k)⟩
  have w:D _:=b1;have x:D _:=b0;obtain⟨b5,c2,c4⟩:=e3.out c[a] (τ k);have f:D (F=sH (c.drop (a+1)) e (if c[a].1≠0/\c[a].1&&& e=c[a].1 then zg b c[a].2.1 else b)):=s.out.trans (Uk e b k);obtain⟨⟨v,c5,_⟩,a7⟩:∃m,m=c[a]:=⟨_,J⟩;rw[<-a7]at w x f b5 c2 c4;simp only at w x f b5 c2 c4;obtain⟨c6,c7⟩:=SC q r b5;have p:D _:=i;clear s b1 b0 a7 B i;go_upto_region 10 with fail
  refine aaT j k x w ?_;intro _ _ t y b3;dsimp only;have:β t (Q (G (H wr)) 11 I)=Z (U .u64 (v:Y)):=aC y;have:β t (Q (G (H wr)) 12 I)=Z (U V c5):=aC y;have g5:=af y;have a6:=rU t c4 e2;have b6:=Mt t q r b5 c2;have a4:D (Bl a5 t):=p.out.trans (b3.mono c3);clear w x y b3 p;obtain⟨c8,a8⟩:=au (zg b c5);rw[<-a8]at b6 f c6 c7;clear a8;by_cases c9:v=0
  ·subst c9;have u:D (F=sH (c.drop (a+1)) e b):=by rw[D,f.out,B9 ak]
   clear f;go_wp2_with(first|(go_at_call 218;refine bP a6 ?_)|(go_at_call 257;refine bP b6 ?_));go_roundw
   ·exact⟨a+1,b,aa,J,aP,q,r,u,a4⟩
   simp[B6];omega
  have e1:((v:Y)==0)=B5:=xW;have:((v:Y) != 0)=B7:=by simp[bne,e1]
  cases b7:F4 v e with
  |true=>
   have a8:v&&& e=v:=by simpa[F4]using b7
   have u:D (F=sH (c.drop (a+1)) e c8):=by rw[D,f.out,E7 ⟨c9,a8⟩]
   rw[b7]at a6;clear f a8;go_wp2_with(first|(go_at_call 218;refine bP a6 ?_)|(go_at_call 257;refine bP b6 ?_));go_roundw
   ·exact⟨a+1,c8,aa,J,aP,c6,c7,u,a4⟩
   simp[B6];omega
  |false=>
   have a8:¬(v&&& e=v):=by simpa[F4]using b7
   have u:D (F=sH (c.drop (a+1)) e b):=by rw[D,f.out,B9 (λb2=>a8 b2.2)]
   rw[b7]at a6;clear f a8;go_wp2_with(first|(go_at_call 218;refine bP a6 ?_)|(go_at_call 257;refine bP b6 ?_));go_roundw
   ·exact⟨a+1,b,aa,J,aP,q,r,u,a4⟩
   simp[B6];omega
 have f:D (F=b):=by rw[D,s.out,D7 aa];rfl
 have p:D (Bl d wr):=bT b9 i;clear s i B
 go_wp2
 go_ret;exact⟨by rw[f.out];rfl,p⟩
theorem Ke{B}(z:jg d B s f):
  A4 B0 210 #[s] d λg q=>∃p c b,g=σ (M p c b)/\q.ownsRow (G (H d)) 3 1 (M p c b) (E f) (aA (zs f))/\Bl d q:=by
 obtain⟨C,F,K,L,N⟩:=D8 lX;have:∀(d:A0) (i:F2 I5) (c b a l:A2),(binOp .eql 42 (M i c b) (M I a l)).run B0 d=.ok (ο i.isNone) d:=λd i c b a l=>Lib.run_eql_slice_nil d _ _ i c b a l C1;obtain⟨j,_, -⟩:=z;rcases j.2 with⟨rfl,O⟩|⟨r,cap,P,rfl,_,m,_,_,n,o⟩
 ·have e:f= []:=A6.mp O;subst e;clear j;go_enter L1,K3
  go_wp2
  go_ret;exact⟨_,_,_,J,Ω _ _ _ _,B3 _ _⟩
 have:=af m;have R:D (∀(k:A2) (e:A3),(aA (zs f))[k]? =Z e->β (d.alloc (η #[] 3)) (J9 (Q r 0 I) k)=Z e):=λk e t=>by
  have u:=(ψ.mp t).1;simp only[aA,Φ,dW]at u;rw[I0];refine Lib.cell?_alloc_some _ ?_;rw[F3,j.cellAt k aa,t]
 have u:E (aA (zs f))=E f*1:=by simp[aA,dW]
 have v:∀e∈aA (zs f),e.oneCell'=B7:=λe w=>by
  simp only[aA,C6]at w;obtain⟨_, -,rfl⟩:=w;rfl
 change D _ at u;change D _ at v;clear j o n;go_enter L1,K3;go_wp2_with(at_builtin;refine D9 _ J _ _ 42 J (G (H d)) 3 C (U V 0) 1 8 C1 F K L N J ag _ _ _ J (World.ownsRow_made d #[] 0 (Θ _) (χ _) J) (Q r 0 I) (E f) cap (aA (zs f)) J u R v fD aa ak ?_);intro S x n y _;obtain⟨o,a,j,rfl⟩:∃o a j,S=M o a j:=by
  rcases n.2 with⟨g,_⟩|⟨_,j,P,g,_⟩<;>exact⟨_,_,_,g⟩
 have T:D (x.ownsRow (G (H d)) 3 1 (M o a j) (E f) (aA (zs f))):=by
  rw[D];simpa using n
 have RB:Bl d x:=(ai d _).grown y ak (λ_ m=>by cases m;exact Θ _);clear n y
 go_wp2
 go_ret;exact⟨_,_,_,J,T,RB⟩
theorem TK(b:Γ A2)(a:A2):aA (zs (b++ [a]))=aA (zs b)++ [U V (a:Y)]:=by simp[aA,zs]
structure QV where
 fo:Option Addr
 fn:Nat
 fc:Nat
 wh:Bs
 oo:Option Addr
 on:Nat
 oc:Nat
 ro:Option Addr
 rn:Nat
 rc:Nat
 qM:Int
 aS:Option Addr
 tn:Nat
 tc:Nat
 po:Option Addr
 pn:Nat
 pc:Nat
 uo:Option Addr
 un:Nat
 uc:Nat
def QV.arr(v:QV):M2 A3:= #[M v.fo v.fn v.fc,ε (ae v.wh),M v.oo v.on v.oc,M v.ro v.rn v.rc,U V v.qM,M v.aS v.tn v.tc,M v.po v.pn v.pc,M v.uo v.un v.uc]
structure Sn(w:World)(v:QV)(q:PQ):Prop where
 bI:xS w (.slice v.aS v.tn v.tc) q.cnt
 parts:qC w (.slice v.po v.pn v.pc) q.parts
 ok:Am q
 zq:∀p∈q.parts,p.2.1<=9223372036854775807/\p.1<16
theorem Sn.ah{w x v}(a:Sn w v K)(b:Bl w x):Sn x v K:=⟨a.bI.ah b,a.parts.ah b,a.ok,a.zq⟩
theorem Sn.est{c:QV}(a:Sn d c K)(b:A2)(e:b<16):A4 B0 211 #[C9 c.arr,U .u64 (b:Y)] d (RB (U V (ni K b)) d):=
 JA a.bI a.parts a.ok a.zq e
theorem EQ:∀(a:Γ A2),(∀b∈a,b<4)->D0 a<16:=λa=>by
 have:∀(a:Γ A2) (c:A2),c<16->(∀b∈a,b<4)->a.foldl bu c<16:=λa=>by
  induction a with
  |nil=>exact λc d _=>d
  |cons f i ih=>exact λc d e=>ih _ (wO d (e f ak)) λb g=>e b (by simp[g])
 exact this a 0 ag
theorem LQ{b}(a:d.heap[e]? =Z (η #[s,N,W] b (0,0))):(β d (Q e 0 I)=Z s/\β d (Q e 1 I)=Z N/\β d (Q e 2 I)=Z W)/\B4 d (Q e 0 I)=B5/\B4 d (Q e 1 I)=B5/\B4 d (Q e 2 I)=B5/\e<G (H d):=
 ⟨⟨aC a,aC a,aC a⟩,by simp[B4,a],by simp[B4,a],by simp[B4,a],af a⟩
theorem LU{b}(a:d.heap[e]? =Z (η #[s,N,W,a5,a6,a7,b1,b3] b (0,0))):β d (Q e 0 I)=Z s/\β d (Q e 1 I)=Z N/\β d (Q e 2 I)=Z W/\β d (Q e 3 I)=Z a5/\β d (Q e 4 I)=Z a6/\β d (Q e 5 I)=Z a7/\β d (Q e 6 I)=Z b1/\β d (Q e 7 I)=Z b3:=
 ⟨aC a,aC a,aC a,aC a,aC a,aC a,aC a,aC a⟩
theorem Ps(b)(b0:A2)(g d)(l:jg b b0 d.1 d.2)(e:A2)(b1:e<4)(c4:∀c5∈d.2,c5<4)(h2:E d.2<=3)(a:QV)(k:Sn b a g):
  A4 B0 149 #[xC g d,U V (e:Y),C9 a.arr] b λi u=>∃t,i=σ (xC g (t,d.2++ [e]))/\jg u (G (H b)) t (d.2++ [e])/\Bl b u:=by
 obtain⟨c6,c7,c8,c9,e0⟩:=D8 lX;obtain⟨v,b2,b3,m⟩:=l.2.2;have a0:=EQ d.2 c4;have a1:=wO a0 b1;have b4:=Mm k.ok d.2;have C:=Da k.ok (bu (D0 d.2) e);have w:D (aZ g (d.2++ [e])=min (aZ g d.2+ni g (bu (D0 d.2) e)) ru):=by rw[D,Qd,K2]
 have F:D (D0 (d.2++ [e])=bu (D0 d.2) e):=K2;have n:∀c,Bl b c->A4 B0 210 #[d.1] c λi u=>∃v b5 j,i=σ (M v b5 j)/\u.ownsRow (G (H c)) 3 1 (M v b5 j) (E d.2) (aA (zs d.2))/\Bl c u:=λc f=>Ke (l.keq (nV (B:=0) (fb:=0) f (χ _)));have o:∀c,Bl b c->A4 B0 211 #[C9 a.arr,U .u64 ((bu (D0 d.2) e:A2):Y)] c (RB (U V (ni g (bu (D0 d.2) e))) c):=λc f=>(k.ah f).est _ a1;have K:∀c,A4 B0 155 #[U .u64 ((D0 d.2:A2):Y),U V (e:Y)] c (RE (U .u64 ((bu (D0 d.2) e:A2):Y)) c):=λc=>rz c a0 b1;rw[m]at n;simp only[xC,m,QV.arr]at o ⊢;obtain⟨a2,p⟩:=au (D0 d.2);rw[<-p]at o K w F a0 a1 C;obtain⟨j,q⟩:=au (aZ g d.2);rw[<-q]at w b4;obtain⟨x,r⟩:=au (bu a2 e);rw[<-r]at o K w F a1 C;obtain⟨y,s⟩:=au (ni g x);rw[<-s]at o w C;rw[<-p,<-q];clear p q r s m l k;obtain⟨_,e1⟩:=b4;obtain⟨_,e2⟩:=C;unfold ru at e1 e2;obtain⟨p,e3⟩:=au (η #[M v b2 b3,U .u64 (a2:Y),U V j] 339 (0,0));obtain⟨z,e4⟩:=au (η #[M a.fo a.fn a.fc,ε (ae a.wh),M a.oo a.on a.oc,M a.ro a.rn a.rc,U V a.qM,M a.aS a.tn a.tc,M a.po a.pn a.pc,M a.uo a.un a.uc] 250 (0,0));obtain⟨L,e5⟩:=au (η #[M I 0 0,U .u64 0,U V 0] 339 (0,0));obtain⟨c,f⟩:=au (((b.alloc p).alloc z).alloc L);have h4:G (H c)=G (H b)+3:=by rw[f];simp[Δ]
 have a3:c.heap[G (H b)+1+1]? =Z L:=by
  have:=κ ((b.alloc p).alloc z) L;rw[Δ,Δ]at this;rw[f];exact this
 have a4:c.heap[G (H b)+1]? =Z z:=by
  have:=κ (b.alloc p) z;rw[Δ]at this;rw[f];exact(Ψ _ _ _ gL).trans this
 have B:c.heap[G (H b)]? =Z p:=by
  rw[f];exact(Ψ _ _ _ gL).trans ((Ψ _ _ _ gL).trans (κ b p))
 have b6:Bl b c:=by rw[f];exact((aV b p z).alloc gL L)
 subst e3 e4 e5;change D _ at B;change D _ at a4;change D _ at a3;have b7:=n c b6;have h5:β c (Q (G (H b)) 1 I)=Z (U .u64 (a2:Y)):=aC B;have h6:β c (Q (G (H b)) 0 I)=Z (M v b2 b3):=aC B;have h7:G (H b)<G (H c):=aa;clear n;go_enter func149,ntmps149;go_upto_region 1 with fail
 rw[<-f];clear f;go_upto_region 3 with(first
  |(go_at_call 155;refine(K _).mono ?_;rintro i b9 ⟨rfl,rfl⟩)
  |(go_at_call 210;refine b7.mono ?_;rintro i l ⟨_,_,_,rfl,a6,a5⟩;have e7:=a5.size)
  |(at_builtin;refine D9 _ J (.tmp 15) (.tmp 17) 42 J (G (H b9)) 3 c6 (U V 0) 1 8 C1 c7 c8 c9 e0 J ag _ _ _ J (a6.alloc _) (Q (G (H l)) 0 I) 1 1 [U V (e:Y)] J J (A7 (bS l)) (by intro _ k;simp at k;subst k;rfl) fD aa aN ?_;intro e8 m q b8 e6))
 obtain⟨N,O,P,rfl⟩:∃e9 g0 c0,e8=M e9 g0 c0:=by
  rcases q.2 with⟨i,_⟩|⟨g,c0,_,i,_⟩<;>exact⟨_,_,_,i⟩
 have R:Bl b9 m:=(a5.alloc e7 _).grown b8 aN (λg8 g7=>(a6.lt g8 g7).1);have c1:D (m.ownsRow (G (H b)) 3 1 (M N O P) (E (d.2++ [e])) (aA (zs (d.2++ [e])))):=by
  rw[D,TK,ξ];exact bY q λr S=>cz ((q.lt r S).1)
 have a8:=(R.block (G (H b)) aa).trans B;have T:=(R.block (G (H b)+1) aa).trans a4;have a9:=(R.block (G (H b)+1+1) aa).trans a3;have c2:Bl b m:=bT b6 R;have g2:∀c,Bl m c->A4 B0 211 #[C9 #[M a.fo a.fn a.fc,ε (ae a.wh),M a.oo a.on a.oc,M a.ro a.rn a.rc,U V a.qM,M a.aS a.tn a.tc,M a.po a.pn a.pc,M a.uo a.un a.uc],U .u64 ((x:A2):Y)] c (RB (U V y) c):=λc f=>o c (bT c2 f);obtain⟨⟨_,_,_⟩,_,_,_,g4⟩:=LQ a8;obtain⟨_,_,_,_,_,_,_,_⟩:=LU T;have g5:=af T;obtain⟨⟨_,_,_⟩,_,_,_,g6⟩:=LQ a9;have i1:V.wrap (j+y)=j+y:=by simp[M5,M7,M6];omega
 have h8:¬G (H b)=G (H b)+1+1:=aa;have h9:¬G (H b)+1+1=G (H b):=aa;change D _ at a9;change D _ at a8;change D _ at T;have g3:D (∀(n W:A0) (X:Y),Bl m n->X=min (j+y) ru->W=(((n.setCell ⟨G (H b)+1+1,0,I⟩ (M N O P)).setCell ⟨G (H b)+1+1,1,I⟩ (U .u64 (x:Y))).setCell ⟨G (H b)+1+1,2,I⟩ (U V X))->∃t,σ (C9 #[M N O P,U .u64 (x:Y),U V X])=σ (C9 #[t,U .u64 ((D0 (d.2++ [e]):A2):Y),U V (aZ g (d.2++ [e]))])/\jg W (G (H b)) t (d.2++ [e])/\Bl b W):=by
  rintro n W X l rfl rfl;have g1:Bl b n:=bT c2 l;refine⟨_,by rw[F.out,w.out],⟨?_,aN,_,_,_,J⟩,((g1.setCell (p:=⟨G (H b)+1+1,0,I⟩) (by show _<=G (H b)+1+1;omega) _).setCell (p:=⟨G (H b)+1+1,1,I⟩) (by show _<=G (H b)+1+1;omega) _).setCell (p:=⟨G (H b)+1+1,2,I⟩) (by show _<=G (H b)+1+1;omega) _⟩;refine aD (c1:m.ownsRow _ _ _ _ _ _) λr S=>?_;have a7:r≠G (H b)+1+1:=λi=>by
   have:=(q.lt r S).1;omega
  rw[C7 _ _ _ _ a7,C7 _ _ _ _ a7,C7 _ _ _ _ a7];exact l.block r (q.lt r S).2
 clear a6 q b8 e6 a5 o b7 K c1 B a4 a3 F;go_region_held2 (λk=>β k (Q (G (H b)) 2 I)=Z (U V j)/\β k ⟨G (H b)+1,0,I⟩=Z (M a.fo a.fn a.fc)/\β k ⟨G (H b)+1,1,I⟩=Z (ε (ae a.wh))/\β k ⟨G (H b)+1,2,I⟩=Z (M a.oo a.on a.oc)/\β k ⟨G (H b)+1,3,I⟩=Z (M a.ro a.rn a.rc)/\β k ⟨G (H b)+1,4,I⟩=Z (U V a.qM)/\β k ⟨G (H b)+1,5,I⟩=Z (M a.aS a.tn a.tc)/\β k ⟨G (H b)+1,6,I⟩=Z (M a.po a.pn a.pc)/\β k ⟨G (H b)+1,7,I⟩=Z (M a.uo a.un a.uc)) (go_keep) (first
  |(go_at_call 211;refine(g2 _ ?_).mono ?_;exact⟨J,J,J,Θ _,λ_ _=>rfl⟩;rintro i n ⟨rfl,s⟩;have l:Bl m n:=⟨s.os,s.tape,s.output,s.size,s.block⟩;clear s;obtain⟨⟨g9,h0,h1⟩,_,t51,_,_⟩:=LQ ((l.block _ g6).trans a9);have i0:=l.size;obtain⟨⟨-, -,_⟩, -⟩:=LQ ((l.block _ g4).trans a8);obtain⟨_,_,_,_,_,_,_,_⟩:=LU ((l.block _ g5).trans T)))
 go_wp2_with fail;exact B2 (v:=C9 #[M N O P,U .u64 (x:Y),U V (min (j+y) 1000000000000)]) (by simp[E1,results149,go_sem,g9,h0,h1]) J (g3 n _ _ l J J)
def FC(w0 x:A0)(FB:Γ A2)(base:A2)(v:A3)(tes:Γ (aJ×Ex)):Prop:=∃raws:Γ dK,x.ownsRow base 235 17 v (E tes) (dz raws)/\E raws=E tes/\∀(i:A2) (r:dK) (te:aJ×Ex),raws[i]? =Z r->tes[i]? =Z te->mY w0 FB r te.1 te.2
theorem FC.nil(b c a base):FC b c a base (M I 0 0) []:=⟨[],Ω _ _ _ _,J,λi _ _ d=>by simp at d⟩
theorem FC.val{base v}(e:FC d O f base v y):∃c b,v=M c (E y) b:=by
 obtain⟨_,g, -⟩:=e;rcases g.2 with⟨a,i⟩|⟨_,cap,_,a,_⟩
 ·exact⟨I,0,by rw[i];exact a⟩
 exact⟨_,_,a⟩
theorem FC.bI{base v}(n:FC O d f base v y)(o:Bl O d)(t:E y<=1000):dA d f v y:=by
 obtain⟨b,e,_,p⟩:=n;rcases e.2 with⟨g,k⟩|⟨j,cap,_,g,_,_,_⟩
 ·cases g;exact⟨I,0,by rw[k],aa,A9 (A6.mp k)⟩
 cases g;refine⟨_,_,J,aa,A5 ⟨j,J,(e.lt j J).2,λi q l=>?_⟩⟩;have:=(ψ.mp l).1;have m:b[i]? =Z b[i]:=θ aa;have r:=p i _ q m l;have a:∀c,c<17->β d ⟨j,i*17+c,I⟩=b[i].arr[c]? :=λc s=>(e.cellAt _ aa).trans (nC b i _ c m s);exact⟨b[i],⟨a 0 aa,a 1 aa,a 2 aa,a 3 aa,a 4 aa,a 5 aa,a 6 aa,a 7 aa,a 8 aa,a 9 aa,a 10 aa,a 11 aa,a 12 aa,a 13 aa,a 14 aa,a 15 aa,a 16 aa⟩,r.ah o⟩
def Ae(tes:Γ (aJ×Ex))(o:G9 Y (Γ (aJ×Ex))):G9 Y (Γ (aJ×Ex)):=match o with
 | .error n=>.error n
 | .ok xs=>.ok (tes++xs)
theorem Qw{user}(f d rest)(k:Dv y b9 a3.1 s N W a5 a6 a7 b1 b3 c2 c3 e1 e2 c4 c5 c6 c7 c8 b0)(l:∀b c,dS y a3.1=Z b->y[b]? =Z c->c1=c.1.gZ)(a:a2=aT [b0,fT (!aW a3.2||uX a3.2 d) 2,fT (!bC c1 user) 7]):
  (a2≠0/\Ae f (dh y user d (a3::rest))=.error a2)\/(a2=0/\∃b c,dS y a3.1=Z b/\y[b]? =Z c/\ [s,N,W,a5,a6,a7,b1,b3,c2,c3,e1,e2,c4,c5,c6,c7,c8]=(b9 b).arr.toList/\Ae f (dh y user d (a3::rest))=Ae (f++ [c]) (dh y user (d++ [a3]) rest)):=by
 have m:d.any (λe=>e.2==a3.2)=uX a3.2 d:=J;rcases k with⟨e,rfl, -⟩|⟨b,c,e,g,rfl,n⟩
 ·left;have:a2=2:=by rw[a];simp[aT]
  rw[this];refine⟨ag, ?_⟩;rw[dh,e];rfl
 rw[l b c e g]at a;rw[dh,e];simp only[g,m]
 cases i:(!aW a3.2||uX a3.2 d)with
 |true=>
  rw[i]at a;have:a2=2:=by rw[a];simp[aT,fT]
  rw[this];exact A9 ⟨ag,by rw[E7 J];rfl⟩
 |false=>
  rw[i]at a;rw[B9 Bool.false_ne_true]
  cases j:bC c.1.gZ user with
  |false=>
   rw[j]at a;have:a2=7:=by rw[a];simp[aT,fT]
   rw[this];exact A9 ⟨ag,by simp[Ae]⟩
  |true=>
   rw[j]at a;have:a2=0:=by rw[a];simp[aT,fT]
   refine A5 ⟨this,b,c,J,g,n, ?_⟩;simp only[K7,D5,J0]
   cases dh y user (d++ [a3]) rest<;>simp[Ae]
def Le(w:A0)(FB:Γ A2)(o:G9 Y (Γ (aJ×Ex)))(e:I2)(w':A0):Prop:=G4 (G (H w)) w w'/\
 ((∃n:Y,o=.error n/\n≠0/\e=σ (C4 #[M I 0 0,U V n]))\/
  (∃(tes:Γ (aJ×Ex)) (v':A3),o=.ok tes/\e=σ (C4 #[v',U V 0])/\dA w' FB v' tes))
theorem ZJ{base i c}{a:dK}(n:E i=E y)(p:∀(b:A2) (a:dK) (c:aJ×Ex),i[b]? =Z a->y[b]? =Z c->mY d f a c.1 c.2)(m:mY d f a c.1 c.2)(o:O.ownsRow base 235 17 (M (Z (Q j 0 I)) (E y+1) e) (E y+1) (dz i++a.arr.toList)):FC d O f base (M (Z (Q j 0 I)) (E y+1) e) (y++ [c]):=by
 refine⟨i++ [a], ?_,by simp[n],λb q r g k=>?_⟩
 ·rw[ξ,zM];have:dz [a]=a.arr.toList:=by simp[dz]
  rw[this];exact o
 rcases Nat.lt_or_ge b (E i)with l|l
 ·rw[E5 l]at g;rw[E5 aa]at k;exact p b q r g k
 rw[E4 l]at g;rw[E4 aa]at k;have s:=(ψ.mp g).1;simp only[B1,E0]at s;have t:b-E i=0:=aa;have u:b-E y=0:=aa;rw[t]at g;rw[u]at k;simp at g k;rw[<-g,<-k];exact m
theorem Eg(O N K){aS}(e1:dA d f (M aS j e) y)(user)(g5:iM d (M z (E L) C) L)(n6:E L<=4)(k0:E L<=C)(r:∀n∈L,E n.2<=I7):
  A4 B0 142 #[C9 #[M O N K,M aS j e],ε (ae user),M z (E L) C] d λF k1=>Le d f (dh y user [] L) F k1:=by
 obtain⟨k2,k3,k4,k5,k6⟩:=D8 SI;obtain⟨k7,g6⟩:=e1.choose;have g7:D (dA d f (M aS j e) y):=e1;have a3:D (vF d f aS y k7):=g6;have e2:D (iM d (M z (E L) C) L):=g5;have k8:D _:=r;have i:=ai d (η #[M O N K,M aS j e] 194);obtain⟨c,e3⟩:=au (d.alloc (η #[M O N K,M aS j e] 194));have a4:=κ d (η #[M O N K,M aS j e] 194);rw[<-e3]at a4 i;have g8:=af a4;have k9:D _:=a4;have l0:D (Bl d c):=i;obtain⟨s,e4⟩:=au (dh y user [] L);have o:D (s=Ae [] (dh y user (L.take 0) (L.drop 0))):=by
  rw[D,J7,List.take_zero,<-e4];cases s<;>simp[Ae]
 rw[<-e4];clear e4 e1 g6 g5 r a4 i;go_enter func142,ntmps142;go_upto_region 1 with fail
 rw[<-e3];clear e3;go_wp2_with fail;go_loopw [8,17] (λn5 g2 wr=>∃(a:A2) (b:Γ (aJ×Ex)),a<=E L/\E b=a/\g2=U V a/\D (s=Ae b (dh y user (L.take a) (L.drop a)))/\D (FC d wr f (G (H c)) n5 b)/\Bl c wr) (λ_ g2 _=>E L-(B6 g2).toNat)
 ·exact⟨0,[],χ _,J,J,o,FC.nil _ _ _ _,B3 _ _⟩
 clear o;obtain⟨a,b,_,i4,rfl,o,R,X⟩:=hrel;have:E b<=4:=aa;have m0:D (E b=a):=i4;clear i4;obtain⟨B,x,rfl⟩:=R.out.val;have:=X.size;have u:Bl d wr:=bT l0 X;by_cases v:a<E L
 ·obtain⟨_,_,rfl,_,h7,h8⟩:∃l a2,z=Z (Q l a2 I)/\l<G (H wr)/\β wr ⟨l,a2+a*2,I⟩=Z (ε (ae L[a].1))/\β wr ⟨l,a2+a*2+1,I⟩=Z (ε (ae L[a].2)):=by
   obtain⟨_,cap,F,_,n2⟩:=e2.out.ah u
   cases F;rcases n2 with e8|⟨l,a2,F,m9,n0⟩
   ·rw[e8]at v;simp at v
   exact⟨l,a2,F,m9,n0 a _ (θ v)⟩
  have h0:D (L.drop a=L[a]::L.drop (a+1)):=D1 v;have h3:D (L.take (a+1)=L.take a++ [L[a]]):=by rw[D,ν v]
  have r:=k8.out L[a] (τ v);obtain⟨n,i3⟩:=au (L[a]);rw[<-i3]at h7 h8 h0 h3 r;have h5:D (Bl d wr):=u;have t:D (Bl c wr):=X;have:G (H d)<G (H c):=g8;have l1:D (E n.2<=I7):=r;clear i3 r u X;go_upto_region 6 with fail
  refine(show∀k:A0,k=_->Code.wp B0 _ _ _ k from λk g0=>?_) _ J;have c9:k.heap[G (H wr)]? =Z (η #[ε (ae n.1),ε (ae n.2)] 59 (0,0)):=by rw[g0];exact κ wr _
  have P:D (Bl wr k):=by rw[D,g0];exact ai wr _
  clear g0 h7 h8;have a8:D (Bl d k):=bT h5 P;have j5:k.heap[G (H d)]? =Z (η #[M O N K,M aS j e] 194 (0,0)):=(P.block _ aa).trans ((t.block _ g8).trans k9);refine FU j5 c9 (dA.ah g7 a8) (vF.ah a3 a8) ?_;intro _ _ _ _ _ _ _ _ _ j9 m7;obtain⟨m6,b0,b1,b9,c0,c1,c2,c3,c4,c5,c6,b2,b3,b4,b5,b6,b7,b8,j7,rfl,rfl,_,h2,p,e7,i⟩:=m7
  try dsimp only
  have a9:D (Bl d j9):=bT a8 i;obtain⟨n3,j4,j3⟩:=e7.out.gZ (vF.ah a3 a9);have j6:=(i.block (G (H wr)) (af c9)).trans c9;have S:=Qw b (L.take a) (L.drop (a+1)) e7 j3 (user:=user) J;rw[<-h0.out]at S;rw[<-h3.out]at S;rw[<-o.out]at S;have a7:D _:=S;have h1:D _:=iM.ah e2 a9;have g9:D (Bl k j9):=i;have h4:D _:=j4;have a6:D _:=p;have e5:D _:=h2;clear S o e7 j3 j5 c9 i j4 p h2;go_upto_region 7 with fail
  refine FV j7 user a e5 a6 j6 h1 aa J k0 h4 l1 (λ_ _ _ _ _ e8=>e8) ?_;intro _ _ _ _ _ _ _ v37 _ _ _ _ _ _ _ _ v46 _ g c7
  try dsimp only
  obtain⟨a1,w⟩:=au (aT [j7,fT (!aW n.2||uX n.2 (L.take a)) 2,fT (!bC n3 user) 7]);rw[<-w]at a7 ⊢;have p:=(c7.block m6 (af a6)).trans a6;have h6:D (Bl d g):=bT a9 c7;have a5:D (Bl wr g):=P.out.trans ((bT g9 c7).mono P.size);clear w h1 h4 a6 j6 c7 g9 P;rcases a7.out with⟨w,a0⟩|⟨rfl,g3,g4,g1,j1,i0,a0⟩
  ·have:(a1==0)=B5:=by simpa using w
   have e6:D (s=.error a1):=a0;have m1:D (a1≠0):=w;clear a7 a0 w p;go_wp2_with fail;exact B2 (v:=C4 #[M I 0 0,U V a1]) (by simp[E1,J4,go_sem]) J ⟨h6,A9 ⟨a1,e6,m1,J⟩⟩
  have e6:D (s=_):=a0;obtain⟨e0,c8,i8,j0⟩:=R.out;have i9:=(a3.out g3 g4 j1).choose_spec.2.2.2;have i7:g.ownsRow (G (H c)) 235 17 (M B (E b) x) (E b) (dz e0):=aD c8 λh9 n1=>a5.out.block h9 (c8.lt h9 n1).2;have m4:∀q:M4,(g.alloc q).ownsRow (G (H c)) 235 17 (M B (E b) x) (E b) (dz e0):=λq=>B8 i7 q;have l4:D (∀(m:A0) (q:M4) (W T:A2),m.ownsRow (G (H c)) 235 17 (M (Z (Q W 0 I)) (E b+1) T) (E b+1) (dz e0++ [b0,b1,b9,c0,c1,c2,c3,c4,c5,c6,b2,b3,b4,b5,b6,b7,b8])->(g.alloc q).grownBy m (M B (E b) x).ownBlock->FC d m f (G (H c)) (M (Z (Q W 0 I)) (E b+1) T) (b++ [g4])/\Bl c m):=λm q W T m5 l=>by
   refine⟨ZJ i8 j0 i9 (by rw[<-i0];exact m5), ?_⟩;have e9:Bl c g:=bT t a5;exact(e9.alloc e9.size q).grown l (by simp only[Δ];have:=e9.size;omega) λg3 g1=>(c8.lt g3 g1).1
  obtain⟨_,_,_,_,_,_,_,_,_,_,_,_,_,_,_,_,_⟩:nJ b0 b1 b9 c0 c1 c2 c3 c4 c5 c6 b2 b3 b4 b5 b6 b7 b8:=e5.out;obtain⟨⟨_,_,_,_,_,_,_,_,_,_,_,_,_,_,_,_,_⟩, -⟩:=yX p;have:=af p;have m3:D (∀j8∈ [b0,b1,b9,c0,c1,c2,c3,c4,c5,c6,b2,b3,b4,b5,b6,b7,b8],j8.oneCell'=B7):=by
   intro j8 j2;simp only[C2,C8,G3]at j2;rcases j2 with rfl|rfl|rfl|rfl|rfl|rfl|rfl|rfl|rfl|rfl|rfl|rfl|rfl|rfl|rfl|rfl|rfl<;>assumption
  have:G (H c)<=G (H g):=(bT t a5).size;clear a7 a0 c8 i8 j0 i9 i7 i0 t a5 h6 R h5 a8 a9 e5 p j1 g1;go_wp2_with(at_builtin;refine E8 _ J (.tmp 51) (.tmp 53) 192 J (G (H c)) 235 k2 _ 17 232 underlying192 k3 k4 k5 k6 J ag (M B (E b) x) (E b) (dz e0) J (m4 _) (Q (G (H g)) 0 I) 1 1 [b0,b1,b9,c0,c1,c2,c3,c4,c5,c6,b2,b3,b4,b5,b6,b7,b8] J J (A7 (κ g _)) m3 ag fD aa aN (G (H g)+1) ak ?_;intro W T m i6 i2 m8 _;obtain⟨i5,i1⟩:=l4.out m _ W T i6 i2;have m2:D _:=i5;have l7:D (Bl c m):=i1;clear i6 i2 m8 i5 i1);go_roundw
  ·exact⟨a+1,b++ [g4],aa,by rw[ξ,m0.out];rfl,aP,e6,m2,l7⟩
  simp[B6];omega
 have l8:D (s=.ok b):=by rw[D,o.out,D7 aa,dh];simp[Ae]
 have l9:D (dA wr f (M B (E b) x) b):=R.out.bI u aa;have t:D (Bl d wr):=u;clear o R X u g7 e2 a3;go_wp2_with fail;exact B2 (v:=C4 #[M B (E b) x,U V 0]) (by simp[E1,J4,go_sem]) J ⟨t,A5 ⟨b,_,l8,J,l9⟩⟩
mutual
def Qg:Ex->H9
 | .mk _ _ _ _ _ _ _ _ h _ o=>(decide (h≠ [61])||decide (2<=E o))&&GV o
def GV:Γ Ex->H9
 | []=>B7
 |e::es=>Qg e&&GV es
end
structure Px(n:Nat)(x:Ex):Prop where
 col:lT n x=true
 eq:Qg x=true
 Pw:(AU x:Int)<=x.size
structure TN(n:Nat)(xs:List Ex):Prop where
 col:rO n xs=true
 eq:GV xs=true
 Pw:(um xs:Int)<=bQ xs
theorem TN.cons(a:Px e u)(b:TN e m):TN e (u::m):=⟨by rw[rO,a.col,b.col];rfl,by rw[GV,a.eq,b.eq];rfl,by have:=a.Pw;have:=b.Pw;rw[um,bQ];omega⟩
theorem Xk(c:qF e5≠0):2<=E e5:=by
 match e5 with
 | []=>simp[qF]at c
 | [a]=>simp[qF]at c
 |a::b::t=>simp
theorem XC{fns}(j:∀d∈fns,0<=d.body.size)(a:uh fns X m=.ok u)(b:TN e m):Px e u:=by
 unfold uh at a;split at a
 ·split at a
  ·cases a
  next f g=>
  cases a;refine⟨by rw[lT,b.col];rfl, ?_, ?_⟩
  ·rw[Qg,b.eq,K8];by_cases c:X= [61]
   ·subst c;have i:iB [61] (m.map Ex.ty)=qF (m.map Ex.ty):=by unfold iB;rw[B9 ak,E7 ak]
    rw[i]at g;have:=Xk g;rw[Φ]at this;simp[this]
   simp[c]
  have:=b.Pw;rw[AU,Ex.size];omega
 next f=>
 unfold uI at a;split at a
 ·cases a
 next o n=>
 split at a
 ·cases a
 next d k=>
 split at a
 ·cases a;have l:=j d (F8 k);refine⟨by rw[lT,b.col];rfl, ?_, ?_⟩
  ·rw[Qg,b.eq,K8];have:X≠ [61]:=λc=>by subst c;exact f ag
   simp[this]
  have:=b.Pw;rw[AU,Ex.size];omega
 cases a
theorem Rv:Px e (fe i2 a2 X):=by
 unfold fe;split
 ·exact⟨J,J,E6 1⟩
 split
 ·exact⟨J,J,E6 1⟩
 split
 iterate 2
  ·exact⟨J,J,E6 1⟩
mutual
theorem Pg{e:Bs->Y}{c:Sc}{fns:Γ Fn}(f:∀i∈fns,0<=i.body.size):∀(l:Tr) (d:Ex),bO e c fns l=.ok d->Px (E c.1) d
 | .mk k tx br ops,d,a=>by
  rw[bO]at a;split at a
  ·cases b:dN e c fns ops with
   |error q=>rw[b]at a;cases a
   |ok g=>rw[b]at a;exact XC f a (IQ f ops g b)
  split at a
  ·unfold zb at a;split at a
   ·cases a
   next p n=>
   split at a
   ·cases a
   next m j=>
   cases a;have o:=(ψ.mp j).1;refine⟨?_,J,E6 1⟩;rw[Mg,lT];simp[rO];omega
  split at a
  ·unfold EA at a;split at a
   ·cases a
   cases a;exact⟨J,J,E6 1⟩
  cases a;exact Rv
theorem IQ{f:Bs->Y}{e:Sc}{fns:Γ Fn}(d:∀g∈fns,0<=g.body.size):∀(c:Γ Tr) (b:Γ Ex),dN f e fns c=.ok b->TN (E e.1) b
 | [],b,a=>by rw[dN]at a;cases a;exact⟨J,J,E6 0⟩
 |t::c,b,a=>by
  rw[dN]at a;split at a
  ·cases a
  next k i=>
  split at a
  ·cases a
  next l j=>cases a;exact TN.cons (Pg d t k i) (IQ d c l j)
end
mutual
theorem IJ{c:A2} :∀(b:Ex),lT c b=B7->Qg b=B7->∀a∈fU b,lT c a=B7/\(a.head= [61]->2<=E a.ops)
 | .mk s t z q vk vn vs p h f o,h1,h2,a,he=>by
  rw[fU]at he;split at he
  ·rw[lT,υ]at h1;rw[Qg,υ]at h2;exact EW o h1.2 h2.2 a he
  rw[C5.mp he];refine⟨h1,λe=>?_⟩;rw[Qg,υ]at h2;have d:h= [61]:=e;have:=h2.1;rw[d]at this;show 2<=E o;simpa using this
theorem EW{d:A2} :∀(c:Γ Ex),rO d c=B7->GV c=B7->∀b∈fK c,lT d b=B7/\(b.head= [61]->2<=E b.ops)
 | [],_,_,b,a=>by rw[fK]at a;cases a
 |x::c,h1,h2,b,a=>by
  rw[rO,υ]at h1;rw[GV,υ]at h2;rw[fK]at a;rcases D3.mp a with a|a
  ·exact IJ x h1.1 h2.1 b a
  exact EW c h1.2 h2.2 b a
end
theorem Iu{fns}(e:∀d∈fns,0<=d.body.size)(a:dH i2 e4 fns X=.ok u):Px (E e4.1) u/\u.size<=300:=by
 unfold dH at a;split at a
 ·cases a
 next c f=>
 unfold uF at a
 cases b:bO i2 e4 fns c with
 |error g=>rw[b]at a;cases a
 |ok i=>
  rw[b]at a;simp only at a;split at a
  ·cases a
  cases a;exact⟨Pg e c _ b,aa⟩
def acD(w:A0)(FB:Γ A2)(o:G9 Y (Γ Ex))(e:I2)(w':A0):Prop:=G4 (G (H w)) w w'/\
 ((∃n:Y,o=.error n/\n≠0/\e=σ (C4 #[M I 0 0,U V n]))\/
  (∃(es:Γ Ex) (v':A3) (N:A2),o=.ok es/\e=σ (C4 #[v',U V 0])/\N<=G (H w')/\dO w' (G (H w)) N FB v' es))
theorem Gc{fns}(a:∀s∈fns,0<=s.body.size/\s.body.size<=300)(b5:E X<=I7)(l:Du d f (M a1 T C) (M I 0 0) (M z j e) (a4,[]) fns):
  A4 B0 145 #[C9 #[M a1 T C,M I 0 0,M z j e],ε (ae X)] d λi t=>acD d f (fw (a4,[]) fns X) i t:=by
 have m:=ai d (η #[M a1 T C,M I 0 0,M z j e] 332);have:(ae X).toList=X:=ay;by_cases a2:X= []
 ·subst a2;have c:D (fw (a4,[]) fns []=.ok []):=by rw[D,fw,E7 J]
  clear l a;go_enter L4,K6;go_wp2_with fail;exact B2 (v:=C4 #[M I 0 0,U V 0]) (by simp[E1,F5,go_sem]) J ⟨m,A5 ⟨[],_,0,c,J,χ _,dO.nil _ _ _ _⟩⟩
 have:(X== [])=B5:=by rw[A1];exact a2
 have k:=oH bL a (ae X) (by rw[aX];exact b5) (λ_ b=>Dh b) _ f a1 T C I 0 0 z j e (l.ah m);rw[ay]at k;have c:D (fw (a4,[]) fns X=match dH bL (a4,[]) fns X with| .error g=>.error g| .ok i=>if i.ty≠3 then .error 3 else .ok (fU i)):=by rw[D,fw,B9 a2];rfl
 have o:∀b,dH bL (a4,[]) fns X=.ok b->Px (E a4) b/\b.size<=300:=λb n=>Iu (λs p=>(a s p).1) n;obtain⟨b6,p⟩:=au (dH bL (a4,[]) fns X);rw[<-p]at k c o;have u:D (∀b,b6=.ok b->Px (E a4) b/\b.size<=300):=o;clear l a p o;go_enter L4,K6;go_wp2_with fail;refine k.mono ?_;clear k;rintro i a ⟨p,⟨g,rfl,v,rfl⟩|⟨b,b0,rfl,rfl,n⟩⟩
 ·have k:Bl d a:=bT m p;have q:D (fw (a4,[]) fns X=.error g):=c.out;have hF:aT [g,fT B7 3]=g:=by rw[aT,B9 v]
  have:(g==0)=B5:=by simpa using v
  have l:D (g≠0):=v;clear c u p m v;go_wp2_with(first
   |(go_at_call 122;refine bP eX ?_)
   |(go_at_call 65;refine bP (nT a _ _ _) ?_))
  refine B2 (v:=C4 #[M I 0 0,U V g]) (by simp[E1,F5,go_sem]) J ⟨?_,A9 ⟨g,q,l,J⟩⟩;exact k.trans ((aV a _ _).mono k.size)
 obtain⟨a5,b1⟩:=u.out b J;obtain⟨w,l,x,y,B,F,K,L,N,_,_,O,P,R,S,_,a6,W, -⟩:=n.inv;have b7:b0= #[U V w,U V l,U V x,ο y,U V B,U V F,ε (ae K),U V L,ε (ae N),ζ O,M P R S]:=by
  rw[<-I4 (xs:=b0),W]
 have a0:b.ty=l:=by rw[a6];rfl
 rw[W]at n;subst b7;have k:Bl d a:=bT m p;have a7:D (dF a f (λo=>o<G (H a)) [U V w,U V l,U V x,ο y,U V B,U V F,ε (ae K),U V L,ε (ae N),ζ O,M P R S] b):=n.bounded.move (λ_ _=>rfl) λ_ b8=>b8.2;have a8:AU b<=1000:=cz a5.Pw;have b2:D (∀o,Bl a o->A4 B0 206 #[C9 #[U V w,U V l,U V x,ο y,U V B,U V F,ε (ae K),U V L,ε (ae N),ζ O,M P R S]] o λi t=>∃r,i=σ r/\dO t (G (H o)) (G (H a)) f r (fU b)/\Bl o t):=λo b3=>VP _ b (E9 _) a8 o (G (H a)) b3.size f w l x y B F K L N O P R S (a7.ah b3);by_cases a9:l=3
 ·subst a9;have q:D (fw (a4,[]) fns X=.ok (fU b)):=by rw[D,c.out];simp only[a0];simp
  have hF:aT [0,fT B5 3]=0:=ag;clear c u p m a5 n a6 W a0 b1 a8 a7;go_wp2_with(first
   |(go_at_call 122;refine bP eX ?_)
   |(go_at_call 65;refine bP (nT a _ _ _) ?_)
   |(go_at_call 206;refine(b2 _ ?_).mono ?_;exact aV a _ _;rintro i c0 ⟨r,rfl,b9,b4⟩))
  have c1:Bl d c0:=k.trans (((aV a _ _).trans (b4.mono (aV a _ _).size)).mono k.size);refine B2 (v:=C4 #[r,U V 0]) (by simp[E1,F5,go_sem]) J ⟨c1,A5 ⟨_,r,G (H a),q,J, ?_,b9.low ?_⟩⟩
  ·exact E2 (aV a _ _).size b4.size
  exact E2 k.size (aV a _ _).size
 have b4:(l==3)=B5:=by rw[A1];exact a9
 have:(l != 3)=B7:=by simp[bne,b4]
 have q:D (fw (a4,[]) fns X=.error 3):=by rw[D,c.out];simp only[a0];rw[E7 a9]
 have hF:aT [0,fT B7 3]=3:=ag;clear c u p m a5 n a6 W a0 b1 a8 a7 b2;go_wp2_with(first
  |(go_at_call 122;refine bP eX ?_)
  |(go_at_call 65;refine bP (nT a _ _ _) ?_))
 refine B2 (v:=C4 #[M I 0 0,U V 3]) (by simp[E1,F5,go_sem]) J ⟨?_,A9 ⟨3,q,ag,J⟩⟩;exact k.trans ((aV a _ _).mono k.size)
def xJ(w:A0)(base:A2)(FB:Γ A2)(v:A3)(es:Γ Ex):Prop:=∃ccs,w.ownsRow base 210 11 v (E es) ccs/\cO w FB (λg=>v.ownBlock≠Z g) ccs es
theorem xJ.nil(b base a):xJ b base a (M I 0 0) []:=⟨[],Ω _ _ _ _,.nil⟩
theorem xJ.val{base v}(e:xJ d base f v m):∃c b,v=M c (E m) b:=by
 obtain⟨_,g, -⟩:=e;rcases g.2 with⟨a,i⟩|⟨_,cap,_,a,_⟩
 ·exact⟨I,0,by rw[i];exact a⟩
 exact⟨_,_,a⟩
theorem YM{x:A0}{base}(o:d.ownsRow base 210 11 s (E m) a0)(p:cO d f (λa=>s.ownBlock≠Z a) a0 m)(i:Bl d x)(r:dF x f (λa=>G (H d)<=a) c9 u)(v:O.ownsRow base 210 11 (M (Z (Q e 0 I)) (E m+1) j) (E m+1) (a0++c9))(t:(x.alloc g0).grownBy O s.ownBlock)(q:s.ownBlock=Z e\/G (H x)<=e):xJ O base f (M (Z (Q e 0 I)) (E m+1) j) (m++ [u]):=by
 have:=i.size;refine⟨_,by rw[ξ];exact v, ?_⟩;have k:∀a,s.ownBlock≠Z a->a<G (H x)->(M (Z (Q e 0 I)) (E m+1) j).ownBlock≠Z a:=λa b g c=>by
  cases c;rcases q with l|l
  ·exact b l
  simp only at g;omega
 have l:∀a,G (H d)<=a->s.ownBlock≠Z a:=λa b c=>cz ((o.lt a c).2);have n:∀a,s.ownBlock≠Z a->a<G (H x)->O.heap[a]? =x.heap[a]? :=λa b g=>(t.block a aN λu=>b u.symm).trans (Ψ _ _ _ g);refine((p.ah i).bounded.move (λa b=>n a b.1 b.2) λa b=>k a b.1 b.2).snoc (r.bounded.move (λa b=>n a (l a b.1) b.2) λa b=>k a (l a b.1) b.2)
def Sm(w:A0)(FB:Γ A2)(o:G9 Y (Γ Ex))(e:I2)(w':A0):Prop:=G4 (G (H w)) w w'/\
 ((∃n:Y,o=.error n/\n≠0/\e=σ (C4 #[M I 0 0,U V n]))\/
  (∃(es:Γ Ex) (v':A3),o=.ok es/\e=σ (C4 #[v',U V 0])/\xJ w' (G (H w)) FB v' es))
def xQ(es:Γ Ex)(o:G9 Y (Γ Ex)):G9 Y (Γ Ex):=match o with
 | .error n=>.error n
 | .ok xs=>.ok (es++xs)
theorem ZO{fns}(a)(b:dH bL e4 fns X=.ok u):xQ a (eF e4 fns (X::c1))=xQ (a++ [u]) (eF e4 fns c1):=by
 rw[eF,b]
 cases eF e4 fns c1<;>simp[xQ]
theorem VZ{fns}(a)(b:dH bL e4 fns X=.error a2):xQ a (eF e4 fns (X::c1))=.error a2:=by
 rw[eF,b];rfl
theorem Kn{fns:Γ Fn}(e9:∀e8∈fns,0<=e8.body.size/\e8.body.size<=300){outs:Γ Bs}(k6:E outs<=1000)(g0:∀c∈outs,E c<=I7)(g1:Du d f (M a1 T C) (M I 0 0) (M z j e) (a4,[]) fns)(g2:gD d s outs):
  A4 B0 146 #[C9 #[M a1 T C,M I 0 0,M z j e],s] d λl a9=>Sm d f (eF (a4,[]) fns outs) l a9:=by
 obtain⟨i0,i1,i2,i3,i4⟩:=D8 MN;have b0:D (gD d s outs):=g2;obtain⟨g3,cap,rfl, -, -⟩:=g2;have b1:=ai d (η #[M a1 T C,M I 0 0,M z j e] 332);obtain⟨i,b2⟩:=au (d.alloc (η #[M a1 T C,M I 0 0,M z j e] 332));have X:=κ d (η #[M a1 T C,M I 0 0,M z j e] 332);rw[<-b2]at X b1;have i5:=af X;change D _ at X;have g4:D (Bl d i):=b1;have b3:D (∀(L:A0) (q:Bs),q∈outs->Bl d L->A4 B0 186 #[C9 #[M a1 T C,M I 0 0,M z j e],ε (ae q)] L λl a9=>xB L f (dH bL (a4,[]) fns q) l a9):=λL q a0 i6=>by
  have:=oH bL e9 (ae q) (by rw[aX];exact g0 q a0) (λi7 a2=>Dh a2) L f a1 T C I 0 0 z j e (g1.ah i6);rw[ay]at this;exact this
 have b4:D (xQ [] (eF (a4,[]) fns outs)=eF (a4,[]) fns outs):=by
  rw[D];cases eF (a4,[]) fns outs<;>simp[xQ]
 obtain⟨v,c1⟩:=au (eF (a4,[]) fns outs);rw[<-c1]at b4 ⊢;have n:D (v=xQ [] (eF (a4,[]) fns (outs.drop 0))):=by rw[D,J7,<-c1];exact b4.symm
 clear c1 b4 g1 g0 b1 e9;go_enter func146,ntmps146;go_upto_region 1 with fail
 rw[<-b2];clear b2;go_wp2_with fail;go_loopw [6,13] (λk5 c6 wr=>∃(b:A2) (a:Γ Ex),b<=E outs/\E a=b/\c6=U V b/\D (v=xQ a (eF (a4,[]) fns (outs.drop b)))/\D (xJ wr (G (H i)) f k5 a)/\Bl i wr) (λ_ c6 _=>E outs-(B6 c6).toNat)
 ·exact⟨0,[],χ _,J,J,n,xJ.nil _ _ _,B3 _ _⟩
 clear n;obtain⟨b,a,_,h4,rfl,n,u,w⟩:=hrel;have k7:E a<=1000:=aa;have j1:D (E a=b):=h4;clear h4;obtain⟨K,F,rfl⟩:=u.out.val;have k1:=w.size;have x:Bl d wr:=bT g4 w;by_cases P:b<E outs
 ·obtain⟨m,W,rfl,h0,j7⟩:∃m W,g3=Z (Q m W I)/\m<G (H wr)/\β wr ⟨m,W+b,I⟩=Z (ε (ae outs[b])):=by
   obtain⟨g3,cap,l,_,k3⟩:=gD.ah b0 x
   cases l;rcases k3 with c0|⟨m,W,l,h0,j6⟩
   ·rw[c0]at P;simp at P
   exact⟨m,W,l,h0,j6 b _ (θ P)⟩
  have c7:=(w.block _ i5).trans X;obtain⟨⟨_,_,_⟩, -⟩:=tX c7;have k8:=af c7;have a5:=b3.out wr outs[b] (τ P) x;have c4:outs.drop b=outs[b]::outs.drop (b+1):=D1 P;have a7:D (∀p,dH bL (a4,[]) fns outs[b]=.ok p->v=xQ (a++ [p]) (eF (a4,[]) fns (outs.drop (b+1)))):=λp B=>by rw[n.out,c4];exact ZO a B
  have a6:D (∀k,dH bL (a4,[]) fns outs[b]=.error k->v=.error k):=λk R=>by rw[n.out,c4];exact VZ a R
  obtain⟨c,h6⟩:=au (dH bL (a4,[]) fns outs[b]);rw[<-h6]at a5 a7 a6;obtain⟨q,a0⟩:=au (outs[b]);rw[<-a0]at j7 a5;have g6:D _:=x;have a3:D (Bl i wr):=w;clear n c4 h6 a0 c7 b0 b3 x w;go_wp2_with fail;refine a5.mono ?_;clear a5;rintro l g ⟨y,⟨k,rfl,R,rfl⟩|⟨p,g7,rfl,rfl,B⟩⟩
  ·have b5:D (v=.error k):=a6.out k J;have k9:(k==0)=B5:=by simpa using R
   have b6:D (k≠0):=R;have g5:D (Bl d g):=bT g6 y;clear a6 a7 u y R;go_wp2_with fail;refine B2 (v:=C4 #[M I 0 0,U V k]) (by simp[E1,J3,go_sem]) J ⟨?_,A9 ⟨k,b5,b6,J⟩⟩;exact g5.trans ((ai g _).mono g5.size)
  have b6:D _:=a7.out p J;obtain⟨c9,e0,e1,e2,e3,e4,e5,e6,e7,_,_,b9,b7,c8,b8,_,k2,c3, -⟩:=B.inv;have j8:g7= #[U V c9,U V e0,U V e1,ο e2,U V e3,U V e4,ε (ae e5),U V e6,ε (ae e7),ζ b9,M b7 c8 b8]:=by
   rw[<-I4 (xs:=g7),c3]
  rw[c3]at B;subst j8;have k0:=y.size;obtain⟨O,S,h8⟩:=u.out;have j3:∀c t:M4,((g.alloc c).alloc t).ownsRow (G (H i)) 210 11 (M K (E a) F) (E a) O:=λc t=>B8 (B8 (aD S λa8 c5=>y.block a8 (S.lt a8 c5).2) c) t;have i8:D (∀(o:A0) (c t:M4) (r N:A2),o.ownsRow (G (H i)) 210 11 (M (Z (Q r 0 I)) (E a+1) N) (E a+1) (O++ [U V c9,U V e0,U V e1,ο e2,U V e3,U V e4,ε (ae e5),U V e6,ε (ae e7),ζ b9,M b7 c8 b8])->((g.alloc c).alloc t).grownBy o (M K (E a) F).ownBlock->((M K (E a) F).ownBlock=Z r\/r=G (H g)+1+1)->xJ o (G (H i)) f (M (Z (Q r 0 I)) (E a+1) N) (a++ [p])/\Bl i o):=λo c t r N j4 m c0=>by
   have h2:=ai g c;have h9:Bl wr (g.alloc c):=y.trans (h2.mono k0);refine⟨YM (x:=g.alloc c) S h8 h9 (B.ah h2) j4 m (c0.imp id λl=>FK), ?_⟩;have c2:=a3.out.trans (h9.mono k1);exact(c2.alloc c2.size t).grown m (by simp only[Δ];have:=c2.size;simp only[Δ]at this;omega) λk4 j9=>(S.lt k4 j9).1
  clear a6 a7 u y B k2 c3 S h8 g6 a3;go_wp2_with(at_builtin;refine E8 _ J (.tmp 26) (.tmp 28) 208 J (G (H i)) 210 i0 _ 11 120 G2 i1 i2 i3 i4 J ag (M K (E a) F) (E a) O J (j3 _ _) ⟨G (H g)+1,0,I⟩ 1 1 [U V c9,U V e0,U V e1,ο e2,U V e3,U V e4,ε (ae e5),U V e6,ε (ae e7),ζ b9,M b7 c8 b8] J J (A7 (aco g)) (by intro i7 a2;simp only[C2,C8,G3]at a2;rcases a2 with rfl|rfl|rfl|rfl|rfl|rfl|rfl|rfl|rfl|rfl|rfl<;>rfl) ag fD aa aN (G (H g)+1+1) ak ?_;intro r N o h7 h3 g9 _;obtain⟨h5,h1⟩:=i8.out o _ _ r N h7 h3 g9;have j2:D _:=h5;have i9:D (Bl i o):=h1;clear h7 h3 g9 h5 h1);go_roundw
  ·exact⟨b+1,a++ [p],aa,by rw[ξ,j1.out];rfl,aP,b6,j2,i9⟩
  simp[B6];omega
 have b5:D (v=.ok a):=by rw[D,n.out,D7 aa,eF];simp[xQ]
 have j0:D (xJ wr (G (H d)) f (M K (E a) F) a):=by
  obtain⟨O,g8,j5⟩:=u.out;exact⟨O,bY g8 λa8 c5=>E2 g4.size (g8.lt a8 c5).1,j5⟩
 have a3:D (Bl d wr):=x;clear n u w x b0 b3;go_wp2_with fail;exact B2 (v:=C4 #[M K (E a) F,U V 0]) (by simp[E1,J3,go_sem]) J ⟨a3,A5 ⟨a,_,b5,J,j0⟩⟩
theorem Xf{a}(b:d.heap[e]? =Z (η #[a5,a6,a7] a (0,0))):(((d.setCell (Q e 0 I) s).setCell (Q e 1 I) N).setCell (Q e 2 I) W).heap[e]? =Z (η #[s,N,W] a (0,0)):=by
 rw[H1 _ _ _ _ _ _ (H1 _ _ _ _ _ _ (H1 _ _ _ _ _ _ b))];rfl
theorem IB(a:j≠e):(((d.setCell (Q e 0 I) s).setCell (Q e 1 I) N).setCell (Q e 2 I) W).heap[j]? =d.heap[j]? :=by
 rw[C7 _ _ _ _ a,C7 _ _ _ _ a,C7 _ _ _ _ a]
structure CoR(w wr:World)(q:PQ)(v:QV)(o:List Nat)(i:Nat)(vo:Value):Prop where
 le:i<=List.length o
 qb:wr.heap[Array.size (World.heap w)]? =some (.cells v.arr 250 (0,0))
 bb:wr.heap[Array.size (World.heap w)+1]? =some (.cells #[vo,.int .u64 ((setOf (o.take i):Nat):Int),.int .i64 (aZ q (o.take i))] 339 (0,0))
 ord:jg wr (Array.size (World.heap w)+2) vo (o.take i)
 be:Below (Array.size (World.heap w)) w wr
theorem CoR.next{wr j}(a:CoR d wr K j f e N)(l:e<E f)(b:jg O (G (H wr)) s (f.take e++ [f[e]]))(c:Bl wr O):CoR d (((O.setCell ⟨G (H d)+1,0,I⟩ s).setCell ⟨G (H d)+1,1,I⟩ (U .u64 ((D0 (f.take e++ [f[e]]):A2):Y))).setCell ⟨G (H d)+1,2,I⟩ (U V (aZ K (f.take e++ [f[e]])))) K j f (e+1) s:=by
 have m:=af a.bb;have n:=af a.qb;have k:f.take (e+1)=f.take e++ [f[e]]:=by rw[ν l]
 refine⟨aa, ?_, ?_, ?_, ?_⟩
 ·rw[IB aa];exact(c.block _ n).trans a.qb
 ·rw[k];exact Xf ((c.block _ m).trans a.bb)
 ·rw[k];refine⟨bY (aD b.1 λg i=>IB (by have:=(b.1.lt g i).1;omega)) λg i=>cz ((b.1.lt g i).1),b.2⟩
 have i:=a.be.trans (c.mono a.be.size);exact((i.setCell (p:=⟨G (H d)+1,0,I⟩) (by show _<=G (H d)+1;omega) _).setCell (p:=⟨G (H d)+1,1,I⟩) (by show _<=G (H d)+1;omega) _).setCell (p:=⟨G (H d)+1,2,I⟩) (by show _<=G (H d)+1;omega) _
theorem Ki{c f}{e:QV}(q:Sn c e f)(a){x}(N:aY c x (zs a))(c7:E a<=4)(K:∀w∈a,w<4):
  A4 B0 86 #[C9 e.arr,x] c (RB (U V (aZ f a)) c):=by
 have S:=κ c (η e.arr 250);have a8:=ai c (η e.arr 250);obtain⟨a3,k⟩:=au ((c.alloc (η e.arr 250)).alloc (η #[M I 0 0,U .u64 0,U V 0] 339));have t:D (CoR c a3 f e a 0 (M I 0 0)):=by
  refine⟨χ _, ?_, ?_,⟨Ω _ _ _ _,χ _,_,_,_,J⟩,by rw[k];exact aV c _ _⟩
  ·rw[k];exact(Ψ _ _ _ gL).trans S
  have:=κ (c.alloc (η e.arr 250)) (η #[M I 0 0,U .u64 0,U V 0] 339);rw[Δ]at this;rw[k];exact this
 change D _ at q;have o:D (aY c x (zs a)):=N;obtain⟨b3,e2,rfl, -, -⟩:=N;rw[dW]at o ⊢;clear S a8;simp only[QV.arr]at k ⊢;go_enter func86,ntmps86;go_wp2_with fail;rw[<-k];clear k;go_loopw [10] (λv wr=>∃(b:A2) (a0:A3),v=U V b/\b<=E a/\D (CoR c wr f e a b a0)) (λv _=>E a-(B6 v).toNat)
 ·exact⟨0,_,J,χ _,t⟩
 obtain⟨b,a0,rfl,c9,d⟩:=hrel;obtain⟨⟨e3,T,W⟩,b6,b7,b8,b1⟩:=LQ d.bb;obtain⟨y,a6,a5,rfl⟩:=d.out.ord.2.2;by_cases p:b<E a
 ·have L:b<E (zs a):=by rw[dW];exact p
  obtain⟨g,l,rfl,z,c8⟩:∃g l,b3=Z (Q g l I)/\g<G (H wr)/\β wr ⟨g,l+b,I⟩=Z (U V (a[b]:Y)):=by
   obtain⟨y,cap,j,_,b2⟩:=aY.ah o d.be;rw[dW]at j
   cases j;rcases b2 with a7|⟨g,l,j,z,a9⟩
   ·rw[a7]at L;simp at L
   exact⟨g,l,j,z,a9 b _ (Fs p)⟩
  obtain⟨b9,c0,c1,c2,c3,c4,c5,c6⟩:=LU d.qb;have e0:=af d.qb;have i:=Ps wr (G (H c)+2) f (M y a6 a5,a.take b) d.ord a[b] (K _ (τ p)) (λw b0=>K w (F7 b0)) aN e (q.ah d.be);have s:D (∀(n:A0) (m:A3),jg n (G (H wr)) m (a.take b++ [a[b]])->Bl wr n->CoR c (((n.setCell ⟨G (H c)+1,0,I⟩ m).setCell ⟨G (H c)+1,1,I⟩ (U .u64 ((setOf (a.take b++ [a[b]]):A2):Y))).setCell ⟨G (H c)+1,2,I⟩ (U V (aZ f (a.take b++ [a[b]])))) f e a (b+1) m):=λn m a4 g=>d.out.next p a4 g;have r:D _:=d.out.bb;simp only[xC,QV.arr]at i;obtain⟨X,R⟩:=au (a.take b++ [a[b]]);rw[<-R]at i s;obtain⟨e8,P⟩:=au ((setOf X:A2):Y);obtain⟨b5,F⟩:=au (aZ f X);rw[<-P,<-F]at i s;obtain⟨e7,O⟩:=au ((setOf (a.take b):A2):Y);obtain⟨b4,C⟩:=au (aZ f (a.take b));rw[<-O]at i T r;rw[<-C]at i W r;clear q o t R P F O C;go_wp2_with(go_at_call 149;refine i.mono ?_;clear i;rintro j n ⟨m,rfl,u,B⟩;obtain⟨⟨e4,e5,e6⟩,e9,g0,g1,e1⟩:=LQ ((B.block _ b1).trans r);have a2:D _:=u;obtain⟨g4,g3,g2,rfl⟩:=u.2.2;clear u);go_roundw
  ·exact⟨b+1,_,aP,aa,s _ _ a2 B⟩
  simp[B6];omega
 have j:a.take b=a:=Ξ aa;have a1:D (Bl c wr):=d.out.be;rw[j]at T W;clear q o t d
 go_wp2
 go_ret;exact⟨J,a1⟩
theorem Ga{base size f}(g:d.ownsRow base f size s e a0):s=M I 0 0\/∃a cap b,s=M (Z (Q a 0 I)) e cap/\d.heap[a]? =Z (η b f (0,0)):=by
 rcases g.2 with⟨c,_⟩|⟨a,cap,b,c,_,i,_⟩
 ·exact A9 c
 exact A5 ⟨a,cap,b,c,i⟩
theorem FM{aS}(b:dA d f (M aS j e) y)(a8 b5 b4)(a:wR d (M a8 b5 b4) L)(g:E y=E L)(m6:E y<=4)(P:∀R∈y,E R.1.aB<=4/\∀i∈R.1.aB,E i.1<=1000)(a9:∀i4∈L,E i4.2<=1000):
  A4 B0 143 #[M aS j e,M a8 b5 b4] d λc X=>∃e6,c=σ e6/\fE X e6 (aK 0 y L)/\Bl d X:=by
 obtain⟨i5,i6,i7,i8,i9⟩:=D8 aaY;have j0:j=E y:=by obtain⟨_,_,c,_⟩:=b;cases c;rfl
 have j1:b5=E L:=by obtain⟨_,_,c,_⟩:=a;cases c;rfl
 subst j0 j1;have b6:D (dA d f (M aS (E y) e) y):=b;have b7:D (wR d (M a8 (E L) b4) L):=a;change D _ at P;change D _ at a9;have b8:D (E y=E L):=g;have m7:E L<=4:=aa;clear b a g;go_enter func143,ntmps143;go_wp2_with fail;go_loopw [5,13] (λb9 b wr=>∃(a m n:A2) (o:F2 I5),a<=E y/\b9=M o m n/\b=U V a/\D (wr.ownsRow (G (H d)) 382 4 (M o m n) (E (aK 0 (y.take a) (L.take a))) (vv (aK 0 (y.take a) (L.take a))))/\Bl d wr) (λ_ b _=>E y-(B6 b).toNat)
 ·exact⟨0,0,0,I,χ _,J,J,Ω _ _ _ _,B3 _ _⟩
 obtain⟨a,m,n,o,e7,rfl,rfl,p,s⟩:=hrel;have j2:=s.size;by_cases S:a<E y
 ·have a0:a<E L:=by have:=b8.out;omega
  obtain⟨k,rfl,v,b,C,F⟩:∃k,aS=Z (Q k 0 I)/\k<G (H wr)/\∃b:dK,yQ wr k a b/\mY d f b y[a].1 y[a].2:=by
   obtain⟨e8,cap,c,_,a1⟩:=b6.out
   cases c;rcases a1 with a2|⟨k,c,v,a3⟩
   ·rw[a2]at S;simp at S
   obtain⟨b,g,l⟩:=a3 a _ (θ S);exact⟨k,c,aa,b,g.ah λt=>s.cell (p:=(Q k t I)) v,l⟩
  obtain⟨j3,_,rfl,e9,c0⟩:∃k w,a8=Z (Q k w I)/\k<G (H wr)/\β wr ⟨k,w+a*2+1,I⟩=Z (ε (ae L[a].2)):=by
   obtain⟨e8,cap,c,_,a1⟩:=wR.ah b7 s
   cases c;rcases a1 with a2|⟨k,w,c,v,a3⟩
   ·rw[a2]at a0;simp at a0
   exact⟨k,w,c,v,(a3 a _ (θ a0)).2⟩
  obtain⟨j4,q⟩:=P.out y[a] (τ S);have x:=a9.out L[a] (τ a0);have T:D (aK 0 (y.take (a+1)) (L.take (a+1))=aK 0 (y.take a) (L.take a)++y[a].1.aB.map λi=>(bD L[a].2 i,a,i.2.2)):=by
   rw[D,ν S,ν a0,DW _ _ _ _ _ (by rw[C3,C3,b8.out])];rw[C3,J6 aa,F3]
  have j5:E (aK 0 (y.take a) (L.take a))<=16:=by
   have:=sw (y.take a) (L.take a) 0 λR c1=>(P R (F7 c1)).1;rw[C3]at this;omega
  obtain⟨r,K⟩:=au (aK 0 (y.take a) (L.take a));rw[<-K]at T p j5;obtain⟨aB,zu⟩:=au (y[a].1.aB);have g:=F.aB;rw[<-zu]at T j4 q g;obtain⟨l,N⟩:=au (L[a].2);rw[<-N]at c0 x T;have u:D (∀a4,Bl d a4->A4 B0 188 #[ε (ae l),M b.co b.cn b.cc] a4 λc X=>∃z W B,c=σ (M z W B)/\X.ownsRow (G (H a4)) 380 2 (M z W B) (E aB) (bR (aB.map (bD l)))/\Bl a4 X):=λa4 j6=>(Ie x (g.ah j6) aa q).mono λ_ _ ⟨z,W,B,he,e7,v⟩=>⟨z,W,B,he,e7.2,v⟩;have c2:D (dC d (M b.co b.cn b.cc) aB):=g;have g0:D (yO wr k a (ε (ae b.name)) (M b.co b.cn b.cc) (M b.ro b.rn b.rc) (U V b.count) (ε (ae b.aR)) (M b.uo b.un b.uc) (U V b.sort) (U V b.ty) (U V b.size) (ο b.quiet) (U V b.vk) (U V b.vn) (ε (ae b.vs)) (U V b.place) (ε (ae b.head)) (ζ b.fp) (M b.xo b.xn b.xc)):=C;have g1:D (b.cn=E aB):=by obtain⟨_,_,c,_⟩:=g;simp only[D2]at c;exact c.2.1
  have g2:D (Bl d wr):=s;clear zu N K C F g q x b6 b7 P a9 s;go_upto_region 4 with fail
  refine aaM e S ⟨J,J,J,J,J,J,J,J,J,J,J,J,J,J,J,J,J⟩ g0 ?_;intro _ _ _ C c3 b0
  try dsimp only
  have k0:β C (Q (G (H wr)) 1 I)=Z (M b.co b.cn b.cc):=aC c3;have l9:=af c3;have k8:=cK b0 e9 c0;have k7:j3<G (H C):=aa;have c4:D (C.ownsRow (G (H d)) 382 4 (M o m n) (E r) (vv r)):=aD p λq a6=>b0.block q (D4 p q a6).2;have b1:D (Bl d C):=g2.out.trans (b0.mono j2);have g8:=u.out C b1;clear g0 c3 b0 p g2 u;have m9:=b1.out.size;go_wp2_with(go_at_call 188;refine g8.mono ?_;clear g8;rintro c e5 ⟨z,W,B,rfl,O,c9⟩;have l4:W=E aB:=(by rcases O.2 with⟨c,k3⟩|⟨q,cap,k2,c,_⟩<;>(simp only[D2]at c;omega));subst l4;have g7:D (e5.ownsRow (G (H C)) 380 2 (M z (E aB) B) (E aB) (bR (aB.map (bD l)))):=O;have g9:D (e5.ownsRow (G (H d)) 382 4 (M o m n) (E r) (vv r)):=aD c4 λq a6=>c9.block q (D4 c4 q a6).2;have h2:D (Bl d e5):=bT b1 c9;clear O c9);generalize l8:wr=wo at*;clear l8 k0 l9 k8 k7 c4 b1 c0 e9 v;go_loopw [5,29] (λb9 e3 wr=>∃(g m n:A2) (o:F2 I5),g<=E aB/\b9=M o m n/\e3=U V g/\D (wr.ownsRow (G (H d)) 382 4 (M o m n) (E (r++(aB.take g).map λi=>(bD l i,a,i.2.2))) (vv (r++(aB.take g).map λi=>(bD l i,a,i.2.2))))/\D (wr.ownsRow (G (H C)) 380 2 (M z (E aB) B) (E aB) (bR (aB.map (bD l))))/\Bl d wr) (λ_ e3 _=>E aB-(B6 e3).toNat)
  ·exact⟨0,m,n,o,χ _,J,J,by simpa[D]using g9.out,g7,h2⟩
  clear g9 g7 h2;obtain⟨g,m,n,o,_,rfl,rfl,p,u,s⟩:=hrel;have l7:=s.size;by_cases a7:g<E aB
  ·obtain⟨a5,rfl,l0,m1,m2⟩:∃q,z=Z (Q q 0 I)/\q<G (H wr)/\β wr ⟨q,g*2,I⟩=Z (ε (ae (bD l aB[g]).1))/\β wr ⟨q,g*2+1,I⟩=Z (U V (bD l aB[g]).2):=by
    rcases u.out.2 with⟨c,k3⟩|⟨q,cap,k2,c,_,e1,_⟩
    ·omega
    cases c;obtain⟨m3,m4⟩:=rP (aB.map (bD l)) g (bD l aB[g]) (by rw[D6,θ a7];rfl);exact⟨q,J,af e1,(G8 u _ aa).trans m3,(G8 u _ aa).trans m4⟩
   obtain⟨_,_,h5,_,k1⟩:∃k w,b.co=Z (Q k w I)/\k<G (H wr)/\β wr ⟨k,w+g*3+2,I⟩=Z (U V aB[g].2.2):=by
    obtain⟨e8,cap,c,_,_,a1⟩:=dC.ah c2 s;simp only[D2]at c;obtain⟨c8, -, -⟩:=c;rcases a1 with a2|⟨k,w,N,v,a3⟩
    ·rw[a2]at a7;simp at a7
    exact⟨k,w,c8.trans N,v,(a3 g _ (θ a7)).1.2.2⟩
   have i0:=g1.out;obtain⟨_,i2⟩:=au b.co;obtain⟨_,i1⟩:=au b.cn;obtain⟨_,h9⟩:=au b.cc;rw[<-i2]at h5 ⊢;rw[<-i1]at i0 ⊢;rw[<-h9];subst h5 i0;have c5:D (r++((aB.take (g+1)).map λi=>(bD l i,a,i.2.2))=(r++(aB.take g).map λi=>(bD l i,a,i.2.2))++ [(bD l aB[g],a,aB[g].2.2)]):=by
    rw[D,ν a7,J1,G5];rfl
   have k4:E (r++(aB.take g).map λi=>(bD l i,a,i.2.2))<=20:=aN;obtain⟨F,h3⟩:∃m5,m5=r++(aB.take g).map λi=>(bD l i,a,i.2.2):=⟨_,J⟩;rw[<-h3]at c5 p k4;obtain⟨b2,O⟩:=au ((bD l aB[g]).1);obtain⟨b3,e2⟩:=au ((bD l aB[g]).2);obtain⟨c6,e0⟩:=au (aB[g].2.2);rw[<-O]at m1;rw[<-e2]at m2;rw[<-e0]at k1;have h1:D (vv (F++ [(bD l aB[g],a,aB[g].2.2)])=vv F++ [ε (ae b2),U V b3,U V (a:Y),U V c6]):=by
    rw[D,Vw,O,e2,e0]
   have k6:=ai wr (η #[ε (ae b2),U V b3] 380);have g6:D (∀(K:A0) (t x:M4) (e4:A3),K.ownsRow (G (H d)) 382 4 e4 (E F+1) (vv F++ [ε (ae b2),U V b3,U V (a:Y),U V c6])->((wr.alloc t).alloc x).drew.grownBy K (M o m n).ownBlock->K.ownsRow (G (H d)) 382 4 e4 (E (r++(aB.take (g+1)).map λi=>(bD l i,a,i.2.2))) (vv (r++(aB.take (g+1)).map λi=>(bD l i,a,i.2.2)))/\K.ownsRow (G (H C)) 380 2 (M (Z (Q a5 0 I)) (E aB) B) (E aB) (bR (aB.map (bD l)))/\Bl d K):=λK t x e4 j9 k=>by
    have h4:=aV wr t x;refine⟨by rw[c5.out,h1.out,ξ];exact j9, ?_,((s.trans (h4.mono l7)).drew).grown k (by show _<=G (H ((wr.alloc t).alloc x));simp only[Δ];omega) λm0 e1=>(D4 p m0 e1).1⟩;refine aD u λq a6=>?_
    cases a6;have k9:a5<G (H wr):=l0;refine(k.block a5 (by show a5<G (H ((wr.alloc t).alloc x));simp only[Δ];omega) λc=>?_).trans (h4.block a5 k9);rcases u.out.2 with⟨c7,_⟩|⟨_,_,_,c7,_,l1,_⟩
    ·cases c7
    cases c7;rcases Ga p with N|⟨_,_,_,N,h7⟩
    ·rw[N]at c;cases c
    rw[N]at c;cases c;rw[l1]at h7;cases h7
   have h0:∀t x:M4,((wr.alloc t).alloc x).drew.ownsRow (G (H d)) 382 4 (M o m n) (E F) (vv F):=λt x=>H2 (B8 (B8 p t) x);have m8:(M o m n).ownBlock≠Z (G (H wr)):=λc=>cz ((D4 p _ c).2);clear c5 h1 O e2 e0 h3 p u c2 T i2 i1 h9 g1 k6;go_upto_region 9 with fail
   go_region_law (refine L6 _ J (.tmp 34) (.tmp 43) 327 J (G (H d)) 382 i5 _ 4 40 underlying327 i6 i7 i8 i9 J ag (M o m n) (E F) (vv F) jl (h0 _ _) ⟨G (H wr)+1,0,I⟩ 1 1 [ε (ae b2),U V b3,U V (a:Y),U V c6] jl J (A7 (yT wr)) (by intro _ i3;simp only[C2,C8,G3]at i3;rcases i3 with rfl|rfl|rfl|rfl<;>rfl) ag fD aa aN (G (H wr)+1+1) ak ?_;intro _ _ K h8 h6 k5 _)
   all_goals
    obtain⟨g3,g4,g5⟩:=g6.out _ _ _ _ h8 h6;change D _ at g3;change D _ at g4;have j7:D (Bl d K):=g5;clear h8 h6 k5 g5 g6 h0
    go_wp2
    go_roundw
    ·exact⟨g+1,_,_,_,aa,J,aP,g3,g4,j7⟩
    simp[B6];omega
  have j8:D (wr.ownsRow (G (H d)) 382 4 (M o m n) (E (aK 0 (y.take (a+1)) (L.take (a+1)))) (vv (aK 0 (y.take (a+1)) (L.take (a+1))))):=by
   rw[D,T.out];have c:aB.take g=aB:=Ξ aa;have:=p.out;rw[c]at this;exact this
  clear p u T c2
  go_wp2
  go_roundw
  ·exact⟨a+1,_,_,_,aa,J,aP,j8,s⟩
  simp[B6];omega
 have b:D (fE wr (M o m n) (aK 0 y L)):=by
  have c8:y.take a=y:=Ξ aa;have N:L.take a=L:=Ξ (by have:=b8.out;omega);have:=p.out;rw[c8,N]at this;refine Vx this ?_;have:=sw y L 0 λR c1=>(P R c1).1;omega
 clear p b6 b7 P a9
 go_wp2
 go_ret;exact⟨_,J,b,s⟩
structure uR(w wr:World)(A B:List Nat)(va vb:Value):Prop where
 a:wr.ownsRow (Array.size (World.heap w)) 3 1 va (List.length A) (aA (zs A))
 b:wr.ownsRow (Array.size (World.heap w)) 3 1 vb (List.length B) (aA (zs B))
 ne:∀g,va.ownBlock=some g->vb.ownBlock=some g->False
 be:Below (Array.size (World.heap w)) w wr
theorem uR.symm{w wr}(c:uR w wr f g1 s N):uR w wr g1 f N s:=⟨c.b,c.a,λd e g=>c.ne d g e,c.be⟩
theorem uR.ah{w wr x B}(c:uR w wr f B s N)(e:Bl wr x):uR w x f B s N:=
 ⟨aD c.a λd g=>e.block d (c.a.lt d g).2,aD c.b λd g=>e.block d (c.b.lt d g).2,c.ne,c.be.trans (e.mono c.be.size)⟩
theorem uR.val{wr}(g:uR d wr f g1 s N):∃e c,s=M e (E f) c:=by
 rcases g.a.2 with⟨b,i⟩|⟨_,cap,_,b,_⟩
 ·exact⟨I,0,by rw[i];exact b⟩
 exact⟨_,_,b⟩
theorem uR.Fv{wr:A0}(c:uR d wr f g1 s N)(o:O.ownsRow (G (H d)) 3 1 (M (Z (Q e 0 I)) (E f+1) j) (E f+1) (aA (zs f)++ [U V (C:Y)]))(l:(wr.alloc g0).grownBy O s.ownBlock)(n:s.ownBlock=Z e\/e=G (H wr)+1):uR d O (f++ [C]) g1 (M (Z (Q e 0 I)) (E f+1) j) N:=by
 have p:=c.be.size;refine⟨?_,aD c.b λg i=>?_,λg i m=>?_,(c.be.alloc p g0).grown l aN λr q=>(c.a.lt r q).1⟩
 ·rw[TK,ξ];exact o
 ·have t:=(c.b.lt g i).2;exact(l.block g aN λk=>c.ne g k.symm i).trans (Ψ _ _ _ t)
 cases i;rcases n with k|k
 ·exact c.ne _ k m
 have:=(c.b.lt _ m).2;simp only at this;omega
theorem Gz(a:A2×Y×H9->H9)(b:e<E P):jC a 0 (P.take (e+1))=jC a 0 (P.take e)++(if a P[e]then [e]else []):=by
 rw[ν b,Ar,C3,J6 aa,F3]
theorem vH(c:A2×Y×H9->H9):∀(a:Γ (A2×Y×H9)) (b:A2),E (jC c b a)<=E a
 | [],_=>by simp[jC]
 |p::a,b=>by
  have:=vH c a (b+1);rw[jC,B1];split
  ·rw[B1];omega
  omega
theorem TW(c:qC d (M z T C) P)(b2:∀b∈P,b.1<16)(g3:j<4)(c1:e<16):
  A4 B0 154 #[M z T C,U V (j:Y),U .u64 (e:Y)] d λo g4=>∃i a3 a2,o=σ (M i a3 a2)/\g4.ownsRow (G (H d)) 3 1 (M i a3 a2) (E (uT P j e)) (aA (zs (uT P j e)))/\Bl d g4:=by
 obtain⟨b3,b4,c2,c3,c4⟩:=D8 lX;have g9:T=E P/\E P<=1000:=by obtain⟨_,_,o,h0,_⟩:=c;cases o;exact⟨J,h0⟩
 obtain⟨rfl,_⟩:=g9;have b5:D (qC d (M z (E P) C) P):=c;have g5:=wO c1 g3;have a6:∀k,A4 B0 155 #[U .u64 (e:Y),U V (j:Y)] k (RE (U .u64 ((bu e j:A2):Y)) k):=λk=>rz k c1 g3;obtain⟨a7,f⟩:=au (bu e j);have h1:D (a7=_):=f;rw[<-f]at a6 g5;have b6:D (uR d d (jC (λb=>jW e j b&&b.2.2) 0 (P.take 0)) (jC (λb=>jW e j b&& !b.2.2) 0 (P.take 0)) (M I 0 0) (M I 0 0)):=⟨Ω _ _ _ _,Ω _ _ _ _,λ_ t _=>(by cases t),B3 _ _⟩;clear c f;go_enter func154,ntmps154;go_wp2_with fail;go_loopw [7,8,14] (λg l f wr=>∃(c:A2),c<=E P/\f=U V c/\D (uR d wr (jC (λb=>jW e j b&&b.2.2) 0 (P.take c)) (jC (λb=>jW e j b&& !b.2.2) 0 (P.take c)) g l)) (λ_ _ f _=>E P-(B6 f).toNat)
 ·exact⟨0,χ _,J,b6⟩
 obtain⟨c,_,rfl,l⟩:=hrel;obtain⟨i,p,rfl⟩:=l.out.val;obtain⟨F,u,rfl⟩:=l.out.symm.val;by_cases O:c<E P
 ·obtain⟨R,rfl,g6,c5,c6,c7,c8,c9,e0,e1,e2,e3,e4,S,W⟩:∃R,z=Z (Q R 0 I)/\R<G (H wr)/\∃c5 c6 c7 c8 c9 e0 e1 e2 e3 e4,Dn c5 c6 c7 (ο P[c].2.2) c8 c9 e0 e1 e2 e3 e4 (U .u64 (P[c].1:Y)) (U V P[c].2.1)/\yN wr R c c5 c6 c7 (ο P[c].2.2) c8 c9 e0 e1 e2 e3 e4 (U .u64 (P[c].1:Y)) (U V P[c].2.1):=by
   obtain⟨i,cap,o,_,f⟩:=qC.ah b5 l.be
   cases o;rcases f with t|⟨R,o,g6,g⟩
   ·rw[t]at O;simp at O
   exact⟨R,o,g6,g c _ (θ O)⟩
  change D _ at W;change D _ at S;have b7:=b2 P[c] (τ O);have m:=Gz (λb=>jW e j b&&b.2.2) O;have n:=Gz (λb=>jW e j b&& !b.2.2) O;have b8:=vH (λb=>jW e j b&&b.2.2) (P.take c) 0;have b9:=vH (λb=>jW e j b&& !b.2.2) (P.take c) 0;rw[C3]at b8 b9;obtain⟨⟨r,h2,e5⟩,q⟩:∃b,b=P[c]:=⟨_,J⟩;rw[<-q]at W S m n b7;simp only at W S m n b7;obtain⟨f,X⟩:=au (jC (λb=>jW e j b&&b.2.2) 0 (P.take c));obtain⟨g,a0⟩:=au (jC (λb=>jW e j b&& !b.2.2) 0 (P.take c));rw[<-X]at l b8 m ⊢;rw[<-a0]at l b9 n ⊢;change D _ at m;change D _ at n;have s:∀k,A4 B0 218 #[U .u64 (r:Y),U .u64 (e:Y)] k (RE (ο (F4 r e)) k):=λk=>rU k b7 c1;have a4:∀k,A4 B0 218 #[U .u64 (r:Y),U .u64 (a7:Y)] k (RE (ο (F4 r a7)) k):=λk=>rU k b7 g5;have e6:D (jW e j (r,h2,e5)=(!(e != 0&&F4 r e)&&F4 r a7)):=by rw[D,h1.out];rfl
  clear q X a0 b5 b2 b6;go_upto_region 4 with fail
  refine acH C O S W ?_;intro _ _ _ a8 q w;dsimp only;have c0:β a8 (Q (G (H wr)) 3 I)=Z (ο e5):=aC q;have g7:β a8 (Q (G (H wr)) 11 I)=Z (U .u64 (r:Y)):=aC q;have a5:=af q;have v:D (uR d a8 f g (M i (E f) p) (M F (E g) u)):=l.out.ah w;clear W S q w l;by_cases q:(e != 0&&F4 r e)=B7
  ·have y:e≠0:=λo=>by subst o;simp at q
   have w:F4 r e=B7:=by rw[υ]at q;exact q.2
   have B:((e:Y)==0)=B5:=xW;have K:((e:Y) != 0)=B7:=by simp[bne,B]
   rw[w]at s;rw[e6.out,q]at m n;have a1:D (uR d a8 (jC (λb=>jW e j b&&b.2.2) 0 (P.take (c+1))) (jC (λb=>jW e j b&& !b.2.2) 0 (P.take (c+1))) (M i (E f) p) (M F (E g) u)):=by
    rw[D,m.out,n.out];simpa using v.out
   clear m n v e6 q w;go_upto_region 6 with(go_at_call 218;refine bP (s _) ?_)
   go_quiet (first|(go_at_call 155;refine A8 (a6 _))|(go_at_call 218;refine A8 (a4 _)))
   go_wp2
   go_roundw
   ·exact⟨c+1,aa,aP,a1.ah fH⟩
   simp[B6];omega
  have x:(e != 0&&F4 r e)=B5:=by simpa using q
  rw[e6.out,x]at m n;clear q;go_upto_region 5 with fail
  go_cut [11] (λq k=>q=ο B5/\k=a8)
  ·by_cases y:e=0
   ·subst y;go_wp2_with(go_at_call 218;refine bP (s _) ?_);go_meet;exact⟨J,J⟩
   have B:((e:Y)==0)=B5:=xW;have K:((e:Y) != 0)=B7:=by simp[bne,B]
   have w:F4 r e=B5:=by
    rw[I3]at x;rcases x with t|t
    ·simp[y]at t
    exact t
   rw[w]at s;go_wp2_with(go_at_call 218;refine bP (s _) ?_);go_meet;exact⟨J,J⟩
  case rest=>
  obtain⟨rfl,rfl⟩:=hcut;clear s x;have e7:=v.out.be.size;go_upto_region 6 with fail
  cases g8:F4 r a7 with
  |false=>
   rw[g8]at a4 m n;have a1:D (uR d wc (jC (λb=>jW e j b&&b.2.2) 0 (P.take (c+1))) (jC (λb=>jW e j b&& !b.2.2) 0 (P.take (c+1))) (M i (E f) p) (M F (E g) u)):=by
    rw[D,m.out,n.out];simpa using v.out
   clear m n v
   go_quiet (first|(go_at_call 155;refine A8 (a6 _))|(go_at_call 218;refine A8 (a4 _)))
   go_wp2
   go_roundw
   ·exact⟨c+1,aa,aP,a1.ah fH⟩
   simp[B6];omega
  |true=>
   rw[g8]at a4 m n
   cases e5 with
   |true=>
    simp only[H6,H8,M3,K7,K0,D5,J0,H0]at m n
    go_quiet (first|(go_at_call 155;refine A8 (a6 _))|(go_at_call 218;refine A8 (a4 _)))
    generalize b0:wc.drewN nq=wy;have y:Bl wc wy:=by rw[<-b0];exact fH
    have h3:=cK y a5 c0;have w:=v.out.ah y;have e9:D (wy.ownsRow (G (H d)) 3 1 (M i (E f) p) (E f) (aA (zs f))):=w.a;have h5:=w.be.size;have h6:G (H wr)<G (H wy):=ω a5 y.size;have e8:D (∀(q:A0) (b1:M4) (s x:A2),q.ownsRow (G (H d)) 3 1 (M (Z (Q s 0 I)) (E f+1) x) (E f+1) (aA (zs f)++ [U V (c:Y)])->(wy.alloc b1).grownBy q (M i (E f) p).ownBlock->((M i (E f) p).ownBlock=Z s\/s=G (H wy)+1)->uR d q (jC (λb=>jW e j b&&b.2.2) 0 (P.take (c+1))) (jC (λb=>jW e j b&& !b.2.2) 0 (P.take (c+1))) (M (Z (Q s 0 I)) (E f+1) x) (M F (E g) u)):=λq b1 s x g0 g1 g2=>by
     rw[m.out,n.out];exact(w.Fv g0 g1 g2)
    clear m n v w y b0 c0 g7 a5;go_wp2_with(at_builtin;refine E8 _ J (.tmp 40) (.tmp 42) 42 J (G (H d)) 3 b3 (U V 0) 1 8 C1 b4 c2 c3 c4 J ag (M i (E f) p) (E f) (aA (zs f)) J (e9.alloc _) (Q (G (H wy)) 0 I) 1 1 [U V (c:Y)] J J (A7 (bS wy)) (by intro N L;simp at L;subst L;rfl) ag fD aa aN (G (H wy)+1) ak ?_;intro s x q B K a9 h4;have a1:D _:=e8.out _ _ _ _ B K a9;clear B K a9);go_roundw
    ·exact⟨c+1,aa,aP,a1⟩
    simp[B6];omega
   |false=>
    simp only[H6,H8,M3,K0,D5,J0,H0]at m n
    go_quiet (first|(go_at_call 155;refine A8 (a6 _))|(go_at_call 218;refine A8 (a4 _)))
    generalize b0:wc.drewN nq=wy;have y:Bl wc wy:=by rw[<-b0];exact fH
    have h3:=cK y a5 c0;have w:=v.out.symm.ah y;have e9:D (wy.ownsRow (G (H d)) 3 1 (M F (E g) u) (E g) (aA (zs g))):=w.a;have h5:=w.be.size;have h6:G (H wr)<G (H wy):=ω a5 y.size;have e8:D (∀(q:A0) (b1:M4) (s x:A2),q.ownsRow (G (H d)) 3 1 (M (Z (Q s 0 I)) (E g+1) x) (E g+1) (aA (zs g)++ [U V (c:Y)])->(wy.alloc b1).grownBy q (M F (E g) u).ownBlock->((M F (E g) u).ownBlock=Z s\/s=G (H wy)+1)->uR d q (jC (λb=>jW e j b&&b.2.2) 0 (P.take (c+1))) (jC (λb=>jW e j b&& !b.2.2) 0 (P.take (c+1))) (M i (E f) p) (M (Z (Q s 0 I)) (E g+1) x)):=λq b1 s x g0 g1 g2=>by
     rw[m.out,n.out];exact(w.Fv g0 g1 g2).symm
    clear m n v w y b0 c0 g7 a5;go_wp2_with(at_builtin;refine E8 _ J (.tmp 44) (.tmp 46) 42 J (G (H d)) 3 b3 (U V 0) 1 8 C1 b4 c2 c3 c4 J ag (M F (E g) u) (E g) (aA (zs g)) J (e9.alloc _) (Q (G (H wy)) 0 I) 1 1 [U V (c:Y)] J J (A7 (bS wy)) (by intro N L;simp at L;subst L;rfl) ag fD aa aN (G (H wy)+1) ak ?_;intro s x q B K a9 h4;have a1:D _:=e8.out _ _ _ _ B K a9;clear B K a9);go_roundw
    ·exact⟨c+1,aa,aP,a1⟩
    simp[B6];omega
 have o:P.take c=P:=Ξ aa;rw[o]at l ⊢;have m:D (uT P j e=jC (λb=>jW e j b&&b.2.2) 0 P++jC (λb=>jW e j b&& !b.2.2) 0 P):=J;obtain⟨r,n⟩:=au (uT P j e);have b8:=vH (λb=>jW e j b&&b.2.2) P 0;have b9:=vH (λb=>jW e j b&& !b.2.2) P 0;obtain⟨f,X⟩:=au (jC (λb=>jW e j b&&b.2.2) 0 P);obtain⟨g,a0⟩:=au (jC (λb=>jW e j b&& !b.2.2) 0 P);rw[<-X,<-a0]at l m ⊢;rw[<-X]at b8;rw[<-a0]at b9;rw[<-n]at m;have y:D (∀(k:A0) (i:F2 I5) (a3 a2:A2),k.ownsRow (G (H d)) 3 1 (M i a3 a2) (E f+E g) (aA (zs f)++aA (zs g))->k.ownsRow (G (H d)) 3 1 (M i a3 a2) (E r) (aA (zs r))):=λk i a3 a2 t=>by
  rw[m.out,ξ];have:aA (zs (f++g))=aA (zs f)++aA (zs g):=by simp[aA,zs]
  rw[this];exact t
 rcases l.out.b.2 with⟨s,a8⟩|⟨a9,_,_,s,_,b1,_,_,b7,c0⟩
 ·cases g with
  |nil=>
   simp only[E0,D2]at s;obtain⟨rfl, -,rfl⟩:=s;have v:D (wr.ownsRow (G (H d)) 3 1 (M i (E f) p) (E f) (aA (zs f))):=l.out.a;have a1:D _:=l.out.be;have a4:D _:=y.out wr i (E f) p (by simpa[aA,zs]using v.out);clear y l m b5 b2 b6 a8 X a0;have a5:D (r=_):=n;clear n;go_wp2_with(at_builtin;refine I6 J (.tmp 49) (.tmp 50) 42 J (G (H d)) 3 b3 1 C1 b4 (M i (E f) p) (E f) (aA (zs f)) J v J ?_);go_ret;exact⟨_,_,_,J,by rw[<-a5.out];exact a4,a1⟩
  |cons R w=>simp at a8
 cases s;have v:D (wr.ownsRow (G (H d)) 3 1 (M i (E f) p) (E f) (aA (zs f))):=l.out.a;have a1:D (Bl d wr):=l.out.be;have e7:=l.out.be.size;have c5:D (∀(w:A2) (N:A3),(aA (zs g))[w]? =Z N->β wr (J9 (Q a9 0 I) w)=Z N):=λw N R=>by
  have x:=(ψ.mp R).1;simp only[aA,Φ,dW]at x;rw[I0,F3,l.out.b.cellAt w aa,R]
 have W:D (E (aA (zs g))=E g*1):=by simp[aA,dW,D]
 have S:D (∀N∈aA (zs g),N.oneCell'=B7):=λN L=>by
  simp only[aA,C6]at L;obtain⟨_, -,rfl⟩:=L;rfl
 have c7:D (∀x,(M i (E f) p).ownBlock=Z x->G (H d)<=x):=λx c9=>(l.a.lt x c9).1;clear l m b5 b2 b6 X a0 b1 b7 c0;have a5:D (r=_):=n;clear n;go_wp2_with(at_builtin;refine D9 _ J (.tmp 49) (.tmp 50) 42 J (G (H d)) 3 b3 (U V 0) 1 8 C1 b4 c2 c3 c4 J ag (M i (E f) p) (E f) (aA (zs f)) J v (Q a9 0 I) (E g) u (aA (zs g)) J W c5 S fD aa e7 ?_;intro e2 q B K e0;obtain⟨_,_,_,rfl⟩:∃c8 e1 b0,e2=M c8 e1 b0:=(by rcases B.2 with⟨o,_⟩|⟨_,b0,_,o,_⟩<;>exact⟨_,_,_,o⟩);have a4:D _:=y.out q _ _ _ B;have c6:D (Bl d q):=a1.out.grown K e7 c7;clear B K e0);go_ret;exact⟨_,_,_,J,by rw[<-a5.out];exact a4,c6⟩
inductive jP(w:World)(FB:List Nat)(S:Nat->Prop)(cs:List dB):List Value->List Ex->Prop
 |nil:jP w FB S cs [] []
 |cons {c r:List Value} {x:Ex} {xs:List Ex} :dF w FB S c x->jP w FB S cs r xs->jP w FB S cs ((c++ [.int .u64 ((bH cs x:Nat):Int),.int .i64 (oQ cs x)])++r) (x::xs)
theorem jP.snoc{cs}(a:jP d f b2 cs c9 m)(b:dF d f b2 a0 u):jP d f b2 cs (c9++(a0++ [U .u64 ((bH cs u:A2):Y),U V (oQ cs u)])) (m++ [u]):=by
 induction a with
 |nil=>have:=jP.cons (cs:=cs) b jP.nil;simpa using this
 |cons c e ih=>rw[G5];exact .cons c ih
theorem jP.move{x}{S':A2->Prop}{cs}(e:jP d f b2 cs a0 m)(g:∀ {a:Γ A3} {c:Ex},dF d f b2 a c->dF x f S' a c):jP x f S' cs a0 m:=by
 induction e with
 |nil=>exact .nil
 |cons i b ih=>exact .cons (g i) ih
theorem jP.get{cs}(l:jP d f b2 cs a0 m):∀(c:A2) (i:c<E m),∃g,dF d f b2 g m[c]/\∀e,e<13->a0[c*13+e]? =(g++ [U .u64 ((bH cs m[c]:A2):Y),U V (oQ cs m[c])])[e]? :=by
 induction l with
 |nil=>intro c i;simp at i
 | @cons g a0 j m a b ih=>
  intro c i;have n:E (g++ [U .u64 ((bH cs j:A2):Y),U V (oQ cs j)]:Γ A3)=13:=by rw[ξ,a.DZ];rfl
  cases c with
  |zero=>exact⟨g,a,λe k=>by rw[E5 aa];simp⟩
  |succ c=>
   obtain⟨o,p,k⟩:=ih c (by simpa using i);refine⟨o,p,λe q=>?_⟩;rw[E4 aa,n,show(c+1)*13+e-13=c*13+e by omega];exact k e q
def gy(w:A0)(base N:A2)(FB:Γ A2)(cs:Γ dB)(v:A3)(es:Γ Ex):Prop:=∃ccs,w.ownsRow base 387 13 v (E es) ccs/\jP w FB (λg=>g<N) cs ccs es
theorem XO:(B0.info? 387).map (λa=>(a.zero,a.size,a.bytes))=Z (Z (C9 #[U V 0,U V 0,U V 0,ο B5,U V 0,U V 0,ε ⟨#[]⟩,U V 0,ε ⟨#[]⟩,ζ I,M I 0 0,U .u64 0,U V 0]),13,136):=aF
theorem gy.ah{w x base v}(g:gy w base e f F v m)(b:Bl w x):gy x base e f F v m:=by
 obtain⟨i,c,j⟩:=g;exact⟨i,aD c λd k=>b.block d (c.lt d k).2,j.move λa=>a.ah b⟩
theorem gy.nil(c base b a cs):gy c base b a cs (M I 0 0) []:=⟨[],Ω _ _ _ _,.nil⟩
theorem gy.val{base v}(g:gy d base e f F v m):∃c b,v=M c (E m) b:=by
 obtain⟨_,i, -⟩:=g;rcases i.2 with⟨a,j⟩|⟨_,cap,_,a,_⟩
 ·exact⟨I,0,by rw[j];exact a⟩
 exact⟨_,_,a⟩
theorem gy.afJ{base}(n:gy d base e f F s m)(P:E m<=1000):qC d s (m.map λg=>(bH F g,oQ F g,g.quiet)):=by
 obtain⟨R,S,rfl⟩:=n.val;obtain⟨_,o,T⟩:=n;refine⟨R,S,by rw[Φ],by rw[Φ];exact P, ?_⟩;rcases o.2 with⟨g,W⟩|⟨p,cap,_,g,_,X,_⟩
 ·exact A9 (by rw[A6.mp W];rfl)
 cases g;refine A5 ⟨p,J,af X,λb _ i=>?_⟩;rw[D6]at i;have q:b<E m:=by
  cases k:m[b]? with
  |none=>rw[k]at i;cases i
  |some x=>exact(ψ.mp k).1
 rw[θ q]at i
 cases i;obtain⟨c,a0,a1⟩:=T.get b q;obtain⟨r,t,u,v,w,y,z,B,C,_,_,K,L,N,O,_,a2,rfl, -⟩:=a0.inv;have k:m[b].quiet=v:=by rw[a2];rfl
 have a:∀j,j<13->∀l,([U V r,U V t,U V u,ο v,U V w,U V y,ε (ae z),U V B,ε (ae C),ζ K,M L N O,U .u64 ((bH F m[b]:A2):Y),U V (oQ F m[b])]:Γ A3)[j]? =Z l->β d ⟨p,b*13+j,I⟩=Z l:=λj a3 l a4=>by
  rw[o.cellAt _ aa,a1 j a3];exact a4
 refine⟨U V r,U V t,U V u,U V w,U V y,ε (ae z),U V B,ε (ae C),ζ K,M L N O,⟨J,J,J,J,J,J,J,J,J,J,J,J,J⟩, ?_⟩;simp only[k];exact⟨a 0 aa _ J,a 1 aa _ J,a 2 aa _ J,a 3 aa _ J,a 4 aa _ J,a 5 aa _ J,a 6 aa _ J,a 7 aa _ J,a 8 aa _ J,a 9 aa _ J,a 10 aa _ J,a 11 aa _ J,a 12 aa _ J⟩
theorem Hg:∀(c:Γ A2) (d b:A2),(c.foldl bu d).testBit b=(d.testBit b||c.contains b)
 | [],d,b=>by simp
 |a::c,d,b=>by
  rw[J2,Hg c,qz,List.contains_cons,Bool.or_assoc];congr 2;by_cases e:a=b
  ·subst e;simp
  rw[L9 e];symm;rw[A1];exact λf=>e f.symm
theorem IE(b:Γ A2)(a):(D0 b).testBit a=b.contains a:=by rw[D0,Hg];simp
theorem aei(b:e<=4):wtO e<=65:=by
 have:=(show∀a:Fin 5,wtO a.val<=65 by decide);exact this ⟨e,aa⟩
theorem mR.Zl{w B fb q l so sc}(a:mR w B fb j q l so sc)(c:e<G (H w))(d:e≠j)(f:∀b,(M so (E l) sc).ownBlock=Z b->b≠e):mR w B e j q l so sc:=⟨a.lo,a.box,a.row,a.Ev,a.zq,c,d,f⟩
structure ChO(w wr:World)(q:PQ)(v:QV)(n:Nat)(l:List (Value×List Nat))(so:Option Addr)(sc:Nat):Prop where
 qu:mR wr (Array.size (World.heap w)+1) (Array.size (World.heap w)) (Array.size (World.heap w)+1+1) q l so sc
 src:WM q n (l.map (·.2))
 qb:wr.heap[Array.size (World.heap w)]? =some (.cells v.arr 250 (0,0))
 be:Below (Array.size (World.heap w)) w wr
structure IU(w wr:World)(q:PQ)(v:QV)(x:Value×List Nat)(R:List (List Nat))(fb k:Nat)(l:List (Value×List Nat))(so:Option Addr)(sc:Nat):Prop where
 qu:mR wr (Array.size (World.heap w)+1) fb (Array.size (World.heap w)+1+1) q l so sc
 lay:Py q R x.2 k (l.map (·.2))
 qb:wr.heap[Array.size (World.heap w)]? =some (.cells v.arr 250 (0,0))
 bb:wr.heap[fb]? =some (.cells #[x.1,.int .u64 ((setOf x.2:Nat):Int),.int .i64 (aZ q x.2)] 339 (0,0))
 ord:jg wr (Array.size (World.heap w)+1) x.1 x.2
 be:Below (Array.size (World.heap w)) w wr
theorem IU.first{w wr i n}(a:ChO w wr K i n e9 a1 C)(p:jg d (G (H w)+1) a8.1 a8.2)(f:mR d (G (H w)+1) (G (H w)) (G (H w)+1+1) K b5 z j)(o:E b5=e)(m:Hp (jV K) (b5.map (·.2)) e)(c:rG (G (H w)+1) (G (H w)) wr d):
  IU w (d.alloc (η #[a8.1,U .u64 ((D0 a8.2:A2):Y),U V (aZ K a8.2)] 339)) K i a8 (b5.map (·.2)) (G (H d)) 0 b5 z j:=by
 have b:=ai d (η #[a8.1,U .u64 ((D0 a8.2:A2):Y),U V (aZ K a8.2)] 339);have:=af a.qb;have g:=(c.1.block (G (H w)) aa).trans a.qb;refine⟨(f.ah b).Zl ek ?_ ?_,UQ (m.vU (by simp[o])),(b.block _ (af g)).trans g,κ _ _,p.keq (nV (B:=0) (fb:=0) b (χ _)),a.be.trans ((c.1.mono aa).trans (b.mono (by have:=a.be.size;have:=c.1.size;omega)))⟩
 ·have:=af f.box;omega
 intro k l;have:=(f.row.lt k l).2;omega
theorem IU.ah{w wr v x fb k l}(a:IU w wr K v x b7 fb k l z e)(b:Bl wr d):IU w d K v x b7 fb k l z e:=
 ⟨a.qu.ah b,a.lay,(b.block _ (af a.qb)).trans a.qb,(b.block _ (af a.bb)).trans a.bb,a.ord.keq (nV (B:=0) (fb:=0) b (χ _)),a.be.trans (b.mono a.be.size)⟩
theorem IU.skip{wr b}(a:IU d wr K b a8 b7 j e b5 z C)(c:a8.2.contains e=B7):IU d wr K b a8 b7 j (e+1) b5 z C:=⟨a.qu,Yf a.lay c,a.qb,a.bb,a.ord,a.be⟩
theorem IU.next{wr c}{l3:Γ (A3×Γ A2)}(a:IU d wr K c a8 b7 e j b5 a1 T)(g:a8.2.contains j=B5)(k:mR O (G (H d)+1) e (G (H d)+1+1) K l3 z C)(i:(l3.map (·.2)).Perm (b5.map (·.2)++ [a8.2++ [j]]))(f:Hp (jV K) (l3.map (·.2)) (E l3))(b:rG (G (H d)+1) e wr O):IU d O K c a8 b7 e (j+1) l3 z C:=
 ⟨k,Ye a.lay g (f.vU ak) i,(b.1.block (G (H d)) aa).trans a.qb,(b.2.2 a.qu.yB.1).trans a.bb,a.ord.keq b,a.be.trans (b.1.mono aa)⟩
theorem IU.done{wr b}(a:IU d wr K b a8 b7 C e b5 z j)(c:ChO d O K b e e9 a1 T)(f:(e9.map (·.2)).Perm (a8.2::b7))(g:E a8.2≠e):ChO d wr K b e b5 z j/\pF e (b5.map (·.2))<pF e (e9.map (·.2)):=by
 obtain⟨i,k⟩:=ZC c.src f g a.lay;have l:=af a.qb;exact⟨⟨a.qu.Zl l aa (λm n=>cz ((a.qu.row.lt m n).1)),i,a.qb,a.be⟩,k⟩
theorem IU.zq{wr c}(a:IU d wr K c a8 b7 C e e9 z T)(b:(b5.map (·.2)).Perm (a8.2::b7))(l:pF j (b5.map (·.2))<=100)(k:e<=4):E e9+1<=1000:=by
 have f:=a.lay.perm.length_eq;have g:=b.length_eq;have i:=TC j (b5.map (·.2));have:E (iR e a8.2)<=e:=by
  unfold iR;rw[Φ];exact E2 (List.length_filter_le _ _) ak
 simp only[Φ,ξ,B1]at f g i;omega
theorem jg.val{v}(g:jg d e v f):∃c b,v=M c (E f) b:=by
 rcases g.1.2 with⟨a,i⟩|⟨_,cap,_,a,_⟩
 ·exact⟨I,0,by rw[i];exact a⟩
 exact⟨_,_,a⟩
theorem Sn.len{a:QV}(b:Sn d a K):a.tn<=4:=by
 obtain⟨_,_,c,_,_⟩:=b.bI;simp only[D2]at c;omega
def ach(w:A0)(q:PQ)(n:A2)(e:I2)(w':A0):Prop:=∃ao an ac o,e=σ (M ao an ac)/\jg w' (G (H w)+1) (M ao an ac) o/\tL q n o/\G4 (G (H w)) w w'
theorem Ju{b:QV}(g:Sn d b K):
  A4 B0 153 #[C9 b.arr] d λi u=>ach d K b.tn i u:=by
 have i0:=GD;have F:b.tn<=4:=g.len;obtain⟨L,e⟩:=au (d.alloc (η b.arr 250));obtain⟨N,a⟩:=au (L.alloc (η #[M I 0 0,U .u64 0,U V 0] 339));obtain⟨m,c⟩:=au (N.alloc (η #[M (Z ⟨G (H d)+1,0,I⟩) 1 1] 395));have f:G (H L)=G (H d)+1:=by rw[e,Δ]
 have k:G (H N)=G (H d)+1+1:=by rw[a,Δ,f]
 have l:m.heap[G (H d)]? =Z (η b.arr 250 (0,0)):=by
  rw[c,Ψ _ _ _ aa,a,Ψ _ _ _ aa,e];exact κ d _
 have n:m.heap[G (H d)+1]? =Z (η #[M I 0 0,U .u64 0,U V 0] 339 (0,0)):=by
  rw[c,Ψ _ _ _ aa,a,<-f];exact κ L _
 have j:m.heap[G (H d)+1+1]? =Z (η #[M (Z ⟨G (H d)+1,0,I⟩) 1 1] 395 (0,0)):=by
  rw[c,<-k];exact κ N _
 have o:Bl d m:=by
  rw[c,a,e];exact(aV d _ _).alloc gL _
 have a7:D (ChO d m K b b.tn [(M I 0 0,[])] (Z ⟨G (H d)+1,0,I⟩) 1):=
  ⟨⟨aa,j,⟨J,A5 ⟨G (H d)+1,1,_,J,Θ _,n,Θ _,ag,J,J⟩⟩,λ_ p=>by
   rw[C5.mp p];exact⟨Ω _ _ _ _,χ _,_,_,_,J⟩,ak,cz (af j),aa,λa8 O=>by cases O;simp only;omega⟩,VR K b.tn,l,o⟩
 change D _ at g;clear l n j o;have j:((d.alloc (η b.arr 250)).alloc (η #[M I 0 0,U .u64 0,U V 0] 339)).alloc (η #[M (Z ⟨G (H d)+1,0,I⟩) 1 1] 395)=m:=by rw[c,a,e]
 clear c a e f k;simp only[QV.arr]at j ⊢;go_enter func153,ntmps153;go_wp2_with fail;clear j;go_loopg [4] 100 (λa _ wr=>∃(j:Γ (A3×Γ A2)) (a9:F2 I5) (b0:A2),a<=100/\pF b.tn (j.map (·.2))<=a/\D (ChO d wr K b b.tn j a9 b0))
 ·exact⟨_,_,_,Θ _,by simp[pF];have:=aei F;omega,a7⟩
 obtain⟨j,a9,b0,e9,g0,f⟩:=hrel;obtain⟨b1,P⟩:∃b1,E j=b1+1:=by
  have:=G1.mpr f.src.fr.ne;rw[Φ]at this;exact⟨E j-1,aa⟩
 have b4:=XL f.qu P (f.src.hp.vU (by simp[P]));change D _ at P;clear a7;go_upto_region 3 with(go_at_call 215;refine b4.mono ?_;clear b4;rintro i B ⟨⟨_,a⟩,t,h7,h6,rfl,e7,X,e4,e1,e3,c8,c9⟩;obtain⟨l,k,e8⟩:=X.val;simp only at e8;subst e8;have c:D (IU d (B.alloc (η #[M l (E a) k,U .u64 ((setOf a:A2):Y),U V (aZ K a)] 339)) K b (M l (E a) k,a) (t.map (·.2)) (G (H B)) 0 t h7 h6):=IU.first f X e4 e1 c8 c9;have x:D (a=_):=e7;have p:D ((j.map (·.2)).Perm (a::t.map (·.2))):=e3;simp only[xC];clear e7 X e4 e1 e3 c8 c9)
 obtain⟨h8,e6⟩:=au (B.alloc (η #[M l (E a) k,U .u64 ((setOf a:A2):Y),U V (aZ K a)] 339));rw[<-e6]at c ⊢;obtain⟨⟨a2,a3,a4⟩, -⟩:=LQ c.bb;obtain⟨b7,b8,b9,c0,c1,c2,c3,c4⟩:=LU c.qb;have T:=af c.bb;have e0:=af c.qb;have q:TM b.tn a:=f.out.src.fr.ok a (p.mem_iff.mpr ak);have h5:=q.len;change D _ at q;obtain⟨b6,c6⟩:=au (G (H B));rw[<-c6]at c a2 a3 a4 T ⊢;clear e6 c6;by_cases s:E a=b.tn
 ·have g9:((E a:Y)==(b.tn:Y))=B7:=by rw[I1];omega
  have b3:D (ach d K b.tn (σ (M l (E a) k)) h8):=by
   refine⟨_,_,_,a,J,c.ord, ?_,c.be⟩;have:=ZB g.ok f.src (by rw[<-x.out];exact s);rw[<-x.out]at this;exact this
  have i2:D _:=s;clear s c f x p q g g0 e9
  go_wp2
  go_ret;exact b3
 have g9:((E a:Y)==(b.tn:Y))=B5:=xW;have g2:D (E a≠b.tn):=s;have h4:E a<=3:=aa;clear s h5;go_wp2_with fail;generalize h2:wr=wo at*;clear h2;go_loopw [25] (λa1 wr=>∃(e:A2) (l2:Γ (A3×Γ A2)) (a6:F2 I5) (a5:A2),a1=U V e/\e<=b.tn/\D (IU d wr K b (M l (E a) k,a) (t.map (·.2)) b6 e l2 a6 a5)) (λa1 _=>b.tn-(B6 a1).toNat)
 ·exact⟨0,_,_,_,J,χ _,c⟩
 clear c a2 a3 a4 b7 b8 b9 c0 c1 c2 c3 c4 T e0;obtain⟨e,l2,a6,a5,rfl,_,c⟩:=hrel;obtain⟨⟨a2,a3,a4⟩, -⟩:=LQ c.bb;obtain⟨b7,b8,b9,c0,c1,c2,c3,c4⟩:=LU c.qb;have T:=af c.bb;have e0:=af c.qb;by_cases i1:e<b.tn
 ·have h1:=EQ a λa0 S=>ω (q.lt a0 S) F;have o:=EP wr e h1 aa;rw[IE]at o
  cases r:a.contains e with
  |true=>
   rw[r]at o;have g3:D _:=c.out.skip (by exact r);clear g;go_wp2_with(go_at_call 216;refine bP o ?_);go_roundw
   ·exact⟨e+1,_,_,_,aP,aa,g3⟩
   simp[B6];omega
  |false=>
   rw[r]at o;have w:=Ps wr (G (H d)+1) K (M l (E a) k,a) c.ord e aa (λa0 S=>ω (q.lt a0 S) F) h4 b (g.ah c.be);have c7:=c.out.zq p (aa:pF b.tn (j.map (·.2))<=100) aa;have v:D (∀(C:A0) (n:A3),Bl wr C->jg C (G (H wr)) n (a++ [e])->A4 B0 217 #[.iface 393 (ζ (Z ⟨G (H d)+1+1,0,I⟩)),.iface 339 (xC K (n,a++ [e]))] C λi u=>i=σ (C4 #[])/\∃l3 z y,IU d u K b (M l (E a) k,a) (t.map (·.2)) b6 (e+1) l3 z y):=λC n h3 W=>by
    have R:=c.out.ah h3;have i3:=c.out.be.size;refine(Uz R.qu (R.lay.hp.vU ak) (n,a++ [e]) ⟨bY W.1 λa8 O=>cz ((W.1.lt a8 O).1),W.2⟩ c7).mono ?_;rintro i u ⟨rfl,l3,z,y,g4,_,g5,g6,g7⟩;exact⟨J,l3,z,y,R.next r g4 g5 g6 g7⟩
   simp only[xC,QV.arr]at w v;obtain⟨_,e5⟩:=au ((setOf (a++ [e]):A2):Y);obtain⟨_,c5⟩:=au (aZ K (a++ [e]));rw[<-e5,<-c5]at w v;clear e5 c5 r c7 g;go_wp2_with(first
    |(go_at_call 216;refine bP o ?_)
    |(go_at_call 149;refine w.mono ?_;clear w;rintro i h9 ⟨n,rfl,e2,g8⟩;have b5:=v.out h9 n g8 e2;clear e2 v)
    |(go_at_call 217;refine b5.mono ?_;clear b5;rintro i _ ⟨rfl,l3,z,y,g1⟩))
   go_roundw
   ·exact⟨e+1,_,_,_,aP,aa,g1⟩
   simp[B6];omega
 have h0:e=b.tn:=aa;subst h0;obtain⟨b2,b3⟩:=c.out.done f p g2;change D _ at b2;clear c f p g x
 go_wp2
 go_roundg (pF b.tn (l2.map (·.2)))
 case measure=>omega
 exact⟨l2,a6,a5,aa,Θ _,b2⟩
abbrev iP:=A2×A3×Γ A2
def ZF(r:iP):Γ A3:=[U V (r.1:Y),r.2.1]
def ji(l:Γ iP):Γ A3:=l.flatMap ZF
theorem EZ(b a):ji (b++ [a])=ji b++ [U V (a.1:Y),a.2.1]:=by simp[ji,ZF]
def mV(w:A0)(base:A2)(v:A3)(zs':Γ A2):Prop:=w.ownsRow base 3 1 v (E zs') (aA (zs zs'))/\∃ao n c,v=M ao n c
structure nN(w:World)(base:Nat)(v:Value)(rs:List iP):Prop where
 row:w.ownsRow base 165 2 v (List.length rs) (ji rs)
 parts:∀r∈rs,mV w base r.2.1 r.2.2
 apart:rs.Pairwise λa b=>∀g,a.2.1.ownBlock=some g->b.2.1.ownBlock≠some g
theorem Ed:(B0.info? 165).map (λa=>(a.zero,a.size,a.bytes))=Z (Z (C9 #[U V 0,M I 0 0]),2,32):=aF
theorem mV.ah{w x:A0}{base v}(c:mV w base v f)(i:∀(b:A2) (a:M2 A3),w.heap[b]? =Z (η a 3 (0,0))->x.heap[b]? =Z (η a 3 (0,0))):mV x base v f:=by
 refine⟨aD c.1 λb e=>?_,c.2⟩;rcases c.1.2 with⟨d,_⟩|⟨_,cap,a,d,_,g,_⟩
 ·subst d;cases e
 subst d;cases e;rw[g];exact i _ _ g
theorem nN.ah{w x base v rs}(a:nN w base v rs)(c:Bl w x):nN x base v rs:=
 ⟨aD a.row λb e=>c.block b (a.row.lt b e).2,λg f=>(a.parts g f).ah λb _ d=>(c.block b (af d)).trans d,a.apart⟩
theorem nN.val{base v b}(f:nN d base v b):∃e c,v=M e (E b) c:=by
 rcases f.row.2 with⟨a,g⟩|⟨_,cap,_,a,_⟩
 ·exact⟨I,0,by rw[g];exact a⟩
 exact⟨_,_,a⟩
theorem nN.Fv{base}{v:A3}{g}(c:nN d base v g)(p:base<=G (H d))(k:Bl d O)(l:mV O (G (H d)) s f)(r:k6.ownsRow base 165 2 N (E g+1) (ji g++ [U V (e:Y),s]))(q:(O.alloc g0).grownBy k6 v.ownBlock):nN k6 base N (g++ [(e,s,f)]):=by
 have m:∀(a:A2) (i:M2 A3),O.heap[a]? =Z (η i 3 (0,0))->k6.heap[a]? =Z (η i 3 (0,0)):=λa i j=>by
  have t:=af j;refine(q.block a aN λn=>?_).trans ((Ψ _ _ _ t).trans j);have u:=(c.ah k).row;rcases u.2 with⟨b,_⟩|⟨_,cap,_,b,_,o,_⟩
  ·subst b;cases n
  subst b;cases n;rw[j]at o;cases o
 refine⟨by rw[ξ,EZ];exact r,λo b=>?_, ?_⟩
 ·rcases D3.mp b with b|b
  ·exact((c.ah k).parts o b).ah m
  rw[C5.mp b];have:=l.ah m;exact⟨bY this.1 λa n=>E2 p (this.1.lt a n).1,this.2⟩
 rw[List.pairwise_append];refine⟨c.apart,List.pairwise_singleton _ _,λt w _ x a u n=>?_⟩;rw[C5.mp x]at n;have y:=((c.parts t w).1.lt a u).2;have l2:=(l.1.lt a n).1;omega
theorem wF(e d):∀(c:Γ A2) (b:A2),iA e b (c++ [d])=iA e b c++ [(d,uT e d (c.foldl bu b))]
 | [],b=>rfl
 |a::c,b=>by
  simp only[List.cons_append,iA,wF e d c,J2]
def iL(rs:Γ iP):Γ (A2×Γ A2):=rs.map λr=>(r.1,r.2.2)
def WN(w:A0)(q:PQ)(n:A2)(e:I2)(w':A0):Prop:=∃ao an ac rs o,e=σ (M ao an ac)/\nN w' (G (H w)) (M ao an ac) rs/\iL rs=iA q.parts 0 o/\tL q n o/\G4 (G (H w)) w w'
structure StR(w wr:World)(q:PQ)(v:QV)(o:List Nat)(ov:Value)(i:Nat)(v3:Value)(rs:List iP):Prop where
 st:nN wr (Array.size (World.heap w)) v3 rs
 of:iL rs=iA q.parts 0 (o.take i)
 qb:wr.heap[Array.size (World.heap w)]? =some (.cells v.arr 250 (0,0))
 ord:jg wr 0 ov o
 be:Below (Array.size (World.heap w)) w wr
theorem VT{v:QV}(a:Sn d v K):
  A4 B0 89 #[C9 v.arr] d λg c2=>WN d K v.tn g c2:=by
 obtain⟨c3,c4,c5,c6,c7⟩:=D8 Ed;have c8:=a.len;have b:=ai d (η v.arr 250);have x:=Ju (a.ah b);have q:=κ d (η v.arr 250);obtain⟨_,c⟩:=au (d.alloc (η v.arr 250));rw[<-c]at x q b;have F:D (Sn d v K):=a;obtain⟨e,f,i,j,k,l,a7,m⟩:=LU q;have c9:=af q;change D _ at q;clear a;simp only[QV.arr]at c x ⊢;go_enter func89,ntmps89;go_upto_region 3 with fail
 rw[<-c];clear c;go_wp2_with(go_at_call 153;refine x.mono ?_;clear x;rintro g e2 ⟨P,_,O,a,rfl,n,a8,N⟩;obtain⟨_,_,e0⟩:=n.val;cases e0;have L:D (StR d e2 K v a (M P (E a) O) 0 (M I 0 0) []):=⟨⟨Ω _ _ _ _,λ_ e1=>(by cases e1),List.Pairwise.nil⟩,J,(N.block _ c9).trans q,⟨bY n.1 λ_ _=>χ _,n.2⟩,bT b N⟩;have r:D _:=a8;clear n a8 N);have e6:E a<=4:=cz r.out.1.2;have y:D (∀s∈a,s<4):=λs R=>ω (r.1.1.lt s R) c8;clear e f i j k l a7 m b;go_loopw [3,4,10] (λf i c wr=>∃(b:A2) (e:Γ iP),b<=E a/\c=U V b/\i=U .u64 ((D0 (a.take b):A2):Y)/\D (StR d wr K v a (M P (E a) O) b f e)) (λ_ _ c _=>E a-(B6 c).toNat)
 ·exact⟨0,[],χ _,J,J,L⟩
 obtain⟨b,e,_,rfl,rfl,c⟩:=hrel;obtain⟨l,o,rfl⟩:=c.out.st.val;have e3:E e<=4:=by
  have:=M0 E c.of;have i:∀(a:Γ A2) (f:A2),E (iA K.parts f a)=E a:=λa=>by
   induction a with
   |nil=>exact λ_=>rfl
   |cons j k ih=>intro f;simp[iA,ih]
  rw[i,C3,iL,Φ]at this;omega
 by_cases S:b<E a
 ·obtain⟨m,p,rfl,a9,_⟩:∃m p,P=Z (Q m p I)/\m<G (H wr)/\β wr ⟨m,p+b,I⟩=Z (U V (a[b]:Y)):=by
   obtain⟨l,cap,g,_,f⟩:=c.out.ord.ints;rw[dW]at g
   cases g;rcases f with i|⟨m,p,g,a9,j⟩
   ·have:=M0 E i;rw[dW,E0]at this;omega
   exact⟨m,p,g,a9,j b _ (Fs S)⟩
  obtain⟨-, -, -, -, -, -,a7, -⟩:=LU c.qb;have e7:=af c.qb;have b0:=EQ (a.take b) λs R=>y.out s (F7 R);have b1:=y.out a[b] (τ S);have T:∀z,A4 B0 155 #[U .u64 ((D0 (a.take b):A2):Y),U V (a[b]:Y)] z (RE (U .u64 ((bu (D0 (a.take b)) a[b]:A2):Y)) z):=λz=>rz z b0 b1;have W:=F.out.ah c.be;have B:=TW W.parts (λf X=>(W.zq f X).2) b1 b0;have a0:a.take (b+1)=a.take b++ [a[b]]:=ν S;have b2:D (D0 (a.take (b+1))=bu (D0 (a.take b)) a[b]):=by rw[D,a0,K2]
  have a1:D (∀(i j:A0) (a2:M4) (C t:A3),Bl wr i->mV i (G (H wr)) C (uT K.parts a[b] (D0 (a.take b)))->j.ownsRow (G (H d)) 165 2 t (E e+1) (ji e++ [U V (a[b]:Y),C])->(i.alloc a2).grownBy j (M l (E e) o).ownBlock->StR d j K v a (M (Z (Q m p I)) (E a) O) (b+1) t (e++ [(a[b],C,uT K.parts a[b] (D0 (a.take b)))])):=λi j a2 C t k X n u=>by
   have a3:=c.out.be.size;have c0:=k.size;have b6:∀f,f<G (H wr)->G (H d)<=f\/f<G (H d)->(M l (E e) o).ownBlock≠Z f->j.heap[f]? =wr.heap[f]? :=λf b7 _ b8=>((u.block f aN λg=>b8 g.symm).trans (Ψ _ _ _ aa)).trans (k.block f b7);have b3:∀(f:A2) (a4:M2 A3) (a5:TypeId) (b4:A2×A2),wr.heap[f]? =Z (η a4 a5 b4)->a5≠165->j.heap[f]? =wr.heap[f]? :=λf a4 a5 b4 w b9=>b6 f (af w) aa λg=>by
    rcases c.out.st.row.2 with⟨a6,_⟩|⟨_,cap,_,a6,_,b5,_⟩
    ·rw[a6]at g;cases g
    cases a6;cases g;rw[w]at b5;cases b5;exact b9 J
   refine⟨c.st.Fv a3 k X n u, ?_, ?_, ?_, ?_⟩
   ·rw[iL,J1,a0,wF];congr 1;exact c.of
   ·exact(b3 _ _ _ _ c.qb ag).trans c.qb
   ·exact c.ord.move λf a4 w=>(b3 _ _ _ _ w ag).trans w
   exact((c.be.trans (k.mono a3)).alloc aa a2).grown u aN λb5 a6=>(c.st.row.lt b5 a6).1
  have a3:=c.out.be.size;have a4:D (wr.ownsRow (G (H d)) 165 2 (M l (E e) o) (E e) (ji e)):=c.out.st.row;obtain⟨e4,a6⟩:=au (uT K.parts a[b] (D0 (a.take b)));rw[<-a6]at B a1;obtain⟨_,b3⟩:=au (D0 (a.take b));obtain⟨_,b4⟩:=au (bu (D0 (a.take b)) a[b]);rw[<-b4]at T b2;rw[<-b3]at T B ⊢;clear a6 b3 b4 a0 F W y r L;go_wp2_with(first
   |(go_at_call 154;refine B.mono ?_;clear B;rintro g i ⟨c1,c0,b9,rfl,b6,k⟩;have e8:=k.size;have w:D (mV i (G (H wr)) (M c1 c0 b9) e4):=⟨b6,_,_,_,J⟩;have a5:D (i.ownsRow (G (H d)) 165 2 (M l (E e) o) (E e) (ji e)):=aD a4 λf u=>k.block f (D4 a4 f u).2;clear b6)
   |(at_builtin;refine D9 _ J (.tmp 14) (.tmp 22) 87 J (G (H d)) 165 c3 (C9 #[U V 0,M I 0 0]) 2 32 underlying87 c4 c5 c6 c7 J ag (M l (E e) o) (E e) (ji e) J (a5.alloc _) (Q (G (H i)) 0 I) 1 1 [U V (a[b]:Y),M c1 c0 b9] J J (A7 (bS i)) (by intro _ b8;simp only[C2,C8,G3]at b8;rcases b8 with rfl|rfl<;>rfl) fD aa aN ?_;intro t j b7 b5 _;have e5:D _:=a1.out i j _ _ t k w b7 b5;clear b7 b5 a1 a5 w)
   |(go_at_call 155;refine bP (T _) ?_))
  go_roundw
  ·exact⟨b+1,_,aa,aP,by rw[b2.out],e5⟩
  simp[B6];omega
 have g:a.take b=a:=Ξ aa;have f:D (WN d K v.tn (σ (M l (E e) o)) wr):=⟨_,_,_,e,a,J,c.st,by rw[c.out.of,g],r,c.be⟩;clear L r F y c e3
 go_wp2
 go_ret;exact f
def kw(n:A2)(o:Γ Y):H9:=decide (E o=n)&&(F1 n).all λi=>o.any (· ==(i:Y))
theorem wu(e)(a:QV)(F:a.tn<=4)(b q)(x:aY e q b):
  A4 B0 85 #[C9 a.arr,q] e (RB (U V (fT (!kw a.tn b) 9)) e):=by
 have f:=ai e (η a.arr 250);obtain⟨r,g⟩:=au (e.alloc (η a.arr 250));have d:=κ e (η a.arr 250);rw[<-g]at d f;obtain⟨-, -, -, -, -,_, -, -⟩:=LU d;have K:=af d;have k:∀(l:Y),A4 B0 148 #[q,U V l] r (RE (ο (b.any (· ==l))) r):=λl=>uN l (x.ah f);obtain⟨_,_,rfl,_, -⟩:=x;change D _ at f;have m:D (kw a.tn b=(decide (E b=a.tn)&&(F1 a.tn).all λc=>b.any (· ==(c:Y)))):=J;obtain⟨s,i⟩:=au (fT (!kw a.tn b) 9);rw[<-i];have t:D (s=_):=i;clear d i;simp only[QV.arr]at g ⊢;by_cases n:E b=a.tn
 ·have o:D (kw a.tn b=(F1 a.tn).all λc=>b.any (· ==(c:Y))):=by rw[D,m.out,decide_eq_true n,H8]
  have u:((E b:Y)==(a.tn:Y))=B7:=by rw[I1];omega
  have y:((E b:Y) != (a.tn:Y))=B5:=by simp[bne,u]
  clear n m;go_enter L7,K9;go_upto_region 1 with fail
  rw[<-g];clear g;go_wp2_with fail;go_loopw [15] (λi wr=>∃(c:A2),c<=a.tn/\i=U V c/\wr=r/\D (∀d,d<c->b.any (· ==(d:Y))=B7)) (λi _=>a.tn-(B6 i).toNat)
  ·exact⟨0,χ _,J,J,λd v=>aa⟩
  obtain⟨c,_,rfl,z,j⟩:=hrel;subst z;by_cases B:c<a.tn
  ·have p:=k (c:Y)
   cases i:b.any (· ==(c:Y))with
   |true=>
    rw[i]at p;have w:D (∀d,d<c+1->b.any (· ==(d:Y))=B7):=λd v=>by
     by_cases C:d=c
     ·subst C;exact i
     exact j d aa
    clear i j k;go_wp2_with(go_at_call 148;refine bP p ?_);go_roundw
    ·exact⟨c+1,aa,aP,by trivial,w⟩
    simp[B6];omega
   |false=>
    rw[i]at p;have w:D (s=9):=by
     rw[D,t.out,o.out];have:((F1 a.tn).all λc=>b.any (· ==(c:Y)))=B5:=by
      rw[List.all_eq_false];exact⟨c,H4.mpr B,by rw[i];simp⟩
     rw[this];rfl
    clear i j k;go_wp2_with(go_at_call 148;refine bP p ?_);go_ret;exact⟨by rw[w.out];rfl,f⟩
  have w:D (s=0):=by
   rw[D,t.out,o.out];have:((F1 a.tn).all λc=>b.any (· ==(c:Y)))=B7:=by
    rw[I8];exact λd v=>j.out d (by have:=H4.mp v;omega)
   rw[this];rfl
  clear j k
  go_wp2
  go_ret;exact⟨by rw[w.out];rfl,f⟩
 have o:D (kw a.tn b=B5):=by rw[D,m.out,L9 n,Bool.false_and]
 have u:((E b:Y)==(a.tn:Y))=B5:=xW;have y:((E b:Y) != (a.tn:Y))=B7:=by simp[bne,u]
 clear n m;go_enter L7,K9;go_upto_region 1 with fail
 rw[<-g];clear g
 go_wp2
 go_ret;exact⟨by rw[t.out,o.out];rfl,f⟩
theorem wC:∀(c b:Γ Y),c.Nodup->(∀d∈c,d∈b)->E b=E c->b.Perm c
 | [],b,_,_,h=>by rw[A6.mp h]
 |a::t,b,hn,hs,hl=>by
  have g:=hs a ak;have e:=List.perm_cons_erase g;rw[List.nodup_cons]at hn;refine e.trans (List.Perm.cons a (wC t (b.erase a) hn.2 (λd f=>?_) ?_))
  ·have i:d≠a:=λj=>hn.1 (by rw[<-j];exact f);exact(List.mem_erase_of_ne i).mpr (hs d (by simp[f]))
  have:=e.length_eq;simp only[B1]at this hl;omega
theorem BZ(g:kw e e5=B7):∃k:List A2,e5=zs k/\Full e k:=by
 unfold kw at g;rw[υ,K1,List.all_eq_true]at g;obtain⟨l,n⟩:=g;have d:zs (List.range e)=(List.range e).map λ(a:Nat)=>(a:Y):=J;have i:e5.Perm (zs (List.range e)):=by
  refine wC _ e5 ?_ (λb c=>?_) (by rw[dW,List.length_range];exact l)
  ·rw[d];exact List.Pairwise.map _ (λj m (o:j≠m)=>λf=>o aa) List.nodup_range
  rw[d]at c;obtain⟨a,j,rfl⟩:=List.mem_map.mp c;have:=n a j;rw[List.any_eq_true]at this;obtain⟨_,m,f⟩:=this;rw[I1]at f;rw[<-f];exact m
 refine⟨e5.map G7, ?_,⟨?_,λ_ o=>?_⟩,by simpa using l⟩
 ·unfold zs;rw[List.map_map];have:∀b∈e5,((λ(a:Nat)=>(a:Y)) ∘ G7) b=b:=λb c=>by
   have:=i.mem_iff.mp c;rw[d]at this;obtain⟨a, -,rfl⟩:=List.mem_map.mp this;simp
  rw[List.map_congr_left this,List.map_id']
 ·have m:=i.map G7;have f:(zs (List.range e)).map G7=List.range e:=by
   rw[d,List.map_map];have:∀b∈List.range e,(G7 ∘ λ(a:Nat)=>(a:Y)) b=b:=λb _=>ak;rw[List.map_congr_left this,List.map_id']
  rw[f]at m;exact m.nodup_iff.mpr List.nodup_range
 obtain⟨b,c,rfl⟩:=List.mem_map.mp o;have:=i.mem_iff.mp c;rw[d]at this;obtain⟨a,j,rfl⟩:=List.mem_map.mp this;simpa using List.mem_range.mp j
theorem MJ(b:Full e f):kw e (zs f)=B7:=by
 have d:(zs (F1 e)).Perm (zs f):=by
  refine wC _ _ ?_ (λi g=>?_) (by rw[dW,dW,List.length_range];exact b.2.symm)
  ·exact List.Pairwise.map _ (λa c (j:a≠c)=>λ_=>j aa) b.1.Pw
  obtain⟨a,c,rfl⟩:=C6.mp (show i∈f.map λ(a:Nat)=>(a:Y)from g);exact C6.mpr ⟨a,H4.mpr (b.1.lt a c),J⟩
 unfold kw;rw[υ,K1,I8];refine⟨by rw[dW];exact b.2,λa c=>?_⟩;rw[List.any_eq_true];exact⟨(a:Y),d.mem_iff.mp (C6.mpr ⟨a,c,J⟩),ak⟩
theorem gy.Fv{x:A0}{base}{v:A3}{c}(j:O.ownsRow base 387 13 v (E m) a0)(k:jP O f (λa=>a<e) F a0 m)(t:e<=base)(p:Bl O x)(l:dF x f (λa=>a<e) c u)(o:d.ownsRow base 387 13 s (E m+1) (a0++(c++ [U .u64 ((bH F u:A2):Y),U V (oQ F u)])))(n:(x.alloc g0).grownBy d v.ownBlock):gy d base e f F s (m++ [u]):=by
 refine⟨_,by rw[ξ];exact o, ?_⟩;have g:∀ {c:Γ A3} {i:Ex},dF x f (λa=>a<e) c i->dF d f (λa=>a<e) c i:=λq=>q.bounded.move (λa b=>(n.block a aN λu=>cz ((j.lt a u.symm).1)).trans (Ψ _ _ _ b.2)) λ_ b=>b.1;exact(k.move λr=>g (r.ah p)).snoc (g l)
theorem Vq(c5:∀b2∈F,b2.2.1<4)(a5:∀g∈m,lT (E F) g=B7/\(g.head= [61]->2<=E g.ops))(j2:E m<=1000)(g6:e<=G (H d))(l:fE d (M z C j) F){base}(c4:dO d base e f (M a1 b4 T) m):
  A4 B0 147 #[M z C j,M a1 b4 T] d λg c7=>∃c6,g=σ c6/\gy c7 (G (H d)) e f F c6 m/\Bl d c7:=by
 obtain⟨g7,g8,g9,h0,h1⟩:=D8 XO;have h2:b4=E m:=by obtain⟨_,_,g⟩:=c4.val;cases g;rfl
 subst h2;obtain⟨_,k,n⟩:=c4;have c8:D (∀(a:A2) (b3:a<E m),∃b,a1=Z (Q b 0 I)/\b<G (H d)/\∃(sort c9 size:Y) (quiet:H9) (e0 e1:Y) (e2:Bs) (place:Y) (head:Bs) (e3 e4:F2 I5) (e5 e6:A2),kH d b a (U V sort) (U V c9) (U V size) (ο quiet) (U V e0) (U V e1) (ε (ae e2)) (U V place) (ε (ae head)) (ζ e3) (M e4 e5 e6)/\dF d f (λb=>b<e) [U V sort,U V c9,U V size,ο quiet,U V e0,U V e1,ε (ae e2),U V place,ε (ae head),ζ e3,M e4 e5 e6] m[a]):=λa b3=>by
  rcases k.2 with⟨g,_⟩|⟨b,cap,_,g,a6,a4,_,_,_,_⟩
  ·omega
  cases g;obtain⟨b2,o,N⟩:=n.get a b3;obtain⟨p,q,r,s,t,u,v,w,x,_,_,y,B,K,L,_,_,rfl, -⟩:=o.inv;refine⟨b,J,af a4,p,q,r,s,t,u,v,w,x,y,B,K,L, ?_,o⟩;have c:∀i,i<11->∀a7,([U V p,U V q,U V r,ο s,U V t,U V u,ε (ae v),U V w,ε (ae x),ζ y,M B K L]:Γ A3)[i]? =Z a7->β d ⟨b,a*11+i,I⟩=Z a7:=λi O a7 a8=>by
   rw[k.cellAt _ aa,N i O];exact a8
  exact⟨c 0 aa _ J,c 1 aa _ J,c 2 aa _ J,c 3 aa _ J,c 4 aa _ J,c 5 aa _ J,c 6 aa _ J,c 7 aa _ J,c 8 aa _ J,c 9 aa _ J,c 10 aa _ J⟩
 have a9:D (fE d (M z C j) F):=l;change D _ at a5;clear l k n;go_enter func147,ntmps147;go_wp2_with fail;go_loopw [5,10] (λi c wr=>∃(a:A2),a<=E m/\c=U V a/\D (gy wr (G (H d)) e f F i (m.take a))/\Bl d wr) (λ_ c _=>E m-(B6 c).toNat)
 ·exact⟨0,χ _,J,gy.nil _ _ _ _ _,B3 _ _⟩
 obtain⟨a,b3,rfl,R,S⟩:=hrel;obtain⟨W,X,rfl⟩:=R.out.val;have h3:=S.size;by_cases b0:a<E m
 ·obtain⟨b,rfl,a6,r,s,t,u,v,w,x,y,B,K,L,N,O,c,n⟩:=c8.out a b0;obtain⟨k,P⟩:=a5.out m[a] (τ b0);have e7:D (kH wr b a (U V r) (U V s) (U V t) (ο u) (U V v) (U V w) (ε (ae x)) (U V y) (ε (ae B)) (ζ K) (M L N O)):=by
   unfold kH at c ⊢;have b5:∀i,β wr (Q b i I)=β d (Q b i I):=λi=>S.cell (p:=(Q b i I)) a6;simp only[b5,D];exact c
  have b6:D (∀l,Bl d l->A4 B0 207 #[M z C j,C9 #[U V r,U V s,U V t,ο u,U V v,U V w,ε (ae x),U V y,ε (ae B),ζ K,M L N O]] l (RB (U .u64 ((bH F m[a]:A2):Y)) l)):=λl a0=>AO c5 _ m[a] (E9 _) k l f _ z C j (a9.ah a0) r s t u v w x y B K L N O (n.ah a0);have b7:D (∀l,Bl d l->A4 B0 208 #[M z C j,C9 #[U V r,U V s,U V t,ο u,U V v,U V w,ε (ae x),U V y,ε (ae B),ζ K,M L N O]] l (RB (U V (oQ F m[a])) l)):=λl a0=>Mv c5 k P (a9.ah a0) (n.ah a0);have b8:D (m.take (a+1)=m.take a++ [m[a]]):=ν b0;have h4:E (m.take a)<=1000:=aN;change D _ at n;obtain⟨b9,p⟩:=au (bH F m[a]);obtain⟨c0,q⟩:=au (oQ F m[a]);rw[<-p]at b6;rw[<-q]at b7;have h5:D (b9=_):=p;have h6:D (c0=_):=q;obtain⟨o,a2⟩:=au (m.take a);rw[<-a2]at b8 R h4 ⊢;have e8:D (Bl d wr):=S;clear c k P a9 a5 p q a2 S;go_upto_region 4 with fail
  refine YR T b0 ⟨J,J,J,J,J,J,J,J,J,J,J⟩ e7 ?_;intro _ _ k b1 c1
  try dsimp only
  obtain⟨⟨_,_,_,_,_,_,_,_,_,_,_⟩,e9⟩:=oO b1;have P:Bl d k:=e8.out.trans (c1.mono h3);have c:D (Bl d k):=P;have g0:D (gy k (G (H d)) e f F (M W (E o) X) o):=R.out.ah c1;have h7:=P.size;change D _ at b1;obtain⟨c2,q,g1⟩:=g0.out;have g2:∀(p:A0),Bl k p->∀i:M4,(p.alloc i).drew.ownsRow (G (H d)) 387 13 (M W (E o) X) (E o) c2:=λp a2 i=>H2 (B8 (aD q λb a6=>a2.block b (q.lt b a6).2) i);have g3:D (∀(p a3:A0) (i:M4) (c3:A3),Bl k p->a3.ownsRow (G (H d)) 387 13 c3 (E o+1) (c2++ [U V r,U V s,U V t,ο u,U V v,U V w,ε (ae x),U V y,ε (ae B),ζ K,M L N O,U .u64 (b9:Y),U V c0])->(p.alloc i).grownBy a3 (M W (E o) X).ownBlock->gy a3 (G (H d)) e f F c3 (m.take (a+1))/\Bl d a3):=λp a3 i c3 a2 h8 g4=>by
   have h9:=a2.size;have g5:=P.trans (a2.mono h7);refine⟨?_,(g5.alloc aa i).grown g4 aN λb5 a4=>(q.lt b5 a4).1⟩;rw[b8.out];refine gy.Fv (x:=p) (c:=[U V r,U V s,U V t,ο u,U V v,U V w,ε (ae x),U V y,ε (ae B),ζ K,M L N O]) q g1 g6 a2 (n.ah g5) ?_ g4;rw[<-h5.out,<-h6.out];exact h8
  clear e7 c1 e8 R g0 g1 q b8 n P;go_upto_region 5 with fail
  go_region_law (first
   |(refine L6 _ J (.tmp 14) (.tmp 23) 248 J (G (H d)) 387 g7 _ 13 136 underlying248 g8 g9 h0 h1 J ag (M W (E o) X) (E o) c2 jl (g2 _ P _) (Q (G (H q)) 0 I) 1 1 [U V r,U V s,U V t,ο u,U V v,U V w,ε (ae x),U V y,ε (ae B),ζ K,M L N O,U .u64 (b9:Y),U V c0] jl J (A7 (nO q)) (by intro a7 a8;simp only[C2,C8,G3]at a8;rcases a8 with rfl|rfl|rfl|rfl|rfl|rfl|rfl|rfl|rfl|rfl|rfl|rfl|rfl<;>rfl) ag fD aa aN (G (H q)+1) ak ?_;intro _ _ j1 e7 c1 i7 _)
   |(go_simp;go_at_call 207;refine(b6 _ ?_).mono ?_;(first|exact c.trans (P.mono c.size)|exact c|exact⟨c.os,c.tape,c.output,c.size,c.block⟩);rintro g q ⟨rfl,a4⟩;have n:Bl k q:=(qZ (by first|exact P|exact fH (w:=k) (n:=1)|exact B3 _ _) a4);have P:D (Bl k q):=n;obtain⟨⟨g0,g1,h9,i0,i1,i2,i3,i4,i5,i6,g5⟩,i8⟩:=oO ((n.block _ e9).trans b1);have i9:=n.size;clear a4 n)
   |(go_simp;go_at_call 208;refine(b7 _ ?_).mono ?_;(first|exact c.trans (P.mono c.size)|exact c|exact⟨c.os,c.tape,c.output,c.size,c.block⟩);rintro g q ⟨rfl,a4⟩;have n:Bl k q:=(qZ (by first|exact P|exact fH (w:=k) (n:=1)|exact B3 _ _) a4);have P:D (Bl k q):=n;obtain⟨⟨g0,g1,h9,i0,i1,i2,i3,i4,i5,i6,g5⟩,i8⟩:=oO ((n.block _ e9).trans b1);have i9:=n.size;clear a4 n))
  all_goals
   obtain⟨b5,b8⟩:=g3.out _ _ _ _ P e7 c1;change D _ at b5;have e8:D (Bl d j1):=b8;clear e7 c1 i7 b8 g3 b6 b7 g2
   go_wp2
   go_roundw
   ·exact⟨a+1,aa,aP,b5,e8⟩
   simp[B6];omega
 have c:D (gy wr (G (H d)) e f F (M W (E (m.take a)) X) m):=by
  have g:m.take a=m:=Ξ aa;have:=R.out;rw[g]at this ⊢;exact this
 clear R c8 a9 a5
 go_wp2
 go_ret;exact⟨_,J,c,S⟩
theorem zN:∀(d:Γ qB) (c fns:Γ Fn),(∀b∈c,0<=b.body.size/\b.body.size<=300)->iy c d=.ok fns->∀b∈fns,0<=b.body.size/\b.body.size<=300
 | [],c,fns,ha,a=>by rw[iy]at a;cases a;exact ha
 |f::d,c,fns,ha,a=>by
  rw[iy]at a
  cases g:nI c f.1 f.2.1 f.2.2 with
  |error k=>rw[g]at a;cases a
  |ok b=>
   rw[g]at a;refine zN d (c++ [b]) fns (λi j=>?_) a;rcases D3.mp j with e|e
   ·exact ha i e
   rw[C5.mp e];exact Gx ha g
theorem Lv{fns}(a:dY fns y c0=.ok u):bG c0=B7:=by
 unfold dY at a;split at a
 ·cases a
 next b=>
 cases c:bG c0 with
 |true=>rfl
 |false=>
  refine absurd ?_ b;rw[c]
  cases d:(!aW c0.name||(uH y c0.name==0))<;>decide
theorem Ce{fns}:∀(e:Γ aJ) (b c:Γ (aJ×Ex)),(∀d∈b,bG d.1=B7)->kD fns b e=.ok c->(∀d∈c,bG d.1=B7)/\E c=E b+E e
 | [],b,c,ha,a=>by rw[kD]at a;cases a;exact⟨ha,J⟩
 |t::e,b,c,ha,a=>by
  rw[kD]at a
  cases f:dY fns b t with
  |error k=>rw[f]at a;cases a
  |ok i=>
   rw[f]at a;have:=Ce e (b++ [(t,i)]) c (λd j=>by
    rcases D3.mp j with g|g
    ·exact ha d g
    rw[C5.mp g];exact Lv f) a
   refine⟨this.1, ?_⟩;have g:=this.2;simp only[ξ,B1,E0]at g ⊢;omega
theorem uw{b}(a:eG e3 e6=.ok b):(∀c∈b.1,0<=c.body.size/\c.body.size<=300)/\(∀d∈b.2,bG d.1=B7)/\E b.2<=4:=by
 unfold eG at a;split at a
 ·cases a
 next k=>
 split at a
 ·cases a
 next fns g=>
 have i:=zN e3 [] fns (λc a=>by simp at a) g;unfold Si at a;split at a
 ·cases a
 next e j=>
 cases a;have:=Ce e6 [] e (λd a=>by simp at a) j;refine⟨i,this.1, ?_⟩;have f:=this.2;simp only[E0]at f;show E e<=4;omega
theorem vT{k user}:∀(c f:Γ (Bs×Bs)) (d:Γ (aJ×Ex)),dh k user f c=.ok d->E d=E c/\(∀i∈d,i∈k)/\∀g∈c,aW g.2=B7
 | [],f,d,a=>by rw[dh]at a;cases a;exact⟨J,λi a=>by simp at a,λg a=>by simp at a⟩
 |g::c,f,d,a=>by
  rw[dh]at a;split at a
  ·cases a
  split at a
  ·cases a
  next i p=>
  split at a
  ·cases a
  next j=>
  split at a
  ·cases a
  split at a
  ·cases a
  next r o=>
  cases a;obtain⟨l,m,n⟩:=vT c _ r o;refine⟨by simp[l],λe b=>?_,λe b=>?_⟩
  ·rcases C2.mp b with rfl|b
   ·exact F8 p
   exact m e b
  rcases C2.mp b with rfl|b
  ·cases q:aW e.2 with
   |true=>rfl
   |false=>rw[q]at j;simp at j
  exact n e b
theorem kY(b:bG c0=B7):(E c0.aB<=4/\1<=E c0.aB)/\(∀a∈c0.aB,aW a.1=B7/\1<=a.2.2/\a.2.2<=1000000)/\0<=c0.count/\c0.count<=1000000:=by
 have c:=qK b;have d:∀a∈c0.aB,mG a=B7:=by
  unfold bZ at c;rw[υ]at c;exact jZ c0.aB [] c.2
 unfold bZ at c;unfold bG at b;simp only[υ,G6,F9,F6,F0]at b c;refine⟨⟨aa,aa⟩,λa e=>?_,b.1.1.2,b.1.2⟩;have:=d a e;unfold mG at this;simp only[υ,F0]at this;exact⟨this.1.1.1,this.1.2,this.2⟩
theorem rE{fns}(f:∀c∈fns,0<=c.body.size/\c.body.size<=300)(a:fw (a4,[]) fns X=.ok m):(∀b∈m,lT (E a4) b=B7/\(b.head= [61]->2<=E b.ops))/\E m<=300:=by
 unfold fw at a;split at a
 ·cases a;exact⟨λb a=>by simp at a,ak⟩
 split at a
 ·cases a
 next e i=>
 split at a
 ·cases a
 cases a;obtain⟨d,l⟩:=Iu (λc g=>(f c g).1) i;refine⟨IJ e d.col d.eq, ?_⟩;have j:=ES e;have k:=d.Pw;omega
theorem DU{its}(i:E y<=4)(c:∀b∈y,bG b.1=B7):∀a∈aK 0 y its,a.2.1<4/\1<=a.2.2/\a.2.2<=9223372036854775807:=λa d=>by
 obtain⟨_,_,b,e,f,g,_⟩:=tZ y its 0 a d;have:=((kY (c b e)).2.1 f g).2;exact⟨aa,aa,aa⟩
theorem Tp{its fns conds outs}(m:E y<=4)(k:∀i∈y,bG i.1=B7)(f:∀a∈conds,lT (E (aK 0 y its)) a=B7/\(a.head= [61]->2<=E a.ops)):Am (nH.pq ⟨fns,y,aK 0 y its,conds,outs⟩)/\∀g∈(nH.pq ⟨fns,y,aK 0 y its,conds,outs⟩).parts,g.2.1<=9223372036854775807/\g.1<16:=by
 have j:=DU (its:=its) m k;refine⟨⟨λb l=>?_,λg c=>?_⟩,λg c=>?_⟩
 ·simp only[nH.pq,C6]at l;obtain⟨i,d,rfl⟩:=l;exact(kY (k i d)).2.2
 ·simp only[nH.pq,C6]at c;obtain⟨a,d,rfl⟩:=c;exact(SB (λb e=>(j b e).2) (f a d).1 (f a d).2).1
 simp only[nH.pq,C6]at c;obtain⟨a,d,rfl⟩:=c;exact⟨(SB (λb e=>(j b e).2) (f a d).1 (f a d).2).2,qx (λb e=>(j b e).1) a⟩
structure rV(w:World)(fo:Option Addr)(fc:Nat)(oo:Option Addr)(oc:Nat)(ro:Option Addr)(rc:Nat)(q:qD):Prop where
 BK:iM w (.slice fo (List.length q.from_) fc) q.from_
 aeP:List.length q.from_<=fc
 outs:gD w (.slice oo (List.length q.outs) oc) q.outs
 keys:mr w (.slice ro (List.length q.order) rc) q.order
 aeh:List.length q.aL<=maxLen
 LA:∀it∈q.from_,List.length it.2<=maxLen
 adq:∀o∈q.outs,List.length o<=maxLen
theorem rV.ah{w x}(a:rV w z e a1 j e0 C a9)(b:Bl w x):rV x z e a1 j e0 C a9:=
 ⟨a.BK.ah b,a.aeP,a.outs.ah b,a.keys.ah b,a.aeh,a.LA,a.adq⟩
def aev(w:A0)(o:G9 Y nH)(e:I2)(w':A0):Prop:=G4 (G (H w)) w w'/\
 ((∃n:Y,o=.error n/\n≠0/\e=σ (C4 #[C9 #[M I 0 0,ε ⟨#[]⟩,M I 0 0,M I 0 0,U V 0,M I 0 0,M I 0 0,M I 0 0],U V n]))\/
  (∃(r:nH) (v:QV),o=.ok r/\e=σ (C4 #[C9 v.arr,U V 0])/\v.tn=E r.bI/\E r.bI<=4/\Sn w' v r.pq))
theorem yY{c}(a:d.heap[e]? =Z (η #[s,N,W,a5,a6,a7,b1,b3] c (0,0))):
  (β d (Q e 0 I)=Z s/\β d (Q e 1 I)=Z N/\β d (Q e 2 I)=Z W/\β d (Q e 3 I)=Z a5/\β d (Q e 4 I)=Z a6/\β d (Q e 5 I)=Z a7/\β d (Q e 6 I)=Z b1/\β d (Q e 7 I)=Z b3)/\(∀b,B4 d (Q e b I)=B5)/\e<G (H d):=
 ⟨⟨aC a,aC a,aC a,aC a,aC a,aC a,aC a,aC a⟩,λb=>by simp[B4,a],af a⟩
theorem qV{b}(a:d.heap[e]? =Z (η #[s,N,W,a5,a6] b (0,0))):
  (β d (Q e 0 I)=Z s/\β d (Q e 1 I)=Z N/\β d (Q e 2 I)=Z W/\β d (Q e 3 I)=Z a5/\β d (Q e 4 I)=Z a6)/\e<G (H d):=
 ⟨⟨aC a,aC a,aC a,aC a,aC a⟩,af a⟩
theorem Mf{aS}(L:dA d f (M aS C j) y)(P:E y<=4){X T K:_}{F}(S:d.heap[e]? =Z (η #[M X T K,s,N,b1,W,a5,a6,a7] F (0,0)))(b3:G (H d)<=G (H O))(R:∀g,g≠e->O.heap[g]? =d.heap[g]?):xS O (M aS C j) (y.map (·.1.count)):=by
 obtain⟨a0,cap,c,_,a1⟩:=L;refine⟨a0,cap,by rw[Φ];exact c,by rw[Φ];exact P, ?_⟩;rcases a1 with rfl|⟨a,a2,_,n⟩
 ·exact A9 J
 by_cases o:y= []
 ·subst o;exact A9 J
 refine A5 ⟨a,a2,aa,λi _ b=>?_⟩;rw[D6]at b
 cases k:y[i]? with
 |none=>rw[k]at b;cases b
 |some l=>
  rw[k]at b
  cases b;obtain⟨_,a3,a4⟩:=n i l k;have a8:a≠e:=λa9=>by
   subst a9;obtain⟨m,p⟩:∃m,y[0]? =Z m:=⟨_,θ (G1.mpr o)⟩;obtain⟨_,q, -⟩:=n 0 m p;have c:=q.1;rw[L5,aI S]at c
   cases c
  have b0:∀m,β O (Q a m I)=β d (Q a m I):=λm=>by simp[β,R a a8]
  have b2:=a3.ah b0;show∃p s N W a5 a6 a7 q r t u v w x z B,nJ p s N (U V l.1.count) W a5 a6 a7 q r t u v w x z B/\yO O a i p s N (U V l.1.count) W a5 a6 a7 q r t u v w x z B;rw[<-a4.count];exact⟨_,_,_,_,_,_,_,_,_,_,_,_,_,_,_,_,by simp[nJ,H3],b2⟩
theorem Ob{base}(n:gy d base j f F s m)(g:E m<=1000)(a1:e<base)(r:G (H d)<=G (H O))(q:∀c,c≠e->O.heap[c]? =d.heap[c]?):qC O s (m.map λa=>(bH F a,oQ F a,a.quiet)):=by
 obtain⟨t,cap,o,u,i⟩:=n.afJ g;refine⟨t,cap,o,u, ?_⟩;rcases i with i|⟨b,a,v,w⟩
 ·exact A9 i
 by_cases p:m= []
 ·subst p;exact A9 J
 refine A5 ⟨b,a,ω v r,λz x y=>?_⟩;have B:b≠e:=by
  obtain⟨_,k, -⟩:=n;rcases k.2 with⟨-,C⟩|⟨c,_,_,l,_,_⟩
  ·exact absurd (A6.mp C) p
  rw[o,a,Φ]at l
  cases l;omega
 obtain⟨C,K,L,N,P,R,S,T,W,X,k,g⟩:=w z x y;refine⟨C,K,L,N,P,R,S,T,W,X,k, ?_⟩;unfold yN at g ⊢;have a0:∀l,β O (Q b l I)=β d (Q b l I):=λl=>by simp[β,q b B]
 simp only[a0];exact g
theorem JY(o:gN d s a4){t f n:_}{m}(q:d.heap[e]? =Z (η #[M t f n,N,W] m (0,0)))(r:G (H d)<=G (H O))(p:∀c,c≠e->O.heap[c]? =d.heap[c]?):gN O s a4:=by
 obtain⟨u,cap,b,v,g⟩:=o;refine⟨u,cap,b,v, ?_⟩;rcases g with g|⟨a,w,x,j⟩
 ·exact A9 g
 by_cases k:a4= []
 ·exact A9 k
 have y:a≠e:=λz=>by
  subst z;have b:=(j 0 _ (θ (G1.mpr k))).1;rw[L5,aI q]at b
  cases b
 have l:∀i,β O (Q a i I)=β d (Q a i I):=λi=>by simp[β,p a y]
 exact A5 ⟨a,w,ω x r,λC f B=>by rw[l,l];exact j C f B⟩
theorem OH(a:j≠e):(((d.setCell (Q e 0 I) s).setCell (Q e 1 I) N).setCell (Q e 2 I) W).heap[j]? =d.heap[j]? :=by
 rw[E3 _ _ _ _ a,E3 _ _ _ _ a,E3 _ _ _ _ a]
theorem Rt{a}(b:d.heap[e]? =Z (η #[a5,a6,a7] a (0,0))):(((d.setCell (Q e 0 I) s).setCell (Q e 1 I) N).setCell (Q e 2 I) W).heap[e]? =Z (η #[s,N,W] a (0,0)):=by
 simp[World.setCell,Array.getElem?_modify,b]
theorem Cn(a:j≠e):((((((((d.setCell (Q e 0 I) s).setCell (Q e 1 I) N).setCell (Q e 2 I) W).setCell (Q e 3 I) a5).setCell (Q e 4 I) a6).setCell (Q e 5 I) a7).setCell (Q e 6 I) b1).setCell (Q e 7 I) b3).heap[j]? =d.heap[j]? :=by
 iterate 8 rw[E3 _ _ _ _ a]
theorem Jt{c}(a:d.heap[e]? =Z (η #[s,N,W] c (0,0))):
  (β d (Q e 0 I)=Z s/\β d (Q e 1 I)=Z N/\β d (Q e 2 I)=Z W)/\(∀b,B4 d (Q e b I)=B5)/\e<G (H d):=
 ⟨⟨aC a,aC a,aC a⟩,λb=>by simp[B4,a],af a⟩
end Go.Proofs.YthkeffolmbnkaaaGreatDoor

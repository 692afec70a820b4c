/-
  PROVED: for all goods and every script that are together of bulk at most 1048576 the statement Plans (P8, P9: every Cost and every Plan of the script, of whatever base, user, query and order, answers as the document does: the cost, the steps of the plan that is best, the fault; a plan does so twice; what was lent is the caller's still, and what was answered is the caller's to write into) answers true, and what came in reads behind the call as it read before it. The conditions: the bound; five variables of Go's library (strconv's two errors, three tables) stand as the program's text lays them, tied to that text by the given tie; the tie speaks of the pruned copy of the project, without its tests.
-/
import Derived.Test.YthkeffolmbnkaaaGreatDoorQrUZ
import Derived.Test.YthkeffolmbnkaaaGreatDoorBsE
import Derived.Test.YthkeffolmbnkaaaGreatDoorLvgZ
import Derived.LaidMore
import Derived.Deep.DeepWitnessRowRef
set_option linter.unusedVariables false
set_option linter.unusedSimpArgs false
set_option maxRecDepth 100000
set_option maxHeartbeats 0
open Array renaming size->E
open Bool renaming true->Φ,false->L9,and_eq_true->N9
open Go renaming heap_alloc_new->θ,World->ο,Value->ω,Calls->Θ,Addr->M0,maxLen->M5,trodAll_cons_mk->O6,TypeId->O8
open Go.Addr renaming mk->γ
open Go.DataW renaming trod_string->ν,trod->ξ,trod_struct->υ,trod_int->φ,trod_lt->O0
open Go.Ending renaming returned->μ
open Go.IntKind renaming i64->ε
open Go.Obj renaming cells->η
open Go.Proofs.Tryz renaming prog->ζ,underlying9->ρ,underlying3->σ,f3->G5,func3->L4,ntmps13->M1,checked->M2,func13->M7,underlying27->N5,underlying26->N6,underlying4->N8,params3->O4
open Go.Proofs.YthkeffolmbnkaaaGreatDoor.Rows renaming uptoBulk->κ,plansUptoRow->L0
open Go.RowKit renaming Below->ι,Hid->L7,intOf->M9
open Go.RowKit.Below renaming refl->K5,trod->O5
open Go.Value renaming slice->J,int->Q,string->δ,agg->K0,pointer->K1,bool->L6,tuple->M8,cells->O3
open Go.World renaming heap->D,cell?->β,new_ne->Δ,ownsRow_nil->K6,doorLaid->L3,size_alloc->N4
open List renaming length->U,getElem?_eq_getElem->τ,eq_nil_of_length_eq_zero->Γ,not_mem_nil->L2,getElem?_eq_some_iff->L5,mem_cons->L8,getElem?_of_mem->M6,getElem?_map->N2,mem_flatMap->N7,mem_map->O2
open List.cons renaming injEq->χ
open Nat renaming le_refl->K3,le_of_lt->L1,zero_add->M4,lt_of_lt_of_le->N1
open Option renaming none->V,some->M
open Or renaming inl->Ψ,inr->K4
open _root_ renaming rfl->G,List->ψ,Option->Ξ,of_decide_eq_true->Ω,Nat->K2,and_true->M3,Array->N0,Int->N3,decide_eq_true_eq->O1,or_false->O7
namespace Go.Proofs.YthkeffolmbnkaaaGreatDoor
open Go.Proofs.Tryz
open Go.RowKit
open Go.ChangeShapes Go.WideShapes Go.ChangeAt Go.RowKit
open Go
variable{c:Except Int nH}{d f:Int}{a:qD}
theorem Cc{d k user}{c:nH}(b:lh d k user a=.ok c):U c.bI<=4/\U c.pq.parts<=300:=by
 unfold lh at b;split at b
 ·cases b
 next n i=>
 split at b
 ·cases b
 next f=>
 split at b
 ·cases b
 next o j=>
 split at b
 ·cases b
 next l g=>
 split at b
 ·cases b
 cases b;have m:=(vT _ _ _ j).1;have e:=(rE (uw (JC i).1).1 g).2;refine⟨?_,by simpa[nH.pq]using e⟩;simp only[Bool.not_eq_false,iQ,N9,O1]at f;dsimp only;omega
def mW(o:Except N3 nH)(n:N3)(rs:ψ iP):Prop:=(o=.error n/\rs= [])\/∃(r:nH) (od:ψ K2),o=.ok r/\n=0/\iL rs=iA r.pq.parts 0 od/\tL r.pq (U r.bI) od
theorem mW.one{g i}(j:mW c d g)(b:mW c f i):d=f/\iL g=iL i:=by
 rcases j with⟨e,rfl⟩|⟨k,l,e,rfl,m,n⟩
 ·rcases b with⟨a,rfl⟩|⟨k,l,a,_⟩
  ·rw[e]at a;cases a;exact⟨G,G⟩
  rw[e]at a;cases a
 rcases b with⟨a,rfl⟩|⟨_,_,a,rfl,o,p⟩
 ·rw[e]at a;cases a
 rw[e]at a;cases a;exact⟨G,RJ m o n p⟩
theorem mW.small{f i user c}(g:mW (lh f i user a) d c):U c<=4/\∀b∈c,U b.2.2<=1000:=by
 rcases g with⟨_,rfl⟩|⟨b,_,e,_,j,k⟩
 ·exact⟨ak,ak⟩
 obtain⟨l,m⟩:=OU j k (Cc e).1 (Cc e).2;exact⟨l,λb n=>cz (m b n)⟩
theorem Tj{w:ο}{a b d size e v f}(c:w.ownsRow a e size v d f)(g:b<=a):w.ownsRow b e size v d f:=⟨c.1,c.2.imp id λ⟨i,cap,j,e,k,l⟩=>⟨i,cap,j,e,Nat.le_trans g k,l⟩⟩
theorem OT(w B):nN w B (J V 0 0) []:=⟨K6 _ _ _ _,ak,List.Pairwise.nil⟩
theorem IY.ans{w w' e}(o:IY w c e w'):∃(f:N3) (d:Ξ M0) (b a:K2) (g:ψ iP),e=μ (M8 #[J d b a,Q ε f])/\nN w' (E (D w)) (J d b a) g/\mW c f g/\Bl w w':=by
 obtain⟨l,⟨f,k,_,rfl⟩|⟨i,d,b,a,g,p,B,k,rfl,m,j,q,r⟩⟩:=o
 ·exact⟨f,V,0,0,[],G,OT _ _,Ψ ⟨k,G⟩,l⟩
 refine⟨0,d,b,a,g,G,⟨Tj j.row m,λi n=>⟨Tj (j.parts i n).1 m,(j.parts i n).2⟩,j.apart⟩,K4 ⟨i,p,k,G,q,r⟩,l⟩
theorem Dp.ans{w w' i j user e}(n:Dp w (lh i j user a) e w'):∃(g:N3) (f:Ξ M0) (d c:K2) (b:ψ iP),e=μ (M8 #[J f d c,Q ε g])/\rH w' (J f d c) (KM (iL b))/\mW (lh i j user a) g b/\Bl w w':=by
 obtain⟨m,⟨g,k,_,rfl⟩|⟨o,f,d,c,b,p,B,k,rfl,_,q,r,s⟩⟩:=n
 ·exact⟨g,V,0,0,[],G,(OT w' 0).ZG ak ak,Ψ ⟨k,G⟩,m⟩
 have l:mW (lh i j user a) 0 b:=K4 ⟨o,p,k,G,r,s⟩;exact⟨0,f,d,c,b,G,q.ZG (by have:=l.small.1;omega) l.small.2,l,m⟩
structure SQ(wS bb qb ib jb:Nat)(oc bc qc ic jc:Array Value)(v:World):Prop where
 op:v.heap[wS]? =some (.cells oc 44 (0,0))
 b:v.heap[bb]? =some (.cells bc 67 (0,0))
 q:v.heap[qb]? =some (.cells qc 63 (0,0))
 i:v.heap[ib]? =some (.cells ic 67 (0,0))
 j:v.heap[jb]? =some (.cells jc 63 (0,0))
section
variable {w0 w v v' x w' : World} {wS bb qb ib jb mb wb : Nat} {oc bc qc ic jc : Array Value} {C R X K B F I Y Z : List Ln} {g0 g1 g2 sv : Value} {es ss : List TE} {e : Ending}
theorem SQ.ah(a:SQ wS bb qb ib jb oc bc qc ic jc v)(c:Bl v v'):SQ wS bb qb ib jb oc bc qc ic jc v':=⟨fZ c a.op,fZ c a.b,fZ c a.q,fZ c a.i,fZ c a.j⟩
structure KW(w0 w:World)(wS bb qb ib jb mb:Nat)(oc bc qc ic jc:Array Value)(C R X K B F I Y Z:List Ln)(v:World):Prop where
 low:Below (Array.size (World.heap w)) w v
 bf:SQ wS bb qb ib jb oc bc qc ic jc v
 lo:eY w0 v mb C R X K B F I Y Z
theorem KW.ah(a:KW w0 w wS bb qb ib jb mb oc bc qc ic jc C R X K B F I Y Z v)(b:Bl v v'):KW w0 w wS bb qb ib jb mb oc bc qc ic jc C R X K B F I Y Z v':=⟨a.low.trans (b.mono a.low.size),a.bf.ah b,a.lo.ah b⟩
def Bu(w:ο)(wb:K2)(g0 g1 g2:ω)(es ss:ψ TE)(e:Ending)(w':ο):Prop:=e=μ (L6 Φ)/\ι wb w w'/\dX w w' [85,89,40]/\∃(sv':ω) (es' ss':ψ TE),U es'<=U es+8/\U ss'<=U ss+2/\rF w' wb g0 g1 g2 sv' es'/\qA w' wb sv' ss'
theorem EX(b:rF w wb g0 g1 g2 sv es)(d:qA w wb sv ss)(c:e=μ (L6 Φ))(a:Bl w w'):Bu w wb g0 g1 g2 es ss e w':=by
 obtain⟨_,_,_,f,_⟩:=b.row;exact⟨c,a.mono (L1 (af f)),λi _ _ _ g _=>a.block i (aH g),sv,es,ss,aa,aa,b.ah a,d.ah a⟩
theorem rF.mv(d:rF v wb g0 g1 g2 sv es)(k:x.heap[wb]? =v.heap[wb]?)(j:∀(a:K2) (b:N0 ω) (c:K2×K2),v.heap[a]? =M (η b 85 c)->x.heap[a]? =v.heap[a]?)(i:∀(a:K2) (b:N0 ω) (c:K2×K2),v.heap[a]? =M (η b 3 c)->x.heap[a]? =v.heap[a]?):rF x wb g0 g1 g2 sv es:=by
 obtain⟨aS,l,m,n,o⟩:=d.row;exact⟨⟨aS,l,m,k.trans n,gm o j⟩,λg e f=>(d.each g e f).move λ_ r p q=>by
  obtain⟨_,_,b,s⟩:=(d.each g e f).lt r q;exact i p b _ s⟩
theorem qA.mv(d:qA v wb sv ss)(j:∀(a:K2) (b:N0 ω) (c:K2×K2),v.heap[a]? =M (η b 89 c)->x.heap[a]? =v.heap[a]?)(i:∀(a:K2) (b:N0 ω) (c:K2×K2),v.heap[a]? =M (η b 165 c)->x.heap[a]? =v.heap[a]?):qA x wb sv ss:=
 ⟨gm d.own j,λg e f=>(d.each g e f).move λ_ m k l=>by
  obtain⟨_,_,b,n⟩:=(d.each g e f).lt m l;exact i k b _ n⟩
theorem xh{B g size e}{f:ω}{i}(d:v.ownsRow B e size f g i){a}(b:f.ownBlock=M a):B<=a/\a<E (D v)/\∃c,v.heap[a]? =M (η c e (0,0)):=by
 refine⟨(World.ownsRow.lt d a b).1,(World.ownsRow.lt d a b).2, ?_⟩;rcases d.2 with⟨rfl,_⟩|⟨_,cap,c,rfl,_,j,_⟩
 ·cases b
 cases b;exact⟨c,j⟩
theorem nN.mv{B n m}(a:nN v B n m)(l:∀(c:K2) (b:N0 ω) (d:O8),v.heap[c]? =M (η b d (0,0))->d=3\/d=165->B<=c->x.heap[c]? =v.heap[c]?):nN x B n m:=by
 refine⟨aD a.row λe f=>?_,λi g=>⟨aD (a.parts i g).1 λe f=>?_,(a.parts i g).2⟩,a.apart⟩
 ·obtain⟨j,_,b,k⟩:=xh a.row f;exact l e b _ k (K4 G) j
 obtain⟨j,_,b,k⟩:=xh (a.parts i g).1 f;exact l e b _ k (Ψ G) j
theorem rF.below(c:rF v wb g0 g1 g2 sv es):∀e∈es,∀b∈Ak e,∀a,b.ownBlock=M a->a<E (D v):=λe d b g a f=>by
 obtain⟨i,j⟩:=M6 d;exact((c.each i e j).lt g f).2.1
theorem qA.below(c:qA v wb sv ss):∀e∈ss,∀b∈Ak e,∀a,b.ownBlock=M a->a<E (D v):=λe d b g a f=>by
 obtain⟨i,j⟩:=M6 d;exact((c.each i e j).lt g f).2.1
end
theorem Cb{w0 w wb a9 c8 a5 k6 a4 c0 b9 i7 g2 sv es ss}(m0:ι (E (D w0)) w0 w)(u6:rF w wb (J (M (γ a9 c8 V)) a5 k6) (J (M (γ a4 c0 V)) b9 i7) g2 sv es)(X':qA w wb sv ss)(H7:U es<=11000000)(I9:U ss<=2900000)(N':0<a5)(D1:a5<=1048576)(E':a9<E (D w0))(q':mf w0 a9 c8 a5)(O':0<b9)(D0:b9<=1048576)(F':a4<E (D w0))(x':iO w0 a4 c0 b9)(h0){x n}(E5: -9223372036854775808<=x)(E4:x<=9223372036854775807)(E3: -9223372036854775808<=n)(E2:n<=9223372036854775807)(a2 h3 b2 h1 b1)(K':(h0=6/\∃a6:ψ N3,h1=U a6/\aY w0 (J b2 (U a6) b1) a6/\iK IZ w0 1 ⟨b2,U a6,b1,aA a6⟩)\/(h0=7/\E (D w0)<=wb)):
  Θ ζ 13 #[K1 (M (γ wb 0 V)),K0 #[Q ε h0,Q ε x,Q ε n,δ (ae a2),δ (ae h3),J b2 h1 b1]] w λe w'=>Bu w wb (J (M (γ a9 c8 V)) a5 k6) (J (M (γ a4 c0 V)) b9 i7) g2 es ss e w':=by
 have l9:=NS x N';obtain⟨h9,v1⟩:=au (zK x a5);have y3:∀d:ο,Θ ζ 23 #[Q ε x,Q ε (a5:N3)] d (RE (Q ε (h9:N3)) d):=by
  intro d;rw[v1];exact NT d E5 E4 N' D1
 rw[<-v1]at l9;obtain⟨k,j,g,aS,m,l,m',A1,T',U',p'⟩:=q' h9 l9;have I':=NS n O';obtain⟨g9,v2⟩:=au (zK n b9);have y4:∀d:ο,Θ ζ 23 #[Q ε n,Q ε (b9:N3)] d (RE (Q ε (g9:N3)) d):=by
  intro d;rw[v2];exact NT d E3 E2 O' D0
 rw[<-v2]at I';obtain⟨p,qc,q,r,s,t,a,⟨m1,e8,e9,g3,m2⟩,v'⟩:=x' g9 I';clear v1 q' v2 x';obtain⟨J1,J2,J3,o0,_⟩:=u6.row;have p0:=af o0;have y':β w (γ wb 0 V)=M (J (M (γ a9 c8 V)) a5 k6):=aC o0;have u1:β w (γ wb 1 V)=M (J (M (γ a4 c0 V)) b9 i7):=aC o0;have E9:=m0.size;have o2:a9<E (D w):=aa;have C3:a4<E (D w):=aa;have e1:∀ {g8:K2} {v:ω},β w0 (γ a9 g8 V)=M v->β w (γ a9 g8 V)=M v:=λf=>cK m0 E' f;have j8:∀ {g8:K2} {v:ω},β w0 (γ a4 g8 V)=M v->β w (γ a4 g8 V)=M v:=λf=>cK m0 F' f;obtain⟨d,k7⟩:=au (w.alloc (η #[Q ε h0,Q ε x,Q ε n,δ (ae a2),δ (ae h3),J b2 h1 b1] 44));have x8:L7 (w.alloc (η #[Q ε h0,Q ε x,Q ε n,δ (ae a2),δ (ae h3),J b2 h1 b1] 44)=d):=k7.symm;have i8:ι (E (D w)) w d:=by rw[k7];exact ai w _
 have o4:d.heap[E (D w)]? =M (η #[Q ε h0,Q ε x,Q ε n,δ (ae a2),δ (ae h3),J b2 h1 b1] 44 (0,0)):=by rw[k7];exact θ w _
 have D2:E (D d)=E (D w)+1:=by rw[k7];simp[N4]
 clear k7;have S':=aH o4;have A7:β d (γ (E (D w)) 1 V)=M (Q ε x):=aC o4;have g0:β d (γ wb 0 V)=M (J (M (γ a9 c8 V)) a5 k6):=cK i8 p0 y';have g1:β d (γ wb 1 V)=M (J (M (γ a4 c0 V)) b9 i7):=cK i8 p0 u1;have i0:β d ⟨a9,c8+h9*2,V⟩=M (J k j g):=cK i8 o2 (e1 T');have m4:β d ⟨a9,c8+h9*2+1,V⟩=M (J aS m l):=cK i8 o2 (e1 U');have w6:wb<E (D d):=aa;have u8:a9<E (D d):=aa;have c4:L7 _:=p';have g5:L7 _:=v';have n0:L7 _:=u6;have n1:L7 _:=X';have q3:L7 _:=K';have q5:L7 _:=m0;have y5:L7 _:=And.intro (j8 m1) (And.intro (j8 e8) (And.intro (j8 e9) (And.intro (j8 g3) (j8 m2))));have D8:((a5:N3)==0)=L9:=aN;have D7:¬(a5:N3)=0:=aa;have D6:((b9:N3)==0)=L9:=aN;have D5:¬(b9:N3)=0:=aa;clear T' U' m1 e8 e9 g3 m2 p' v' o0 u6 X' K' m0 E' F' e1 j8;go_enter M7,M1;go_upto_region 3 with fail
 rw[x8.out];clear x8 g1 D8 D7 D6 D5;go_cut [5] (λF0 i4=>∃bb,F0=K1 (M (γ bb 0 V))/\ι (E (D d)) d i4/\E (D d)<=bb/\i4.heap[bb]? =M (η #[J k j g,J aS m l] 67 (0,0)))
 ·as_aux_lemma=>
  have v5:=Δ d (γ wb 0 V) g0;have v6:=Δ d (γ (E (D w)) 1 V) A7;have v7:=Δ d ⟨a9,c8+h9*2,V⟩ i0;dsimp only at v5 v6 v7;go_region_held2 (λv=>β v (γ wb 0 V)=M (J (M (γ a9 c8 V)) a5 k6)/\β v (γ (E (D w)) 1 V)=M (Q ε x)/\β v ⟨a9,c8+h9*2,V⟩=M (J k j g)/\β v ⟨a9,c8+h9*2+1,V⟩=M (J aS m l)) (go_keep) (first|(go_at_call 23;refine(y3 _).mono ?_;rintro e b4 ⟨rfl,rfl⟩));all_goals(go_wp2;go_meet)
  all_goals exact⟨E (D d),by rw[D2],by first|exact(ai d _).drew|exact ai d _,K3 _,θ d _⟩
 obtain⟨bb,rfl,n4,H8,u5⟩:=hcut;generalize E8:wc=w1 at*;clear E8 A7 g0 i0 m4 w6 u8 y3 y';have m8:ι (E (D w)) w w1:=bT i8 n4;have H4:=n4.size;have o5:=(n4.block _ S').trans o4;obtain⟨m1,e8,e9,g3,m2⟩:=y5.out;have A6:β w1 (γ (E (D w)) 2 V)=M (Q ε n):=aC o5;have g1:β w1 (γ wb 1 V)=M (J (M (γ a4 c0 V)) b9 i7):=cK m8 p0 u1;have e1:∀ {g8:K2} {v:ω},β w (γ a4 g8 V)=M v->β w1 (γ a4 g8 V)=M v:=λf=>cK m8 C3 f;have i0:=e1 m1;have m4:=e1 e8;have w9:=e1 e9;have x0:=e1 g3;have x1:=e1 m2;have w6:wb<E (D w1):=aa;have u8:a4<E (D w1):=aa;clear m1 e8 e9 g3 m2 e1 y5 o4 S' i8 u1;go_upto_region 4 with fail
 go_cut [6] (λG9 i4=>∃qb,G9=K1 (M (γ qb 0 V))/\ι (E (D w1)) w1 i4/\E (D w1)<=qb/\i4.heap[qb]? =M (η #[J p (U a.from_) qc,δ (ae a.aL),J q (U a.outs) r,J s (U a.order) t,Q ε a.bi] 63 (0,0)))
 ·as_aux_lemma=>
  have v5:=Δ w1 (γ wb 1 V) g1;have v6:=Δ w1 (γ (E (D w)) 2 V) A6;have v7:=Δ w1 ⟨a4,c0+g9*5,V⟩ i0;dsimp only at v5 v6 v7;go_region_held2 (λv=>β v (γ wb 1 V)=M (J (M (γ a4 c0 V)) b9 i7)/\β v (γ (E (D w)) 2 V)=M (Q ε n)/\β v ⟨a4,c0+g9*5,V⟩=M (J p (U a.from_) qc)/\β v ⟨a4,c0+g9*5+1,V⟩=M (δ (ae a.aL))/\β v ⟨a4,c0+g9*5+2,V⟩=M (J q (U a.outs) r)/\β v ⟨a4,c0+g9*5+3,V⟩=M (J s (U a.order) t)/\β v ⟨a4,c0+g9*5+4,V⟩=M (Q ε a.bi)) (go_keep) (first|(go_at_call 23;refine(y4 _).mono ?_;rintro e b4 ⟨rfl,rfl⟩));all_goals(go_wp2;go_meet)
  all_goals exact⟨E (D w1),G,by first|exact(ai w1 _).drew|exact ai w1 _,K3 _,θ w1 _⟩
 obtain⟨qb,rfl,k9,H5,o7⟩:=hcut;generalize E7:wc=w2 at*;clear E7 A6 g1 i0 m4 w9 x0 x1 w6 u8 y4;have x2:ι (E (D w)) w w2:=bT m8 k9;have o6:=(k9.block _ (aH o5)).trans o5;have n9:=(k9.block bb (aH u5)).trans u5;have H3:=k9.size;obtain⟨j9,o8⟩:=au (w2.alloc (η #[J V 0 0,J V 0 0,J V 0 0,J V 0 0,J V 0 0,J V 0 0,J V 0 0,J V 0 0,J V 0 0] 118));have x5:L7 (w2.alloc (η #[J V 0 0,J V 0 0,J V 0 0,J V 0 0,J V 0 0,J V 0 0,J V 0 0,J V 0 0,J V 0 0] 118)=j9):=o8.symm;have l0:ι (E (D w2)) w2 j9:=by rw[o8];exact ai w2 _
 have M':j9.heap[E (D w2)]? =M (η #[J V 0 0,J V 0 0,J V 0 0,J V 0 0,J V 0 0,J V 0 0,J V 0 0,J V 0 0,J V 0 0] 118 (0,0)):=by rw[o8];exact θ w2 _
 clear o8;have p8:ι (E (D w)) w j9:=bT x2 l0;have P':=(l0.block _ (aH o6)).trans o6;have l8:=(l0.block bb (aH n9)).trans n9;have V':=(l0.block qb (aH o7)).trans o7;have D4:E (D w)<E (D w2):=aH o6;have C4:bb<E (D w2):=aH n9;have D3:qb<E (D w2):=aH o7;have c7:∀ {v:ο},ι (E (D w)) w v->ι (E (D w0)) w0 v:=λh7=>q5.out.trans (h7.mono E9);obtain⟨bI,n2,n3,s9,u0⟩:=c4.out.bI;have x9:=FW (QF M') (c7 p8) aa c4.XI c4.tsm c4.afv n2 n3;have r8:β j9 (γ bb 0 V)=M (J k j g):=aC l8;have r9:β j9 (γ bb 1 V)=M (J aS m l):=aC l8;have C5:=aH l8;generalize H6:E (D w2)=mb at*;clear o5 u5 o6 n9 o7;go_upto_region 6 with fail
 rw[x5.out];clear x5;go_upto_region 7 with(go_at_call 24;refine x9.mono ?_;rintro e c3 ⟨N,L,z,y,u,bc,C,R,X,K,B,F,rfl,⟨v4,s7⟩,u9,u7,l4⟩)
 clear x9 r8 r9 C5;have x3:ι (E (D w)) w c3:=p8.trans (l4.mono aa);have v8:=(l4.block (E (D w)) aa).trans P';have u4:c3.heap[bb]? =M (η #[J k j g,J aS m l] 67 (0,0)):=(l4.block bb aa).trans l8;have v9:c3.heap[qb]? =M (η #[J p (U a.from_) qc,δ (ae a.aL),J q (U a.outs) r,J s (U a.order) t,Q ε a.bi] 63 (0,0)):=(l4.block qb aa).trans V';have G0:mb<E (D c3):=by obtain⟨_,_,_,_,_,_,_,f,_⟩:=s7;exact aH f
 clear P' l8 V' l4 M';obtain⟨m5,o9⟩:=au (c3.alloc (η #[J N L z,J y u bc] 67));have x6:L7 (c3.alloc (η #[J N L z,J y u bc] 67)=m5):=o9.symm;have h5:ι (E (D c3)) c3 m5:=by rw[o9];exact ai c3 _
 have v0:m5.heap[E (D c3)]? =M (η #[J N L z,J y u bc] 67 (0,0)):=by rw[o9];exact θ c3 _
 clear o9;have p9:ι (E (D w)) w m5:=bT x3 h5;have Q':=(h5.block _ (aH v8)).trans v8;have C':=(h5.block bb (aH u4)).trans u4;have w3:=(h5.block qb (aH v9)).trans v9;have t':=s7.ah h5;have H2:=h5.size;have H9:mb<E (D m5):=aa;have b7:=En t' (c7 p9) aa v4.1.2 g5.XI g5.aeX g5.afo (ae a.aL) a.bi;dsimp only at b7;obtain⟨⟨F8,F7,F6,F5,F4⟩,j0⟩:=qV w3;clear v8 u4 v9 s7 t' h5;rw[x6.out];clear x6;go_upto_region 9 with(go_at_call 39;refine b7.mono ?_;rintro e b4 ⟨O,I1,jc,P,I2,S,T,I3,W,a8,Y,Z,rfl,c2,s8,p2,p1,p3,l7,J'⟩)
 clear b7 F8 F7 F6 F5 F4 j0;obtain⟨⟨rfl,rfl,rfl⟩,_⟩:=Nz s8 g5 p2 p1 p3;have q0:ι (E (D w)) w b4:=p9.trans (l7.mono aa);have R':=(l7.block (E (D w)) aa).trans Q';have D':b4.heap[bb]? =M (η #[J k j g,J aS m l] 67 (0,0)):=(l7.block bb aa).trans C';have W':b4.heap[qb]? =M (η #[J p (U a.from_) qc,δ (ae a.aL),J q (U a.outs) r,J s (U a.order) t,Q ε a.bi] 63 (0,0)):=(l7.block qb aa).trans w3;have G':=(J' _ _ v0).trans v0;clear Q' C' w3 v0 J' l7 p9 x3 p8 x2 m8 n4 k9 l0;obtain⟨b6,h8⟩:=au (b4.alloc (η #[J O (U a.from_) jc,δ (ae a.aL),J P (U a.outs) S,J T (U a.order) W,Q ε a.bi] 63));have x7:L7 (b4.alloc (η #[J O (U a.from_) jc,δ (ae a.aL),J P (U a.outs) S,J T (U a.order) W,Q ε a.bi] 63)=b6):=h8.symm;have B':ι (E (D b4)) b4 b6:=by rw[h8];exact ai b4 _
 have H':b6.heap[E (D b4)]? =M (η #[J O (U a.from_) jc,δ (ae a.aL),J P (U a.outs) S,J T (U a.order) W,Q ε a.bi] 63 (0,0)):=by rw[h8];exact θ b4 _
 clear h8;generalize C0:E (D c3)=ib at*;generalize D9:E (D b4)=jb at*;rw[x7.out];clear x7 C0;have g7:ι (E (D b4)) b4 b6:=by rw[D9];exact B'
 have a7:KW w0 w (E (D w)) bb qb ib jb mb #[Q ε h0,Q ε x,Q ε n,δ (ae a2),δ (ae h3),J b2 h1 b1] #[J k j g,J aS m l] #[J p (U a.from_) qc,δ (ae a.aL),J q (U a.outs) r,J s (U a.order) t,Q ε a.bi] #[J N L z,J y u bc] #[J O (U a.from_) jc,δ (ae a.aL),J P (U a.outs) S,J T (U a.order) W,Q ε a.bi] C R (X++a8) K B F [] Y Z b6:=⟨bT q0 g7,⟨fZ g7 R',fZ g7 D',fZ g7 W',fZ g7 G',H'⟩,s8.ah g7⟩;have H1:=q0.size;have H0:=g7.size;obtain⟨g6,h4⟩:=au (lh m' A1 a2 a);have q4:L7 (acE C R (X++a8) K B F):=by
  obtain⟨⟨a0,a1⟩,l1,l2,l3,E1,l5,l6⟩:=v4;exact⟨l1,l2,Jr,E1,l5,l6⟩
 have k2:L7 (U Y<=1/\U Z<=1):=c2.2;have i5:∀ {v:ο} {c:ψ Ln},KW w0 w (E (D w)) bb qb ib jb mb #[Q ε h0,Q ε x,Q ε n,δ (ae a2),δ (ae h3),J b2 h1 b1] #[J k j g,J aS m l] #[J p (U a.from_) qc,δ (ae a.aL),J q (U a.outs) r,J s (U a.order) t,Q ε a.bi] #[J N L z,J y u bc] #[J O (U a.from_) jc,δ (ae a.aL),J P (U a.outs) S,J T (U a.order) W,Q ε a.bi] C R (X++a8) K B F c Y Z v->ik v (J N L z) m'/\kV v (J y u bc) A1/\rV v O jc P S T W a:=λb=>⟨QE b.lo.fns u9 c4.texts,UX b.lo.six u7 c4.aec n2 n3 s9 u0,(Nz b.lo g5 p2 p1 p3).2⟩;have m9:∀v:ο,ι (E (D w)) w v->Θ ζ 87 #[K0 #[J k j g,J aS m l],δ (ae a2),K0 #[J p (U a.from_) qc,δ (ae a.aL),J q (U a.outs) r,J s (U a.order) t,Q ε a.bi]] v λe w'=>IR v g6 a.from_ e w':=λv h7=>by
  rw[h4];exact Re (c4.texts.ah (c7 h7)) c4.args (c4.aec.ah (c7 h7)) a2 (g5.inn.ah (c7 h7))
 clear R' D' W' G' H' s8 v4 c2 B' g7 q0;rcases q3.out with⟨rfl,a6,rfl,r',s'⟩|⟨rfl,L'⟩
 ·as_aux_lemma=>
  clear q3;obtain⟨oc,c6⟩:=au (#[Q ε 6,Q ε x,Q ε n,δ (ae a2),δ (ae h3),J b2 (U a6) b1]:N0 ω);rw[<-c6]at a7 i5;obtain⟨q1,s4⟩:=au ((oP g6 a6).1);obtain⟨q2,s5⟩:=au ((oP g6 a6).2);have y2:∀v:ο,KW w0 w (E (D w)) bb qb ib jb mb oc #[J k j g,J aS m l] #[J p (U a.from_) qc,δ (ae a.aL),J q (U a.outs) r,J s (U a.order) t,Q ε a.bi] #[J N L z,J y u bc] #[J O (U a.from_) jc,δ (ae a.aL),J P (U a.outs) S,J T (U a.order) W,Q ε a.bi] C R (X++a8) K B F [] Y Z v->Θ ζ 41 #[K1 (M (γ mb 0 V)),J b2 (U a6) b1] v λe w'=>∃(e4:Ξ M0) (e3 e2:K2) (c:ψ Ln),e=μ (J e4 e3 e2)/\U c<=1/\KW w0 w (E (D w)) bb qb ib jb mb oc #[J k j g,J aS m l] #[J p (U a.from_) qc,δ (ae a.aL),J q (U a.outs) r,J s (U a.order) t,Q ε a.bi] #[J N L z,J y u bc] #[J O (U a.from_) jc,δ (ae a.aL),J P (U a.outs) S,J T (U a.order) W,Q ε a.bi] C R (X++a8) K B F c Y Z w'/\aY w' (J e4 e3 e2) a6:=λv b=>by
   refine(Yj b.lo (c7 b.low) ⟨b2,U a6,b1,aA a6⟩ s').mono ?_;rintro e w' ⟨e4,e3,e2,c,e5,v3,u',C6,o1,l9⟩;refine⟨e4,e3,e2,c,e5,v3,⟨b.low.trans (o1.mono aa),⟨(o1.block _ D4).trans b.bf.op,(o1.block _ C4).trans b.bf.b,(o1.block _ D3).trans b.bf.q,(l9 _ _ _ _ b.bf.i ag).trans b.bf.i,(l9 _ _ _ _ b.bf.j ag).trans b.bf.j⟩,u'⟩,UT u'.ints C6⟩
  have y1:∀(v:ο) (c:ψ Ln) (e4:Ξ M0) (e3 e2:K2),KW w0 w (E (D w)) bb qb ib jb mb oc #[J k j g,J aS m l] #[J p (U a.from_) qc,δ (ae a.aL),J q (U a.outs) r,J s (U a.order) t,Q ε a.bi] #[J N L z,J y u bc] #[J O (U a.from_) jc,δ (ae a.aL),J P (U a.outs) S,J T (U a.order) W,Q ε a.bi] C R (X++a8) K B F c Y Z v->aY v (J e4 e3 e2) a6->Θ ζ 40 #[K0 #[J N L z,J y u bc],δ (ae a2),K0 #[J O (U a.from_) jc,δ (ae a.aL),J P (U a.outs) S,J T (U a.order) W,Q ε a.bi],J e4 e3 e2] v λe w'=>e=μ (M8 #[Q ε q1,Q ε q2])/\KW w0 w (E (D w)) bb qb ib jb mb oc #[J k j g,J aS m l] #[J p (U a.from_) qc,δ (ae a.aL),J q (U a.outs) r,J s (U a.order) t,Q ε a.bi] #[J N L z,J y u bc] #[J O (U a.from_) jc,δ (ae a.aL),J P (U a.outs) S,J T (U a.order) W,Q ε a.bi] C R (X++a8) K B F c Y Z w':=λv c e4 e3 e2 b C7=>by
   rw[s4,s5,h4];obtain⟨o,s2,s3⟩:=i5 b;exact(Mo o s2 a2 s3 C7).mono λe w' f=>⟨f.1,b.ah f.2⟩
  have y7:∀(v:ο) (c:ψ Ln),KW w0 w (E (D w)) bb qb ib jb mb oc #[J k j g,J aS m l] #[J p (U a.from_) qc,δ (ae a.aL),J q (U a.outs) r,J s (U a.order) t,Q ε a.bi] #[J N L z,J y u bc] #[J O (U a.from_) jc,δ (ae a.aL),J P (U a.outs) S,J T (U a.order) W,Q ε a.bi] C R (X++a8) K B F c Y Z v->Θ ζ 42 #[K0 #[J k j g,J aS m l],δ (ae a2),K0 #[J p (U a.from_) qc,δ (ae a.aL),J q (U a.outs) r,J s (U a.order) t,Q ε a.bi],J b2 (U a6) b1] v λe w'=>e=μ (M8 #[Q ε q1,Q ε q2])/\KW w0 w (E (D w)) bb qb ib jb mb oc #[J k j g,J aS m l] #[J p (U a.from_) qc,δ (ae a.aL),J q (U a.outs) r,J s (U a.order) t,Q ε a.bi] #[J N L z,J y u bc] #[J O (U a.from_) jc,δ (ae a.aL),J P (U a.outs) S,J T (U a.order) W,Q ε a.bi] C R (X++a8) K B F c Y Z w':=λv c b=>by
   rw[s4,s5];exact(Rf k j g aS m l a2 p (U a.from_) qc a.aL q (U a.outs) r s (U a.order) t a.bi g6 a.from_ (λx w7=>m9 x (b.low.trans (w7.mono b.low.size))) (r'.ah (c7 b.low))).mono λe w' f=>⟨f.1,b.ah f.2⟩
  have z1:∀(v:ο) (c:ψ Ln),KW w0 w (E (D w)) bb qb ib jb mb oc #[J k j g,J aS m l] #[J p (U a.from_) qc,δ (ae a.aL),J q (U a.outs) r,J s (U a.order) t,Q ε a.bi] #[J N L z,J y u bc] #[J O (U a.from_) jc,δ (ae a.aL),J P (U a.outs) S,J T (U a.order) W,Q ε a.bi] C R (X++a8) K B F c Y Z v->U c<=1->Θ ζ 38 #[K1 (M (γ mb 0 V))] v λe w'=>e=μ (L6 Φ)/\ι (E (D w)) w w':=λv c b v3=>by
   exact(uL mb c b.lo q4 v3 k2.1 k2.2 (c7 b.low) aa).mono λe w' f=>⟨f.1,b.low.trans (f.2.1.mono aa)⟩
  have c9:∀ {v:ο} {c:ψ Ln},KW w0 w (E (D w)) bb qb ib jb mb oc #[J k j g,J aS m l] #[J p (U a.from_) qc,δ (ae a.aL),J q (U a.outs) r,J s (U a.order) t,Q ε a.bi] #[J N L z,J y u bc] #[J O (U a.from_) jc,δ (ae a.aL),J P (U a.outs) S,J T (U a.order) W,Q ε a.bi] C R (X++a8) K B F c Y Z v->β v (γ ib 0 V)=M (J N L z)/\β v (γ ib 1 V)=M (J y u bc)/\β v (γ (E (D w)) 3 V)=M (δ (ae a2))/\β v (γ (E (D w)) 5 V)=M (J b2 (U a6) b1)/\β v (γ jb 0 V)=M (J O (U a.from_) jc)/\β v (γ jb 1 V)=M (δ (ae a.aL))/\β v (γ jb 2 V)=M (J P (U a.outs) S)/\β v (γ jb 3 V)=M (J T (U a.order) W)/\β v (γ jb 4 V)=M (Q ε a.bi):=fun {v} _ b=>by
   have o:=b.bf.op;rw[c6]at o;exact⟨aC b.bf.i,aC b.bf.i,aC o,aC o,aC b.bf.j,aC b.bf.j,aC b.bf.j,aC b.bf.j,aC b.bf.j⟩
  have k1:∀ {v:ο} {c:ψ Ln},KW w0 w (E (D w)) bb qb ib jb mb oc #[J k j g,J aS m l] #[J p (U a.from_) qc,δ (ae a.aL),J q (U a.outs) r,J s (U a.order) t,Q ε a.bi] #[J N L z,J y u bc] #[J O (U a.from_) jc,δ (ae a.aL),J P (U a.outs) S,J T (U a.order) W,Q ε a.bi] C R (X++a8) K B F c Y Z v->(β v (γ bb 0 V)=M (J k j g)/\β v (γ bb 1 V)=M (J aS m l)/\β v (γ (E (D w)) 3 V)=M (δ (ae a2))/\β v (γ (E (D w)) 5 V)=M (J b2 (U a6) b1)/\β v (γ qb 0 V)=M (J p (U a.from_) qc)/\β v (γ qb 1 V)=M (δ (ae a.aL))/\β v (γ qb 2 V)=M (J q (U a.outs) r)/\β v (γ qb 3 V)=M (J s (U a.order) t)/\β v (γ qb 4 V)=M (Q ε a.bi))/\E (D w)<E (D v)/\bb<E (D v)/\qb<E (D v):=fun {v} _ b=>by
   have o:=b.bf.op;rw[c6]at o;exact⟨⟨aC b.bf.b,aC b.bf.b,aC o,aC o,aC b.bf.q,aC b.bf.q,aC b.bf.q,aC b.bf.q,aC b.bf.q⟩,af o,af b.bf.b,af b.bf.q⟩
  have w8:β b6 (γ (E (D w)) 0 V)=M (Q ε 6):=by have o:=a7.bf.op;rw[c6]at o;exact aC o
  have e6:=af a7.bf.op;have c2:=af a7.bf.i;have e7:=af a7.bf.j;clear c6 s4 s5 h4 i5 m9 r' s' u9 u7 p2 p1 p3 n2 n3 s9 u0 c4 g5 q5 q4 k2 c7;go_upto_region 11 with fail
  go_cut [11,12] (λF2 F1 i4=>F2=Q ε q1/\F1=Q ε q2/\∃c:ψ Ln,U c<=1/\KW w0 w (E (D w)) bb qb ib jb mb oc #[J k j g,J aS m l] #[J p (U a.from_) qc,δ (ae a.aL),J q (U a.outs) r,J s (U a.order) t,Q ε a.bi] #[J N L z,J y u bc] #[J O (U a.from_) jc,δ (ae a.aL),J P (U a.outs) S,J T (U a.order) W,Q ε a.bi] C R (X++a8) K B F c Y Z i4)
  ·as_aux_lemma=>
   have z7:=a7.ah (K5 _ b6).drew;obtain⟨j1,j2,h2,A5,j3,j4,j5,j6,j7⟩:=c9 a7;go_region_held2 (λv=>β v (γ ib 0 V)=M (J N L z)/\β v (γ ib 1 V)=M (J y u bc)/\β v (γ (E (D w)) 3 V)=M (δ (ae a2))/\β v (γ (E (D w)) 5 V)=M (J b2 (U a6) b1)/\β v (γ jb 0 V)=M (J O (U a.from_) jc)/\β v (γ jb 1 V)=M (δ (ae a.aL))/\β v (γ jb 2 V)=M (J P (U a.outs) S)/\β v (γ jb 3 V)=M (J T (U a.order) W)/\β v (γ jb 4 V)=M (Q ε a.bi)) (first|exact c9 a7|exact c9 z7|exact c9 c5|exact c9 e0)
    (first
     |(go_at_call 41;refine(y2 _ z7).mono ?_;rintro e k0 ⟨e4,e3,e2,c,rfl,s6,c5,C1⟩)
     |(go_at_call 40;refine cB (y1 _ c e4 e3 e2 c5 C1) ?_;rintro m6 e0))
   all_goals(go_wp2;go_meet)
   all_goals exact⟨G,G,c,s6,e0⟩
  obtain⟨rfl,rfl,c,s6,c5⟩:=hcut;generalize w5:wc=k0 at*;clear w5 a7 w8 e6 c2 e7 y2 y1 c9;obtain⟨⟨r8,r9,h2,A5,i0,m4,w9,x0,x1⟩,e6,c2,e7⟩:=k1 c5;go_upto_region 13 with(go_at_call 42;refine cB (y7 _ c c5) ?_;rintro m6 e0)
  have r4:=z1 _ c e0 s6;clear c5 e0 y7 z1 k1 r8 r9 h2 A5 i0 m4 w9 x0 x1 e6 c2 e7;go_wp2_with(first
   |(go_at_call 11;refine(Tg).mono ?_;rintro e m7 ⟨rfl,rfl⟩)
   |(go_at_call 38;refine cB r4 ?_;rintro i3 C8))
  go_ret;exact EX n0 n1 G C8
 as_aux_lemma=>
 clear q3;obtain⟨oc,c6⟩:=au (#[Q ε 7,Q ε x,Q ε n,δ (ae a2),δ (ae h3),J b2 h1 b1]:N0 ω);rw[<-c6]at a7 i5;have q6:∀v:ο,KW w0 w (E (D w)) bb qb ib jb mb oc #[J k j g,J aS m l] #[J p (U a.from_) qc,δ (ae a.aL),J q (U a.outs) r,J s (U a.order) t,Q ε a.bi] #[J N L z,J y u bc] #[J O (U a.from_) jc,δ (ae a.aL),J P (U a.outs) S,J T (U a.order) W,Q ε a.bi] C R (X++a8) K B F [] Y Z v->Θ ζ 43 #[K0 #[J N L z,J y u bc],δ (ae a2),K0 #[J O (U a.from_) jc,δ (ae a.aL),J P (U a.outs) S,J T (U a.order) W,Q ε a.bi]] v λe w'=>∃(a5:N3) (k5:Ξ M0) (k4 k3:K2) (g4:ψ iP),e=μ (M8 #[J k5 k4 k3,Q ε a5])/\nN w' (E (D v)) (J k5 k4 k3) g4/\mW g6 a5 g4/\ι (E (D v)) v w':=λv b=>by
  rw[h4];obtain⟨o,s2,s3⟩:=i5 b;exact(Mq o s2 a2 s3).mono λe w' f=>f.ans
 have y8:∀v:ο,ι (E (D w)) w v->Θ ζ 44 #[K0 #[J k j g,J aS m l],δ (ae a2),K0 #[J p (U a.from_) qc,δ (ae a.aL),J q (U a.outs) r,J s (U a.order) t,Q ε a.bi]] v λe w'=>∃(a5:N3) (k5:Ξ M0) (k4 k3:K2) (g4:ψ iP),e=μ (M8 #[J k5 k4 k3,Q ε a5])/\rH w' (J k5 k4 k3) (KM (iL g4))/\mW g6 a5 g4/\ι (E (D v)) v w':=λv h7=>by
  have f:=Rh v k j g aS m l a2 p (U a.from_) qc a.aL q (U a.outs) r s (U a.order) t a.bi g6 a.from_ λx w7=>m9 x (bT h7 w7);rw[h4]at f ⊢;exact f.mono λe w' f=>f.ans
 have q8:∀ {a5:N3} {g4:ψ iP},mW g6 a5 g4->U g4<=4/\∀i1∈g4,U i1.2.2<=1000:=λf=>by rw[h4]at f;exact f.small
 have c9:∀ {v:ο},KW w0 w (E (D w)) bb qb ib jb mb oc #[J k j g,J aS m l] #[J p (U a.from_) qc,δ (ae a.aL),J q (U a.outs) r,J s (U a.order) t,Q ε a.bi] #[J N L z,J y u bc] #[J O (U a.from_) jc,δ (ae a.aL),J P (U a.outs) S,J T (U a.order) W,Q ε a.bi] C R (X++a8) K B F [] Y Z v->(β v (γ ib 0 V)=M (J N L z)/\β v (γ ib 1 V)=M (J y u bc)/\β v (γ (E (D w)) 3 V)=M (δ (ae a2))/\β v (γ jb 0 V)=M (J O (U a.from_) jc)/\β v (γ jb 1 V)=M (δ (ae a.aL))/\β v (γ jb 2 V)=M (J P (U a.outs) S)/\β v (γ jb 3 V)=M (J T (U a.order) W)/\β v (γ jb 4 V)=M (Q ε a.bi))/\E (D w)<E (D v)/\ib<E (D v)/\jb<E (D v):=fun {v} b=>by
  have o:=b.bf.op;rw[c6]at o;exact⟨⟨aC b.bf.i,aC b.bf.i,aC o,aC b.bf.j,aC b.bf.j,aC b.bf.j,aC b.bf.j,aC b.bf.j⟩,af o,af b.bf.i,af b.bf.j⟩
 have k1:∀ {v:ο},KW w0 w (E (D w)) bb qb ib jb mb oc #[J k j g,J aS m l] #[J p (U a.from_) qc,δ (ae a.aL),J q (U a.outs) r,J s (U a.order) t,Q ε a.bi] #[J N L z,J y u bc] #[J O (U a.from_) jc,δ (ae a.aL),J P (U a.outs) S,J T (U a.order) W,Q ε a.bi] C R (X++a8) K B F [] Y Z v->(β v (γ bb 0 V)=M (J k j g)/\β v (γ bb 1 V)=M (J aS m l)/\β v (γ (E (D w)) 3 V)=M (δ (ae a2))/\β v (γ qb 0 V)=M (J p (U a.from_) qc)/\β v (γ qb 1 V)=M (δ (ae a.aL))/\β v (γ qb 2 V)=M (J q (U a.outs) r)/\β v (γ qb 3 V)=M (J s (U a.order) t)/\β v (γ qb 4 V)=M (Q ε a.bi))/\E (D w)<E (D v)/\bb<E (D v)/\qb<E (D v):=fun {v} b=>by
  have o:=b.bf.op;rw[c6]at o;exact⟨⟨aC b.bf.b,aC b.bf.b,aC o,aC b.bf.q,aC b.bf.q,aC b.bf.q,aC b.bf.q,aC b.bf.q⟩,af o,af b.bf.b,af b.bf.q⟩
 have w8:β b6 (γ (E (D w)) 0 V)=M (Q ε 7):=by have o:=a7.bf.op;rw[c6]at o;exact aC o
 have B4:L7 (∀ {v:ο},ι (E (D w)) w v->ι (E (D w0)) w0 v):=c7;clear c6 h4 i5 m9 u9 u7 p2 p1 p3 n2 n3 s9 u0 c4 g5 q5 c7;obtain⟨⟨j1,j2,h2,j3,j4,j5,j6,j7⟩,e6,c2,e7⟩:=c9 a7;go_upto_region 16 with(go_at_call 43;refine(q6 _ a7).mono ?_;rintro e k0 ⟨G4,c',a',z8,F3,rfl,e8,p5,n7⟩)
 clear j1 j2 w8 h2 j3 j4 j5 j6 j7 e6 c2 e7;have c5:=a7.ah n7;obtain⟨⟨j1,j2,h2,j3,j4,j5,j6,j7⟩,e6,c2,e7⟩:=c9 c5;go_upto_region 17 with(go_at_call 43;refine(q6 _ c5).mono ?_;rintro e m6 ⟨G3,r7,r6,r5,A4,rfl,e9,p6,n8⟩)
 clear j1 j2 h2 j3 j4 j5 j6 j7 e6 c2 e7 q6 c9;have e0:=c5.ah n8;obtain⟨⟨j1,j2,h2,j3,j4,j5,j6,j7⟩,e6,c2,e7⟩:=k1 e0;go_upto_region 18 with(go_at_call 44;refine(y8 _ e0.low).mono ?_;rintro e i3 ⟨G2,d',b',z9,J6,rfl,g3,p7,k8⟩)
 clear j1 j2 h2 j3 j4 j5 j6 j7 e6 c2 e7 y8 k1;have w5:=n7.size;have E6:=n8.size;have I8:=k8.size;obtain⟨A0,n'⟩:=p5.one p7;obtain⟨B9,o'⟩:=p6.one p7;subst A0 B9;obtain⟨E0,A9⟩:=q8 p5;obtain⟨F9,A8⟩:=q8 p6;have u3:=n8.trans (k8.mono E6);have r2:=e8.ah u3;have r3:=e9.ah k8;have r0:=r2.ZG aa A9;have r1:=r3.ZG aa A8;rw[n']at r0;rw[o']at r1;have y9:∀n:ο,ι (E (D i3)) i3 n->Θ ζ 45 #[J c' a' z8,J d' b' z9] n λe w'=>e=μ (L6 Φ)/\ι (E (D n)) n w':=λn m3=>zZ (r0.ah m3) (g3.ah m3);have z0:∀n:ο,ι (E (D i3)) i3 n->Θ ζ 45 #[J r7 r6 r5,J d' b' z9] n λe w'=>e=μ (L6 Φ)/\ι (E (D n)) n w':=λn m3=>zZ (r1.ah m3) (g3.ah m3);have b7:L7 (_/\_/\_/\_/\_):=And.intro r2 (And.intro r3 (And.intro e8 (And.intro e9 (e0.ah k8))));have x4:L7 (ι (E (D b6)) b6 i3):=n7.trans (u3.mono w5);have q7:L7 _:=a7;clear r0 r1 r2 r3 e8 e9 g3 n' o' p5 p6 p7 n7 n8 k8 u3 a7 c5 e0 q8;go_upto_region 21 with(first
  |(go_at_call 45;refine(y9 i3 (K5 _ _)).mono ?_;clear y9;rintro e J0 ⟨rfl,u2⟩)
  |(go_at_call 45;refine(z0 _ u2).mono ?_;clear z0;rintro e K9 ⟨rfl,z'⟩;have i9:=bT u2 z')
  |(go_at_call 11;refine(Tg).mono ?_;rintro e m7 ⟨rfl,rfl⟩))
 have I4:=i9.size;have p4:ι (E (D w)) w m7:=b7.out.2.2.2.2.low.trans (i9.mono b7.2.2.2.2.low.size);have z5:nN m7 (E (D b6)) (J c' a' z8) F3:=b7.out.1.ah i9;have z6:nN m7 (E (D k0)) (J r7 r6 r5) A4:=b7.out.2.1.ah i9;have h8:=q7.out.low.size;have z3:=xM (n0.ah p4) (n1.ah p4) aa aa (Z:=E (D k0)) aa z5 E0 A9 aa (λa3 b3=>(xh b7.2.2.1.row b3).2.1) (λi1 w4 a3 b3=>(xh (b7.2.2.1.parts i1 w4).1 b3).2.1) (λe e5 i2 h6 a3 b3=>Ψ (N1 (n0.below e e5 i2 h6 a3 b3) h8)) (λe e5 i2 h6 a3 b3=>Ψ (N1 (n1.below e e5 i2 h6 a3 b3) h8));have Z':∀a3,(J r7 r6 r5).ownBlock=M a3->a3<E (D m6):=λa3 b3=>(xh b7.2.2.2.1.row b3).2.1;have Y':∀i1∈A4,∀a3,i1.2.1.ownBlock=M a3->a3<E (D m6):=λi1 w4 a3 b3=>(xh (b7.2.2.2.1.parts i1 w4).1 b3).2.1;have B6:L7 (ι (E (D b6)) b6 m7):=bT x4 i9;have z2:L7 _:=p4;have y6:L7 _:=z6;clear z5 z6 i9 u2 z' p4 b7 x4;go_upto_region 22 with(go_at_call 46;refine z3.mono ?_;rintro e K8 ⟨rfl,J4,G1,J5,⟨I0,J8⟩,e',A3,i',n5,s1⟩)
 clear z3;have I7:=n5.size;obtain⟨g',h'⟩:=i' (λa3=>a3<E (D k0)\/E (D m6)<=a3) (λa3 _ f=>Ψ f) (λa3 f=>K4 aa);have z4:=xM e' A3 aa aa (A:=E (D k0)) aa (y6.mv λa b5 i6 b0 b8 C9=>s1 a b5 i6 _ b0 (by rcases b8 with rfl|rfl<;>decide) (by rcases b8 with rfl|rfl<;>decide) (by rcases b8 with rfl|rfl<;>decide) (K4 C9)) F9 A8 aa Z' Y' (g' λe e5 i2 h6 a3 b3=>Ψ (by have:=n0.out.below e e5 i2 h6 a3 b3;omega)) (h' λe e5 i2 h6 a3 b3=>Ψ (by have:=n1.out.below e e5 i2 h6 a3 b3;omega));clear g' h' i' Z' Y' y6;go_upto_region 34 with(go_at_call 46;refine z4.mono ?_;rintro e G6 ⟨rfl,G7,B1,G8,⟨J9,J7⟩,f',A2,B2,n6,l'⟩)
 clear z4 B2;have I6:=n6.size;have q9:dX b6 G6 [85,89,40]:=λa b5 i6 c1 b0 b8=>by
  simp only[L8,L2,O7,not_or]at b8;have j0:=aH b0;have s0:=B6.out.block a j0;have k':=s1 a b5 i6 c1 (s0.trans b0) b8.1 b8.2.1 b8.2.2 (Ψ j0);have B0:=l' a b5 i6 c1 (k'.trans (s0.trans b0)) b8.1 b8.2.1 b8.2.2 (Ψ aa);exact B0.trans (k'.trans s0)
 have r4:=uL mb [] (q7.lo.bW q9 ag) q4 ak k2.1 k2.2 (((B4 z2).trans (n5.mono L')).trans (n6.mono L')) aa;have B5:L7 _:=q9;have y0:L7 _:=f';have B3:L7 _:=A2;have B8:L7 _:=n5;have B7:L7 _:=n6;clear s1 l' e' A3 f' A2 q9 n5 n6;go_wp2_with(go_at_call 38;refine r4.mono ?_;rintro e K7 ⟨rfl,A',o3,C2⟩);go_ret;have I5:wb<mb:=aa;obtain⟨_,_,_,o2,_⟩:=y0.out.row;refine⟨G,(((z2.mono (L1 p0)).trans B8).trans B7).trans (A'.mono aa),λa b5 i6 c1 b0 b8=>?_,G7,B1,G8,aa,aa,y0.mv (o3 _ _ _ _ o2 ag) (λa b5 c1 b0=>o3 a b5 _ c1 b0 ag) (λa b5 c1 b0=>C2 a b5 c1 b0 ak),B3.mv (λa b5 c1 b0=>o3 a b5 _ c1 b0 ag) (λa b5 c1 b0=>o3 a b5 _ c1 b0 ag)⟩;have j0:=aH b0;have j':=q7.out.low.block a j0;exact(A'.block a aa).trans ((B5 a b5 i6 c1 (j'.trans b0) b8).trans j')
theorem Nh(cs){a}(d:a=U cs):TyT (uj cs) a:=by
 subst d;intro e f;have b:=λi g=>Hd (λc:Bs×Bs=>[δ (ae c.1),δ (ae c.2)]) (λ_=>rfl) cs e i _ (τ f) g;exact⟨_,_,b 0 aa,b 1 aa⟩
theorem SS(a){b}(e:b=U a):TyO (qL a) b:=by
 subst e;intro f g;have c:=λj i=>Hd (λd:Int×Bool=>[Q ε d.1,L6 d.2]) (λ_=>rfl) a f j _ (τ g) i;exact⟨_,_,c 0 aa,c 1 aa⟩
theorem JJ(a){b}(c:b=U a):IZ (aA a) b:=by
 subst c;intro _ d;exact⟨_,by rw[aA,N2,τ d];rfl⟩
theorem Hu(cs):∀v∈uj cs,v.oneCell'=Φ:=by
 intro v b;obtain⟨_,_,a⟩:=N7.mp b;simp only[L8,L2,O7]at a;rcases a with rfl|rfl<;>rfl
theorem Ya(b):∀v∈qL b,v.oneCell'=Φ:=by
 intro v c;obtain⟨_,_,a⟩:=N7.mp c;simp only[L8,L2,O7]at a;rcases a with rfl|rfl<;>rfl
theorem XW{a}:∀v∈aA a,v.oneCell'=Φ:=by
 intro v b;obtain⟨_,_,rfl⟩:=O2.mp b;rfl
theorem TR.ah{w x e d f oc i g}(b:TR w e d f oc i g a)(c:Bl w x):TR x e d f oc i g a:=⟨b.inn.ah c,b.XI.ah c,b.aeX.ah c,b.afo.ah c⟩
theorem iO.ah{w x c e d}(f:iO w c e d)(a:Bl w x)(b:c<E (D w)):iO x c e d:=by
 intro k g;obtain⟨i,j,l,oc,m,n,o,⟨p,q,r,s,t⟩,u⟩:=f k g;exact⟨i,j,l,oc,m,n,o,⟨cK a b p,cK a b q,cK a b r,cK a b s,cK a b t⟩,u.ah a⟩
def knQ:qD:=⟨[([116],[97])],[40,60,32,48,32,97,46,107,41],[[40,110,111,116,101,32,97,46,107,41]],[], -1⟩
theorem xN(w):iO (pK w (jD (E (D w)))) (E (D w)+17) 0 1/\E (D w)+17<E (D (pK w (jD (E (D w))))):=by
 have b:∀(a:K2) (d:Obj),(jD (E (D w)))[a]? =M d->(pK w (jD (E (D w)))).heap[E (D w)+a]? =M d:=λa d k=>Aq _ w a d k;obtain⟨e,l⟩:=au (E (D w));rw[<-l]at b ⊢;generalize s:pK w (jD e)=W at b ⊢;have f:=b 10 _ G;have i:=b 11 _ G;have c:=b 17 _ G;clear b;have b:∀a:K2,a<=100->a<=M5:=λa m=>fD;refine⟨λa m=>?_,aH c⟩;obtain rfl:a=0:=aa;refine⟨M ⟨e+10,0,V⟩,1,M ⟨e+11,0,V⟩,1,V,0,knQ,⟨aC c,aC c,aC c,aC c,aC c⟩,⟨⟨_,_,G,b _ ag,K4 ⟨e+10,0,G,aH f,λn o g=>?_⟩⟩,ag,Fa i G (b _ ag),⟨_,_,G,b _ ag,Ψ G⟩,b _ ag,λo g=>?_,λd j=>?_⟩,mP (cs:=uj knQ.from_) f G ag (Hu _) (Nh _ G),mP (cs:=gY knQ.outs) i G ag (Fj _) (Dj G),⟨ag,λ_=>⟨G,G⟩,⟨G,Ψ G⟩,by simp[knQ,qL],SS [] G⟩⟩
 ·obtain⟨q,r⟩:=L5.mp g;have:n=0:=by simp[knQ]at q;omega
  subst this;subst r;exact⟨aC f,aC f⟩
 ·simp[knQ]at g;subst g;exact b _ ag
 simp[knQ]at j;subst j;exact b _ ag
theorem abd{w}:Θ ζ 5 #[] w λe w'=>e=μ (K0 #[J (M ⟨E (D w)+16,0,V⟩) 2 2,J (M ⟨E (D w)+17,0,V⟩) 1 1,J (M ⟨E (D w)+19,0,V⟩) 1 1])/\Bl w w'/\(E (D w)+16<E (D w')/\mf w' (E (D w)+16) 0 2)/\(E (D w)+17<E (D w')/\iO w' (E (D w)+17) 0 1):=
 (UN w).mono λe w' ⟨a,h2⟩=>by
  subst h2;exact⟨a,tT _ w,⟨(BM w).2,(BM w).1⟩,(xN w).2,(xN w).1⟩
def Lh(w:ο)(b off n:K2):Prop:=∀i,i<n->∃(k x y:N3) (s t:ByteArray) (lo:Ξ M0) (lc:K2) (L:ψ N3),
 (β w ⟨b,off+i*6,V⟩=M (Q ε k)/\β w ⟨b,off+i*6+1,V⟩=M (Q ε x)/\β w ⟨b,off+i*6+2,V⟩=M (Q ε y)/\
 β w ⟨b,off+i*6+3,V⟩=M (δ s)/\β w ⟨b,off+i*6+4,V⟩=M (δ t)/\β w ⟨b,off+i*6+5,V⟩=M (J lo (U L) lc))/\(-9223372036854775808<=x/\x<=9223372036854775807/\ -9223372036854775808<=y/\y<=9223372036854775807)/\aY w (J lo (U L) lc) L/\iK IZ w 1 ⟨lo,U L,lc,aA L⟩
theorem Lh.ah{w x c e d}(f:Lh w c e d)(a:Bl w x)(b:c<E (D w)):Lh x c e d:=by
 intro i g;obtain⟨k,j,l,m,n,o,p,q,⟨r,s,t,u,v,y⟩,z,B,C⟩:=f i g;exact⟨k,j,l,m,n,o,p,q,⟨cK a b r,cK a b s,cK a b t,cK a b u,cK a b v,cK a b y⟩,z,B.ah a,C.ah a⟩
theorem Ho(x):aY x (J V 0 0) []/\iK IZ x 1 ⟨V,0,0,aA []⟩:=⟨⟨_,_,G,ak,Ψ G⟩,ag,λ_=>⟨G,G⟩,⟨G,Ψ G⟩,by simp[aA],JJ [] G⟩
theorem Ee{x:ο}{b a ls}(c:x.heap[b]? =M (η (aA ls).toArray 3 (0,0)))(e:a=U ls)(d:a<=1048576):aY x (J (M (γ b 0 V)) a a) ls/\iK IZ x 1 ⟨M (γ b 0 V),a,a,aA ls⟩:=by
 subst e;refine⟨⟨_,_,G,d,K4 ⟨b,0,G,aH c,λ_ _ f=>?_⟩⟩,mP c (by simp[aA]) d XW (JJ _ G)⟩;rw[M4,aI c];simp[aA,f]
theorem Vj{w}:Θ ζ 6 #[] w λe w'=>e=μ (J (M ⟨E (D w)+1,0,V⟩) 9 9)/\Bl w w'/\∃b:N0 ω,w'.heap[E (D w)+1]? =M (η b 44 (0,0))/\w'.heap[E (D w)]? =M (η #[Q ε 0] 3 (0,0))/\∀x:ο,x.heap[E (D w)+1]? =M (η b 44 (0,0))->x.heap[E (D w)]? =M (η #[Q ε 0] 3 (0,0))->Lh x (E (D w)+1) 0 9:=by
 go_enter func6,ntmps6
 go_wp2
 go_ret;refine⟨G,aV w _ _,_,(tC w).1.2,(tC w).1.1,λx f c=>?_⟩;have a:∀d,β x ⟨E (D w)+1,d,V⟩=_:=λd=>yZ f;intro g i;simp only[M4]
 match g,i with
 |0,_|1,_|2,_|3,_|4,_|5,_|7,_|8,_=>exact⟨_,_,_,_,_,_,_,[],⟨(a _).trans G,(a _).trans G,(a _).trans G,(a _).trans G,(a _).trans G,(a _).trans G⟩,ag,(Ho x).1,(Ho x).2⟩
 |6,_=>exact⟨_,_,_,_,_,_,_,[0],⟨(a _).trans G,(a _).trans G,(a _).trans G,(a _).trans G,(a _).trans G,(a _).trans G⟩,ag,(Ee (ls:=[0]) c G ag).1,(Ee (ls:=[0]) c G ag).2⟩
theorem Kl{w wb a0 a1 l0 c0 l1 c1}(k:β w (γ wb 0 V)=M (J a0 l0 c0))(l:β w (γ wb 1 V)=M (J a1 l1 c1))(m:wb<E (D w))(b:l0=0\/l1=0)(c x j g i f e d):
  Θ ζ 13 #[K1 (M (γ wb 0 V)),K0 #[Q ε c,Q ε x,Q ε j,δ g,δ i,J f e d]] w (RB (L6 Φ) w):=by
 by_cases a:l0=0
 ·subst a;go_enter M7,M1
  go_wp2
  go_ret;exact⟨G,ai w _⟩
 obtain rfl:=b.resolve_left a;have:((l0:N3)==0)=L9:=aN;have:¬(l0:N3)=0:=aa;go_enter M7,M1
 go_wp2
 go_ret;exact⟨G,ai w _⟩
theorem He{α:Type}{b:α->ψ ω}(d:∀c,U (b c)=2)(a:ψ α):U (a.flatMap b)=U a*2:=by
 induction a with
 |nil=>rfl
 |cons e f ih=>rw[List.flatMap_cons,List.length_append,d,ih,List.length_cons];omega
theorem acB{α:Type}{f:α->ψ ω}(j:∀d,U (f d)=2){w m k}{c:ψ α}(q:U c=k)(i:k=0\/∃b g,m=M (γ b g V)/\b<E (D w)/\∀(l:K2) (d:α),c[l]? =M d->∀(a:K2) (v:ω),(f d)[a]? =M v->β w ⟨b,g+l*2+a,V⟩=M v):ku w 2 m k (c.flatMap f):=by
 refine⟨by rw[He j,q], ?_⟩;rcases i with i|⟨b,g,e,r,s⟩
 ·exact Ψ i
 refine K4 ⟨b,g,e,r,λa v n=>?_⟩;have t:=(L5.mp n).1;rw[He j]at t;have o:=τ (show a / 2<U c by omega);have p:=Hd f j c (a / 2) (a % 2) _ o aa;rw[show a / 2*2+a % 2=a by omega]at p;have:=s _ _ o _ v (p.symm.trans n)
 rwa[Nat.add_assoc,show a / 2*2+a % 2=a by omega]at this
theorem acQ:ζ.cellsOf 59=2:=aF
theorem aeA:ζ.cellsOf 245=2:=aF
theorem acO:ζ.cellsOf 4=1:=aF
theorem aeB:ζ.cellsOf 63=5:=aF
theorem aeK:ζ.cellsOf 60=1:=aF
theorem aeI:ζ.cellsOf 61=1:=aF
theorem l5{α:Type}{f:ψ α}(g:U f=5):∃a b c d e,f= [a,b,c,d,e]:=by
 match f,g with
 | [a,b,c,d,e],_=>exact⟨a,b,c,d,e,G⟩
section
variable {H : Type} {enc : TypeId × Value -> H} {w : World} {base : Nat} {sp : Nat -> Bool} {hd : Bool}
theorem QZ{k j g}(f:ξ enc ζ w base sp hd k 60 j=M g)(q:κ g.1<=1048576):
  ∃(d:Ξ M0) (b:K2) (a:ψ (Bs×Bs)),j= [J d (U a) b]/\U a<=b/\iK TyT w 2 ⟨d,U a,b,uj a⟩/\(∀r∈a,U r.2<=M5)/\iM w (J d (U a) b) a:=by
 obtain⟨d,s,b,a,rfl,t,u,v,rfl,x,l⟩:=jS (λc:Bs×Bs=>[δ (ae c.1),δ (ae c.2)]) (λc=>U c.2<=M5) underlying60 acQ aa f q (λ_ g k i y _=>by
  obtain⟨z,s,_,_,_,B,m⟩:=υ underlying59 y;obtain⟨_,_,rfl⟩:=l2 (show U z=2 from B);obtain⟨_,_,rfl⟩:=l2 i;have g0:=m 0 _ G;have g1:=m 1 _ G;simp[yV]at g0 g1;obtain⟨n,o,_⟩:=ν ρ g0;obtain⟨c,p,_,C⟩:=ν ρ g1;simp only[χ,M3]at o p;subst o p;exact⟨(n.toList,c.toList),by rw[<-oN n,<-oN c],by rw[aj];exact C⟩)
 refine⟨d,b,a,G,u,⟨t,v,acB (λ_=>rfl) G l,Hu a,Nh a G⟩,x,d,b,G,fD, ?_⟩;rcases l with f|⟨p,y,e,i,c⟩
 ·exact Ψ (Γ f)
 exact K4 ⟨p,y,e,i,λo m n=>⟨c o m n 0 _ G,c o m n 1 _ G⟩⟩
theorem VD{d j g}(f:ξ enc ζ w base sp hd d 61 j=M g)(p:κ g.1<=1048576):
  ∃(c:Ξ M0) (b:K2) (a:ψ (N3×Bool)),j= [J c (U a) b]/\iK TyO w 2 ⟨c,U a,b,qL a⟩/\mr w (J c (U a) b) a:=by
 obtain⟨c,q,b,a,rfl,r,_,s,rfl,_,k⟩:=jS (λd:Int×Bool=>[Q ε d.1,L6 d.2]) (λ_=>True) underlying61 aeA aa f p (λ_ g d i o _=>by
  obtain⟨t,q,_,_,_,u,l⟩:=υ underlying245 o;obtain⟨_,_,rfl⟩:=l2 (show U t=2 from u);obtain⟨_,_,rfl⟩:=l2 i;have g0:=l 0 _ G;have g1:=l 1 _ G;simp[DR,acO]at g0 g1;obtain⟨v,m,_⟩:=φ σ g0;obtain⟨x,n,_⟩:=DataW.trod_bool N8 g1;simp only[χ,M3]at m n;subst m n;exact⟨(v,x),G,trivial⟩)
 refine⟨c,b,a,G,⟨r,s,acB (λ_=>rfl) G k,Ya a,SS a G⟩,c,b,G,fD, ?_⟩;rcases k with f|⟨t,u,e,i,l⟩
 ·exact Ψ (Γ f)
 exact K4 ⟨t,u,e,i,λo m n=>⟨l o m n 0 _ G,l o m n 1 _ G⟩⟩
theorem Iw{α:Type}(g:α->ω)(q:α->Prop)(t)(B:∀b:ψ α,t (b.map g) (U b))(F:∀a,(g a).oneCell'=Φ){x e l u k}(p:ζ.underlying x=M (.slice e))(L:ζ.cellsOf e=1)(d:ξ enc ζ w base sp hd l x u=M k)(C:κ k.1<=1048576)(K:∀(o:ψ ω) (k:DataW H×ψ MemPlace) (l:K2),ξ enc ζ w base sp hd l e o=M k->∃a,o= [g a]/\q a):
  ∃(j:Ξ M0) (n:K2) (b:ψ α),u= [J j (U b) n]/\U b<=1048576/\iK t w 1 ⟨j,U b,n,b.map g⟩/\(∀a∈b,q a)/\(b= []\/∃c f,j=M (γ c f V)/\c<E (D w)/\∀(i:K2) (a:α),b[i]? =M a->β w ⟨c,f+i,V⟩=M (g a)):=by
 obtain⟨j,_,n,b,rfl,y,_,N,rfl,O,P⟩:=jS (λa:α=>[g a]) q p L aa d C (λo k l _ p _=>K o k l p);have z:U b=0\/∃c f,j=M (γ c f V)/\c<E (D w)/\∀(i:K2) (a:α),b[i]? =M a->β w ⟨c,f+i,V⟩=M (g a):=by
  rcases P with d|⟨c,f,e,r,s⟩
  ·exact Ψ d
  exact K4 ⟨c,f,e,r,λi a m=>by have:=s i a m 0 _ G;simpa using this⟩
 refine⟨j,n,b,G,y,⟨y,N,⟨ak, ?_⟩,λv m=>?_,B b⟩,O, ?_⟩
 ·rcases z with d|⟨c,f,e,r,s⟩
  ·exact Ψ d
  refine K4 ⟨c,f,e,r,λR v m=>?_⟩;dsimp only at m;rw[N2]at m;obtain⟨a,S,rfl⟩:=Option.map_eq_some_iff.mp m;exact s R a S
 ·obtain⟨a,_,rfl⟩:=O2.mp m;exact F a
 rcases z with d|d
 ·exact Ψ (Γ d)
 exact K4 d
theorem Ra{p l n}(y:U l=5)(x:ξ enc ζ w base sp hd p 63 l=M n)(m:κ n.1<=1048576):∃(g:Ξ M0) (f:K2) (c:Ξ M0) (oc:K2) (j:Ξ M0) (i:K2) (a:qD),l= [J g (U a.from_) f,δ (ae a.aL),J c (U a.outs) oc,J j (U a.order) i,Q ε a.bi]/\TR w g f c oc j i a:=by
 obtain⟨z,_,_,B,_,C,d⟩:=υ underlying63 x;subst B;obtain⟨_,_,_,_,_,rfl⟩:=l5 (show U z=5 from C);obtain⟨_,_,_,_,_,rfl⟩:=l5 y;have g0:=d 0 _ G;have g1:=d 1 _ G;have g2:=d 2 _ G;have q:=d 3 _ G;have r:=d 4 _ G;simp[aeK,yV,acs,aeI,DR]at g0 g1 g2 q r;obtain⟨g,f,F,k,K,L,N,O⟩:=QZ g0 (kX m ak);obtain⟨b,s,_,o⟩:=ν ρ g1;obtain⟨c,oc,t,u,_,P,R,S⟩:=Iw (λe:Bs=>δ (ae e)) (λe=>U e<=M5) KX (λe=>Dj (ls:=e) G) (λ_=>rfl) underlying52 yV g2 (kX m ak) (λ_ n p e=>by
  obtain⟨b,k,_,o⟩:=ν ρ e;exact⟨b.toList,by rw[k,<-oN b],by rw[aj];exact o⟩)
 obtain⟨j,i,T,e,W,X⟩:=VD q (kX m ak);obtain⟨qM,v,_⟩:=φ σ r;simp only[χ,M3]at k s u e v;subst k s u e v;exact⟨g,f,c,oc,j,i,⟨F,b.toList,t,T,qM⟩,by rw[<-oN b],⟨O,K,⟨c,oc,G,by show U t<=M5;unfold M5;omega,S⟩,X,by show U b.toList<=M5;rw[aj];exact o,N,R⟩,L,P,W⟩
theorem Ko{g f d}(c:ξ enc ζ w base sp hd g 23 f=M d)(i:κ d.1<=1048576):
  ∃(a0:Ξ M0) (l0 c0:K2),f= [J a0 l0 c0]/\l0<=1048576/\(l0=0\/∃a b,a0=M (γ a b V)/\a<E (D w)/\iO w a b l0):=by
 obtain⟨j,k,l,rfl,m,_,_,n⟩:=xu underlying23 aeB aa c i;refine⟨j,k,l,G,m, ?_⟩;rcases n with c|⟨a,b,e,o,p⟩
 ·exact Ψ c
 refine K4 ⟨a,b,e,o,λr q=>?_⟩;obtain⟨_,d,g,g1,g2,s,t⟩:=p r q;obtain⟨u,v,x,oc,y,z,B,rfl,C⟩:=Ra g1 s t;exact⟨u,v,x,oc,y,z,B,⟨g2 0 _ G,g2 1 _ G,g2 2 _ G,g2 3 _ G,g2 4 _ G⟩,C⟩
theorem Oi{p d j}(o:U d=3)(n:ξ enc ζ w base sp hd p 26 d=M j)(i:κ j.1<=1048576):
  ∃a0 l0 c0 a1 c c1 f q g,d= [J a0 l0 c0,J a1 c c1,J f q g]/\(l0<=1048576/\(l0=0\/∃a b,a0=M (γ a b V)/\a<E (D w)/\mf w a b l0))/\c<=1048576/\(c=0\/∃a b,a1=M (γ a b V)/\a<E (D w)/\iO w a b c):=by
 obtain⟨r,_,_,s,_,t,e⟩:=υ N6 n;subst s;obtain⟨_,_,_,rfl⟩:=l3 (show U r=3 from t);obtain⟨_,_,_,rfl⟩:=l3 o;have g0:=e 0 _ G;have g1:=e 1 _ G;have g2:=e 2 _ G;simp[aeG,aeJ,acr]at g0 g1 g2;obtain⟨a0,_,c0,k,u⟩:=QX g0 (kX i ak);obtain⟨a1,_,c1,l,v⟩:=Ko g1 (kX i ak);obtain⟨f,_,g,m⟩:=Rc underlying24 g2;simp only[χ,M3]at k l m;subst k l m;exact⟨_,_,_,_,_,_,_,_,_,G,u,v⟩
theorem VE{j o f}(i:ξ enc ζ w base sp hd j 27 o=M f)(K:κ f.1<=1048576):
  ∃n a cap,o= [J n a cap]/\a<=1048576/\(a=0\/∃c d,n=M (γ c d V)/\c<E (D w)/\Lh w c d a):=by
 obtain⟨L,a,N,rfl,O,_,_,P⟩:=xu N5 afD aa i K;refine⟨L,a,N,G,O, ?_⟩;rcases P with i|⟨c,d,e,R,S⟩
 ·exact Ψ i
 refine K4 ⟨c,d,e,R,λW T=>?_⟩;obtain⟨X,f,j,g1,g2,a0,a1⟩:=S W T;obtain⟨a2,_,_,a3,_,a4,b⟩:=υ underlying44 a0;subst a3;obtain⟨_,_,_,_,_,_,rfl⟩:=l6 (show U a2=6 from a4);obtain⟨_,_,_,_,_,_,rfl⟩:=l6 g1;have p:=b 0 _ G;have q:=b 1 _ G;have r:=b 2 _ G;have s:=b 3 _ G;have t:=b 4 _ G;have u:=b 5 _ G;simp[DR,yV,aeH]at p q r s t u;obtain⟨a5,g,_⟩:=φ σ p;obtain⟨a6,v,_,k⟩:=φ σ q;obtain⟨a7,x,_,l⟩:=φ σ r;obtain⟨a8,y,_⟩:=ν ρ s;obtain⟨a9,z,_⟩:=ν ρ t;obtain⟨B,C,b0,F,b1,b2,_,b3⟩:=Iw (λm:Int=>Q ε m) (λ_=>True) IZ (λb4=>JJ b4 G) (λ_=>rfl) underlying42 DR u (kX a1 ak) (λX f j b4=>by
  obtain⟨m,g,_⟩:=φ σ b4;exact⟨m,g,trivial⟩)
 simp only[χ,M3]at g v x y z F;subst g v x y z F;simp only[Lit.wf,N9,O1]at k l;exact⟨a5,a6,a7,a8,a9,B,C,b0,⟨g2 0 _ G,g2 1 _ G,g2 2 _ G,g2 3 _ G,g2 4 _ G,g2 5 _ G⟩,⟨k.1,k.2,l.1,l.2⟩,⟨B,C,G,b1,b3⟩,b2⟩
end
structure mE(w0 w:World)(wb:Nat)(a0:Option Addr)(l0 c0:Nat)(a1:Option Addr)(l1 c1:Nat)(g2:Value)(es ss:List TE):Prop where
 lo:Array.size (World.heap w0)<=wb
 FX:Below (Array.size (World.heap w0)) w0 w
 bk:∃sv,rF w wb (.slice a0 l0 c0) (.slice a1 l1 c1) g2 sv es/\qA w wb sv ss
 s0:l0<=1048576
 s1:l1<=1048576
 acn:l0=0\/∃b off,a0=some ⟨b,off,none⟩/\b<Array.size (World.heap w0)/\mf w0 b off l0
 afm:l1=0\/∃b off,a1=some ⟨b,off,none⟩/\b<Array.size (World.heap w0)/\iO w0 b off l1
section
variable {w0 w x w' : World} {wb : Nat} {a0 : Option Addr} {l0 c0 : Nat} {a1 : Option Addr} {l1 c1 : Nat} {g2 : Value} {es ss es' ss' : List TE} {e : Ending}
theorem mE.lt(a:mE w0 w wb a0 l0 c0 a1 l1 c1 g2 es ss):wb<E (D w):=by
 obtain⟨sv,b,_⟩:=a.bk;obtain⟨_,_,_,c,_⟩:=b.row;exact af c
theorem mE.next(a:mE w0 w wb a0 l0 c0 a1 l1 c1 g2 es ss)(b:ι wb w w')(c:∃sv,rF w' wb (J a0 l0 c0) (J a1 l1 c1) g2 sv es'/\qA w' wb sv ss'):mE w0 w' wb a0 l0 c0 a1 l1 c1 g2 es' ss':=
 ⟨a.lo,a.FX.trans (b.mono a.lo),c,a.s0,a.s1,a.acn,a.afm⟩
theorem mE.ah(a:mE w0 w wb a0 l0 c0 a1 l1 c1 g2 es ss)(b:Bl w w'):mE w0 w' wb a0 l0 c0 a1 l1 c1 g2 es ss:=
 a.next (b.mono (L1 a.lt)) (by obtain⟨sv,c,d⟩:=a.bk;exact⟨sv,c.ah b,d.ah b⟩)
theorem Bu.pre{g0 g1}(g:wb<E (D w))(a:Bl w x)(f:Bu x wb g0 g1 g2 es ss e w'):Bu w wb g0 g1 g2 es ss e w':=by
 obtain⟨i,j,k,l⟩:=f;refine⟨i,(a.mono (L1 g)).trans j,λc o m p b n=>?_,l⟩;have d:=a.block c (aH b);exact(k c o m p (d.trans b) n).trans d
theorem Vz(a:mE w0 w wb a0 l0 c0 a1 l1 c1 g2 es ss)(q:U es<=11000000)(r:U ss<=2900000)(j x k)(B:j=6\/j=7)(c: -9223372036854775808<=x/\x<=9223372036854775807/\ -9223372036854775808<=k/\k<=9223372036854775807)(g i f d b)(y:aY w (J f (U b) d) b)(z:iK IZ w 1 ⟨f,U b,d,aA b⟩):
  Θ ζ 13 #[K1 (M (γ wb 0 V)),K0 #[Q ε j,Q ε x,Q ε k,δ g,δ i,J f (U b) d]] w λe w'=>Bu w wb (J a0 l0 c0) (J a1 l1 c1) g2 es ss e w':=by
 obtain⟨sv,l,o⟩:=a.bk;obtain⟨_,_,_,p,_⟩:=l.row;by_cases C:l0=0\/l1=0
 ·exact(Kl (aC p) (aC p) (af p) C j x k g i f (U b) d).mono λe w' ⟨m,hb⟩=>EX l o m hb
 obtain⟨_,_,rfl,s,t⟩:=a.acn.resolve_left aa;obtain⟨_,_,rfl,u,v⟩:=a.afm.resolve_left aa;obtain⟨m,rfl⟩:∃m,g=ae m:=⟨g.toList,oN g⟩;obtain⟨n,rfl⟩:∃n,i=ae n:=⟨i.toList,oN i⟩;have:=a.FX.size;rcases B with rfl|rfl
 ·exact Cb (K5 _ _) l o q r aa a.s0 aa (t.ah a.FX s) aa a.s1 aa (v.ah a.FX u) 6 c.1 c.2.1 c.2.2.1 c.2.2.2 m n f (U b) d (Ψ ⟨G,b,G,y,z⟩)
 exact Cb a.FX l o q r aa a.s0 s t aa a.s1 u v 7 c.1 c.2.1 c.2.2.1 c.2.2.2 m n f (U b) d (K4 ⟨G,a.lo⟩)
theorem ZE(i:mE w0 w wb a0 l0 c0 a1 l1 c1 g2 es ss)(o:U es<=11000000)(p:U ss<=2900000)(b x f)(n:b=6\/b=7)(q: -9223372036854775808<=x/\x<=9223372036854775807/\ -9223372036854775808<=f/\f<=9223372036854775807)(j k d c a)(l:aY w (J d (U a) c) a)(m:iK IZ w 1 ⟨d,U a,c,aA a⟩):
  Θ ζ 7 #[K1 (M (γ wb 0 V)),K0 #[Q ε b,Q ε x,Q ε f,δ j,δ k,J d (U a) c]] w λe w'=>Bu w wb (J a0 l0 c0) (J a1 l1 c1) g2 es ss e w':=by
 have g:=ai w (η #[Q ε b,Q ε x,Q ε f,δ j,δ k,J d (U a) c] 44);have r:=Vz (i.ah g) o p b x f n q j k d c a (l.ah g) (m.ah g);have s:=i.lt;clear i l m;rcases n with rfl|rfl
 iterate 2
  ·go_enter func7,ntmps7;go_wp2_with(go_at_call 13;refine cB r ?_;rintro _ i);go_ret;exact Bu.pre s g ⟨G,i⟩
end
theorem Su{w:ο}{wb g0 g1 g2}(b:w.heap[wb]? =M (η #[g0,g1,g2,J V 0 0,J V 0 0,J V 0 0,J V 0 0,J V 0 0] 40 (0,0))):∃sv,rF w wb g0 g1 g2 sv []/\qA w wb sv []:=
 ⟨_,⟨⟨V,0,0,b,K6 _ _ _ _⟩,λc e a=>by simp at a⟩,K6 _ _ _ _,λc e a=>by simp at a⟩
theorem NW(w a0 a1 k a9){l0}(c0){l1}(c1 l2 l){m}(cap)(e6:m<=1048576)(b9:l0<=1048576)(c2:l1<=1048576)(b0:l0=0\/∃a c,a0=M (γ a c V)/\a<E (D w)/\mf w a c l0)(b1:l1=0\/∃a c,a1=M (γ a c V)/\a<E (D w)/\iO w a c l1)(F:m=0\/∃a c,a9=M (γ a c V)/\a<E (D w)/\Lh w a c m):
  Θ ζ 4 #[K0 #[J a0 l0 c0,J a1 l1 c1,J k l2 l],J a9 m cap,Q ε 6,Q ε 7] w (RB (L6 Φ) w):=by
 change L7 _ at b0;change L7 _ at b1;go_enter func4,ntmps4;go_wp2_with(first
  |(go_at_call 5;refine(abd).mono ?_;rintro e d ⟨rfl,v,⟨t,K⟩,N,P⟩)
  |(go_at_call 6;refine(Vj).mono ?_;rintro e R ⟨rfl,s,g,O,L,y⟩))
 have b:Bl w d:=((K5 _ w).alloc (K3 _) _).trans (v.mono ek);have c3:=v.size;have c4:=s.size;simp only[N4]at O L y c3 c4 t K N P;have f:mE d (d.alloc (η #[J (M ⟨E (D w)+1+16,0,V⟩) 2 2,J (M ⟨E (D w)+1+17,0,V⟩) 1 1,J (M ⟨E (D w)+1+19,0,V⟩) 1 1,J V 0 0,J V 0 0,J V 0 0,J V 0 0,J V 0 0] 40)) (E (D d)) (M ⟨E (D w)+1+16,0,V⟩) 2 2 (M ⟨E (D w)+1+17,0,V⟩) 1 1 (J (M ⟨E (D w)+1+19,0,V⟩) 1 1) [] []:=
  ⟨K3 _,ai d _,Su (θ d _),aa,aa,K4 ⟨_,_,G,t,K⟩,K4 ⟨_,_,G,N,P⟩⟩
 have S:=f.ah s;have b2:Bl w R:=(b.alloc b.size _).trans (s.mono vK);have T:R.heap[E (D w)]? =M (η #[J a0 l0 c0,J a1 l1 c1,J k l2 l] 26 (0,0)):=
  (s.block _ vK).trans ((Below.heap_alloc _ _ _ aa).trans ((v.block _ ek).trans (θ w _)))
 clear v s b f K t N P;go_loopw [11] (λj wr=>∃(b:K2) (es ss:ψ TE),b<=9/\j=Q ε b/\U es<=8*b/\U ss<=2*b/\mE d wr (E (D d)) (M ⟨E (D w)+1+16,0,V⟩) 2 2 (M ⟨E (D w)+1+17,0,V⟩) 1 1 (J (M ⟨E (D w)+1+19,0,V⟩) 1 1) es ss/\ι (E (D d)) R wr/\wr.heap[E (D d)+1+1]? =M (η g 44 (0,0))/\wr.heap[E (D d)+1]? =M (η #[Q ε 0] 3 (0,0))) (λj _=>9-(M9 j).toNat)
 ·exact⟨0,[],[],aa,G,ak,ak,S,K5 _ _,O,L⟩
 obtain⟨b,es,ss,_,rfl,_,_,q,n,o,r⟩:=hrel;have c5:=n.size;have:=aH o;by_cases c6:b<9
 ·clear F T;obtain⟨f,x,W,X,a2,a3,a4,a5,⟨b3,b4,b5,b6,b7,b8⟩,a6,g,i⟩:=(y wr o r) b c6;simp only[M4]at b3 b4 b5 b6 b7 b8;clear y S;by_cases c7:f<6
  ·clear g i
   go_wp2
   go_roundw
   ·exact⟨b+1,es,ss,aa,aP,aa,aa,q,n,o,r⟩
   simp[M9];omega
  by_cases c8:7<f
  ·clear g i
   go_wp2
   go_roundw
   ·exact⟨b+1,es,ss,aa,aP,aa,aa,q,n,o,r⟩
   simp[M9];omega
  have u:f=6\/f=7:=aa;have a7:=ZE q aa aa f x W u a6 X a2 a3 a4 a5 g i;have p:L7 _:=q;clear q g i;rcases u with rfl|rfl
  iterate 2
   ·go_wp2_with(go_at_call 7;refine a7.mono ?_;rintro e e2 ⟨rfl,z,a8,e1,es',ss',c9,e0,B⟩);go_roundw
    ·exact⟨b+1,es',ss',aa,aP,aa,aa,p.next z ⟨_,B⟩,n.trans z,(a8 _ _ _ _ o ag).trans o,(a8 _ _ _ _ r ag).trans r⟩
    simp[M9];omega
 generalize p:wr=wq at*;clear p;have C:=(n.block _ aa).trans T;have e3:β wq (γ (E (D w)) 0 V)=M (J a0 l0 c0):=(yZ C).trans G;have e4:β wq (γ (E (D w)) 1 V)=M (J a1 l1 c1):=(yZ C).trans G;have e5:β wq (γ (E (D w)) 2 V)=M (J k l2 l):=(yZ C).trans G;have p:Bl w wq:=b2.trans (n.mono aa);clear y n T C b2 S q o O r L;obtain⟨C,o⟩:=au (wq.alloc (η #[J a0 l0 c0,J a1 l1 c1,J k l2 l,J V 0 0,J V 0 0,J V 0 0,J V 0 0,J V 0 0] 40));have S:mE wq C (E (D wq)) a0 l0 c0 a1 l1 c1 (J k l2 l) [] []:=by
  refine⟨K3 _,by rw[o];exact ai wq _,Su (by rw[o];exact θ wq _),b9,c2, ?_, ?_⟩
  ·rcases b0.out with n|⟨a,c,e,q,r⟩
   ·exact Ψ n
   exact K4 ⟨a,c,e,cz p.size,r.ah p q⟩
  rcases b1.out with n|⟨a,c,e,q,r⟩
  ·exact Ψ n
  exact K4 ⟨a,c,e,cz p.size,r.ah p q⟩
 have r:∀q:ο->Prop,q C->q (wq.alloc (η #[J a0 l0 c0,J a1 l1 c1,J k l2 l,J V 0 0,J V 0 0,J V 0 0,J V 0 0,J V 0 0] 40)):=by intro q n;rw[<-o];exact n
 clear o;go_wp2_with fail;go_loopw [14] (λj o=>∃(b:K2) (es ss:ψ TE),b<=m/\j=Q ε b/\U es<=8*b/\U ss<=2*b/\mE wq o (E (D wq)) a0 l0 c0 a1 l1 c1 (J k l2 l) es ss) (λj _=>m-(M9 j).toNat)
 ·exact⟨0,[],[],Nat.zero_le _,G,ak,ak,r (λx=>mE wq x (E (D wq)) a0 l0 c0 a1 l1 c1 (J k l2 l) [] []) S⟩
 clear e3 e4 e5 r S;obtain⟨o,r,S,_,rfl,_,_,j⟩:=hrel;have:=j.FX.size;have T:=p.size;by_cases t:o<m
 ·rcases(id F)with n|⟨a,c,rfl,e3,b2⟩
  ·omega
  obtain⟨f,x,W,X,a2,a3,a4,a5,⟨b3,b4,b5,b6,b7,b8⟩,a6,g,i⟩:=(b2.ah (p.trans (j.FX.mono T)) e3) o t;have c5:a<E (D wr):=aa;clear F b2;by_cases c7:f<6
  ·clear g i
   go_wp2
   go_roundw
   ·exact⟨o+1,r,S,aa,aP,aa,aa,j⟩
   simp[M9];omega
  by_cases c8:7<f
  ·clear g i
   go_wp2
   go_roundw
   ·exact⟨o+1,r,S,aa,aP,aa,aa,j⟩
   simp[M9];omega
  have u:f=6\/f=7:=aa;have a7:=ZE j aa aa f x W u a6 X a2 a3 a4 a5 g i;have e4:L7 _:=j;clear j g i;rcases u with rfl|rfl
  iterate 2
   ·go_wp2_with(first
     |(go_at_call 7;refine a7.mono ?_;rintro e e2 ⟨rfl,z,a8,e1,es',ss',c9,e0,B,b2⟩)
     |(go_at_call 8;refine cB (Cy B b2 aa aa) ?_;rintro _ e5))
    go_roundw
    ·exact⟨o+1,es',ss',aa,aP,aa,aa,(e4.next z ⟨_,B,b2⟩).ah e5⟩
    simp[M9];omega
 have f:=p.trans (j.FX.mono T);clear j
 go_wp2
 go_ret;exact⟨G,f⟩
theorem QR{w a0 a1}(g){k l0}(c0){l1}(c1 l2 i){j}(cap)(q:j<=1048576)(o:l0<=1048576)(p:l1<=1048576)(l:l0=0\/∃a b,a0=M (γ a b V)/\a<E (D w)/\mf w a b l0)(n:l1=0\/∃a b,a1=M (γ a b V)/\a<E (D w)/\iO w a b l1)(m:j=0\/∃a b,k=M (γ a b V)/\a<E (D w)/\Lh w a b j):
  Θ ζ 3 #[K0 #[J a0 l0 c0,J a1 l1 c1,J g l2 i],J k j cap] w (RB (L6 Φ) w):=by
 have c:=ai w (η #[J a0 l0 c0,J a1 l1 c1,J g l2 i] 26);have:=c.size;have r:=NW (w.alloc (η #[J a0 l0 c0,J a1 l1 c1,J g l2 i] 26)) a0 a1 g k c0 c1 l2 i cap q o p (l.imp id λ⟨a,b,d,e,f⟩=>⟨a,b,d,aa,f.ah c e⟩) (n.imp id λ⟨a,b,d,e,f⟩=>⟨a,b,d,aa,f.ah c e⟩) (m.imp id λ⟨a,b,d,e,f⟩=>⟨a,b,d,aa,f.ah c e⟩);clear l n m;go_enter L4,ntmps3;go_wp2_with(go_at_call 4;refine cB r ?_;rintro _ l);go_ret;exact⟨G,bT c l⟩
theorem adR:ownKnob ζ.godebug=V:=aF
theorem Tq:laidOutB ζ=Φ:=aF
theorem adQ(a){args}:laidMetH ζ gu.laid ((L3 ζ 62 a).forCall (λ_ _=>0) ⟨#[],args,[]⟩).memory:=
 laidMetH_of_parts3 (fuel:=8) (laidMet_of_run' 8 aF aF) aF aF
theorem Zc(a){H:Type}(enc:O8×ω->H):∃b,DataW.whole enc ζ ((L3 ζ 62 a).forCall (λ_ _=>0) ⟨#[], #[K0 #[J V 0 0,J V 0 0,J V 0 0],J V 0 0],[]⟩).memory G5.params.toList yC.vars L9 #[K0 #[J V 0 0,J V 0 0,J V 0 0],J V 0 0].toList 8=M ([.agg [.nil,.nil,.nil],.nil],[],b):=
 ⟨[],aF⟩
theorem Vv{f:Os}(a4:f.Started)(H:Type)(enc:O8×ω->H)(F:Stop.Interp):
  ReturnsInHanded {} M2 f 3 .any (yC.preRow enc ζ G5 gu.domain L9 gu.laid) ((yC.at F).post enc ζ G5 L9 Φ L9 L9):=by
 obtain⟨_,a5⟩:=Zc f enc;refine returnsInHanded_of_row (C:=M2) (s:=yC) adR a4 aF L4
  (witness_row_atRef (enc:=enc) (C:=M2) L9 (L3 ζ 62 f) #[K0 #[J V 0 0,J V 0 0,J V 0 0],J V 0 0] G aF aF aF
   (OpenSpec.preRow_of_cond 8 a5 aF (λ_ l=>by cases l;kernel_rfl) aF (adQ f))) ?_
 intro a base args u a6 _ w y _ a7 _ _ _ _;have m:∀(z:K2) t v,G5.params[z]? =M t->args[z]? =M v->Value.okWide ζ a .any base t v:=w;have a8:=y;have l:Rows.uptoSmall H (u++a6)=Φ:=a7 _ G;obtain⟨a9,_,B,b0,rfl,_,_⟩:=y;have K:DataW.TrodAll enc ζ a 0 (λ_=>Φ) Φ G5.params.toList args.toList u a9:=B;rw[O4]at K m;obtain⟨L,_,N,_,O,_,_,rfl,rfl,P,b1⟩:=trodAll_cons K;obtain⟨R,_,S,_,T,_,rfl,rfl,rfl,W,b2⟩:=trodAll_cons b1;obtain⟨rfl,rfl,rfl⟩:=trodAll_nil b2;obtain rfl:args= #[L,R]:=by cases args;simp_all
 obtain⟨rfl,rfl⟩:=trodVars_none b0;have b3:=Ω l;simp only[List.append_nil,Rows.uptoBulkAll]at b3;obtain⟨n,rfl,b4⟩:=okWide_struct N6 (m 0 26 L G G);have X:=P;have b5:∀x∈O,x.block<E (D a):=by obtain⟨o,p⟩:=X;exact O0 o _ _ _ p
 obtain⟨a0,l0,c0,a1,d,c1,g,i,j,b6,⟨b7,b8⟩,b9,c2⟩:∃a0 l0 c0 a1 d c1 g i j,n= #[J a0 l0 c0,J a1 d c1,J g i j]/\(l0<=1048576/\(l0=0\/∃b c,a0=M ⟨b,c,V⟩/\b<E (D a)/\mf a b c l0))/\d<=1048576/\(d=0\/∃b c,a1=M ⟨b,c,V⟩/\b<E (D a)/\iO a b c d):=by
  obtain⟨q,r⟩:=P;have k:U n.toList=3:=by rw[Array.length_toList,b4];kernel_rfl
  have s:ξ enc ζ a 0 (λ_=>Φ) Φ q 26 n.toList=M (N,O):=by simpa[O3]using r
  obtain⟨a0,l0,c0,a1,d,c1,g,i,j,e,a2⟩:=Oi k s (show κ N<=1048576 by omega);exact⟨a0,l0,c0,a1,d,c1,g,i,j,by rw[<-Array.toList_inj];exact e,a2⟩
 subst b6;obtain⟨a2,k,cap,rfl⟩:=okWide_slice N5 (m 1 27 R G G);have a3:=W;have c3:∀x∈T,x.block<E (D a):=by obtain⟨o,p⟩:=a3;exact O0 o _ _ _ p
 obtain⟨c4,c5⟩:k<=1048576/\(k=0\/∃b c,a2=M ⟨b,c,V⟩/\b<E (D a)/\Lh a b c k):=by
  obtain⟨q,r⟩:=W;have s:ξ enc ζ a 0 (λ_=>Φ) Φ q 27 [J a2 k cap]=M (S,T):=by simpa[O3]using r
  obtain⟨_,_,_,e,g1,g2⟩:=VE s (show κ S<=1048576 by omega)
  cases e;exact⟨g1,g2⟩
 clear B w;refine(QR g c0 c1 i j cap c4 b7 b9 b8 c2 c5).mono λe s ⟨q,jH⟩=>?_;subst q;exact⟨_,G,_,_,_,[],_,[],a8,trodAll_mk1 (shut_bool N8 _),(O6 (O5 Tq aF (Ω aF) X jH b5) (O6 (O5 Tq aF (Ω aF) a3 jH c3) trodAll_mk0)),G,jH.frame _,λr=>by cases r⟩
theorem abG:Tryz.pinned.checked.prog.funcNamed gu.func=M 3:=aF
theorem abF:G5.isInstance Tryz.pinned.checked.prog gu.origin gu.targs:=Ω aF
theorem abI:G5.isWrapper Tryz.pinned.checked.prog gu.wrapper gu.mainSum:=by
 unfold Func.isWrapper;first|(rw[if_pos (by decide+kernel)];kernel_rfl)|(rw[if_neg (by decide+kernel)];exact⟨G,G⟩)
theorem Za:gu.holds Tryz.pinned yC:=
 OpenClaim.holds_of_cond 3 G5 G G G G G G G ⟨G,G,G,G,G⟩ G G G G G abG L4 Vu abF abI
  (λ_ a H enc _ F=>by rw[OpenClaim.pre_eq_preRow];exact Vv a H enc F)
theorem abH:L0.holds Tryz.pinned (Rows.OpenSpec.upto Rows.plansSpec):=FP (c:=gu) G G G aF Za
theorem afb:Φ=L0.goesBy Tryz.pinned.checked.prog:=by
 have a:ζ.unfollowed 3=Φ:=by
  have:=Zb;rw[beq_iff_eq]at this;exact this.symm
 have:ζ.goesFrom "curtain/curtainlaw.Plans" =Φ:=by
  unfold Program.goesFrom;rw[acy,Option.any_some,XJ a]
 have e:L0.func= "curtain/curtainlaw.Plans" :=G;have b:Tryz.pinned.checked.prog.goesFrom "curtain/curtainlaw.Plans" =Φ:=this;unfold OpenClaim.goesBy Program.goesAt;rw[e,b,Bool.true_or]
theorem plans_upto_card_holds:Rows.PlansUptoCardSaid:=
 CF Φ
  abH aft plansUpto_row_tie G ⟨G,G⟩ afN G
  (λc d e f=>by
   obtain rfl:c=3:=Option.some.inj (acy.symm.trans e) |>.symm;obtain rfl:d=G5:=(Option.some.inj (L4.symm.trans f)).symm;exact⟨afr,λ_ a b=>by
    rw[O4]at b;have g:a∈ [26,27]:=by simpa using Array.mem_of_getElem? b
    exact(show ζ.wantsStandIn a=L9 by simpa using List.all_eq_true.1 afs a g)⟩)
  afb
#print axioms plans_upto_card_holds
end Go.Proofs.YthkeffolmbnkaaaGreatDoor

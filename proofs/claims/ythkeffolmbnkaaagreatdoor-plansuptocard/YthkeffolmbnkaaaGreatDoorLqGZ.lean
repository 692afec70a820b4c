import Derived.Test.YthkeffolmbnkaaaGreatDoorWkFZ
import Derived.Deep.OwnRows
import Derived.Deep.AppendLies
import Derived.Deep.RegionHeld
import Derived.Deep.CutBlock
set_option linter.unusedVariables false
set_option linter.unusedSimpArgs false
set_option maxRecDepth 100000
set_option maxHeartbeats 0
open Array renaming size->M,getElem?_modify->ψ,length_toList->E6,getElem?_setIfInBounds->G2,getElem?_eq_some_iff->J7
open Bool renaming true->E2,false->E3
open Go renaming Value->Z,World->η,heap_alloc_new->ν,info_parts->C0,Calls->E7,TypeId->F1,Addr->F3,wpList_append_lies->H8,binOp->I6,wpList_plain->J3,setRow_other->J4,bodyPost_ret->J5,wpList->J8,step_append_lies->J9,TypeInfo->K5,setRow_heap->L8,run_equal_slice_nil->M0,run_loadCells_list->M3,execOp->M4,run_append_own_at->M8,results->M9,Program->N4,Operand->N5,run_append_room->O1,run_append_grow->O2,wpAnyH->O3,size_madeCells->O4,run_underlying->O5,run_append_nil->O6,growslice_fits->O7,Act->O8,resolve->O9,builtin->P0,Exit->P1,wpAnyH_take->P2,invoke->P3,Ending->P4
open Go.Addr renaming mk->H
open Go.Builtin renaming copy_->J6,firstCells->K6,append_->K9,lenOf->L7
open Go.Ending renaming returned->I3
open Go.IntKind renaming i64->μ
open Go.Obj renaming cells->ζ
open Go.Proofs.Tryz renaming prog->ρ,underlying42->F2,underlying87->H4,underlying57->H5,underlying52->H6,underlying51->H7,underlying24->I7,underlying64->L4,ntmps60->N0,ntmps59->N1,ntmps58->N2,ntmps30->N3,func60->N6,func59->N7,func58->N8,func30->N9
open Go.Proofs.YthkeffolmbnkaaaGreatDoor renaming aa->I,ag->Y
open Go.Region renaming noSelect->L3,wanted->L9,ready->M1,free->M6
open Go.Result renaming andThen_ok->K7,andThen->L6
open Go.RowKit renaming Below->Ω,Hid->G1,intOf->G3
open Go.RowKit.Below renaming heap_setCell->β,refl->θ,heap_alloc->F7
open Go.Value renaming slice->V,string->γ,int->ξ,bool->D4,pointer->E0,agg->I0
open Go.World renaming heap->E,cell?->α,frozen?->δ,news_of_block->ο,setCell->Ξ,ownsRow_nil->H0,setRow->M5
open Go.World.ownsRow renaming lt->Ψ,alloc->D0,cellAt->D2,drew->E1,cells->J1
open List renaming length->Q,getElem?_append_right->ι,getElem?_append_left->κ,getElem?_eq_some_iff->σ,getElem?_eq_getElem->τ,length_append->φ,mem_append_left->Γ,replicate->Δ,mem_of_getElem?->Φ,length_replicate->D5,not_mem_nil->E4,length_take->E5,append_nil->E8,getElem?_replicate->F0,mem_append_right->F5,getElem?_eq_none->F6,mem_cons->G0,getElem?_drop->G7,pairwise_iff_getElem->G9,flatMap_cons->H1,append_assoc->H2,take_of_length_le->H9,getElem?_take->I5,getElem?_take_of_lt->K2,getElem?_cons_zero->K3,getElem?_cons_succ->K4,mem_singleton->K8,take_add_one->L1,ext_getElem?->L2,map_toArray->L5,map_cons->M2,map_nil->M7
open Nat renaming le_refl->ε,zero_le->χ,lt_of_lt_of_le->D3,min_eq_left->E9,min_eq_right->F9,zero_add->I1,lt_or_ge->I2,mul_one->I4,zero_mul->I8,sub_self->I9,add_zero->J0,eq_or_lt_of_le->L0,mod_one->O0
open Option renaming some->J,none->U
open Option.some renaming inj->G8
open Or renaming inl->F4,inr->G6
open _root_ renaming rfl->D,Nat->G,if_pos->υ,List->ω,if_neg->Θ,Option->D1,dif_pos->F8,Array->G4,dif_neg->G5,Int->H3,or_false->J2,ByteArray->K1
namespace Go.Proofs.YthkeffolmbnkaaaGreatDoor
open Go.Proofs.Tryz
open Go.RowKit
variable{c:Addr}{B:Array Bool}{p:Array Oper}{t:Int}{S:Obj}{o:Oper}{d L W:Option Addr}{O:Region.Mode}
def uM(z:G)(ov:G->Z)(orig:G->Z)(K0 K j:G):Z:=if K0<=j/\j<K then ov (j % z)else orig j
theorem ny{e}{d c:G->Z}{a b}:uM e d c a a b=c b:=by
 unfold uM;rw[Θ I]
theorem Ew{j:η}{d f g}{c i:G->Z}{b a}(m:j.rowIs d g f (uM 1 c i b a))(n:b<=a):(j.setCell (H d a U) (c 0)).rowIs d g f (uM 1 c i b (a+1)):=by
 refine(m.set a (c 0)).congr λe _=>?_;unfold uM;by_cases k:e=a
 ·subst k;rw[υ D,υ I,O0]
 rw[Θ k];by_cases l:b<=e/\e<a
 ·rw[υ l,υ I]
 rw[Θ l,Θ I]
theorem zJ{i:η}{c e f}{d g:G->Z}{K0 a a0 a1 a2}(n:i.rowIs c f e (uM 3 d g (K0*3) (a*3)))(r:K0<=a)(o:a0=d 0)(p:a1=d 1)(q:a2=d 2):(((i.setCell ⟨c,a*3,U⟩ a0).setCell ⟨c,a*3+1,U⟩ a1).setCell ⟨c,a*3+2,U⟩ a2).rowIs c f e (uM 3 d g (K0*3) ((a+1)*3)):=by
 subst o p q;refine(((n.set (a*3) _).set (a*3+1) _).set (a*3+2) _).congr λb _=>?_;unfold uM;by_cases j:b=a*3+2
 ·rw[υ j,υ I,show b % 3=2 by omega]
 rw[Θ j];by_cases k:b=a*3+1
 ·rw[υ k,υ I,show b % 3=1 by omega]
 rw[Θ k];by_cases l:b=a*3
 ·rw[υ l,υ I,show b % 3=0 by omega]
 rw[Θ l];by_cases m:K0*3<=b/\b<a*3
 ·rw[υ m,υ I]
 rw[Θ m,Θ I]
theorem YP{g:η}{c d e}{ov f:G->Z}{K0 a a0 a1 a2 a3 a4 a5}(p:g.rowIs c e d (uM 6 ov f (K0*6) (a*6)))(w:K0<=a)(q:a0=ov 0)(r:a1=ov 1)(s:a2=ov 2)(t:a3=ov 3)(u:a4=ov 4)(v:a5=ov 5):
  ((((((g.setCell ⟨c,a*6,U⟩ a0).setCell ⟨c,a*6+1,U⟩ a1).setCell ⟨c,a*6+2,U⟩ a2).setCell ⟨c,a*6+3,U⟩ a3).setCell ⟨c,a*6+4,U⟩ a4).setCell ⟨c,a*6+5,U⟩ a5).rowIs c e d (uM 6 ov f (K0*6) ((a+1)*6)):=by
 subst q r s t u v;refine((((((p.set (a*6) _).set (a*6+1) _).set (a*6+2) _).set (a*6+3) _).set (a*6+4) _).set (a*6+5) _).congr λb _=>?_;unfold uM;by_cases i:b=a*6+5
 ·rw[υ i,υ I,show b % 6=5 by omega]
 rw[Θ i];by_cases j:b=a*6+4
 ·rw[υ j,υ I,show b % 6=4 by omega]
 rw[Θ j];by_cases k:b=a*6+3
 ·rw[υ k,υ I,show b % 6=3 by omega]
 rw[Θ k];by_cases l:b=a*6+2
 ·rw[υ l,υ I,show b % 6=2 by omega]
 rw[Θ l];by_cases m:b=a*6+1
 ·rw[υ m,υ I,show b % 6=1 by omega]
 rw[Θ m];by_cases n:b=a*6
 ·rw[υ n,υ I,show b % 6=0 by omega]
 rw[Θ n];by_cases o:K0*6<=b/\b<a*6
 ·rw[υ o,υ I]
 rw[Θ o,Θ I]
theorem Ua{e c:η}{a b}(f:Ω a e c)(i:a<=b){d}:Ω a e (c.setRow b d):=
 f.trans ⟨D,D,D,by simp[M5],λg _=>J4 c b g d I⟩
theorem aH{w:η}{k}(a:w.heap[k]? =J S):k<M (E w):=(J7.1 a).1
theorem wZ{g i:η}{b f size e}{d:Z}{j}(c:g.ownsRow b e size d f j)(k:∀a,d.ownBlock=J a->i.heap[a]? =g.heap[a]?):i.ownsRow b e size d f j:=by
 refine⟨c.1, ?_⟩;rcases c.2 with c|⟨a,cap,l,rfl,m,n,c⟩
 ·exact F4 c
 exact G6 ⟨a,cap,l,D,m,by rw[k a D];exact n,c⟩
theorem yU{e C d:η}{b k N F m x B a t s q i w O}{u:G4 Z}(v:e.heap[b]? =J (ζ u i (0,0)))(own:e.ownsRow (b+1) q x (V a t s) m w)(j:Bl e C)(l:C.grownBy d (V a t s).ownBlock)(S:d.ownsRow (b+1) q x (V (J (H N 0 U)) (m+1) F) (m+1) (w++O))(n)(R:B<=b):
  d.heap[b]? =J (ζ u i (0,0))/\(d.setCell (H b k U) n).heap[b]? =J (ζ (u.setIfInBounds k n) i (0,0))/\
  (d.setCell (H b k U) n).ownsRow (b+1) q x (V (J (H N 0 U)) (m+1) F) (m+1) (w++O)/\Ω B e (d.setCell (H b k U) n)/\
  ∀(g:G) (K:G4 Z) (r:F1) (L:G×G),e.heap[g]? =J (ζ K r L)->r≠q->r≠i->(d.setCell (H b k U) n).heap[g]? =e.heap[g]? :=by
 have T:=aH v;have:=l.size;have:=j.size;have W:(V a t s).ownBlock≠J b:=λc=>cz ((own.lt _ c).1);have ah:∀f,f<M (E e)->(V a t s).ownBlock≠J f->d.heap[f]? =e.heap[f]? :=λf y z=>
  (l.block f I (λc=>z c.symm)).trans (j.block f y)
 have P:d.heap[b]? =J (ζ u i (0,0)):=(ah b T W).trans v;refine⟨P,by simp[Ξ,ψ,P],ownsRow_setCell_below S (by show b<b+1;omega) _, ?_,λg K r L o y z=>?_⟩
 ·suffices p:Ω B e d from p.setCell (p:=(H b k U)) R _
  refine⟨l.os.trans j.os,l.tape.trans j.tape,l.output.trans j.output,I,λf _=>?_⟩;exact ah f I (λc=>cz ((own.lt _ c).1))
 have X:g≠b:=λc=>by subst c;rw[v]at o;cases o;exact z D
 rw[β _ _ _ _ X];refine ah g (aH o) λc=>?_;rcases own.2 with⟨p,_⟩|⟨_,_,_,p,_,a0,_⟩
 ·rw[p]at c;cases c
 rw[p]at c;cases c;rw[a0]at o;cases o;exact y D
theorem gm{e j:η}{b l n d i k}(g:e.ownsRow b d l i n k)(p:∀(a:G) (m:G4 Z) (o:G×G),e.heap[a]? =J (ζ m d o)->j.heap[a]? =e.heap[a]?):j.ownsRow b d l i n k:=
 wZ g λa c=>by
  rcases g.2 with⟨f,_⟩|⟨_,_,_,f,_,q,_⟩
  ·rw[f]at c;cases c
  rw[f]at c;cases c;exact p _ _ _ q
section
variable {P : Program}
theorem dx(e){rest}{a:O8}{m:P1->O8->η->Prop}(z:o.guard=U)(l n:N5)(k)(F:o.op=Op.makeSlice k l n)(g)(d:K5)(c:Z)(L:P.underlying k=J (.slice g))(B:P.info? g=J d)(N:d.zero=J c)(s r:IntKind)(b:G)(j:H3)(C:a.eval l=ξ s j)(y:a.eval n=ξ r j)(x:j=(b:H3))(T:d.bytes*b<=281474976710656)(S:b<=9223372036854775807)(t:G)(K:d.size=t)(w:∀i q,M (E i)=M (E e)+1->Bl e i->i.rowIs (M (E e)) g (b*t) q->G1 (∀f,q f=c.cells[f % c.cells.size]!)->J8 P p m rest (a.put o.dst (V (J (H (M (E e)) 0 U)) b b)) i):
  J8 P p m (o::rest) a e:=by
 subst K x;refine J3 z λ_ O=>?_;have R:(d.bytes:H3)*(b:H3)<=281474976710656:=by
  have u:((d.bytes*b:G):H3)<=281474976710656:=I
  rwa[Int.natCast_mul]at u
 have u:=run_make (P:=P) e k g d c L B N s r b b I (Int.le_refl _) R I;simp only[Int.toNat_natCast]at u;unfold Oper.wp;simp[M4,F,C,y,u,L6];refine O _ _ (w _ (λf=>c.cells[f % c.cells.size]!) ek ((θ _ e).alloc (ε _) _) ?_ (λ_=>rfl));have:=World.rowIs_alloc e (madeCells c.cells (b*d.size)) g (λf=>c.cells[f % c.cells.size]!) (λf v=>by
  rw[O4]at v;simp[madeCells,v])
 rwa[O4]at this
def tJ(cs:ω Z)(f:G->Z)(j:G):Z:=if h:j<Q cs then cs[j]else f j
theorem Ro(c:η)(z a1 a2 u f t R v e a0 o s)(B:G->Z)(n a)(L:P.underlying z=J (.slice u))(K:(P.info? u).map (·.size)=J o)(C:c.rowIs f n s B)(F:e<=t)(W:Q a=e*o)(X:e=0\/∃b i,v=J (H b i U)/\∀d j,a[d]? =J j->α c ⟨b,i+d,U⟩=J j)(T:Q a<=s)(S:∀j∈a,j.oneCell'=E2):
  ∃l,(J6 #[z,a1] a2 #[V (J (H f 0 U)) t R,V v e a0]).run P c=.ok (goInt e) l/\M (E l)=M (E c)/\l.rowIs f n s (tJ a B)/\(∀(k:G) (y:η),k<=f->Ω k y c->Ω k y l)/\∀g,g≠f->l.heap[g]? =c.heap[g]? :=by
 cases p:P.info? u with
 |none=>simp[p]at K
 |some a3=>
  have a4:a3.size=o:=by simpa[p]using K
  have b7:Nat.min e t=e:=E9 F;by_cases N:e=0
  ·subst N;have a5:a= []:=List.eq_nil_of_length_eq_zero I;subst a5;have w:∀(x:F3),(loadCells x 0).run P c=.ok #[] c:=λx=>by simpa using M3 (P:=P) c x [] ak
   refine⟨c, ?_,D,C.congr (λd _=>by simp[tJ]),λk y _ m=>m,λg _=>rfl⟩
   cases v<;>simp[J6,O5 L,L7,K6,sizeOf,typeInfo,p,storeCells,w]
  rcases(id X)with m|⟨b,i,rfl,a9⟩
  ·exact absurd m N
  obtain⟨q,O,b5,b0⟩:=C;have w:=M3 (P:=P) c (H b i U) a (λd j b6=>by
   have:=a9 d j b6;have a7:((H b i U):F3).add d=⟨b,i+d,U⟩:=by unfold Addr.add;split<;>simp_all
   rw[a7];exact this)
  have b4:=run_storeCells_at P f 0 n a 0 q c O (by simpa[b5]using T) S;have a8:=L8 c f q ((q.toList.take (0+0)++a++q.toList.drop (0+0+Q a)).toArray) n (0,0) O;refine⟨_, ?_, ?_,⟨_,a8, ?_, ?_⟩, ?_,λg b2=>J4 c f g _ b2⟩
  ·have b3:e*o=Q a:=W.symm;simp[J6,O5 L,L7,K6,sizeOf,typeInfo,p,a4,E9 F,b3,w,b4]
  ·simp[M5]
  ·simp;omega
  ·intro d b1;simp only[List.getElem?_toArray,J0,List.take_zero,List.nil_append,I1];unfold tJ;by_cases r:d<Q a
   ·rw[κ r,F8 r,τ r]
   rw[ι I,G5 r,G7,show Q a+(d-Q a)=d by omega];have:=b0 d b1;simpa using this
  intro k y a6 m;exact Ua m a6
theorem je{c:η}{rest}{a:O8}{v:P1->O8->η->Prop}(L:o.guard=U)(w x:N5)(k z)(N:o.op=.call {callee:=.builtin .copy,args:= #[w,x],argTypes:= #[k,z]})(l m)(O:P.underlying k=J (.slice l))(R:(P.info? l).map (·.size)=J m)(e n B q f C)(S:a.eval w=V (J (H e 0 U)) n B)(T:a.eval x=V q f C)(i)(r:G->Z)(s)(W:c.rowIs e s i r)(g)(X:f<=n)(a0:Q g=f*m)(a1:f=0\/∃b F,q=J (H b F U)/\∀K j,g[K]? =J j->α c ⟨b,F+K,U⟩=J j)(a2:Q g<=i)(a3:∀j∈g,j.oneCell'=E2)(a4:∀d,M (E d)=M (E c)->d.rowIs e s i (tJ g r)->(∀(t:G) (y:η),t<=e->Ω t y c->Ω t y d)->(∀u,u≠e->d.heap[u]? =c.heap[u]?)->J8 P p v rest (a.put o.dst (goInt f)) d):
  J8 P p v (o::rest) a c:=by
 refine J3 L λ_ j=>?_;obtain⟨d,t,u,F,K,a5⟩:=Ro (P:=P) c k z o.type l e n B q f C m i r s g O R W X a0 a1 a2 a3;unfold Oper.wp;simp[M4,N,O9,P3,P0,S,T,t,L6];exact j _ _ (a4 d u F K a5)
end
theorem kK{P:N4}(c){b e}{a:D1 F3}{l d}(f:P.underlying b=J (.slice e)):(I6 .eql b (V a l d) (V U 0 0)).run P c=.ok (D4 a.isNone) c:=by
 simp only[I6];simp[M0 c b e a l d f]
structure Ln where
 g:Nat
 n:Nat
 wo:Option Addr
 wc:Nat
 cs:List Value
def yu(l:Ln):ω Z:=[V (J ⟨l.g,0,U⟩) (l.n+3) (l.n+3),V l.wo l.n l.wc]
def jw(ls:ω Ln):ω Z:=ls.flatMap yu
theorem NA(a b):jw (a++b)=jw a++jw b:=by simp[jw]
theorem vY:∀(d:ω Ln) (c:G) (l:Ln) (b:G),d[c]? =J l->b<2->(jw d)[c*2+b]? =(yu l)[b]?
 | [],c,r,b,h,_=>by simp at h
 |a::rs,0,r,b,h,hj=>by
  simp at h;subst h;rw[I8,I1,jw,H1,κ (by simp[yu];omega)]
 |a::rs,c+1,r,b,h,hj=>by
  have:=vY rs c r b (by simpa using h) hj;have e:Q (yu a)=2:=by simp[yu]
  rw[jw,H1,ι (by rw[e];omega),e,show(c+1)*2+b-2=c*2+b by omega];exact this
def jN(z:G)(cs:ω Z)(far:G->Z)(j:G):Z:=if h:j<Q cs then cs[j]else far (j % z)
def ku(w:η)(z:G)(wo:D1 F3)(n:G)(cs:ω Z):Prop:=Q cs=n*z/\(n=0\/∃b off,wo=J ⟨b,off,U⟩/\b<M (E w)/\∀j v,cs[j]? =J v->α w ⟨b,off+j,U⟩=J v)
theorem ku.ah{w x g f c}(a:ku w g d f c)(e:Bl w x):ku x g d f c:=by
 refine⟨a.1, ?_⟩;rcases a.2 with a|⟨b,i,j,k,l⟩
 ·exact F4 a
 exact G6 ⟨b,i,j,cz e.size,λn v m=>cK e k (l n v m)⟩
theorem ku.src{j k g e}(c:ku j k d g e):g=0\/∃b a,d=J (H b a U)/\∀f i,e[f]? =J i->α j ⟨b,a+f,U⟩=J i:=by
 rcases c.2 with c|⟨b,a,l,_,m⟩
 ·exact F4 c
 exact G6 ⟨b,a,l,m⟩
def mQ(Ty:ω Z->G->Prop)(w0:η)(z:G)(l:Ln):Prop:=ku w0 z l.wo l.n l.cs/\Ty l.cs l.n
def Lr(cs:ω Z)(n:G):Prop:=∀i,i<n->∃(k m:H3) (s:K1),cs[i*3]? =J (ξ μ k)/\cs[i*3+1]? =J (ξ μ m)/\cs[i*3+2]? =J (γ s)
def PG(cs:ω Z)(n:G):Prop:=∀i,i<n->∃(s t:K1) (m:H3),cs[i*3]? =J (γ s)/\cs[i*3+1]? =J (γ t)/\cs[i*3+2]? =J (ξ μ m)
def Ws(cs:ω Z)(n:G):Prop:=∀i,i<n->∃(s t u:K1),cs[i*3]? =J (γ s)/\cs[i*3+1]? =J (γ t)/\cs[i*3+2]? =J (γ u)
def KX(cs:ω Z)(n:G):Prop:=∀i,i<n->∃(s:K1),cs[i]? =J (γ s)
structure oJ(Wt:Ln->Prop)(w:World)(T:TypeId)(z:Nat)(far:Nat->Value)(lo:Nat)(l:Ln):Prop where
 row:w.rowIs l.g T ((l.n+3)*z) (jN z l.cs far)
 len:List.length l.cs=l.n*z
 lo:lo<=l.g
 small:l.n<=1048576
 want:Wt l
structure bE(Wt:Ln->Prop)(w:World)(T TL:TypeId)(z:Nat)(far:Nat->Value)(mb:Nat)(v:Value)(ls:List Ln):Prop where
 own:w.ownsRow (mb+1) TL 2 v (List.length ls) (jw ls)
 each:∀l∈ls,oJ Wt w T z far (mb+1) l
 apart:ls.Pairwise λa b=>a.g<b.g
theorem Dc{z c a}{far f:G->Z}(g:Q a=c*z){b}(e:b<(c+3)*z):uM z far (tJ a f) (c*z) ((c+3)*z) b=jN z a far b:=by
 unfold uM tJ jN;by_cases d:b<Q a
 ·rw[Θ I,F8 d,F8 d]
 rw[υ I,G5 d]
def kP(w x:η)(A B:F1):Prop:=∀(q:G) (cur:G4 Z) (T:F1) (fz:G×G),w.heap[q]? =J (ζ cur T fz)->T≠A->T≠B->x.heap[q]? =w.heap[q]?
theorem Ck{i j:η}{e g a b c}{d:G->Z}(f:i.rowIs e a g d)(m:kP i j b c)(k:a≠b)(l:a≠c):j.rowIs e a g d:=by
 have n:=f;obtain⟨_,o,_,_⟩:=n;exact f.of_block (m _ _ _ _ o k l)
theorem oJ.typed{e:Ln->Prop}{w g b c d i f}{far:G->Z}{l}(a:oJ e w b i far f l)(m:kP w g c d)(j:b≠c)(k:b≠d):oJ e g b i far f l:=
 ⟨Ck a.row m j k,a.len,a.lo,a.small,a.want⟩
theorem bE.typed{f:Ln->Prop}{w m b a c d n j}{far:G->Z}{k i}(e:bE f w b a n far j k i)(g:kP w m c d)(o:b≠c)(p:b≠d)(q:a≠c)(r:a≠d):bE f m b a n far j k i:=
 ⟨gm e.own λv s t u=>g v s a t u q r,λl x=>(e.each l x).typed g o p,e.apart⟩
theorem bE.ah{e:Ln->Prop}{w x c d j i}{far:G->Z}{v g}(a:bE e w c d j far i v g)(f:Bl w x):bE e x c d j far i v g:=
 ⟨wZ a.own λk m=>f.block k (a.own.lt k m).2,λl b=>⟨(a.each l b).row.of_block (f.block _ (a.each l b).row.lt),(a.each l b).len,(a.each l b).lo,(a.each l b).small,(a.each l b).want⟩,a.apart⟩
theorem bE.mono{f g:Ln->Prop}{w d e j i}{far:G->Z}{v c}(a:bE f w d e j far i v c)(k:∀l∈c,f l->g l):bE g w d e j far i v c:=
 ⟨a.own,λl b=>⟨(a.each l b).row,(a.each l b).len,(a.each l b).lo,(a.each l b).small,k l b (a.each l b).want⟩,a.apart⟩
theorem iX{t:Ln->Prop}{w n F e:η}{c k O N d i f x}{far:G->Z}{a L K j}{l:Ln}{u:G4 Z}(T:n.heap[c]? =J (ζ u f (0,0)))(v:bE t n d i x far c (V a L K) j)(a1:oJ t n d x far (c+1) l)(a2:∀o∈j,o.g<l.g)(P:d≠i)(R:d≠f)(S:Ω c w n)(a0:kP w n i f)(W:Bl n F)(X:F.grownBy e (V a L K).ownBlock)(a3:e.ownsRow (c+1) i 2 (V (J (H O 0 U)) (Q j+1) N) (Q j+1) (jw j++yu l))(m):
  e.heap[c]? =J (ζ u f (0,0))/\(e.setCell (H c k U) m).heap[c]? =J (ζ (u.setIfInBounds k m) f (0,0))/\
  bE t (e.setCell (H c k U) m) d i x far c (V (J (H O 0 U)) (Q j+1) N) (j++ [l])/\Ω c w (e.setCell (H c k U) m)/\kP w (e.setCell (H c k U) m) i f:=by
 obtain⟨a4,a5,a6,a7,a8⟩:=yU (B:=c) (k:=k) T v.own W X a3 m (ε _);have z:kP n (e.setCell (H c k U) m) i f:=λs p d q r a b=>a8 s p d q r a b;refine⟨a4,a5,⟨?_,λo B=>?_, ?_⟩,S.trans a7,λs p d q r a b=>?_⟩
 ·rw[NA,φ];have:jw [l]=yu l:=by simp[jw]
  rw[this];exact a6
 ·rcases List.mem_append.mp B with C|C
  ·exact(v.each o C).typed z P R
  rw[K8.mp C];exact a1.typed z P R
 ·rw[List.pairwise_append];exact⟨v.apart,ak,λo B y C=>by rw[K8.mp C];exact a2 o B⟩
 have C:=a0 s p d q r a b;exact(z s p d q (C.trans r) a b).trans C
theorem iW{a b}(e:Bl a b){c d}:kP a b c d:=λg _ _ _ f _ _=>e.block g (aH f)
def qR(j:G):Z:=if j=0 then ξ μ 9 else if j=1 then ξ μ 77 else γ ⟨#[]⟩
theorem BG{a}:E7 ρ 71 #[] a (RB (I0 #[ξ μ 9,ξ μ 77,γ ⟨#[]⟩]) a):=by
 go_enter func71,ntmps71;go_wp2_with fail;exact J5 (v:=I0 #[ξ μ 9,ξ μ 77,γ ⟨#[]⟩]) (by simp[M9,results71,go_sem]) D ⟨D,(θ _ a).alloc (ε _) _⟩
theorem uu(a):E7 ρ 138 #[] a (RB (I0 #[ξ μ 8,ξ μ 0,γ ⟨#[]⟩]) a):=by
 go_enter func138,ntmps138;go_wp2_with fail;exact J5 (v:=I0 #[ξ μ 8,ξ μ 0,γ ⟨#[]⟩]) (by simp[M9,results138,go_sem]) D ⟨D,(θ _ a).alloc (ε _) _⟩
theorem UB:(ρ.info? 56).map (λa=>(a.zero,a.size,a.bytes))=J (J (I0 #[ξ μ 0,ξ μ 0,γ ⟨#[]⟩]),3,32):=aF
theorem JD:(ρ.info? 227).map (λa=>(a.zero,a.size,a.bytes))=J (J (I0 #[V U 0 0,V U 0 0]),2,48):=aF
def CW(Wt:Ln->Prop)(w:η)(T TL TB:F1)(z:G)(far:G->Z)(mb k:G)(arr:G4 Z)(ls:ω Ln)(wo:D1 F3)(n wc:G)(cs:ω Z)(e:P4)(w':η):Prop:=
 ∃(g:G) (v:Z),e=I3 (V (J ⟨g,0,U⟩) n (n+3))/\w'.heap[mb]? =J (ζ (arr.setIfInBounds k v) TB (0,0))/\bE Wt w' T TL z far mb v (ls++ [⟨g,n,wo,wc,cs⟩])/\(∃a b c,v=V a b c)/\Ω mb w w'/\kP w w' TL TB
theorem Mc{b}(c):
  E7 ρ 30 #[E0 (J (H c 0 U)),V U 0 0] b (RE (V U 0 0) b):=by
 have:∀a,(I6 .eql 57 (V U 0 0) (V U 0 0)).run ρ a=.ok (D4 E2) a:=λa=>kK a H5;go_enter N9,N3
 go_wp2
 go_ret;exact⟨D,D⟩
theorem Ma{o d:η}{f a q p w j}(y:d.heap[f]? =J (ζ w 118 (0,0)))(O:w[0]? =J (V a q p))(x:bE (mQ Lr o 3) d 56 227 3 qR f (V a q p) j)(e3:Q j<=1099520000000)(a6:Bl o d){b}(wc){e}(a8:b<=1048576)(r:ku o 3 (J c) b e)(a7:∀b0∈e,b0.oneCell'=E2)(a9:Lr e b):
  E7 ρ 30 #[E0 (J (H f 0 U)),V (J c) b wc] d λa5 b1=>CW (mQ Lr o 3) d 56 227 118 3 qR f 0 w j (J c) b wc e a5 b1:=by
 obtain⟨b2,P,b3,R,b4⟩:=C0 UB;obtain⟨b5,z,b6,b7,b8⟩:=C0 JD;have S:=aH y;have b9:(ρ.info? 56).map (·.size)=J 3:=by rw[P];simp[R]
 have t:=r.ah a6;have k:∀s,(I6 .eql 57 (V (J c) b wc) (V U 0 0)).run ρ s=.ok (D4 E3) s:=λs=>kK s H5;go_enter N9,N3;have:f≠M (E d):=I;go_wp2_with(first
  |(at_make;refine dx _ D _ _ 57 D 56 b2 _ H5 P b3 μ μ (b+3) _ D D I (by rw[b4];omega) I 3 R ?_;intro w2 B c1 C W _)
  |(refine je D (.tmp 15) (.tmp 16) 57 57 D 56 3 H5 b9 (M (E d)) (b+3) (b+3) (J c) b wc D D ((b+3)*3) B 56 W e I t.1 (t.ah C).src (by have:=t.1;omega) a7 ?_;intro w3 c2 X T c0))
 have v:Bl d w3:=T _ _ (ε _) C;have F:w3.rowIs (M (E d)) 56 ((b+3)*3) (uM 3 qR (tJ e B) (b*3) ((b+0)*3)):=X.congr λc3 _=>(ny).symm;clear W X T c0 C c1 c2 k;go_loopw [7] (λk wr=>∃m:G,m<=3/\k=ξ μ ((b+m:G):H3)/\wr.rowIs (M (E d)) 56 ((b+3)*3) (uM 3 qR (tJ e B) (b*3) ((b+m)*3))/\Bl d wr) (λk _=>(b+3)-(G3 k).toNat)
 ·exact⟨0,I,aP,F,v⟩
 obtain⟨m,_,rfl,u,n⟩:=hrel;clear F v;by_cases e4:m<3
 ·have a0:=u.lt;go_wp2_with(go_at_call 71;refine cB BG ?_;rintro _ v;have k:=u.of_block (v.block _ a0);have:=k.lt;have:=k.cell (i:=(b+m)*3) I;have:=k.cell (i:=(b+m)*3+1) I;have:=k.cell (i:=(b+m)*3+2) I;have:=k.frozen ((b+m)*3);have:=k.frozen ((b+m)*3+1);have:=k.frozen ((b+m)*3+2));go_roundw
  ·exact⟨m+1,I,aP,zJ k I D D D,(((bT n v).setCell (p:=(H (M (E d)) _ U)) (ε _) _).setCell (p:=(H (M (E d)) _ U)) (ε _) _).setCell (p:=(H (M (E d)) _ U)) (ε _) _⟩
  simp[G3];omega
 obtain rfl:m=3:=I;have K:wr.rowIs (M (E d)) 56 ((b+3)*3) (jN 3 e qR):=u.congr λc3 z=>Dc r.1 z;have k:=(n.block f S).trans y;have:=aH k;have:α wr (H f 0 U)=J (V a q p):=(aI k).trans O;have a0:=K.lt;have v:bE (mQ Lr o 3) wr 56 227 3 qR f (V a q p) j:=x.ah n;have F:oJ (mQ Lr o 3) wr 56 3 qR (f+1) ⟨M (E d),b,J c,wc,e⟩:=⟨K,r.1,S,a8,r,a9⟩;have a2:∀N∈j,N.g<M (E d):=λN e0=>(x.each N e0).row.lt;change G1 _ at k;change G1 _ at v;change G1 _ at F;clear u r t x K y;go_wp2_with(at_builtin;refine H8 _ D (.tmp 33) (.tmp 37) 108 D (f+1) 227 b5 _ 2 48 underlying108 z b6 b7 b8 D Y (V a q p) (Q j) (jw j) D (v.own.alloc _) (H (M (E wr)) 0 U) 1 1 [V (J (H (M (E d)) 0 U)) (b+3) (b+3),V (J c) b wc] D D (ο (ν wr _)) (by intro _ a4;simp at a4;rcases a4 with rfl|rfl<;>rfl) Y fD I vK (M (E wr)+1) ek ?_;intro c9 c8 e2 a3 a1 _ _;have L:=(iX (k:=0) (l:=⟨M (E d),b,J c,wc,e⟩) k v F a2 Y Y (n.mono I) (iW n) ((θ _ wr).alloc (ε _) _) a1 a3 (V U 0 0)).1;have:=aH L;have:=(aI L).trans O;have:δ e2 (H f 0 U)=E3:=by simp[δ,L]);go_ret;obtain⟨_,c4,c5,c6,c7⟩:=iX (k:=0) (l:=⟨M (E d),b,J c,wc,e⟩) k v F a2 Y Y (n.mono I) (iW n) ((θ _ wr).alloc (ε _) _) a1 a3 (V (J (H c9 0 U)) (Q j+1) c8);exact⟨M (E d),_,D,c4,c5,⟨_,_,_,D⟩,c6,c7⟩
def uV(j:G):Z:=if j=0 then γ ⟨#[98,101,121,111,110,100]⟩else if j=1 then γ ⟨#[]⟩else ξ μ 0
def uW(_:G):Z:=γ ⟨#[98,101,121,111,110,100]⟩
theorem UF:(ρ.info? 50).map (λa=>(a.zero,a.size,a.bytes))=J (J (I0 #[γ ⟨#[]⟩,γ ⟨#[]⟩,ξ μ 0]),3,40):=aF
theorem JG:(ρ.info? 290).map (λa=>(a.zero,a.size,a.bytes))=J (J (I0 #[V U 0 0,V U 0 0]),2,48):=aF
theorem UG:(ρ.info? 9).map (λa=>(a.zero,a.size,a.bytes))=J (J (γ ⟨#[]⟩),1,16):=aF
theorem JH:(ρ.info? 294).map (λa=>(a.zero,a.size,a.bytes))=J (J (I0 #[V U 0 0,V U 0 0]),2,48):=aF
theorem NN{a b}{far c:G->Z}(f:Q b=a*1){d}(e:d<(a+3)*1):uM 1 far (tJ b c) a (a+3) d=jN 1 b far d:=by
 have:=Dc (z:=1) (far:=far) (f:=c) f e;simpa using this
theorem PZ(b c):
  E7 ρ 58 #[E0 (J (H c 0 U)),V U 0 0] b (RE (V U 0 0) b):=by
 have:∀a,(I6 .eql 51 (V U 0 0) (V U 0 0)).run ρ a=.ok (D4 E2) a:=λa=>kK a H7;go_enter N8,N2
 go_wp2
 go_ret;exact⟨D,D⟩
theorem PY{n d:η}{f a p o v j}(x:d.heap[f]? =J (ζ v 118 (0,0)))(N:v[4]? =J (V a p o))(w:bE (mQ PG n 3) d 50 290 3 uV f (V a p o) j)(e2:Q j<=1099511627776)(a4:Bl n d){b}(wc){e}(a6:b<=1048576)(q:ku n 3 (J c) b e)(a5:∀a8∈e,a8.oneCell'=E2)(a7:PG e b):
  E7 ρ 58 #[E0 (J (H f 0 U)),V (J c) b wc] d λa3 a9=>CW (mQ PG n 3) d 50 290 118 3 uV f 4 v j (J c) b wc e a3 a9:=by
 obtain⟨b0,O,b1,P,b2⟩:=C0 UF;obtain⟨b3,y,b4,b5,b6⟩:=C0 JG;have R:=aH x;have b7:(ρ.info? 50).map (·.size)=J 3:=by rw[O];simp[P]
 have t:=q.ah a4;have i:∀s,(I6 .eql 51 (V (J c) b wc) (V U 0 0)).run ρ s=.ok (D4 E3) s:=λs=>kK s H7;go_enter N8,N2;have:f≠M (E d):=I;go_wp2_with(first
  |(at_make;refine dx _ D _ _ 51 D 50 b0 _ H7 O b1 μ μ (b+3) _ D D I (by rw[b2];omega) I 3 P ?_;intro w2 z b9 B T _)
  |(refine je D (.tmp 15) (.tmp 16) 51 51 D 50 3 H7 b7 (M (E d)) (b+3) (b+3) (J c) b wc D D ((b+3)*3) z 50 T e I t.1 (t.ah B).src (by have:=t.1;omega) a5 ?_;intro w3 c0 W S b8))
 have r:Bl d w3:=S _ _ (ε _) B;have u:w3.rowIs (M (E d)) 50 ((b+3)*3) (uM 3 uV (tJ e z) (b*3) ((b+0)*3)):=W.congr λc1 _=>(ny).symm;clear T W S b8 B b9 c0 i;go_loopw [7] (λi wr=>∃m:G,m<=3/\i=ξ μ ((b+m:G):H3)/\wr.rowIs (M (E d)) 50 ((b+3)*3) (uM 3 uV (tJ e z) (b*3) ((b+m)*3))/\Bl d wr) (λi _=>(b+3)-(G3 i).toNat)
 ·exact⟨0,I,aP,u,r⟩
 obtain⟨m,_,rfl,i,k⟩:=hrel;clear u r;by_cases e3:m<3
 ·have c2:=i.lt;have:=i.cell (i:=(b+m)*3) I;have:=i.cell (i:=(b+m)*3+1) I;have:=i.cell (i:=(b+m)*3+2) I;have:=i.frozen ((b+m)*3);have:=i.frozen ((b+m)*3+1);have:=i.frozen ((b+m)*3+2)
  go_wp2
  go_roundw
  ·exact⟨m+1,I,aP,zJ i I D D D,((k.setCell (p:=(H (M (E d)) _ U)) (ε _) _).setCell (p:=(H (M (E d)) _ U)) (ε _) _).setCell (p:=(H (M (E d)) _ U)) (ε _) _⟩
  simp[G3];omega
 obtain rfl:m=3:=I;have F:wr.rowIs (M (E d)) 50 ((b+3)*3) (jN 3 e uV):=i.congr λc1 y=>Dc q.1 y;have r:=(k.block f R).trans x;have:=aH r;have:α wr (H f 4 U)=J (V a p o):=(aI r).trans N;have c2:=F.lt;have u:bE (mQ PG n 3) wr 50 290 3 uV f (V a p o) j:=w.ah k;have C:oJ (mQ PG n 3) wr 50 3 uV (f+1) ⟨M (E d),b,J c,wc,e⟩:=⟨F,q.1,R,a6,q,a7⟩;have a0:∀L∈j,L.g<M (E d):=λL c9=>(w.each L c9).row.lt;change G1 _ at r;change G1 _ at u;change G1 _ at C;clear i q t w F x;go_wp2_with(at_builtin;refine H8 _ D (.tmp 33) (.tmp 37) 112 D (f+1) 290 b3 _ 2 48 underlying112 y b4 b5 b6 D Y (V a p o) (Q j) (jw j) D (u.own.alloc _) (H (M (E wr)) 0 U) 1 1 [V (J (H (M (E d)) 0 U)) (b+3) (b+3),V (J c) b wc] D D (ο (ν wr _)) (by intro _ a2;simp at a2;rcases a2 with rfl|rfl<;>rfl) Y fD I vK (M (E wr)+1) ek ?_;intro c8 c7 e1 a1 X _ _;have K:=(iX (k:=4) (l:=⟨M (E d),b,J c,wc,e⟩) r u C a0 Y Y (k.mono I) (iW k) ((θ _ wr).alloc (ε _) _) X a1 (V U 0 0)).1;have:=aH K;have:=(aI K).trans N;have:δ e1 (H f 4 U)=E3:=by simp[δ,K]);go_ret;obtain⟨_,c3,c4,c5,c6⟩:=iX (k:=4) (l:=⟨M (E d),b,J c,wc,e⟩) r u C a0 Y Y (k.mono I) (iW k) ((θ _ wr).alloc (ε _) _) X a1 (V (J (H c8 0 U)) (Q j+1) c7);exact⟨M (E d),_,D,c3,c4,⟨_,_,_,D⟩,c5,c6⟩
theorem OY(b c):
  E7 ρ 60 #[E0 (J (H c 0 U)),V U 0 0] b (RE (V U 0 0) b):=by
 have:∀a,(I6 .eql 52 (V U 0 0) (V U 0 0)).run ρ a=.ok (D4 E2) a:=λa=>kK a H6;go_enter N6,N0
 go_wp2
 go_ret;exact⟨D,D⟩
theorem OX{k d:η}{f a p o v i}(x:d.heap[f]? =J (ζ v 118 (0,0)))(N:v[2]? =J (V a p o))(w:bE (mQ KX k 1) d 9 294 1 uW f (V a p o) i)(e2:Q i<=1099511627776)(a4:Bl k d){b}(wc){e}(a6:b<=1048576)(q:ku k 1 (J c) b e)(a5:∀a8∈e,a8.oneCell'=E2)(a7:KX e b):
  E7 ρ 60 #[E0 (J (H f 0 U)),V (J c) b wc] d λa3 a9=>CW (mQ KX k 1) d 9 294 118 1 uW f 2 v i (J c) b wc e a3 a9:=by
 obtain⟨b0,O,b1,P,b2⟩:=C0 UG;obtain⟨b3,y,b4,b5,b6⟩:=C0 JH;have R:=aH x;have b7:(ρ.info? 9).map (·.size)=J 1:=by rw[O];simp[P]
 have t:=q.ah a4;have j:∀s,(I6 .eql 52 (V (J c) b wc) (V U 0 0)).run ρ s=.ok (D4 E3) s:=λs=>kK s H6;go_enter N6,N0;have:f≠M (E d):=I;go_wp2_with(first
  |(at_make;refine dx _ D _ _ 52 D 9 b0 _ H6 O b1 μ μ (b+3) _ D D I (by rw[b2];omega) I 1 P ?_;intro w2 z b9 B T _)
  |(refine je D (.tmp 15) (.tmp 16) 52 52 D 9 1 H6 b7 (M (E d)) (b+3) (b+3) (J c) b wc D D _ z 9 T e I t.1 (t.ah B).src (by have:=t.1;omega) a5 ?_;intro w3 c0 W S b8))
 have r:Bl d w3:=S _ _ (ε _) B;have u:w3.rowIs (M (E d)) 9 ((b+3)*1) (uM 1 uW (tJ e z) b (b+0)):=W.congr λc1 _=>(ny).symm;clear T W S b8 B b9 c0 j;go_loopw [7] (λj wr=>∃m:G,m<=3/\j=ξ μ ((b+m:G):H3)/\wr.rowIs (M (E d)) 9 ((b+3)*1) (uM 1 uW (tJ e z) b (b+m))/\Bl d wr) (λj _=>(b+3)-(G3 j).toNat)
 ·exact⟨0,I,aP,u,r⟩
 obtain⟨m,_,rfl,n,j⟩:=hrel;clear u r;by_cases e3:m<3
 ·have c2:=n.lt;have:=n.cell (i:=b+m) I;have:=n.frozen (b+m)
  go_wp2
  go_roundw
  ·exact⟨m+1,I,aP,Ew n I,j.setCell (p:=(H (M (E d)) _ U)) (ε _) _⟩
  simp[G3];omega
 obtain rfl:m=3:=I;have F:wr.rowIs (M (E d)) 9 ((b+3)*1) (jN 1 e uW):=n.congr λc1 y=>NN q.1 y;have r:=(j.block f R).trans x;have:=aH r;have:α wr (H f 2 U)=J (V a p o):=(aI r).trans N;have c2:=F.lt;have u:bE (mQ KX k 1) wr 9 294 1 uW f (V a p o) i:=w.ah j;have C:oJ (mQ KX k 1) wr 9 1 uW (f+1) ⟨M (E d),b,J c,wc,e⟩:=⟨F,q.1,R,a6,q,a7⟩;have a0:∀L∈i,L.g<M (E d):=λL c9=>(w.each L c9).row.lt;change G1 _ at r;change G1 _ at u;change G1 _ at C;clear n q t w F x;go_wp2_with(at_builtin;refine H8 _ D (.tmp 32) (.tmp 36) 110 D (f+1) 294 b3 _ 2 48 underlying110 y b4 b5 b6 D Y (V a p o) (Q i) (jw i) D (u.own.alloc _) (H (M (E wr)) 0 U) 1 1 [V (J (H (M (E d)) 0 U)) (b+3) (b+3),V (J c) b wc] D D (ο (ν wr _)) (by intro _ a2;simp at a2;rcases a2 with rfl|rfl<;>rfl) Y fD I vK (M (E wr)+1) ek ?_;intro c8 c7 e1 a1 X _ _;have K:=(iX (k:=2) (l:=⟨M (E d),b,J c,wc,e⟩) r u C a0 Y Y (j.mono I) (iW j) ((θ _ wr).alloc (ε _) _) X a1 (V U 0 0)).1;have:=aH K;have:=(aI K).trans N;have:δ e1 (H f 2 U)=E3:=by simp[δ,K]);go_ret;obtain⟨_,c3,c4,c5,c6⟩:=iX (k:=2) (l:=⟨M (E d),b,J c,wc,e⟩) r u C a0 Y Y (j.mono I) (iW j) ((θ _ wr).alloc (ε _) _) X a1 (V (J (H c8 0 U)) (Q i+1) c7);exact⟨M (E d),_,D,c3,c4,⟨_,_,_,D⟩,c5,c6⟩
theorem Ov{l:ω Z}{b m}(c:l.take b=Δ b m):∀a,a<b->l[a]? =J m:=λa d=>by
 have:=congrArg (λe=>e[a]?) c;simpa[I5,d,F0]using this
theorem ZN{l:ω Z}{b m}(c:∀a,a<b->l[a]? =J m):l.take b=Δ b m:=by
 apply L2;intro a;rw[I5,F0];split
 ·next d=>exact c a d
 rfl
theorem ZM{l:ω Z}{a b d m}(k:a+b<=Q l)(f:l.take a=Δ a m)(g:l.take d=Δ d m):(l.take a++Δ b m++l.drop (a+b)).take d=Δ d m:=by
 refine ZN λc i=>?_;rcases I2 c a with e|e
 ·rw[H2,κ PS,I5,υ e];exact Ov f c e
 rcases I2 c (a+b)with j|j
 ·rw[κ (by rw[φ,E5,D5];omega),ι PS,E5,F0,υ I]
 rw[ι (by rw[φ,E5,D5];omega),φ,E5,D5,G7,show a+b+(c-(min a (Q l)+b))=c by omega];exact Ov g c i
abbrev TE:=Z×Z×Z×Z×G
def teC(e:TE):ω Z:=[e.1,e.2.1,e.2.2.1,e.2.2.2.1,ξ μ (e.2.2.2.2:H3)]
def Ak(e:TE):ω Z:=[e.1,e.2.1,e.2.2.1,e.2.2.2.1]
def jd(es:ω TE):ω Z:=es.flatMap teC
theorem Ct(a b):jd (a++b)=jd a++jd b:=by simp[jd]
theorem wJ:∀(l:ω TE) (c:G) (d:TE) (b:G),l[c]? =J d->b<5->(jd l)[c*5+b]? =(teC d)[b]?
 | [],c,r,b,h,_=>by simp at h
 |a::rs,0,r,b,h,hj=>by
  simp at h;subst h;rw[I8,I1,jd,H1,κ (by simp[teC];omega)]
 |a::rs,c+1,r,b,h,hj=>by
  have:=wJ rs c r b (by simpa using h) hj;have e:Q (teC a)=5:=by simp[teC]
  rw[jd,H1,ι (by rw[e];omega),e,show(c+1)*5+b-5=c*5+b by omega];exact this
theorem fZ{c e:η}{a:G}(f:Bl c e)(b:c.heap[a]? =J S):e.heap[a]? =J S:=(f.block a (by rcases I2 a (M (E c))with d|d;exact d;rw[Array.getElem?_eq_none d]at b;cases b)).trans b
theorem iI{a:η}{b c d e f g i}(j:a.heap[b]? =J (ζ #[c,d,e,f,g] i (0,0))):α a (H b 0 U)=J c/\α a (H b 1 U)=J d/\α a (H b 2 U)=J e/\α a (H b 3 U)=J f/\α a (H b 4 U)=J g:=by
 simp[α,j]
theorem LK(a:η):(a.alloc S).drew.heap[M (E a)]? =J S:=ν a S
def dX(w x:η)(S:ω F1):Prop:=∀(q:G) (cur:G4 Z) (T:F1) (fz:G×G),w.heap[q]? =J (ζ cur T fz)->T∉S->x.heap[q]? =w.heap[q]?
theorem kP.l{w x c d}(f:kP w x c d){a}(g:c∈a)(i:d∈a):dX w x a:=λq k j m n e=>f q k j m n (λb=>e (b▸g)) (λb=>e (b▸i))
theorem dX.trans{w x y S}(i:dX w x S)(j:dX x y S):dX w y S:=λf b a c e d=>by
 have g:=i f b a c e d;exact(j f b a c (g.trans e) d).trans g
theorem dX.mono{w x b S'}(c:dX w x b)(d:∀a∈b,a∈S'):dX w x S':=λj e a f i g=>c j e a f i λk=>g (d a k)
theorem dX.refl(w a):dX w w a:=λ_ _ _ _ _ _=>rfl
theorem kP.trans{w x y c B}(k:kP w x c B)(l:kP x y c B):kP w y c B:=λi e d f g a b=>by
 have j:=k i e d f g a b;exact(l i e d f (j.trans g) a b).trans j
theorem kP.refl(w a b):kP w w a b:=λ_ _ _ _ _ _ _=>rfl
theorem ja{g i:η}{d f a b}{c:G->Z}(e:g.rowIs d a f c)(k:dX g i b)(j:a∉b):i.rowIs d a f c:=by
 have l:=e;obtain⟨_,m,_,_⟩:=l;exact e.of_block (k _ _ _ _ m j)
theorem bE.bW{e:Ln->Prop}{w k d c S m i}{far:G->Z}{j g}(a:bE e w d c m far i j g)(f:dX w k S)(n:d∉S)(o:c∉S):bE e k d c m far i j g:=
 ⟨gm a.own λs p q r=>f s p c q r o,λl b=>⟨ja (a.each l b).row f n,(a.each l b).len,(a.each l b).lo,(a.each l b).small,(a.each l b).want⟩,a.apart⟩
theorem bE.other{d:Ln->Prop}{w x:η}{b c T'}{k i g:G}{far:G->Z}{j f}(m:bE d w b c k far i j f)(q:∀a,a≠g->x.heap[a]? =w.heap[a]?)(p:∃e,w.heap[g]? =J (ζ e T' (0,0)))(n:b≠T')(o:c≠T'):bE d x b c k far i j f:=
 m.bW (S:=[T']) (λa _ _ _ l r=>q a λs=>by
  subst s;obtain⟨e,t⟩:=p;rw[t]at l;cases l;simp at r) (by simpa using n) (by simpa using o)
structure iC where
 ro:Option Addr
 rn:Nat
 rc:Nat
 cs:List Value
structure iK(Ty:List Value->Nat->Prop)(w0:World)(z:Nat)(r:iC):Prop where
 small:r.rn<=1048576
 nil:r.ro=none->r.rn=0/\r.rc=0
 want:ku w0 z r.ro r.rn r.cs
 one:∀v∈r.cs,v.oneCell'=true
 ty:Ty r.cs r.rn
abbrev Br(w0:η)(r:iC):Prop:=iK Lr w0 3 r
def pW(w0:η)(wo:D1 F3)(n:G)(rows:ω iC):Prop:=Q rows=n/\(n=0\/∃b off,wo=J ⟨b,off,U⟩/\b<M (E w0)/\∀(i:G) (r:iC),rows[i]? =J r->α w0 ⟨b,off+i,U⟩=J (V r.ro r.rn r.rc))
def bX(C:ω Ln)(r:iC)(v:Z):Prop:=(r.rn=0/\v=V U 0 0)\/∃g,v=V (J ⟨g,0,U⟩) r.rn (r.rn+3)/\(⟨g,r.rn,r.ro,r.rc,r.cs⟩:Ln)∈C
theorem bX.mono{b c d v}(a:bX b d v)(e:∀l∈b,l∈c):bX c d v:=by
 rcases a with a|⟨f,g,i⟩
 ·exact F4 a
 exact G6 ⟨f,g,e _ i⟩
def mX(C:ω Ln)(rows:ω iC)(es:ω Z):Prop:=Q es=Q rows/\∀(i:G) (r:iC) (v:Z),rows[i]? =J r->es[i]? =J v->bX C r v
theorem mX.mono{c d rows e}(f:mX c rows e)(g:∀l∈c,l∈d):mX d rows e:=⟨f.1,λi j v a b=>(f.2 i j v a b).mono g⟩
theorem mX.snoc{d rows f g i}(c:mX d rows f)(k:bX d g i):mX d (rows++ [g]) (f++ [i]):=by
 refine⟨by simp[c.1],λe l m a b=>?_⟩;by_cases j:e<Q rows
 ·rw[κ j]at a;rw[κ (by rw[c.1];exact j)]at b;exact c.2 e l m a b
 rw[ι I]at a;rw[ι (by rw[c.1];omega),c.1]at b;have n:e-Q rows=0:=by
  have:=(σ.mp a).1;simp at this;omega
 rw[n]at a b
 cases a;cases b;exact k
def WtR(w0:η)(C:ω Ln)(l:Ln):Prop:=∃rows,pW w0 l.wo l.n rows/\mX C rows l.cs
def xG(_:G):Z:=V U 0 0
theorem XP:(ρ.info? 57).map (λa=>(a.zero,a.size,a.bytes))=J (J (V U 0 0),1,24):=aF
theorem MS:(ρ.info? 292).map (λa=>(a.zero,a.size,a.bytes))=J (J (I0 #[V U 0 0,V U 0 0]),2,48):=aF
theorem qY{j:η}{b e f a}{g:G->Z}{i}(m:j.rowIs b f e (tJ a g))(n:Q a=i)(c):(j.setCell (H b i U) c).rowIs b f e (tJ (a++ [c]) g):=by
 subst n;refine(m.set (Q a) c).congr λk _=>?_;unfold tJ;by_cases l:k=Q a
 ·subst l;rw[υ D,F8 ak];simp
 rw[Θ l];by_cases d:k<Q a
 ·rw[F8 d,F8 aN,List.getElem_append_left d]
 rw[G5 d,G5 aN]
def WE(w0 w:η)(mb:G)(arr:G4 Z)(C R:ω Ln)(wo:D1 F3)(n wc:G)(rows:ω iC)(e:P4)(w':η):Prop:=
 ∃(g:G) (a:D1 F3) (an ac:G) (b:D1 F3) (bn bc:G) (C2:ω Ln) (es:ω Z),e=I3 (V (J ⟨g,0,U⟩) n (n+3))/\w'.heap[mb]? =J (ζ ((arr.setIfInBounds 0 (V a an ac)).setIfInBounds 1 (V b bn bc)) 118 (0,0))/\
  bE (mQ Lr w0 3) w' 56 227 3 qR mb (V a an ac) (C++C2)/\Q C2<=n/\bE (WtR w0 (C++C2)) w' 57 292 1 xG mb (V b bn bc) (R++ [⟨g,n,wo,wc,es⟩])/\mX (C++C2) rows es/\Ω mb w w'/\dX w w' [227,292,118]
theorem Rn(b c):
  E7 ρ 59 #[E0 (J (H c 0 U)),V U 0 0] b (RE (V U 0 0) b):=by
 have:∀a,(I6 .eql 24 (V U 0 0) (V U 0 0)).run ρ a=.ok (D4 E2) a:=λa=>kK a I7;go_enter N7,N1
 go_wp2
 go_ret;exact⟨D,D⟩
theorem aaD{a:G4 Z}{i b}(c:i<a.size):(a.setIfInBounds i b)[i]? =J b:=by
 rw[G2];simp[c]
def WL(w0 w:η)(mb:G)(arr:G4 Z)(C:ω Ln)(n:G)(rows:ω iC)(f2:G->Z)(i:G)(wr:η):Prop:=
 ∃(C2:ω Ln) (es:ω Z) (a:D1 F3) (an ac:G),(Q C2<=i/\Q es=i)/\wr.heap[mb]? =J (ζ (arr.setIfInBounds 0 (V a an ac)) 118 (0,0))/\bE (mQ Lr w0 3) wr 56 227 3 qR mb (V a an ac) (C++C2)/\
  mX (C++C2) (rows.take i) es/\wr.rowIs (M (E w)) 57 ((n+3)*1) (tJ es f2)/\Ω mb w wr/\kP w wr 227 118
theorem Rm{j e:η}{f a a0 X b B z k p m}(a6:e.heap[f]? =J (ζ k 118 (0,0)))(e1:k[0]? =J (V a a0 X))(a8:k[1]? =J (V b B z))(s:bE (mQ Lr j 3) e 56 227 3 qR f (V a a0 X) p)(a7:bE (WtR j p) e 57 292 1 xG f (V b B z) m){i}(h9:Q p+i<=1099511627776)(i0:Q m<=1099511627776)(a5:Bl j e)(e0:M (E j)<=f)(wc){rows}(e2:i<=1048576)(N:pW j (J c) i rows)(b6:∀n∈rows,Br j n):
  E7 ρ 59 #[E0 (J (H f 0 U)),V (J c) i wc] e λa4 e3=>WE j e f k p m (J c) i wc rows a4 e3:=by
 obtain⟨e4,e5,e6,e7,e8⟩:=C0 XP;obtain⟨e9,b7,g0,g1,g2⟩:=C0 MS;have b8:=aH a6;have w:∀a1,(I6 .eql 24 (V (J c) i wc) (V U 0 0)).run ρ a1=.ok (D4 E3) a1:=λa1=>kK a1 I7;have i1:1<k.size:=(J7.1 a8).1;go_enter N7,N1;go_wp2_with(at_make;refine dx _ D _ _ 24 D 57 e4 _ I7 e5 e6 μ μ (i+3) _ D D aa (by rw[e8];omega) aa 1 e7 ?_;intro w2 b9 x o t g3);have u:WL j e f k p i rows b9 0 w2:=⟨[],[],a,a0,X,⟨ε _,D⟩,by
   rw[show k.setIfInBounds 0 (V a a0 X)=k from by
    apply G4.ext
    ·simp
    intro c0 q r;rw[Array.getElem_setIfInBounds];split
    ·subst_vars;have:=Array.getElem?_eq_getElem (aa:0<k.size);rw[e1]at this;exact G8 this
    rfl]
   exact(o.block f b8).trans a6,by rw[E8];exact s.ah o,⟨ak,λd n _ v=>by simp at v⟩,t.congr λc1 _=>by simp[tJ],o.mono aa,iW o⟩
 change G1 _ at N;change G1 _ at b6;clear t o x w s;go_loopw [7] (λo wr=>∃d:G,d<=i/\o=ξ μ (d:H3)/\WL j e f k p i rows b9 d wr) (λo _=>i-(G3 o).toNat)
 ·exact⟨0,χ _,D,u⟩
 clear u;obtain⟨d,_,rfl,O,s,c2,c3,c4,⟨g4,P⟩,w,a2,C,t,F,a3⟩:=hrel;have i2:=aH w;have i3:=F.size;by_cases g5:d<i
 ·obtain⟨u,R,rfl,g6,x⟩:∃u R,c=(H u R U)/\u<M (E j)/\∀(d:G) (n:iC),rows[d]? =J n->α j ⟨u,R+d,U⟩=J (V n.ro n.rn n.rc):=by
   rcases N.out.2 with v|⟨K,y,q,r,o⟩
   ·omega
   exact⟨K,y,G8 q,r,o⟩
  have g7:d<Q rows:=by rw[N.out.1];exact g5
  obtain⟨⟨a9,L,S,c5⟩,o⟩:∃n:iC,rows[d]? =J n:=⟨_,τ g7⟩;have T:=b6.out _ (Φ o);have i4:α wr ⟨u,R+d,U⟩=J (V a9 L S):=cK F (by show u<f;omega) ((a5.cell (p:=⟨u,R+d,U⟩) g6).trans (x d _ o));have i5:u<M (E wr):=cz a5.size;have c7:G1 (rows.take (d+1)=rows.take d++ [⟨a9,L,S,c5⟩]):=by
   rw[G1,L1,o];rfl
  have g8:=t.lt;clear x o
  cases a9 with
  |none=>
   obtain⟨rfl,rfl⟩:L=0/\S=0:=T.nil D;have g9:=t.cell (i:=d) aa;have h0:=t.frozen d;go_wp2_with(go_at_call 30;refine(Mc f).mono ?_;rintro a4 h1 ⟨rfl,rfl⟩);go_roundw
   ·refine⟨d+1,aa,aP,O,s++ [V U 0 0],c2,c3,c4,⟨aa,by simp[P]⟩, ?_, ?_, ?_,qY t P _,F.setCell (p:=(H (M (E e)) d U)) (by show f<=M (E e);omega) _, ?_⟩
    ·exact(β _ _ _ _ (by show f≠M (E e);omega)).trans w
    ·exact a2.other (λx o=>β _ _ _ _ o) (by obtain⟨b0,b1,_,_⟩:=t;exact⟨b0,b1⟩) Y Y
    ·rw[c7.out];exact C.snoc (F4 ⟨D,D⟩)
    intro x b2 b3 b4 o q r;exact(β _ _ _ _ (by have:=aH o;show x≠M (E e);omega)).trans (a3 x b2 b3 b4 o q r)
   simp[G3];omega
  |some h2=>
   have h3:=Ma w (aaD aa) a2 Jr (a5.trans (F.mono e0)) S T.small T.want T.one T.ty;go_wp2_with(go_at_call 30;refine h3.mono ?_;rintro a4 h1 ⟨b5,_,rfl,c9,h8,⟨h4,h6,h5,rfl⟩,h7,c8⟩;have W:=Ck t c8 Y Y;have g9:=W.cell (i:=d) aa;have h0:=W.frozen d;have i6:=W.lt);go_roundw
   ·refine⟨d+1,aa,aP,O++ [⟨b5,L,J h2,S,c5⟩],s++ [V (J (H b5 0 U)) L (L+3)],h4,h6,h5,⟨aN,by simp[P]⟩, ?_, ?_, ?_,qY W P _,(F.trans h7).setCell (p:=(H (M (E e)) d U)) (by show f<=M (E e);omega) _, ?_⟩
    ·rw[Array.setIfInBounds_setIfInBounds]at c9;exact(β _ _ _ _ (by show f≠M (E e);omega)).trans c9
    ·rw[<-H2];exact h8.other (λx o=>β _ _ _ _ o) (by obtain⟨b0,b1,_,_⟩:=W;exact⟨b0,b1⟩) Y Y
    ·rw[c7.out,<-H2];exact(C.mono λl b0=>Γ _ b0).snoc (G6 ⟨b5,D,F5 _ ak⟩)
    intro x b2 b3 b4 o q r;exact(β _ _ _ _ (by have:=aH o;show x≠M (E e);omega)).trans ((a3.trans c8) x b2 b3 b4 o q r)
   simp[G3];omega
 obtain rfl:d=i:=aa;have u:wr.rowIs (M (E e)) 57 ((d+3)*1) (jN 1 s xG):=t.congr λc1 b7=>by
  unfold tJ jN;by_cases v:c1<Q s
  ·rw[F8 v,F8 v]
  rw[G5 v,G5 v,g3.out];simp[Value.cells,xG,O0]
 rw[H9 (by rw[N.out.1];exact ε _)]at C;have c6:α wr (H f 1 U)=J (V b B z):=(aI w).trans (by rw[G2];simp[a8]);have g8:=u.lt;have o:bE (WtR j (p++O)) wr 57 292 1 xG f (V b B z) m:=(a7.typed a3 Y Y Y Y).mono λl _ ⟨c5,q,r⟩=>⟨c5,q,r.mono λK x=>Γ _ x⟩;have v:oJ (WtR j (p++O)) wr 57 1 xG (f+1) ⟨M (E e),d,J c,wc,s⟩:=⟨u,by simp[P],b8,e2,rows,N,C⟩;have a9:∀K∈m,K.g<M (E e):=λK x=>(a7.each K x).row.lt;change G1 _ at w;change G1 _ at o;change G1 _ at v;change G1 _ at C;change G1 _ at a2;clear a6 u t a7;go_wp2_with(at_builtin;refine H8 _ D (.tmp 33) (.tmp 37) 109 D (f+1) 292 e9 _ 2 48 underlying109 b7 g0 g1 g2 D Y (V b B z) (Q m) (jw m) D (o.own.alloc _) (H (M (E wr)) 0 U) 1 1 [V (J (H (M (E e)) 0 U)) (d+3) (d+3),V (J c) d wc] D D (ο (ν wr _)) (by intro _ b1;simp at b1;rcases b1 with rfl|rfl<;>rfl) Y fD aa vK (M (E wr)+1) ek ?_;intro T S b2 b0 W _ _;have L:=(iX (w:=wr) (k:=1) (l:=⟨M (E e),d,J c,wc,s⟩) w o v a9 Y Y (θ _ _) (kP.refl _ _ _) ((θ _ wr).alloc (ε _) _) W b0 (V U 0 0)).1;have c7:=aH L;have c8:α b2 (H f 1 U)=J (V b B z):=(aI L).trans (by rw[G2];simp[a8]);have c9:δ b2 (H f 1 U)=E3:=by simp[δ,L]);go_ret;obtain⟨_,b3,b4,b5,R⟩:=iX (w:=wr) (k:=1) (l:=⟨M (E e),d,J c,wc,s⟩) w o v a9 Y Y (θ _ _) (kP.refl _ _ _) ((θ _ wr).alloc (ε _) _) W b0 (V (J (H T 0 U)) (Q m+1) S);exact⟨M (E e),c2,c3,c4,J (H T 0 U),Q m+1,S,O,s,D,b3,a2.typed R Y Y Y Y,g4,b4,C,F.trans b5,(a3.l ak ak).trans (R.l ak ak)⟩
def vB(w:η)(base:G)(m v:Z)(n:G):Prop:=w.ownsRow base 3 1 v n (Δ n m)
theorem vB.ah{w x:η}{base}{m v:Z}{b}(c:vB w base m v b)(d:∀a,v.ownBlock=J a->x.heap[a]? =w.heap[a]?):vB x base m v b:=aD c d
theorem vB.fresh{d:η}{base m}(b){c a}(e:vB d base m c a):vB (d.drew.alloc b) base m c a:=D0 (E1 e) b
theorem zX{b:η}{base}(r){k:K5}{t:Z}(u:ρ.info? 3=J k)(L:k.zero=J t)(l:k.size=1)(z:k.bytes=8)(b6:t.cells.size=1){m:Z}(b1:m.oneCell'=E2){s:Z}{f}(F:vB b base m s f){a}(p)(a9:0<a)(b2:∀i,i<a->α b (c.add i)=J m)(b7:f+a<=1000000)(a6:base<=M (E b)):
  ∃n o,(K9 #[42,42] r #[s,V (J c) a p]).run ρ b=.ok n o/\vB o base m n (f+a)/\b.grownBy o s.ownBlock/\(n.ownBlock=s.ownBlock\/n.ownBlock=J (M (E b)))/\∀e N,vB b base m e N->vB o base m e N:=by
 have v:List.length (List.replicate a m)=a*1:=ak;have w:∀i e,(List.replicate a m)[i]? =J e->α b (c.add i)=J e:=λi e d=>by
  rw[List.getElem?_replicate]at d;split at d
  ·next a3=>cases d;exact b2 i a3
  cases d
 have S:∀e∈List.replicate a m,e.oneCell'=E2:=λe d=>by rw[List.eq_of_mem_replicate d];exact b1
 have b0:f+a<=maxLen:=fD;obtain⟨n,o,x,T,a4,_,a5⟩:=M8 (P:=ρ) b base 42 r 3 k t 1 8 F2 u L l z b6 I s f (List.replicate f m) F c a p (List.replicate a m) v w S b0 I a6;rw[List.replicate_append_replicate]at T;refine⟨n,o,x,T,a4,a5,λe N d=>?_⟩;rcases F.2 with⟨rfl,rfl⟩|⟨g,cap,R,rfl,b8,B,c0,b9,a8,a2⟩
 ·have j:=O6 (P:=ρ) b 42 r 3 k t F2 u L c a p (List.replicate a m) (by rw[l];exact v) w a9 I (by rw[z];omega);rw[x]at j;injection j with _ hw
  rw[hw];exact d.fresh _
 by_cases b4:f+a<=cap
 ·have j:=O1 (P:=ρ) b 42 r 3 k F2 u g f cap R B c a p (List.replicate a m) (by rw[l];exact v) w S b4 (by rw[l,List.length_replicate];omega);rw[x]at j;injection j with _ hw
  rw[l,I4,List.length_replicate]at hw;rw[hw];rw[I4]at a2 a8;rcases d.2 with⟨rfl,rfl⟩|⟨q,O,y,rfl,W,C,a1,X,b5,K⟩
  ·exact⟨d.1,F4 ⟨D,D⟩⟩
  by_cases a0:q=g
  ·subst a0;have a7:y=R:=by rw[B]at C;cases C;rfl
   subst a7;refine⟨d.1,G6 ⟨q,O,_,D,W,L8 b q y _ _ _ B,a1,X, ?_, ?_⟩⟩
   ·simp only[List.size_toArray,List.length_append,List.length_take,List.length_drop,E6,List.length_replicate];omega
   rw[I4]at K ⊢;exact ZM (by rw[E6];omega) a2 K
  exact⟨d.1,G6 ⟨q,O,y,D,W,(J4 b g q _ a0).trans C,a1,X,b5,K⟩⟩
 have b3:∀i e,(List.replicate f m)[i]? =J e->α b (((H g 0 U):F3).add i)=J e:=J1 F (g:=g) D;have j:=O2 (P:=ρ) b 42 r 3 k t F2 u L (H g 0 U) f cap (List.replicate f m) (by rw[l];simp) b3 c a p (List.replicate a m) (by rw[l];exact v) w I I (O7 I (by rw[z];omega));rw[x]at j;injection j with _ hw
 rw[hw];exact d.fresh _
theorem lC(b:η){rest}{a:O8}{g:P1->O8->η->Prop}(t:o.guard=U)(i j:N5)(u:o.op=.call {callee:=.builtin .append,args:= #[i,j],argTypes:= #[42,42]})(base){e:K5}{k:Z}(w:ρ.info? 3=J e)(x:e.zero=J k)(y:e.size=1)(z:e.bytes=8)(B:k.cells.size=1){m:Z}(C:m.oneCell'=E2)(v:Z)(f)(F:a.eval i=v)(K:vB b base m v f)(l:F3)(d n)(L:a.eval j=V (J l) d n)(N:0<d)(O:∀q,q<d->α b (l.add q)=J m)(P:f+d<=1000000)(R:base<=M (E b))(S:∀v' c,vB c base m v' (f+d)->b.grownBy c v.ownBlock->(v'.ownBlock=v.ownBlock\/v'.ownBlock=J (M (E b)))->(∀r s,vB b base m r s->vB c base m r s)->J8 ρ p g rest (a.put o.dst v') c):J8 ρ p g (o::rest) a b:=by
 refine J3 t λ_ d=>?_;obtain⟨v',c,e,f,k,l,q⟩:=zX o.type w x y z B C K n N O P R;unfold Oper.wp M4;simp only[u,O9,P3,P0,Sem.run_bind,Sem.run_pure,K7,L5,M2,M7,F,L,e];exact d _ _ (S v' c f k l q)
theorem jM{f j o:η}{b t r:G}{i}{n:Z}{s}(own:f.ownsRow b i t n r s)(m:Bl f j)(q:j.grownBy o n.ownBlock){c:G}{k e l}(a:f.heap[c]? =J (ζ k e l))(p:e≠i):o.heap[c]? =J (ζ k e l):=by
 have u:=aH a;refine((q.block c (by have:=m.size;omega) (λd=>?_)).trans (m.block c u)).trans a;rcases own.2 with⟨g,_⟩|⟨_,_,_,g,_,v,_⟩
 ·rw[g]at d;cases d
 rw[g]at d;cases d;rw[v]at a;cases a;exact p D
structure oL where
 name:ByteArray
 k:iC
 ro:Option Addr
 rn:Nat
 rc:Nat
 rows:List iC
 count:Int
 aR:ByteArray
 u:iC
structure Dw(w0:World)(s:oL):Prop where
 k:iK PG w0 3 s.k
 u:iK KX w0 1 s.u
 small:s.rn<=1048576
 nil:s.ro=none->s.rn=0/\s.rc=0
 rows:pW w0 s.ro s.rn s.rows
 each:∀r∈s.rows,Br w0 r
def tQ(w0:η)(wo:D1 F3)(n:G)(bI:ω oL):Prop:=Q bI=n/\(n=0\/∃b off,wo=J ⟨b,off,U⟩/\b<M (E w0)/\∀(i:G) (s:oL),bI[i]? =J s->
 α w0 ⟨b,off+i*6,U⟩=J (γ s.name)/\α w0 ⟨b,off+i*6+1,U⟩=J (V s.k.ro s.k.rn s.k.rc)/\α w0 ⟨b,off+i*6+2,U⟩=J (V s.ro s.rn s.rc)/\α w0 ⟨b,off+i*6+3,U⟩=J (ξ μ s.count)/\
 α w0 ⟨b,off+i*6+4,U⟩=J (γ s.aR)/\α w0 ⟨b,off+i*6+5,U⟩=J (V s.u.ro s.u.rn s.u.rc))
def uJ(R:ω Ln)(ro:D1 F3)(rn rc:G)(v:Z):Prop:=(rn=0/\v=V U 0 0)\/∃g es,v=V (J ⟨g,0,U⟩) rn (rn+3)/\(⟨g,rn,ro,rc,es⟩:Ln)∈R
theorem uJ.mono{b c f e v}(a:uJ b d f e v)(g:∀l∈b,l∈c):uJ c d f e v:=by
 rcases a with a|⟨i,j,k,m⟩
 ·exact F4 a
 exact G6 ⟨i,j,k,g _ m⟩
def wI(s:oL)(kv rv xv:Z):ω Z:=[γ s.name,kv,rv,ξ μ s.count,γ s.aR,xv]
def oM(K R X:ω Ln)(bI:ω oL)(es:ω Z):Prop:=Q es=Q bI*6/\∀(i:G) (s:oL),bI[i]? =J s->∃kv rv xv,(∀j,j<6->es[i*6+j]? =(wI s kv rv xv)[j]?)/\bX K s.k kv/\uJ R s.ro s.rn s.rc rv/\bX X s.u xv
theorem oM.mono{a c e b d f bI g}(j:oM a c e bI g)(k:∀l∈a,l∈b)(m:∀l∈c,l∈d)(n:∀l∈e,l∈f):oM b d f bI g:=
 ⟨j.1,λi s o=>by
  obtain⟨p,q,r,t,u,v,w⟩:=j.2 i s o;exact⟨p,q,r,t,u.mono k,v.mono m,w.mono n⟩⟩
theorem oM.snoc{e f g bI m}{s:oL}{i j l}(n:oM e f g bI m)(r:bX e s.k i)(t:uJ f s.ro s.rn s.rc j)(v:bX g s.u l):oM e f g (bI++ [s]) (m++wI s i j l):=by
 have o:=n.1;refine⟨by simp[o,wI];omega,λd w c=>?_⟩;by_cases x:d<Q bI
 ·rw[κ x]at c;obtain⟨y,z,B,a,b,C,F⟩:=n.2 d w c;exact⟨y,z,B,λq p=>by rw[κ I];exact a q p,b,C,F⟩
 rw[ι I]at c;have y:d-Q bI=0:=by
  have:=(σ.mp c).1;simp at this;omega
 rw[y]at c;cases c;obtain rfl:d=Q bI:=I;exact⟨i,j,l,λq p=>by rw[ι I,o,Nat.add_sub_cancel_left],r,t,v⟩
def WtT(w0:η)(K R X:ω Ln)(l:Ln):Prop:=∃bI,tQ w0 l.wo l.n bI/\oM K R X bI l.cs
def TJ(j:G):Z:=if j=0 then γ ⟨#[]⟩else if j=3 then ξ μ 0 else if j=4 then γ ⟨#[]⟩else V U 0 0
def Ay(j:G):Z:=if j=0 then γ ⟨#[98,101,121,111,110,100]⟩else TJ j
def xE(j:G):Z:=if j=0 then γ ⟨#[98,101,121,111,110,100]⟩else γ ⟨#[]⟩
def uQ(v:Z):Prop:=∃a n c,v=V a n c
def acE(C R X K B F:ω Ln):Prop:=Q C<=2199023255552/\Q R<=2199023255552/\Q X<=2199023255552/\Q K<=2199023255552/\Q B<=2199023255552/\Q F<=2199023255552
def eO(w0 w:η)(mb:G)(C R X K B F:ω Ln):Prop:=∃vc vr vx vk vb vf:Z,(uQ vc/\uQ vr/\uQ vx/\uQ vk/\uQ vb/\uQ vf)/\
 w.heap[mb]? =J (ζ #[vc,vr,vx,V U 0 0,vk,vb,vf,V U 0 0,V U 0 0] 118 (0,0))/\
 bE (mQ Lr w0 3) w 56 227 3 qR mb vc C/\bE (WtR w0 C) w 57 292 1 xG mb vr R/\bE (mQ KX w0 1) w 9 294 1 uW mb vx X/\
 bE (mQ PG w0 3) w 50 290 3 uV mb vk K/\bE (WtT w0 K R X) w 54 190 6 Ay mb vb B/\bE (mQ Ws w0 3) w 48 185 3 xE mb vf F
theorem eO.ah{i w x b c f g e B d}(k:eO i w b c f g e B d)(a:Bl w x):eO i x b c f g e B d:=by
 obtain⟨l,m,n,o,p,q,r,j,s,t,u,v,y,z⟩:=k;exact⟨l,m,n,o,p,q,r,(a.block b (aH j)).trans j,s.ah a,t.ah a,u.ah a,v.ah a,y.ah a,z.ah a⟩
theorem eO.other{w0 e x:η}{c g:G}{T' j m n l i k}(q:eO w0 e c j m n l i k)(b:∀d,d≠g->x.heap[d]? =e.heap[d]?)(a:∃o,e.heap[g]? =J (ζ o T' (0,0)))(p:T'∉ [56,227,57,292,9,294,50,290,54,190,48,185,118]):eO w0 x c j m n l i k:=by
 obtain⟨r,s,t,u,v,w,y,f,z,B,C,F,K,L⟩:=q;simp only[G0,E4,J2,not_or]at p;obtain⟨N,O,P,R,S,T,W,X,a0,a1,a2,a3,a4⟩:=p;refine⟨r,s,t,u,v,w,y,(b c λa5=>?_).trans f,z.other b a (Ne.symm N) (Ne.symm O),B.other b a (Ne.symm P) (Ne.symm R),C.other b a (Ne.symm S) (Ne.symm T),F.other b a (Ne.symm W) (Ne.symm X),K.other b a (Ne.symm a0) (Ne.symm a1),L.other b a (Ne.symm a2) (Ne.symm a3)⟩;subst a5;obtain⟨o,a6⟩:=a;rw[a6]at f;cases f;exact a4 D
theorem eO.Kg{r f s:η}{e g:G}{m p q o n}(u:eO r f e m p q o [] n)(b:∀c,c≠g->s.heap[c]? =f.heap[c]?)(a:∃d,f.heap[g]? =J (ζ d 54 (0,0))):eO r s e m p q o [] n:=by
 obtain⟨v,w,x,y,z,B,C,i,F,K,L,N,O,P⟩:=u;refine⟨v,w,x,y,z,B,C,(b e λj=>?_).trans i,F.other b a Y Y,K.other b a Y Y,L.other b a Y Y,N.other b a Y Y,⟨gm O.own λc _ _ t=>b c λj=>?_,λl R=>by simp at R,List.Pairwise.nil⟩,P.other b a Y Y⟩
 ·subst j;obtain⟨d,k⟩:=a;rw[k]at i;cases i
 subst j;obtain⟨d,k⟩:=a;rw[k]at t;cases t
theorem QF{k d:η}{c}(j:d.heap[c]? =J (ζ #[V U 0 0,V U 0 0,V U 0 0,V U 0 0,V U 0 0,V U 0 0,V U 0 0,V U 0 0,V U 0 0] 118 (0,0))):eO k d c [] [] [] [] [] []:=by
 have b:uQ (V U 0 0):=⟨_,_,_,D⟩;have a:∀(e:Ln->Prop) (f g:F1) (i:G) (far:G->Z),bE e d f g i far c (V U 0 0) []:=λe f g i far=>⟨H0 _ _ _ _,λl a=>by simp at a,List.Pairwise.nil⟩;exact⟨_,_,_,_,_,_,⟨b,b,b,b,b,b⟩,j,a _ _ _ _ _,a _ _ _ _ _,a _ _ _ _ _,a _ _ _ _ _,a _ _ _ _ _,a _ _ _ _ _⟩
theorem UC:(ρ.info? 48).map (λa=>(a.zero,a.size,a.bytes))=J (J (I0 #[γ ⟨#[]⟩,γ ⟨#[]⟩,γ ⟨#[]⟩]),3,48):=aF
theorem JE:(ρ.info? 185).map (λa=>(a.zero,a.size,a.bytes))=J (J (I0 #[V U 0 0,V U 0 0]),2,48):=aF
theorem XR:(ρ.info? 54).map (λa=>(a.zero,a.size,a.bytes))=J (J (I0 #[γ ⟨#[]⟩,V U 0 0,V U 0 0,ξ μ 0,γ ⟨#[]⟩,V U 0 0]),6,112):=aF
theorem MU:(ρ.info? 190).map (λa=>(a.zero,a.size,a.bytes))=J (J (I0 #[V U 0 0,V U 0 0]),2,48):=aF
def pm(a b:Z)(j:G):Z:=if j % 2=0 then a else b
def lm(a b:Z)(n:G):ω Z:=(List.range (n*2)).map (pm a b)
section
variable {a b : Value}
theorem gJ(c):Q (lm a b c)=c*2:=by simp[lm]
theorem pu{d c}(e:c<d*2):(lm a b d)[c]? =J (pm a b c):=by simp[lm,e]
theorem Tx{l d}(g:Q l=d*2)(f:∀c,c<d*2->l[c]? =J (pm a b c)):l=lm a b d:=by
 apply L2;intro c;by_cases e:c<d*2
 ·rw[f c e,pu e]
 rw[F6 I,F6 (by rw[gJ];omega)]
theorem EM(c e):lm a b c++lm a b e=lm a b (c+e):=by
 refine Tx (by rw[φ,gJ,gJ];omega) λd _=>?_;by_cases f:d<c*2
 ·rw[κ (by rw[gJ];exact f),pu f]
 rw[ι (by rw[gJ];omega),gJ,pu I,pm,pm,show(d-c*2) % 2=d % 2 by omega]
theorem VY{l:ω Z}{c d e}(n:c*2+d*2<=Q l)(o:e*2<=Q l)(j:l.take (c*2)=lm a b c)(k:l.take (e*2)=lm a b e):(l.take (c*2)++lm a b d++l.drop (c*2+d*2)).take (e*2)=lm a b e:=by
 have m:Q (l.take (c*2)++lm a b d++l.drop (c*2+d*2))=Q l:=by simp[gJ];omega
 refine Tx (by rw[E5,m];omega) λf g=>?_;rw[K2 g,j,EM];by_cases i:f<(c+d)*2
 ·rw[κ (by rw[gJ];exact i),pu i]
 rw[ι (by rw[gJ];omega),gJ,G7,show c*2+d*2+(f-(c+d)*2)=f by omega];have:(l.take (e*2))[f]? =(lm a b e)[f]? :=by rw[k]
 rw[K2 g,pu g]at this;exact this
end
def vC(w:η)(base:G)(a b v:Z)(n:G):Prop:=w.ownsRow base 165 2 v n (lm a b n)
theorem vC.ah{w x:η}{base}{a b v:Z}{d}(e:vC w base a b v d)(f:∀c,v.ownBlock=J c->x.heap[c]? =w.heap[c]?):vC x base a b v d:=aD e f
theorem vC.fresh{f:η}{base a b}(d){e c}(g:vC f base a b e c):vC (f.drew.alloc d) base a b e c:=D0 (E1 g) d
theorem zY{e:η}{base}(s){l:K5}{u:Z}(w:ρ.info? 165=J l)(C:l.zero=J u)(o:l.size=2)(z:l.bytes=32)(a6:u.cells.size=2){a b:Z}(b6:a.oneCell'=E2)(b7:b.oneCell'=E2){t:Z}{k}(B:vC e base a b t k){d}(r)(a4:0<d)(a5:∀f,f<d*2->α e (c.add f)=J (pm a b f))(b5:k+d<=1000000)(a3:base<=M (E e)):
  ∃p q,(K9 #[87,87] s #[t,V (J c) d r]).run ρ e=.ok p q/\vC q base a b p (k+d)/\e.grownBy q t.ownBlock/\(p.ownBlock=t.ownBlock\/p.ownBlock=J (M (E e)))/\∀i F,vC e base a b i F->vC q base a b i F:=by
 have m:Q (lm a b d)=d*2:=gJ d;have x:∀f i,(lm a b d)[f]? =J i->α e (c.add f)=J i:=λf i j=>by
  have n:f<d*2:=by rw[<-m];exact(σ.mp j).1
  rw[pu n]at j;rw[<-j];exact a5 f n
 have O:∀i∈lm a b d,i.oneCell'=E2:=λi j=>by
  simp only[lm,List.mem_map,pm]at j;obtain⟨f, -,rfl⟩:=j;split<;>assumption
 have b0:k+d<=maxLen:=fD;obtain⟨p,q,y,T,a7,_,a8⟩:=M8 (P:=ρ) e base 87 s 165 l u 2 32 H4 w C o z a6 I t k (lm a b k) B c d r (lm a b d) m x O b0 I a3;rw[EM]at T;refine⟨p,q,y,T,a7,a8,λi F j=>?_⟩;rcases B.2 with⟨rfl,rfl⟩|⟨g,cap,S,rfl,_,L,_,_,_,b4⟩
 ·have n:=O6 (P:=ρ) e 87 s 165 l u H4 w C c d r (lm a b d) (by rw[o];exact m) x a4 I (by rw[z];omega);rw[y]at n;injection n with _ hw
  rw[hw];exact j.fresh _
 by_cases b2:k+d<=cap
 ·have n:=O1 (P:=ρ) e 87 s 165 l H4 w g k cap S L c d r (lm a b d) (by rw[o];exact m) x O b2 (by rw[o,m];omega);rw[y]at n;injection n with _ hw
  rw[o,m]at hw;rw[hw];rcases j.2 with⟨rfl,rfl⟩|⟨v,R,K,rfl,W,N,a1,X,b3,a2⟩
  ·exact⟨j.1,F4 ⟨D,D⟩⟩
  by_cases a0:v=g
  ·subst a0;have a9:K=S:=by rw[L]at N;cases N;rfl
   subst a9;refine⟨j.1,G6 ⟨v,R,_,D,W,L8 e v K _ _ _ L,a1,X, ?_, ?_⟩⟩
   ·simp only[List.size_toArray,φ,E5,List.length_drop,E6,m];omega
   exact VY (by rw[E6];omega) (by rw[E6];omega) b4 a2
  exact⟨j.1,G6 ⟨v,R,K,D,W,(J4 e g v _ a0).trans N,a1,X,b3,a2⟩⟩
 have b1:∀f i,(lm a b k)[f]? =J i->α e (((H g 0 U):F3).add f)=J i:=J1 B (g:=g) D;have n:=O2 (P:=ρ) e 87 s 165 l u H4 w C (H g 0 U) k cap (lm a b k) (by rw[o];exact gJ k) b1 c d r (lm a b d) (by rw[o];exact m) x I I (O7 I (by rw[z];omega));rw[y]at n;injection n with _ hw
 rw[hw];exact j.fresh _
theorem lD(c:η){rest}{f:O8}{k:P1->O8->η->Prop}(u:o.guard=U)(l m:N5)(w:o.op=.call {callee:=.builtin .append,args:= #[l,m],argTypes:= #[87,87]})(base){g:K5}{n:Z}(x:ρ.info? 165=J g)(y:g.zero=J n)(z:g.size=2)(B:g.bytes=32)(C:n.cells.size=2){a b:Z}(F:a.oneCell'=E2)(K:b.oneCell'=E2)(v:Z)(i)(L:f.eval l=v)(N:vC c base a b v i)(q:F3)(e r)(O:f.eval m=V (J q) e r)(P:0<e)(R:∀j,j<e*2->α c (q.add j)=J (pm a b j))(S:i+e<=1000000)(T:base<=M (E c))(W:∀v' d,vC d base a b v' (i+e)->c.grownBy d v.ownBlock->(v'.ownBlock=v.ownBlock\/v'.ownBlock=J (M (E c)))->(∀s t,vC c base a b s t->vC d base a b s t)->J8 ρ p k rest (f.put o.dst v') d):J8 ρ p k (o::rest) f c:=by
 refine J3 u λ_ e=>?_;obtain⟨v',d,g,i,j,n,q⟩:=zY o.type x y z B C F K N r P R S T;unfold Oper.wp M4;simp only[w,O9,P3,P0,Sem.run_bind,Sem.run_pure,K7,L5,M2,M7,L,O,g];exact e _ _ (W v' d i j n q)
def Wv(w:η)(v:Z)(z:H3):Prop:=∃(ao:D1 F3) (n cap:G),v=V ao n cap/\n<=1000000/\(n=0\/∃b off,ao=J ⟨b,off,U⟩/\b<M (E w)/\∀i,i<n->α w ⟨b,off+i,U⟩=J (ξ μ z))
theorem Wv.ah{w x v}(a:Wv w v t)(c:Bl w x):Wv x v t:=by
 obtain⟨e,f,cap,g,j,k⟩:=a;refine⟨e,f,cap,g,j, ?_⟩;rcases k with a|⟨b,l,m,d,n⟩
 ·exact F4 a
 exact G6 ⟨b,l,m,D3 d c.size,λi o=>cK c d (n i o)⟩
theorem LB{d:η}{g:Z}{e:G}(m:e<=16000000)(j:Wv d g (-1000-(e:H3))):E7 ρ 17 #[g,ξ μ (e:H3)] d (RB (D4 E2) d):=by
 obtain⟨_,c,cap,rfl,_,f⟩:=j;go_enter func17,ntmps17;go_wp2_with fail;go_loopg [5] c (λgk i wr=>∃a:G,gk=c-a/\a<=c/\i=ξ μ a/\wr=d)
 ·exact⟨0,D,χ _,D,D⟩
 obtain⟨a,k,_,rfl,rfl⟩:=hrel;subst k;by_cases l:a<c
 ·obtain⟨b,_,rfl,_,i⟩:=f.resolve_left I;have:=i a l;clear i f
  go_wp2
  go_roundg (c-(a+1))
  case measure=>omega
  exact⟨a+1,D,I,aP,by trivial⟩
 clear f
 go_wp2
 go_ret;exact⟨D,θ _ _⟩
theorem Oz{e m n c}(r:aY e m c)(s:aY e n c):E7 ρ 36 #[m,n] e (RB (D4 E2) e):=by
 obtain⟨_,cap,rfl,t,i⟩:=r;obtain⟨_,_,rfl,_,j⟩:=s;obtain⟨f,g⟩:=au (Q c);rw[<-g];rw[<-g]at t;change G1 _ at g;go_enter func36,ntmps36;go_wp2_with fail;go_loopg [5] f (λgk d wr=>∃a:G,gk=f-a/\a<=f/\d=ξ μ a/\Bl e wr)
 ·exact⟨0,D,χ _,D,θ _ _⟩
 obtain⟨a,u,_,rfl,d⟩:=hrel;subst u;have C:=d.size;by_cases F:a<f
 ·have k:c≠ []:=by intro v;have:=g.out;rw[v]at this;simp at this;omega
  obtain⟨b,_,rfl,w,o⟩:=i.resolve_left k;obtain⟨x,_,rfl,y,p⟩:=j.resolve_left k;have l:a<Q c:=cz g.out;have z:=cK d w (o a _ (τ l));have B:=cK d y (p a _ (τ l));have K:b<M (E wr):=I;have L:x<M (E wr):=I;obtain⟨_,q⟩:=au (c[a]);rw[<-q]at z B;clear o p i j q l k;generalize k:wr=wo at*;clear k;go_upto_region 6 with fail
  go_region;all_goals go_wp2_with fail
  all_goals
   go_roundg (f-(a+1))
   case measure=>omega
   exact⟨a+1,D,I,aP,by first|exact d|exact d.drew⟩
 clear i j
 go_wp2
 go_ret;exact⟨D,d⟩
abbrev JR:ω F1:=[227,292,294,290,118]
theorem WtT.mono{g a c e b d f l}(i:WtT g a c e l)(j:∀l∈a,l∈b)(k:∀l∈c,l∈d)(m:∀l∈e,l∈f):WtT g b d f l:=by
 obtain⟨bI,n,o⟩:=i;exact⟨bI,n,o.mono j k m⟩
theorem Yi{k c f r t u j q s}(v:eO k c f r t u j q s)(C:Bl k c){b:iC}(e:iK PG k 3 b)(F:Q j<=1099511627776):
  E7 ρ 58 #[E0 (J (H f 0 U)),V b.ro b.rn b.rc] c λn g=>∃(y:D1 F3) (x w:G) (m:ω Ln),n=I3 (V y x w)/\Q m<=1/\eO k g f r t u (j++m) q s/\bX (j++m) b (V y x w)/\Ω f c g/\dX c g JR:=by
 obtain⟨K,o,z,L⟩:=b
 cases K with
 |none=>
  obtain⟨d,i⟩:=e.nil D;dsimp only at d i;subst d i;refine(PZ c f).mono ?_;rintro n g ⟨rfl,rfl⟩;exact⟨U,0,0,[],D,ak,by rw[E8];exact v,F4 ⟨D,D⟩,θ _ _,dX.refl _ _⟩
 |some N=>
  obtain⟨O,P,R,_,S,T,⟨W,X,a0,a1,a2,a3⟩,a4,a5,a6,a7,a8,a9,hF⟩:=v;obtain⟨a,_,_,rfl⟩:=a1;refine(PY a4 D a8 F C z e.small e.want e.one e.ty).mono ?_;rintro n g ⟨p,b0,rfl,b1,b2,b3,b4,d⟩;refine⟨J (H p 0 U),o,o+3,[⟨p,o,J N,z,L⟩],D,ak,⟨O,P,R,b0,S,T,⟨W,X,a0,b3,a2,a3⟩,b1,a5.typed d Y Y Y Y,a6.typed d Y Y Y Y,a7.typed d Y Y Y Y,b2,(a9.typed d Y Y Y Y).mono λl _ b5=>b5.mono (λB i=>Γ _ i) (λB i=>i) (λB i=>i),hF.typed d Y Y Y Y⟩,G6 ⟨p,D,F5 _ ak⟩,b4,d.l Y Y⟩
theorem Hz{k c f r u j t q s}(v:eO k c f r u j t q s)(C:Bl k c){b:iC}(e:iK KX k 1 b)(F:Q j<=1099511627776):
  E7 ρ 60 #[E0 (J (H f 0 U)),V b.ro b.rn b.rc] c λn g=>∃(y:D1 F3) (x w:G) (m:ω Ln),n=I3 (V y x w)/\Q m<=1/\eO k g f r u (j++m) t q s/\bX (j++m) b (V y x w)/\Ω f c g/\dX c g JR:=by
 obtain⟨K,o,z,L⟩:=b
 cases K with
 |none=>
  obtain⟨d,i⟩:=e.nil D;dsimp only at d i;subst d i;refine(OY c f).mono ?_;rintro n g ⟨rfl,rfl⟩;exact⟨U,0,0,[],D,ak,by rw[E8];exact v,F4 ⟨D,D⟩,θ _ _,dX.refl _ _⟩
 |some N=>
  obtain⟨O,P,_,R,S,T,⟨W,X,a0,a1,a2,a3⟩,a4,a5,a6,a7,a8,a9,hF⟩:=v;obtain⟨a,_,_,rfl⟩:=a0;refine(OX a4 D a7 F C z e.small e.want e.one e.ty).mono ?_;rintro n g ⟨p,b0,rfl,b1,b2,b3,b4,d⟩;refine⟨J (H p 0 U),o,o+3,[⟨p,o,J N,z,L⟩],D,ak,⟨O,P,b0,R,S,T,⟨W,X,b3,a1,a2,a3⟩,b1,a5.typed d Y Y Y Y,a6.typed d Y Y Y Y,b2,a8.typed d Y Y Y Y,(a9.typed d Y Y Y Y).mono λl _ b5=>b5.mono (λB i=>i) (λB i=>i) (λB i=>Γ _ i),hF.typed d Y Y Y Y⟩,G6 ⟨p,D,F5 _ ak⟩,b4,d.l Y Y⟩
theorem Yk{g f e p o w v t u}(x:eO g f e p o w v t u)(K:Bl g f)(L:M (E g)<=e){c i rows}(T:c<=1048576)(P:d=U->c=0/\i=0)(S:pW g d c rows)(R:∀W∈rows,Br g W)(N:Q p+c<=1099511627776)(O:Q o<=1099511627776):
  E7 ρ 59 #[E0 (J (H e 0 U)),V d c i] f λr j=>∃(B:D1 F3) (z y:G) (n q:ω Ln),r=I3 (V B z y)/\Q n<=c/\Q q<=1/\eO g j e (p++n) (o++q) w v t u/\uJ (o++q) d c i (V B z y)/\Ω e f j/\dX f j JR:=by
 cases d with
 |none=>
  obtain⟨rfl,rfl⟩:=P D;refine(Rn f e).mono ?_;rintro r j ⟨rfl,rfl⟩;exact⟨U,0,0,[],[],D,ak,ak,by rw[E8,E8];exact x,F4 ⟨D,D⟩,θ _ _,dX.refl _ _⟩
 |some X=>
  obtain⟨_,_,a0,a1,a2,a3,⟨a4,a5,a6,a7,a8,a9⟩,b0,b1,b2,b3,b4,b5,hF⟩:=x;obtain⟨a,_,_,rfl⟩:=a4;obtain⟨b,_,_,rfl⟩:=a5;refine(Rm b0 D D b1 b2 N O K L i T S R).mono ?_;rintro r j ⟨s,b6,b7,b8,b9,c0,c1,n,C,rfl,c2,c3,c4,c5,_,c6,k⟩;refine⟨J (H s 0 U),c,c+3,n,[⟨s,c,J X,i,C⟩],D,c4,ak,⟨V b6 b7 b8,V b9 c0 c1,a0,a1,a2,a3,⟨⟨_,_,_,D⟩,⟨_,_,_,D⟩,a6,a7,a8,a9⟩,c2,c3,c5,b3.bW k Y Y,b4.bW k Y Y,(b5.bW k Y Y).mono λl _ c7=>c7.mono (λF m=>m) (λF m=>Γ _ m) (λF m=>m),hF.bW k Y Y⟩,G6 ⟨s,C,D,F5 _ ak⟩,c6,k.mono Y⟩
theorem afZ{P:N4}{c:P1->O8->η->Prop}{d:η->Prop}{e f:G}{g:Z}{k:G}{a:O8}{b:η}(s:p[e]? =J o)(q:o.dst=J f)(u:L3 p=E2)(r:M6 O p B e=E2)(t:(M1 O p B).contains e=E2)(m:∀j a b,c (.panic j) (a.put (J f) g) b->c (.panic j) a b)(v:L9 o (yielded p a.tmps)=E2)(w:∀i,d i->(M4 a.eval o).run P i=.ok (.value g) i)(n:d b)(l:O3 P O p c d k (B.setIfInBounds e E2) (a.put (J f) g) b):O3 P O p c d (k+1) B a b:=by
 rw[<-q]at m l;exact P2 s u r t m (F4 ⟨v,w⟩) n l
theorem afY{P:N4}{c:P1->O8->η->Prop}{e:η->Prop}{d f:G}{i:G}{a:O8}{b:η}(q:p[d]? =J o)(m:o.dst=J f)(s:L3 p=E2)(n:M6 O p B d=E2)(r:(M1 O p B).contains d=E2)(k:∀g a b,c (.panic g) (a.put (J f) undef) b->c (.panic g) a b)(t:L9 o (yielded p a.tmps)=E3)(l:e b)(j:O3 P O p c e i (B.setIfInBounds d E2) (a.put (J f) undef) b):O3 P O p c e (i+1) B a b:=by
 rw[<-m]at k j;exact P2 q s n r k (G6 ⟨t,D⟩) l j
def iT(n:G):Code->D1 Code
 | .seq a b=>match iT n a with
  |some c=>J c
  |none=>iT n b
 | .block k c=>if k=n then J (.block k c)else iT n c
 | .scope c=>iT n c
 | .loop c=>iT n c
 | .cond _ a b=>match iT n a with
  |some c=>J c
  |none=>iT n b
 |_=>U
def xA(w:η)(T:F1)(z:G)(ov:G->Z)(l:Ln):Prop:=w.rowIs l.g T ((l.n+3)*z) (λj=>ov (j % z))
structure eD(w wr:World)(mb:Nat)(T:TypeId)(z:Nat)(far ov:Nat->Value)(ls:List Ln)(k:Nat):Prop where
 done:∀(j:Nat) (l:Ln),j<k->ls[j]? =some l->xA wr T z ov l
 todo:∀(j:Nat) (l:Ln),k<=j->ls[j]? =some l->wr.rowIs l.g T ((l.n+3)*z) (jN z l.cs far)
 ah:dX w wr [T]
 jH:Below mb w wr
 pV:∀q,q<Array.size (World.heap w)->(∀l∈ls,q≠l.g)->wr.heap[q]? =w.heap[q]?
structure jA(wo wx:World)(mb:Nat)(T:TypeId)(z:Nat)(far ov:Nat->Value)(l:Ln)(i:Nat):Prop where
 row:wx.rowIs l.g T ((l.n+3)*z) (uM z ov (jN z l.cs far) 0 (i*z))
 pV:∀q,q<Array.size (World.heap wo)->q≠l.g->wx.heap[q]? =wo.heap[q]?
 jH:Below mb wo wx
theorem eD.start{g:Ln->Prop}{a b f e d}{far j:G->Z}{k c}(i:bE g a b f e far d k c):eD a a d b e far j c 0:=
 ⟨λm l _=>I,λm l _ n=>(i.each l (Φ n)).row,dX.refl _ _,θ _ _,λ_ _ _=>rfl⟩
theorem eD.more{o wr x g i p}{far n:G->Z}{m k}(a:eD o wr g i p far n m k)(b:Bl wr x)(q:g<=M (E wr)):eD o x g i p far n m k:=
 ⟨λj l c d=>(a.done j l c d).of_block (b.block _ (a.done j l c d).lt),λj l c d=>(a.todo j l c d).of_block (b.block _ (a.todo j l c d).lt),a.ah.trans (λf _ _ _ e _=>b.block f (aH e)),a.jH.trans (b.mono q),λf e r=>(b.block f (D3 e a.jH.size)).trans (a.pV f e r)⟩
theorem jA.start{k b e c g}{far f:G->Z}{d a l}(i:eD k b e c g far f d a)(j:d[a]? =J l):jA b b e c g far f l 0:=
 ⟨(i.todo a l (ε _) j).congr λ_ _=>by rw[I8,ny],λ_ _ _=>rfl,θ _ _⟩
theorem jA.more{f wx x c d g}{far e:G->Z}{l i}(a:jA f wx c d g far e l i)(b:Bl wx x)(k:c<=M (E wx)):jA f x c d g far e l i:=
 ⟨a.row.of_block (b.block _ a.row.lt),λj n m=>(b.block j (by have:=a.jH.size;omega)).trans (a.pV j n m),a.jH.trans (b.mono k)⟩
theorem jA.Oc{n wx:η}{k m}{far b:G->Z}{l:Ln}{a c d e}(i:jA n wx k m 3 far b l a)(j:k<=l.g)(p:c=b 0)(q:d=b 1)(r:e=b 2):jA n (((wx.setCell ⟨l.g,a*3,U⟩ c).setCell ⟨l.g,a*3+1,U⟩ d).setCell ⟨l.g,a*3+2,U⟩ e) k m 3 far b l (a+1):=
 ⟨by have:=zJ (K0:=0) (a0:=c) (a1:=d) (a2:=e) (by simpa using i.row) (χ a) p q r;simpa using this,λt s f=>(β _ _ _ _ f).trans ((β _ _ _ _ f).trans ((β _ _ _ _ f).trans (i.pV t s f))),((i.jH.setCell (p:=(H l.g _ U)) j _).setCell (p:=(H l.g _ U)) j _).setCell (p:=(H l.g _ U)) j _⟩
theorem jA.Vt{i wx:η}{c e}{far d:G->Z}{l:Ln}{a f}(b:jA i wx c e 1 far d l a)(n:c<=l.g)(m:f=d 0):jA i (wx.setCell (H l.g a U) f) c e 1 far d l (a+1):=by
 subst m;have j:=b.row;rw[I4 a]at j;exact⟨by rw[I4 (a+1)];exact Ew j (χ a),λp o k=>(β _ _ _ _ k).trans (b.pV p o k),b.jH.setCell (p:=(H l.g _ U)) n _⟩
theorem eD.next{y z wx t s v}{far u:G->Z}{o:ω Ln}{i}{l:Ln}(d:eD y z t s v far u o i)(q:o[i]? =J l)(j:jA z wx t s v far u l (l.n+3))(x:o.Pairwise λa b=>a.g<b.g):eD y wx t s v far u o (i+1):=by
 have B:∀(c:G) (e:Ln),o[c]? =J e->c≠i->e.g≠l.g:=by
  intro c e f w;have p:=(σ.mp f);have r:=(σ.mp q);obtain⟨k,rfl⟩:=p;obtain⟨k1,rfl⟩:=r;rcases Nat.lt_or_gt_of_ne w with d|d
  ·have:=G9.mp x c i k k1 d;omega
  have:=G9.mp x i c k1 k d;omega
 refine⟨λc e w f=>?_,λc e w f=>?_,d.ah.trans λr _ _ _ k K=>j.pV r (aH k) λL=>?_,d.jH.trans j.jH,λr k C=>(j.pV r (D3 k d.jH.size) (C l (Φ q))).trans (d.pV r k C)⟩
 ·by_cases F:c=i
  ·subst F;obtain rfl:l=e:=by rw[q]at f;exact G8 f
   exact j.row.congr λm p=>by unfold uM;rw[υ ⟨χ _,p⟩]
  have p:=d.done c e I f;exact p.of_block (j.pV _ p.lt (B c e f F))
 ·have p:=d.todo c e I f;exact p.of_block (j.pV _ p.lt (B c e f I))
 subst L;obtain⟨_,p,_⟩:=d.todo i l (ε _) q;rw[p]at k;cases k;simp at K
theorem eD.all{i wr g b d}{far c:G->Z}{a}(f:eD i wr g b d far c a (Q a)):∀l∈a,xA wr b d c l:=by
 intro l j;obtain⟨k,e,rfl⟩:=List.getElem_of_mem j;exact f.done k _ e (τ e)
theorem eU{r:Ln->Prop}{e:η}{q k u t}{far:G->Z}{a m s c}(f:bE r e q k u far t (V a m s) c):m=Q c/\(Q c=0\/∃d,a=J (H d 0 U)/\d<M (E e)/\(∃g,e.heap[d]? =J (ζ g k (0,0)))/\∀(b:G) (l:Ln),c[b]? =J l->α e ⟨d,b*2,U⟩=J (V (J (H l.g 0 U)) (l.n+3) (l.n+3))/\α e ⟨d,b*2+1,U⟩=J (V l.wo l.n l.wc)):=by
 have:=f.own.1;rcases f.own.2 with⟨i,o⟩|⟨v,cap,g,i,_,p,_⟩
 ·cases i;exact⟨o.symm,F4 o⟩
 cases i;refine⟨D,G6 ⟨v,D,aH p,⟨g,p⟩,λb l j=>?_⟩⟩;have:=(σ.mp j).1;exact⟨(f.own.cellAt _ I).trans (vY c b l 0 j I),(f.own.cellAt _ I).trans (vY c b l 1 j I)⟩
theorem iJ{a}{far:G->Z}{e b c}(d:a[b]? =J c):jN e a far b=c:=by
 obtain⟨f,g⟩:=σ.mp d;unfold jN;rw[F8 f,g]
theorem gG{b}{far:G->Z}{c a}(d:Q b<=a):jN c b far a=far (a % c):=by
 unfold jN;rw[G5 I]
theorem gV{e}{d c:G->Z}{b a}(f:b<=a):uM e d c 0 b a=c a:=by
 unfold uM;rw[Θ I]
def ovC(j:G):Z:=if j=0 then ξ μ 8 else if j=1 then ξ μ 0 else γ ⟨#[]⟩
def ovX(_:G):Z:=γ ⟨#[111,118,101,114]⟩
def ovK(j:G):Z:=if j=0 then γ ⟨#[111,118,101,114]⟩else if j=1 then γ ⟨#[]⟩else ξ μ 0
def YO(j:G):Z:=if j=0 then γ ⟨#[111,118,101,114]⟩else γ ⟨#[]⟩
def Ww(w:η)(v:Z)(z:H3):Prop:=∃(ao:D1 F3) (n cap:G),v=V ao n cap/\n<=1000000/\(n=0\/∃b off,ao=J ⟨b,off,U⟩/\b<M (E w)/\∀i,i<n->α w ⟨b,off+i*2,U⟩=J (ξ μ z)/\α w ⟨b,off+i*2+1,U⟩=J (V U 0 0))
theorem Ww.ah{w x v}(a:Ww w v t)(c:Bl w x):Ww x v t:=by
 obtain⟨g,j,cap,k,l,m⟩:=a;refine⟨g,j,cap,k,l, ?_⟩;rcases m with a|⟨b,n,o,d,e⟩
 ·exact F4 a
 exact G6 ⟨b,n,o,D3 d c.size,λi f=>⟨cK c d (e i f).1,cK c d (e i f).2⟩⟩
theorem Yq{P:N4}(c){b e}{a:D1 F3}{l d}(f:P.underlying b=J (.slice e)):(I6 .neq b (V a l d) (V U 0 0)).run P c=.ok (D4 (!a.isNone)) c:=by
 simp only[I6];simp[M0 c b e a l d f]
theorem Jf{d:η}{i:Z}{f:G}(n:f<=16000000)(k:Ww d i (-1-(f:H3))):E7 ρ 18 #[i,ξ μ (f:H3)] d (RB (D4 E2) d):=by
 obtain⟨_,c,cap,rfl,_,g⟩:=k;have:∀e,(I6 .neq 42 (V U 0 0) (V U 0 0)).run ρ e=.ok (D4 E3) e:=λe=>Yq e F2;go_enter func18,ntmps18;go_wp2_with fail;go_loopg [5] c (λgk j wr=>∃a:G,gk=c-a/\a<=c/\j=ξ μ a/\wr=d)
 ·exact⟨0,D,χ _,D,D⟩
 obtain⟨a,l,_,rfl,rfl⟩:=hrel;subst l;by_cases m:a<c
 ·obtain⟨b,_,rfl,_,j⟩:=g.resolve_left I;obtain⟨_,_⟩:=j a m;clear j g
  go_wp2
  go_roundg (c-(a+1))
  case measure=>omega
  exact⟨a+1,D,I,aP,by trivial⟩
 clear g
 go_wp2
 go_ret;exact⟨D,θ _ _⟩
theorem JX(a:G)(c:a<=16000000)(b:η):E7 ρ 91 #[ξ μ (a:H3)] b (RB (I0 #[ξ μ (-1-(a:H3)),V U 0 0]) b):=by
 go_enter func91,ntmps91;go_wp2_with fail;exact J5 (v:=I0 #[ξ μ (-1-(a:H3)),V U 0 0]) (by simp[M9,results91,go_sem]) D ⟨D,(θ _ b).alloc (ε _) _⟩
def tO(w:η)(T:F1)(z:G)(ov:G->Z)(xo:D1 F3)(xn xc:G):Prop:=(xo=U/\xn=0/\xc=0)\/∃g,xo=J ⟨g,0,U⟩/\xc=xn+3/\xn<=1048576/\w.rowIs g T ((xn+3)*z) (λj=>ov (j % z))
theorem tO.ah{w x b g}{c:G->Z}{f e}(a:tO w b g c d f e)(k:Bl w x):tO x b g c d f e:=by
 rcases a with a|⟨i,l,m,n,j⟩
 ·exact F4 a
 exact G6 ⟨i,l,m,n,j.of_block (k.block i j.lt)⟩
def ovR(_:G):Z:=V U 0 0
theorem FY{c e o}(g:tO c 56 3 ovC d e o):
  E7 ρ 139 #[V d e o] c (RB (D4 E2) c):=by
 have:e<=1048576:=by rcases g with⟨_,rfl,_⟩|⟨_,_,_,g,_⟩<;>omega
 have q:G1 _:=g;clear g;go_enter func139,ntmps139;go_wp2_with fail;go_loopg [3] e (λgk B wr=>∃a:G,gk=e-a/\a<=e/\B=ξ μ (a:H3)/\Bl c wr)
 ·exact⟨0,D,χ _,D,θ _ _⟩
 obtain⟨a,z,_,rfl,l⟩:=hrel;subst z;by_cases L:a<e
 ·obtain⟨f,rfl,k⟩:∃f,d=J (H f 0 U)/\c.rowIs f 56 ((e+3)*3) (λC=>ovC (C % 3)):=by
   rcases q.out with⟨_,g,_⟩|⟨f,v,_,_,w⟩
   ·omega
   exact⟨f,v,w⟩
  have j:=k.lt;have m:∀b:η,Bl c b->(α b ⟨f,a*3,U⟩=J (ξ μ 8)/\α b ⟨f,a*3+1,U⟩=J (ξ μ 0)/\α b ⟨f,a*3+2,U⟩=J (γ ⟨#[]⟩))/\f<M (E b):=λb i=>
   ⟨⟨cK i j ((k.cell I).trans (by rw[show a*3 % 3=0 by omega];rfl)),cK i j ((k.cell I).trans (by rw[show(a*3+1) % 3=1 by omega];rfl)),cK i j ((k.cell I).trans (by rw[show(a*3+2) % 3=2 by omega];rfl))⟩,D3 j i.size⟩
  obtain⟨⟨r,s,t⟩,y⟩:=m wr l;have p:∀b:η,Bl c b->E7 ρ 138 #[] b (RB (I0 #[ξ μ 8,ξ μ 0,γ ⟨#[]⟩]) c):=λb i=>(uu b).mono λu _ g=>⟨g.1,bT i g.2⟩;clear k j;go_upto_region 4 with fail
  go_cut [15] (λF wx=>F=D4 E3/\Bl c wx)
  ·go_region_with(go_at_call 138;refine(p _ ?_).mono ?_;(first|exact l|exact l.drew);rintro u K ⟨rfl,n⟩;obtain⟨⟨_,_,_⟩,_⟩:=m K n);all_goals(go_wp2;go_meet)
   all_goals exact⟨D,by first|exact n|exact n.drew⟩
  obtain⟨rfl,x⟩:=hcut;clear r s t y m p
  go_wp2
  go_roundg (e-(a+1))
  all_goals first
   |omega
   |exact⟨a+1,D,I,aP,x⟩
 go_wp2
 go_ret;exact⟨D,l⟩
theorem RI{c}(t v u){e k f l g m}(x:tO c 50 3 ovK d e k)(y:tO c 57 1 ovR L f l)(z:tO c 9 1 ovX W g m):
  E7 ρ 140 #[I0 #[γ t,V d e k,V L f l,ξ μ u,γ v,V W g m]] c (RB (D4 E2) c):=by
 have:e<=1048576:=by rcases x with⟨_,rfl,_⟩|⟨_,_,_,n,_⟩<;>omega
 have:f<=1048576:=by rcases y with⟨_,rfl,_⟩|⟨_,_,_,n,_⟩<;>omega
 have:g<=1048576:=by rcases z with⟨_,rfl,_⟩|⟨_,_,_,n,_⟩<;>omega
 have w:=(θ (M (E c)) c).alloc (ε _) (ζ #[γ t,V d e k,V L f l,ξ μ u,γ v,V W g m] 54);have q:=ν c (ζ #[γ t,V d e k,V L f l,ξ μ u,γ v,V W g m] 54);have N:=x.ah w;have O:=y.ah w;have P:=z.ah w;clear x y z;go_enter func140,ntmps140;go_wp2_with fail;generalize R:c.alloc (ζ #[γ t,V d e k,V L f l,ξ μ u,γ v,V W g m] 54)=w1 at*;clear R;have:=aH q;have:α w1 (H (M (E c)) 1 U)=J (V d e k):=aC q;have:α w1 (H (M (E c)) 2 U)=J (V L f l):=aC q;have:α w1 (H (M (E c)) 5 U)=J (V W g m):=aC q;change G1 _ at N;change G1 _ at O;change G1 _ at P;clear q;go_loopw [3] (λj wr=>∃b:G,b<=e/\j=ξ μ (b:H3)/\wr=w1) (λj _=>e-(G3 j).toNat)
 ·exact⟨0,χ _,D,D⟩
 obtain⟨b,_,rfl,r⟩:=hrel;subst r;by_cases S:b<e
 ·obtain⟨a,rfl,i⟩:∃a,d=J (H a 0 U)/\wr.rowIs a 50 ((e+3)*3) (λs=>ovK (s % 3)):=by
   rcases N.out with⟨_,n,_⟩|⟨a,o,_,_,p⟩
   ·omega
   exact⟨a,o,p⟩
  have K:=i.lt;have F:α wr ⟨a,b*3,U⟩=J (γ ⟨#[111,118,101,114]⟩):=(i.cell I).trans (by rw[show b*3 % 3=0 by omega];rfl);clear i
  go_wp2
  go_roundw
  ·exact⟨b+1,I,aP,by trivial⟩
  simp[G3];omega
 go_wp2_with fail;go_loopw [4] (λj wx=>∃b:G,b<=f/\j=ξ μ (b:H3)/\wx=wr) (λj _=>f-(G3 j).toNat)
 ·exact⟨0,χ _,D,D⟩
 obtain⟨B,_,rfl,r⟩:=hrel;subst r;by_cases T:B<f
 ·obtain⟨a,rfl,i⟩:∃a,L=J (H a 0 U)/\wr.rowIs a 57 ((f+3)*1) (λs=>ovR (s % 1)):=by
   rcases O.out with⟨_,n,_⟩|⟨a,o,_,_,p⟩
   ·omega
   exact⟨a,o,p⟩
  have K:=i.lt;have F:α wr (H a B U)=J (V U 0 0):=i.cell I;clear i
  go_wp2
  go_roundw
  ·exact⟨B+1,I,aP,by trivial⟩
  simp[G3];omega
 go_wp2_with fail;go_loopw [5] (λj wx=>∃b:G,b<=g/\j=ξ μ (b:H3)/\wx=wr) (λj _=>g-(G3 j).toNat)
 ·exact⟨0,χ _,D,D⟩
 obtain⟨C,_,rfl,r⟩:=hrel;subst r;by_cases X:C<g
 ·obtain⟨a,rfl,i⟩:∃a,W=J (H a 0 U)/\wr.rowIs a 9 ((g+3)*1) (λs=>ovX (s % 1)):=by
   rcases P.out with⟨_,n,_⟩|⟨a,o,_,_,p⟩
   ·omega
   exact⟨a,o,p⟩
  have K:=i.lt;have F:α wr (H a C U)=J (γ ⟨#[111,118,101,114]⟩):=i.cell I;clear i
  go_wp2
  go_roundw
  ·exact⟨C+1,I,aP,by trivial⟩
  simp[G3];omega
 go_wp2
 go_ret;exact⟨D,w⟩
theorem GM(c:η)(a b d):((((c.alloc a).alloc b).alloc d).heap[M (E c)]? =J a/\(((c.alloc a).alloc b).alloc d).heap[M (E c)+1]? =J b/\(((c.alloc a).alloc b).alloc d).heap[M (E c)+2]? =J d)/\Bl c (((c.alloc a).alloc b).alloc d)/\M (E (((c.alloc a).alloc b).alloc d))=M (E c)+3:=by
 have f:M (E (c.alloc a))=M (E c)+1:=ek;have e:M (E ((c.alloc a).alloc b))=M (E c)+2:=ek;refine⟨⟨?_, ?_, ?_⟩,(((θ _ c).alloc (ε _) _).alloc (by rw[f];omega) _).alloc (by rw[e];omega) _,ek⟩
 ·rw[F7 _ _ _ (by rw[e];omega),F7 _ _ _ (by rw[f];omega)];exact ν c _
 ·rw[F7 _ _ _ (by rw[e];omega),<-f];exact ν _ _
 rw[<-e];exact ν _ _
def aci(C R X K B F:ω Ln):Prop:=(Q C<=1099514773504/\Q X<=1099511627776)/\acE C R X K B F
def aam(w0 w:η)(mb:G)(fu:iC)(tv:Z)(wx:η):Prop:=∃(fv:Z) (F:ω Ln),(wx.heap[M (E w)]? =J (ζ #[V fu.ro fu.rn fu.rc,tv] 67 (0,0))/\wx.heap[M (E w)+1]? =J (ζ #[V U 0 0,V U 0 0] 67 (0,0))/\wx.heap[M (E w)+2]? =J (ζ #[fv,V U 0 0] 67 (0,0)))/\
 uQ fv/\eO w0 wx mb [] [] [] [] [] F/\bX F fu fv/\Q F<=1/\Ω mb w wx
def aal(w0 w:η)(mb:G)(fu:iC)(aS:D1 F3)(tn tc:G)(wx:η):Prop:=∃(fo:D1 F3) (fn fc:G) (bo:D1 F3) (bn bc:G) (C R X K B F:ω Ln),(wx.heap[M (E w)+1]? =J (ζ #[V U 0 0,V U 0 0] 67 (0,0))/\wx.heap[M (E w)+2]? =J (ζ #[V fo fn fc,V bo bn bc] 67 (0,0)))/\
 (aci C R X K B F/\eO w0 wx mb C R X K B F)/\bX F fu (V fo fn fc)/\uJ B aS tn tc (V bo bn bc)/\Ω mb w wx
def Wx(w0 w:η)(mb:G)(fu:iC)(aS:D1 F3)(tn tc:G)(e:P4)(w':η):Prop:=
 ∃(fo:D1 F3) (fn fc:G) (bo:D1 F3) (bn bc:G) (C R X K B F:ω Ln),e=I3 (I0 #[V fo fn fc,V bo bn bc])/\(aci C R X K B F/\eO w0 w' mb C R X K B F)/\bX F fu (V fo fn fc)/\uJ B aS tn tc (V bo bn bc)/\Ω mb w w'
def zT(i j:G):Z:=if j<i*6/\j % 6=0 then γ ⟨#[98,101,121,111,110,100]⟩else TJ (j % 6)
theorem acg(a):zT 0 a=TJ (a % 6):=by unfold zT;rw[Θ I]
theorem TI{i:η}{e f a g b}(l:i.rowIs e g f (tJ b (zT a)))(m:Q b<=a*6):(i.setCell ⟨e,a*6,U⟩ (γ ⟨#[98,101,121,111,110,100]⟩)).rowIs e g f (tJ b (zT (a+1))):=by
 refine(l.set (a*6) _).congr λc _=>?_;unfold tJ zT;by_cases j:c=a*6
 ·subst j;rw[υ D,G5 I,υ I]
 rw[Θ j];by_cases d:c<Q b
 ·rw[F8 d,F8 d]
 rw[G5 d,G5 d];by_cases k:c<a*6/\c % 6=0
 ·rw[υ k,υ I]
 rw[Θ k,Θ I]
theorem ZK{o:η}{a l i m k}{n:G->Z}(p:o.rowIs a m l (tJ k n))(b:Q k=i*6){c d e f g j}:
  ((((((o.setCell ⟨a,i*6,U⟩ c).setCell ⟨a,i*6+1,U⟩ d).setCell ⟨a,i*6+2,U⟩ e).setCell ⟨a,i*6+3,U⟩ f).setCell ⟨a,i*6+4,U⟩ g).setCell ⟨a,i*6+5,U⟩ j).rowIs a m l (tJ (k++ [c,d,e,f,g,j]) n):=by
 have q:=qY p b c;have r:=qY q (i:=i*6+1) (by simp[b]) d;have s:=qY r (i:=i*6+2) (by simp[b]) e;have t:=qY s (i:=i*6+3) (by simp[b]) f;have u:=qY t (i:=i*6+4) (by simp[b]) g;have v:=qY u (i:=i*6+5) (by simp[b]) j;simpa using v
theorem aej{e a d}(f:a<(e+3)*6):tJ d (zT (e+3)) a=jN 6 d Ay a:=by
 unfold tJ jN zT Ay;by_cases b:a<Q d
 ·rw[F8 b,F8 b]
 rw[G5 b,G5 b];by_cases c:a % 6=0
 ·rw[υ ⟨f,c⟩,υ c]
 rw[Θ (λg=>c g.2),Θ c]
theorem Zy(e:η)(a c f g i j k l d)(b:d≠a):((((((e.setCell (H a c U) f).setCell ⟨a,c+1,U⟩ g).setCell ⟨a,c+2,U⟩ i).setCell ⟨a,c+3,U⟩ j).setCell ⟨a,c+4,U⟩ k).setCell ⟨a,c+5,U⟩ l).heap[d]? =e.heap[d]? :=by
 rw[β _ _ _ _ b,β _ _ _ _ b,β _ _ _ _ b,β _ _ _ _ b,β _ _ _ _ b,β _ _ _ _ b]
theorem Zx{e}{y f:η}(n:Ω e y f){a c}(b:e<=a){g i j k l m}:Ω e y ((((((f.setCell (H a c U) g).setCell ⟨a,c+1,U⟩ i).setCell ⟨a,c+2,U⟩ j).setCell ⟨a,c+3,U⟩ k).setCell ⟨a,c+4,U⟩ l).setCell ⟨a,c+5,U⟩ m):=
 (((((n.setCell (p:=(H a _ U)) b _).setCell (p:=(H a _ U)) b _).setCell (p:=(H a _ U)) b _).setCell (p:=(H a _ U)) b _).setCell (p:=(H a _ U)) b _).setCell (p:=(H a _ U)) b _
structure xU(w0 w:World)(mb nb g:Nat)(C R X K F:List Ln)(f:Nat->Value)(N:Nat)(v3 v5:Value)(fu:Value)(arr:Array Value)(x:World):Prop where
 bx:x.heap[nb]? =some (.cells arr 54 (0,0))
 l:eO w0 x mb C R X K [] F
 b:Below mb w x
 out:x.rowIs g 54 N f
 b3:x.heap[Array.size (World.heap w)]? =some (.cells #[fu,v3] 67 (0,0))
 b4:x.heap[Array.size (World.heap w)+1]? =some (.cells #[.slice none 0 0,.slice none 0 0] 67 (0,0))
 b5:x.heap[Array.size (World.heap w)+2]? =some (.cells #[v5,.slice none 0 0] 67 (0,0))
theorem xU.call{f t d r q u w x v e i l m j}{o:G->Z}{k v3 s p n g y}(a:xU f t d r q u w x v e o k v3 s p n g)(B:eO f y d i l m j [] e)(z:Ω d g y)(c:dX g y JR):xU f t d r q i l m j e o k v3 s p n y:=
 ⟨(c _ _ _ _ a.bx Y).trans a.bx,B,a.b.trans z,ja a.out c Y,(c _ _ _ _ a.b3 Y).trans a.b3,(c _ _ _ _ a.b4 Y).trans a.b4,(c _ _ _ _ a.b5 Y).trans a.b5⟩
theorem xU.put{z m j c i n s t q o}{v:G->Z}{r v3 y w}{u:G4 Z}{x:η}(d:xU z m j c i n s t q o v r v3 y w u x)(F:j<=c)(C:i≠c)(L:M (E m)+3<=c)(e k):xU z m j c i n s t q o v r v3 y w (u.setIfInBounds e k) (x.setCell (H c e U) k):=by
 have B:=d.bx;have f:∀g,g≠c->(x.setCell (H c e U) k).heap[g]? =x.heap[g]? :=λg K=>β _ _ _ _ K;exact⟨by simp[Ξ,ψ,B],d.l.Kg f ⟨_,B⟩,d.b.setCell (p:=(H c e U)) F _,d.out.setOther (a:=(H c e U)) C _,(f _ I).trans d.b3,(f _ I).trans d.b4,(f _ I).trans d.b5⟩
def WO(w0 w:η)(mb g:G)(fu:iC)(bv:Z)(F:ω Ln)(fv:Z)(tn:G)(bI:ω oL)(i:G)(wr:η):Prop:=∃(C R X K:ω Ln) (es:ω Z),(Q C<=i*1048576/\Q R<=i/\Q X<=i/\Q K<=i)/\Q es=(min i tn)*6/\
 (wr.heap[M (E w)]? =J (ζ #[V fu.ro fu.rn fu.rc,bv] 67 (0,0))/\wr.heap[M (E w)+1]? =J (ζ #[V U 0 0,V U 0 0] 67 (0,0))/\wr.heap[M (E w)+2]? =J (ζ #[fv,V U 0 0] 67 (0,0)))/\
 eO w0 wr mb C R X K [] F/\oM K R X (bI.take i) es/\wr.rowIs g 54 ((tn+3)*6) (tJ es (zT i))/\Ω mb w wr
theorem FW{k d e}(k1:eO k d e [] [] [] [] [] [])(i7:Ω (M (E k)) k d)(u5:M (E k)<=e){a1 g s N}(hF:iK Ws k 3 ⟨a1,g,s,N⟩){aS i u bI}(x0:i<=1048576)(p2:aS=U->i=0/\u=0)(g2:tQ k aS i bI)(o7:∀t∈bI,Dw k t):
  E7 ρ 24 #[E0 (J (H e 0 U)),I0 #[V a1 g s,V aS i u]] d λj8 M'=>Wx k d e ⟨a1,g,s,N⟩ aS i u j8 M':=by
 obtain⟨p8,j2,m2,j6,m3⟩:=C0 UC;obtain⟨p9,c3,l1,l4,l7⟩:=C0 JE;have C3:e<M (E d):=by obtain⟨_,_,_,_,_,_,_,i8,_⟩:=k1;exact aH i8
 have w9:(ρ.info? 48).map (·.size)=J 3:=by rw[j2];simp[j6]
 obtain⟨n,o8⟩:=au (((d.alloc (ζ #[V a1 g s,V aS i u] 67)).alloc (ζ #[V U 0 0,V U 0 0] 67)).alloc (ζ #[V U 0 0,V U 0 0] 67));obtain⟨⟨K,p,x⟩,g9,l9⟩:=GM d (ζ #[V a1 g s,V aS i u] 67) (ζ #[V U 0 0,V U 0 0] 67) (ζ #[V U 0 0,V U 0 0] 67);rw[<-o8]at K p x g9 l9;have s2:G1 (((d.alloc (ζ #[V a1 g s,V aS i u] 67)).alloc (ζ #[V U 0 0,V U 0 0] 67)).alloc (ζ #[V U 0 0,V U 0 0] 67)=n):=o8.symm;have k4:=k1.ah g9;have u4:Ω (M (E k)) k n:=i7.trans (g9.mono i7.size);have l8:=hF.nil;have o2:=hF.small;have i9:=hF.want;have o1:=hF.one;have x7:G1 _:=hF.ty;dsimp only at l8 o2 i9 o1;change G1 _ at p2;change G1 _ at g2;change G1 _ at o7;clear o8 hF;go_enter func24,ntmps24
 go_upto_if 15 with fail
 rw[s2.out];clear s2;go_cut [] (λwx=>aam k d e ⟨a1,g,s,N⟩ (V aS i u) wx)
 ·clear p2 g2 o7 x0
  cases a1 with
  |none=>
   obtain⟨rfl,rfl⟩:=l8 D
   go_wp2
   go_meet;exact⟨V U 0 0,[],⟨K,p,x⟩,⟨_,_,_,D⟩,k4,F4 ⟨D,D⟩,ak,g9.mono I⟩
  |some w=>
   have n2:G1 _:=i9;have m1:=i9.ah u4;have g8:α n (H (M (E d)) 0 U)=J (V (J w) g s):=(aI K).trans D;have u':M (E d)<M (E n):=I;have s7:G1 _:=l9;have C2:M (E d)+2<M (E n):=I;clear l8 i9 l9;go_wp2_with(first
    |(at_make;refine dx _ D _ _ 64 D 48 p8 _ L4 j2 m2 μ μ (g+3) _ D D I (by(try unfold Bl);rw[m3];omega) I 3 j6 ?_;intro w2 k0 p7 a3 j4 s6;have g8:=(a3.cell (p:=(H (M (E d)) 0 U)) u').trans g8;have v':M (E d)<M (E w2):=I)
    |(refine je D (.tmp 22) (.tmp 24) 64 64 D 48 3 L4 w9 (M (E n)) (g+3) (g+3) (J w) g s D D ((g+3)*3) k0 48 j4 N I m1.1 (m1.ah a3).src (by have:=m1.1;omega) o1 ?_;intro w3 l' w8 e2 j'))
   have r8:Ω (M (E n)) n w3:=e2 _ _ (ε _) a3;have w1:w3.rowIs (M (E n)) 48 ((g+3)*3) (uM 3 xE (tJ N k0) (g*3) ((g+0)*3)):=w8.congr λc5 _=>(ny).symm;clear j4 w8 e2 j' a3 p7 l' g8 v';go_loopw [8] (λg6 wr=>∃m:G,m<=3/\g6=ξ μ ((g+m:G):H3)/\wr.rowIs (M (E n)) 48 ((g+3)*3) (uM 3 xE (tJ N k0) (g*3) ((g+m)*3))/\Ω (M (E n)) n wr) (λg6 _=>(g+3)-(G3 g6).toNat)
   ·exact⟨0,I,aP,w1,r8⟩
   obtain⟨m,C4,rfl,b0,O⟩:=hrel;clear w1 r8;by_cases z9:m<3
   ·have h2:=b0.lt;have j7:=b0.cell (i:=(g+m)*3) I;have y3:=b0.cell (i:=(g+m)*3+1) I;have y4:=b0.cell (i:=(g+m)*3+2) I;have j9:=b0.frozen ((g+m)*3);have y5:=b0.frozen ((g+m)*3+1);have y6:=b0.frozen ((g+m)*3+2)
    go_wp2
    go_roundw
    ·exact⟨m+1,I,aP,zJ b0 I D D D,((O.setCell (p:=(H (M (E n)) _ U)) (ε _) _).setCell (p:=(H (M (E n)) _ U)) (ε _) _).setCell (p:=(H (M (E n)) _ U)) (ε _) _⟩
    simp[G3];omega
   obtain rfl:m=3:=I;have g5:wr.rowIs (M (E n)) 48 ((g+3)*3) (jN 3 N xE):=b0.congr λc5 c3=>Dc n2.out.1 c3;obtain⟨r3,r5,r6,r4,x2,x3,⟨q7,q8,q9,r0,r1,r2⟩,c0,b8,c1,c2,b9,e0,e1⟩:=k4.ah O;obtain⟨a,b7,b6,rfl⟩:=r2;have e':=aH c0;have y2:α wr (H e 6 U)=J (V a b7 b6):=(aI c0).trans D;have h2:=g5.lt;have g3:=(O.block _ I).trans K;have e3:=(O.block _ (by have:=s7.out;omega)).trans p;have e4:=(O.block _ (by have:=s7.out;omega)).trans x;have g8:α wr (H (M (E d)) 0 U)=J (V (J w) g s):=(aI g3).trans D;have w':M (E d)<M (E wr):=aH g3;have j3:oJ (mQ Ws k 3) wr 48 3 xE (e+1) ⟨M (E n),g,J w,s,N⟩:=⟨g5,n2.out.1,by show e+1<=M (E n);omega,o2,n2.out,x7.out⟩;have p1:∀W∈([]:ω Ln),W.g<M (E n):=λW a4=>by simp at a4
   have i3:G1 _:=c0;have e8:G1 _:=e1;have m9:G1 _:=j3;have n1:G1 _:=(⟨b8,c1,c2,b9,e0⟩:_/\_/\_/\_/\_);have s0:G1 _:=(⟨g3,e3,e4⟩:_/\_/\_);have n0:∀q:Obj,(wr.alloc q).drew.ownsRow (e+1) 185 2 (V a b7 b6) 0 []:=λq=>E1 (D0 e1.own q);clear b0 m1 c0 e1 j3 b8 c1 c2 b9 e0 g5 g3 e3 e4 k4 k1 K p x;go_upto_region 10 with fail
   have c':e≠M (E d)+2:=I;have d':e≠M (E d)+1+1:=I
   go_region_law (refine J9 _ D (.tmp 41) (.tmp 46) 114 D (e+1) 185 p9 _ 2 48 underlying114 c3 l1 l4 l7 D Y (V a b7 b6) 0 [] jl (n0 _) (H (M (E wr)) 0 U) 1 1 [V (J (H (M (E n)) 0 U)) (g+3) (g+3),V (J w) g s] jl D (ο (ν wr _)) (by intro L' j5;simp at j5;rcases j5 with rfl|rfl<;>rfl) Y fD I vK (M (E wr)+1) ek ?_;intro g1 e9 T p6 g4 y9 a';have g7:=jM e8.out.own (((θ _ wr).alloc (ε _) _).drew) g4 i3.out Y;have L:=jM e8.out.own (((θ _ wr).alloc (ε _) _).drew) g4 s0.out.2.2 Y;have z0:=aH g7;have y8:=aH L;have H':α T (H e 6 U)=J (V a b7 b6):=(aI g7).trans D;have I':δ T (H e 6 U)=E3:=(by simp[δ,g7]);have J':α T ⟨M (E d)+2,0,U⟩=J (V U 0 0):=(aI L).trans D;have K':δ T ⟨M (E d)+2,0,U⟩=E3:=(by simp[δ,L]))
   all_goals go_wp2_with fail
   all_goals go_meet
   all_goals
    obtain⟨_,m5,m6,m7,F⟩:=iX (w:=wr) (k:=6) (l:=⟨M (E n),g,J w,s,N⟩) i3.out e8.out m9.out p1 Y Y (θ _ _) (kP.refl _ _ _) (((θ _ wr).alloc (ε _) _).drew) g4 p6 (V (J (H g1 0 U)) (0+1) e9);obtain⟨b8,c1,c2,b9,e0⟩:=n1.out;obtain⟨g3,e3,e4⟩:=s0.out;have k3:=(F _ _ _ _ g3 Y Y).trans g3;have q0:=(F _ _ _ _ e3 Y Y).trans e3;have L:=(F _ _ _ _ e4 Y Y).trans e4;have n3:eO k (T.setCell (H e 6 U) (V (J (H g1 0 U)) (0+1) e9)) e [] [] [] [] [] [⟨M (E n),g,J w,s,N⟩]:=
     ⟨r3,r5,r6,r4,x2,V (J (H g1 0 U)) (0+1) e9,⟨q7,q8,q9,r0,r1,⟨_,_,_,D⟩⟩,m5,b8.typed F Y Y Y Y,c1.typed F Y Y Y Y,c2.typed F Y Y Y Y,b9.typed F Y Y Y Y,e0.typed F Y Y Y Y,m6⟩
    refine⟨V (J (H (M (E n)) 0 U)) g (g+3),[⟨M (E n),g,J w,s,N⟩],⟨(β _ _ _ _ (by show M (E d)≠M (E d)+2;omega)).trans k3,(β _ _ _ _ (by show M (E d)+1≠M (E d)+2;omega)).trans q0,by simp[Ξ,ψ]at L ⊢;simp[L]⟩,⟨_,_,_,D⟩,n3.other (g:=M (E d)+2) (T':=67) (λr b1=>β _ _ _ _ b1) ⟨_,L⟩ Y,G6 ⟨M (E n),D,ak⟩,ak, ?_⟩;exact(((g9.mono I).trans (O.mono I)).trans m7).setCell (p:=⟨M (E d)+2,0,U⟩) (by show e<=M (E d)+2;omega) _
 obtain⟨B9,e7,⟨e2,j0,j1⟩,⟨i6,i5,i4,rfl⟩,k2,w0,B5,v1⟩:=hcut;clear K p x k4 k1 l8 o2 i9 o1 u4 w9 j2 m2 j6 m3 c3 l1 l4 l7 g9 l9;obtain⟨p8,j2,m2,j6,m3⟩:=C0 XR;obtain⟨p9,c3,l1,l4,l7⟩:=C0 MU;generalize s':wc=wx at*;clear s';have m4:α wx (H (M (E d)) 1 U)=J (V aS i u):=(aI e2).trans D;have x':=aH e2;have y':=aH j1
 go_upto_if 56 with fail
 go_cut [] (λN'=>aal k d e ⟨a1,g,s,N⟩ aS i u N')
 ·cases aS with
  |none=>
   obtain⟨rfl,rfl⟩:=p2.out D
   go_wp2
   go_meet;exact⟨i6,i5,i4,U,0,0,[],[],[],[],[],e7,⟨j0,j1⟩,⟨⟨⟨ak,ak⟩,ak,ak,ak,ak,ak,I⟩,k2⟩,w0,F4 ⟨D,D⟩,v1⟩
  |some w=>
   go_wp2_with(at_make;refine dx _ D _ _ 65 D 54 p8 _ underlying65 j2 m2 μ μ (i+3) _ D D I (by(try unfold Bl);rw[m3];omega) I 6 j6 ?_;intro w2 k0 p7 a3 j4 s6);have s8:WO k d e (M (E wx)) ⟨a1,g,s,N⟩ (V (J w) i u) e7 (V i6 i5 i4) i bI 0 w2:=⟨[],[],[],[],[],⟨ak,ak,ak,ak⟩,ak,⟨(a3.block _ x').trans e2,(a3.block _ (aH j0)).trans j0,(a3.block _ y').trans j1⟩,k2.ah a3,⟨ak,λc t c9=>by simp at c9⟩,j4.congr λc5 c3=>by
    rw[s6.out];simp only[tJ,List.length_nil,Nat.not_lt_zero,dite_false,acg];have u6:c5 % 6<6:=Nat.mod_lt _ I;show #[γ ⟨#[]⟩,V U 0 0,V U 0 0,ξ μ 0,γ ⟨#[]⟩,V U 0 0][c5 % 6]! =_;generalize c5 % 6=m at u6
    match m,u6 with
    |0,_|1,_|2,_|3,_|4,_|5,_=>rfl,v1.trans (a3.mono I)⟩
   have C1:M (E d)+3<=M (E wx):=I;clear j4 a3 p7 m4 k2 e2 j0 j1;go_loopw [11] (λg6 wr=>∃c:G,c<=i+3/\g6=ξ μ (c:H3)/\WO k d e (M (E wx)) ⟨a1,g,s,N⟩ (V (J w) i u) e7 (V i6 i5 i4) i bI c wr) (λg6 _=>(i+3)-(G3 g6).toNat)
   ·exact⟨0,χ _,D,s8⟩
   clear s8;obtain⟨c,B0,rfl,a6,a8,a9,a7,X,⟨z7,C6,C5,C7⟩,o9,⟨K,p,x⟩,k5,h0,a0,O⟩:=hrel;by_cases z9:c<i+3
   ·by_cases b':c<i
    ·obtain⟨v,b2,rfl,z1,v9⟩:∃v b2,w=(H v b2 U)/\v<M (E k)/\∀(c:G) (t:oL),bI[c]? =J t->α k ⟨v,b2+c*6,U⟩=J (γ t.name)/\α k ⟨v,b2+c*6+1,U⟩=J (V t.k.ro t.k.rn t.k.rc)/\α k ⟨v,b2+c*6+2,U⟩=J (V t.ro t.rn t.rc)/\α k ⟨v,b2+c*6+3,U⟩=J (ξ μ t.count)/\
       α k ⟨v,b2+c*6+4,U⟩=J (γ t.aR)/\α k ⟨v,b2+c*6+5,U⟩=J (V t.u.ro t.u.rn t.u.rc):=by
      rcases g2.out.2 with c9|⟨W,y,i8,o0,y7⟩
      ·omega
      exact⟨W,y,G8 i8,o0,y7⟩
     have z5:c<Q bI:=by rw[g2.out.1];exact b'
     obtain⟨⟨B,f,S,R,P,x1,z,C,j⟩,m0⟩:∃t:oL,bI[c]? =J t:=⟨_,τ z5⟩;have e6:=o7.out _ (Φ m0);obtain⟨q1,q2,q3,q4,q5,q6⟩:=v9 c _ m0;dsimp only at q1 q2 q3 q4 q5 q6;have g0:∀q,α wr (H v q U)=α k (H v q U):=λq=>(O.cell (p:=(H v q U)) (by show v<e;omega)).trans (i7.cell (p:=(H v q U)) z1);have B':=(g0 _).trans q1;have C':=(g0 _).trans q2;have D':=(g0 _).trans q3;have E':=(g0 _).trans q4;have F':=(g0 _).trans q5;have G':=(g0 _).trans q6;have h2:=a0.lt;have z3:v<M (E wr):=cz O.size;have B1:v≠M (E wx):=cz i7.size;have m4:α wr (H (M (E d)) 1 U)=J (V (J (H v b2 U)) i u):=(aI K).trans D;have z':=aH K;have r':M (E d)≠M (E wx):=I;have j7:=a0.cell (i:=c*6) I;have j9:=a0.frozen (c*6);have x8:G1 (bI.take (c+1)=bI.take c++ [⟨B,f,S,R,P,x1,z,C,j⟩]):=by
      rw[G1,L1,m0];rfl
     clear g0 q1 q2 q3 q4 q5 q6 v9 m0;go_upto_region 21 with fail
     have h1:Q X=c*6:=by rw[o9,E9 I]
     have w7:∃a2,wr.heap[M (E wx)]? =J (ζ a2 54 (0,0)):=by obtain⟨a2,c9,_⟩:=a0;exact⟨a2,c9⟩
     have o6:∀r,r≠M (E wx)->(wr.setCell ⟨M (E wx),c*6,U⟩ (γ ⟨#[98,101,121,111,110,100]⟩)).heap[r]? =wr.heap[r]? :=λr b1=>β _ _ _ _ b1;have k6:∀q:Obj,Ω (M (E wr)) (wr.setCell ⟨M (E wx),c*6,U⟩ (γ ⟨#[98,101,121,111,110,100]⟩)) ((wr.setCell ⟨M (E wx),c*6,U⟩ (γ ⟨#[98,101,121,111,110,100]⟩)).alloc q):=λq=>(θ _ _).alloc (by simp[Ξ]) _;have k7:∀(q:Obj) (r:G),r<M (E wr)->r≠M (E wx)->((wr.setCell ⟨M (E wx),c*6,U⟩ (γ ⟨#[98,101,121,111,110,100]⟩)).alloc q).heap[r]? =wr.heap[r]? :=λq r i8 o0=>((k6 q).block r i8).trans (o6 r o0);have w6:((wr.setCell ⟨M (E wx),c*6,U⟩ (γ ⟨#[98,101,121,111,110,100]⟩)).alloc (ζ #[γ B,V f.ro f.rn f.rc,V S R P,ξ μ z,γ C,V j.ro j.rn j.rc] 54)).rowIs (M (E wx)) 54 ((i+3)*6) (tJ X (zT (c+1))):=(TI a0 I).alloc _;have v3:eO k ((wr.setCell ⟨M (E wx),c*6,U⟩ (γ ⟨#[98,101,121,111,110,100]⟩)).alloc (ζ #[γ B,V f.ro f.rn f.rc,V S R P,ξ μ z,γ C,V j.ro j.rn j.rc] 54)) e a6 a8 a9 a7 [] e7:=(k5.Kg o6 w7).ah (by(try unfold Bl);rw[show M (E (wr.setCell ⟨M (E wx),c*6,U⟩ (γ ⟨#[98,101,121,111,110,100]⟩)))=M (E wr)by simp[Ξ]];exact k6 _);have u7:Ω e d ((wr.setCell ⟨M (E wx),c*6,U⟩ (γ ⟨#[98,101,121,111,110,100]⟩)).alloc (ζ #[γ B,V f.ro f.rn f.rc,V S R P,ξ μ z,γ C,V j.ro j.rn j.rc] 54)):=(O.setCell (p:=⟨M (E wx),c*6,U⟩) (by show e<=M (E wx);omega) _).trans ((k6 _).mono I);have v8:((wr.setCell ⟨M (E wx),c*6,U⟩ (γ ⟨#[98,101,121,111,110,100]⟩)).alloc (ζ #[γ B,V f.ro f.rn f.rc,V S R P,ξ μ z,γ C,V j.ro j.rn j.rc] 54)).heap[M (E wr)]? =J (ζ #[γ B,V f.ro f.rn f.rc,V S R P,ξ μ z,γ C,V j.ro j.rn j.rc] 54 (0,0)):=by
      have:=ν (wr.setCell ⟨M (E wx),c*6,U⟩ (γ ⟨#[98,101,121,111,110,100]⟩)) (ζ #[γ B,V f.ro f.rn f.rc,V S R P,ξ μ z,γ C,V j.ro j.rn j.rc] 54)
      rwa[show M (E (wr.setCell ⟨M (E wx),c*6,U⟩ (γ ⟨#[98,101,121,111,110,100]⟩)))=M (E wr)by simp[Ξ]]at this
     have u0:=(k7 (ζ #[γ B,V f.ro f.rn f.rc,V S R P,ξ μ z,γ C,V j.ro j.rn j.rc] 54) _ (aH K) r').trans K;have u1:=(k7 (ζ #[γ B,V f.ro f.rn f.rc,V S R P,ξ μ z,γ C,V j.ro j.rn j.rc] 54) _ (aH p) I).trans p;have u2:=(k7 (ζ #[γ B,V f.ro f.rn f.rc,V S R P,ξ μ z,γ C,V j.ro j.rn j.rc] 54) _ (aH x) I).trans x;generalize n':(wr.setCell ⟨M (E wx),c*6,U⟩ (γ ⟨#[98,101,121,111,110,100]⟩)).alloc (ζ #[γ B,V f.ro f.rn f.rc,V S R P,ξ μ z,γ C,V j.ro j.rn j.rc] 54)=w4 at*;clear n' o6 k6 k7 w7 k5 a0 B' C' D' E' F' G' j7 j9 m4 K p x z';have p0:M (E wx)≠M (E wr):=I;have p3:e<=M (E wr):=cz O.size;have p4:M (E d)+3<=M (E wr):=I;generalize f':M (E wr)=nb at*;clear f' O h2 z3;have c6:xU k d e nb (M (E wx)) a6 a8 a9 a7 e7 (tJ X (zT (c+1))) ((i+3)*6) (V (J (H v b2 U)) i u) (V i6 i5 i4) (V a1 g s) #[γ B,V f.ro f.rn f.rc,V S R P,ξ μ z,γ C,V j.ro j.rn j.rc] w4:=⟨v8,v3,u7,w6,u0,u1,u2⟩;clear v8 v3 u7 w6 u0 u1 u2;have m8:∀W:η,Ω e d W->Ω (M (E k)) k W:=λW a4=>i7.trans (a4.mono u5);have O':α w4 (H nb 1 U)=J (V f.ro f.rn f.rc):=(aI c6.bx).trans D;have h3:=aH c6.bx;have s3:=Yi c6.l (m8 _ c6.b) e6.k I;have C9:(V f.ro f.rn f.rc:Z)=V f.ro f.rn f.rc:=D;go_upto_region 22 with(go_at_call 58;refine s3.mono ?_;rintro j8 x4 ⟨h6,h5,h4,x9,rfl,B4,v4,z6,u8,o3⟩;have k8:=(o3 _ _ _ _ c6.bx Y).trans c6.bx;have g':=aH k8;have P':=(aI (j:=1) k8).trans D;have Q':δ x4 (H nb 1 U)=E3:=(by simp[δ,k8]))
     have c7:=(c6.call v4 u8 o3).put p3 p0 p4 1 (V h6 h5 h4);generalize o':x4.setCell (H nb 1 U) (V h6 h5 h4)=w5' at*;clear o' c6 s3 O' h3 v4 u8 o3 k8 g' P' Q';have R':α w5' (H nb 2 U)=J (V S R P):=(aI c7.bx).trans D;have h3:=aH c7.bx;have s4:=Yk c7.l (m8 _ c7.b) u5 e6.small e6.nil e6.rows e6.each (by have:=e6.small;dsimp only at this ⊢;omega) I;go_upto_region 23 with(go_at_call 59;refine s4.mono ?_;rintro j8 x5 ⟨h9,h8,h7,x6,y0,rfl,B6,B3,v5,k',u9,o4⟩;have k9:=(o4 _ _ _ _ c7.bx Y).trans c7.bx;have h':=aH k9;have S':=(aI (j:=2) k9).trans D;have T':δ x5 (H nb 2 U)=E3:=(by simp[δ,k9]))
     have c8:=(c7.call v5 u9 o4).put p3 p0 p4 2 (V h9 h8 h7);generalize p':x5.setCell (H nb 2 U) (V h9 h8 h7)=w6' at*;clear p' c7 s4 R' h3 v5 u9 o4 k9 h' S' T';have g8:α w6' (H nb 5 U)=J (V j.ro j.rn j.rc):=(aI c8.bx).trans D;have h3:=aH c8.bx;have s5:=Hz c8.l (m8 _ c8.b) e6.u I;go_upto_region 24 with(go_at_call 60;refine s5.mono ?_;rintro j8 T ⟨i2,i1,i0,y1,rfl,B2,v6,m',v0,o5⟩;have l0:=(o5 _ _ _ _ c8.bx Y).trans c8.bx;have i':=aH l0;have U':=(aI (j:=5) l0).trans D;have V':δ T (H nb 5 U)=E3:=(by simp[δ,l0]))
     have o:=(c8.call v6 v0 o5).put p3 p0 p4 5 (V i2 i1 i0);generalize q':T.setCell (H nb 5 U) (V i2 i1 i0)=w7' at*;clear q' c8 s5 g8 h3 v6 v0 o5 l0 i' U' V';have e5:w7'.heap[nb]? =J (ζ #[γ B,V h6 h5 h4,V h9 h8 h7,ξ μ z,γ C,V i2 i1 i0] 54 (0,0)):=o.bx;have A8:α w7' (H nb 0 U)=J (γ B):=(aI e5).trans D;have A7:α w7' (H nb 1 U)=J (V h6 h5 h4):=(aI e5).trans D;have A6:α w7' (H nb 2 U)=J (V h9 h8 h7):=(aI e5).trans D;have A5:α w7' (H nb 3 U)=J (ξ μ z):=(aI e5).trans D;have A4:α w7' (H nb 4 U)=J (γ C):=(aI e5).trans D;have A3:α w7' (H nb 5 U)=J (V i2 i1 i0):=(aI e5).trans D;have h3:=aH e5;have h2:=o.out.lt;have j7:=o.out.cell (i:=c*6) I;have y3:=o.out.cell (i:=c*6+1) I;have y4:=o.out.cell (i:=c*6+2) I;have Y':=o.out.cell (i:=c*6+3) I;have Z':=o.out.cell (i:=c*6+4) I;have A9:=o.out.cell (i:=c*6+5) I;have j9:=o.out.frozen (c*6);have y5:=o.out.frozen (c*6+1);have A2:=o.out.frozen (c*6+2);have y6:=o.out.frozen (c*6+3);have A1:=o.out.frozen (c*6+4);have A0:=o.out.frozen (c*6+5);clear e5
     go_wp2
     go_roundw
     ·have c4:=Zy w7' (M (E wx)) (c*6) (γ B) (V h6 h5 h4) (V h9 h8 h7) (ξ μ z) (γ C) (V i2 i1 i0);have p5:∃a2,w7'.heap[M (E wx)]? =J (ζ a2 54 (0,0)):=by obtain⟨a2,c9,_⟩:=o.out;exact⟨a2,c9⟩
      refine⟨c+1,I,aP,a6++x6,a8++y0,a9++y1,a7++x9,X++ [γ B,V h6 h5 h4,V h9 h8 h7,ξ μ z,γ C,V i2 i1 i0],⟨by rw[φ];have:=e6.small;dsimp only at this;omega,Jr,Jr,Jr⟩,by rw[φ,h1,E9 I];simp;omega,⟨(c4 _ I).trans o.b3,(c4 _ I).trans o.b4,(c4 _ I).trans o.b5⟩,o.l.Kg c4 p5, ?_,ZK o.out h1,Zx o.b I⟩;rw[x8.out];exact(h0.mono (λW a4=>Γ _ a4) (λW a4=>Γ _ a4) (λW a4=>Γ _ a4)).snoc (s:=⟨B,f,S,R,P,x1,z,C,j⟩) z6 k' m'
     simp[G3];omega
    have h1:Q X=i*6:=by rw[o9,F9 I]
    have z8:Q a6<=(c+1)*1048576:=Nat.le_trans z7 (Nat.mul_le_mul_right _ (Nat.le_succ c));have h2:=a0.lt;have j7:=a0.cell (i:=c*6) I;have j9:=a0.frozen (c*6)
    go_wp2
    go_roundw
    ·have c4:∀r,r≠M (E wx)->(wr.setCell ⟨M (E wx),c*6,U⟩ (γ ⟨#[98,101,121,111,110,100]⟩)).heap[r]? =wr.heap[r]? :=λr b1=>β _ _ _ _ b1;have p5:∃a2,wr.heap[M (E wx)]? =J (ζ a2 54 (0,0)):=by obtain⟨a2,c9,_⟩:=a0;exact⟨a2,c9⟩
     refine⟨c+1,I,aP,a6,a8,a9,a7,X,⟨z8,I,I,I⟩,by rw[h1,F9 I],⟨(c4 _ I).trans K,(c4 _ I).trans p,(c4 _ I).trans x⟩,k5.Kg c4 p5, ?_,TI a0 I,O.setCell (p:=⟨M (E wx),c*6,U⟩) (by show e<=M (E wx);omega) _⟩;have C8:=g2.out.1;rw[H9 I]at h0 ⊢;exact h0
    simp[G3];omega
   obtain rfl:c=i+3:=I;have h1:Q X=i*6:=by rw[o9,F9 I]
   have g5:wr.rowIs (M (E wx)) 54 ((i+3)*6) (jN 6 X Ay):=a0.congr λc5 c3=>aej c3;rw[H9 (by have:=g2.out.1;omega)]at h0;obtain⟨r3,r5,r6,r4,x2,x3,⟨q7,q8,q9,r0,r1,r2⟩,c0,b8,c1,c2,b9,e0,e1⟩:=k5;obtain⟨a,b7,b6,rfl⟩:=r1;have e':=aH c0;have y2:α wr (H e 5 U)=J (V a b7 b6):=(aI c0).trans D;have h2:=g5.lt;have g8:α wr (H (M (E d)) 1 U)=J (V (J w) i u):=(aI K).trans D;have w':M (E d)<M (E wr):=aH K;have j3:oJ (WtT k a7 a8 a9) wr 54 6 Ay (e+1) ⟨M (E wx),i,J w,u,X⟩:=⟨g5,h1,by show e+1<=M (E wx);omega,x0,bI,g2.out,h0⟩;have p1:∀W∈([]:ω Ln),W.g<M (E wx):=λW a4=>by simp at a4
   have i3:G1 _:=c0;have e8:G1 _:=e0;have m9:G1 _:=j3;have n1:G1 _:=(⟨b8,c1,c2,b9,e1⟩:_/\_/\_/\_/\_);have s1:G1 _:=(⟨p,x⟩:_/\_);have n0:∀q:Obj,(wr.alloc q).drew.ownsRow (e+1) 190 2 (V a b7 b6) 0 []:=λq=>E1 (D0 e0.own q);have c':e≠M (E d)+2:=I;have d':e≠M (E d)+1+1:=I;clear c0 e0 j3 b8 c1 c2 b9 e1 g5 K p x a0 h0;go_upto_region 25 with fail
   go_region_law (refine J9 _ D (.tmp 104) (.tmp 109) 113 D (e+1) 190 p9 _ 2 48 underlying113 c3 l1 l4 l7 D Y (V a b7 b6) 0 [] jl (n0 _) (H (M (E wr)) 0 U) 1 1 [V (J (H (M (E wx)) 0 U)) (i+3) (i+3),V (J w) i u] jl D (ο (ν wr _)) (by intro L' j5;simp at j5;rcases j5 with rfl|rfl<;>rfl) Y fD I vK (M (E wr)+1) ek ?_;intro g1 e9 T p6 g4 y9 a';have g7:=jM e8.out.own (((θ _ wr).alloc (ε _) _).drew) g4 i3.out Y;have L:=jM e8.out.own (((θ _ wr).alloc (ε _) _).drew) g4 s1.out.2 Y;have z0:=aH g7;have y8:=aH L;have H':α T (H e 5 U)=J (V a b7 b6):=(aI g7).trans D;have I':δ T (H e 5 U)=E3:=(by simp[δ,g7]);have J':α T ⟨M (E d)+2,1,U⟩=J (V U 0 0):=(aI L).trans D;have K':δ T ⟨M (E d)+2,1,U⟩=E3:=(by simp[δ,L]))
   all_goals go_wp2_with fail
   all_goals go_meet
   all_goals
    obtain⟨_,m5,m6,m7,F⟩:=iX (w:=wr) (k:=5) (l:=⟨M (E wx),i,J w,u,X⟩) i3.out e8.out m9.out p1 Y Y (θ _ _) (kP.refl _ _ _) (((θ _ wr).alloc (ε _) _).drew) g4 p6 (V (J (H g1 0 U)) (0+1) e9);obtain⟨b8,c1,c2,b9,e1⟩:=n1.out;obtain⟨e3,e4⟩:=s1.out;have q0:=(F _ _ _ _ e3 Y Y).trans e3;have L:=(F _ _ _ _ e4 Y Y).trans e4;have n3:eO k (T.setCell (H e 5 U) (V (J (H g1 0 U)) (0+1) e9)) e a6 a8 a9 a7 [⟨M (E wx),i,J w,u,X⟩] e7:=
     ⟨r3,r5,r6,r4,V (J (H g1 0 U)) (0+1) e9,x3,⟨q7,q8,q9,r0,⟨_,_,_,D⟩,r2⟩,m5,b8.typed F Y Y Y Y,c1.typed F Y Y Y Y,c2.typed F Y Y Y Y,b9.typed F Y Y Y Y,m6,e1.typed F Y Y Y Y⟩
    refine⟨i6,i5,i4,J (H (M (E wx)) 0 U),i,i+3,a6,a8,a9,a7,[⟨M (E wx),i,J w,u,X⟩],e7,⟨(β _ _ _ _ (by show M (E d)+1≠M (E d)+2;omega)).trans q0,by simp[Ξ,ψ]at L ⊢;simp[L]⟩,⟨⟨⟨I,I⟩,I,I,I,I,ak,I⟩,n3.other (g:=M (E d)+2) (T':=67) (λr b1=>β _ _ _ _ b1) ⟨_,L⟩ Y⟩,w0,G6 ⟨M (E wx),X,D,ak⟩, ?_⟩;exact(O.trans m7).setCell (p:=⟨M (E d)+2,1,U⟩) (by show e<=M (E d)+2;omega) _
 obtain⟨n9,n8,n7,n6,n5,n4,a6,a8,a9,a7,r7,r9,⟨p,x⟩,⟨w5,v7⟩,z4,z2,v2⟩:=hcut;clear e2 j0 j1 m4 k2;generalize t':wc=wz at*;clear t';have D7:α wz ⟨M (E d)+2,0,U⟩=J (V n9 n8 n7):=(aI x).trans D;have D6:α wz ⟨M (E d)+2,1,U⟩=J (V n6 n5 n4):=(aI x).trans D;have B7:=aH x;have B8:=aH p;have W':α wz ⟨M (E d)+1,0,U⟩=J (V U 0 0):=(aI p).trans D;have X':α wz ⟨M (E d)+1,1,U⟩=J (V U 0 0):=(aI p).trans D;have D9:δ wz ⟨M (E d)+1,0,U⟩=E3:=by simp[δ,p]
 have D8:δ wz ⟨M (E d)+1,1,U⟩=E3:=by simp[δ,p]
 change G1 _ at v7;change G1 _ at w5;change G1 _ at v2;change G1 _ at p;clear x;go_wp2_with fail;refine J5 (v:=I0 #[V n9 n8 n7,V n6 n5 n4]) (by simp[M9,results24,go_sem,W',X']) D ⟨n9,n8,n7,n6,n5,n4,a6,a8,a9,a7,r7,r9,D,⟨w5.out, ?_⟩,z4,z2, ?_⟩
 ·exact eO.other (show eO k wz e a6 a8 a9 a7 r7 r9 from v7.out) (g:=M (E d)+1) (T':=67) (λr b1=>(β _ _ _ _ b1).trans (β _ _ _ _ b1)) ⟨_,p.out⟩ Y
 exact(v2.out.setCell (p:=⟨M (E d)+1,0,U⟩) (by show e<=M (E d)+1;omega) _).setCell (p:=⟨M (E d)+1,1,U⟩) (by show e<=M (E d)+1;omega) _
abbrev mkW(i:G):Z:=ξ μ (-1000-(i:H3))
def aao(w:η)(base i:G)(v:Z):Prop:=∃n,n<=2000/\vB w base (mkW i) v n
theorem aao.all{d base b c}(a:aao d base b c):Wv d c (-1000-(b:H3)):=by
 obtain⟨e,_,a⟩:=a;have f:=a;rcases a.2 with⟨rfl,rfl⟩|⟨g,cap,_,rfl,_,i,_⟩
 ·exact⟨U,0,0,D,I,F4 D⟩
 refine⟨_,e,cap,D,I,G6 ⟨g,0,D,af i,λb j=>?_⟩⟩;have:=D2 f b I;rw[I1,this,F0,υ j]
structure Dx(w:World)(base i:Nat)(e:TE):Prop where
 num:e.2.2.2.2=i
 all:∀u∈Ak e,aao w base i u
structure rF(w:World)(wb:Nat)(g0 g1 g2 g3:Value)(es:List TE):Prop where
 row:∃aS tn tc,w.heap[wb]? =some (.cells #[g0,g1,g2,.slice none 0 0,.slice none 0 0,.slice none 0 0,.slice aS tn tc,g3] 40 (0,0))/\w.ownsRow (wb+1) 85 5 (.slice aS tn tc) (List.length es) (jd es)
 each:∀(i:Nat) (e:TE),es[i]? =some e->Dx w (wb+1) i e
theorem Dx.move{f x:η}{base e b}(d:Dx f base e b)(i:∀a∈Ak b,∀c,a.ownBlock=J c->x.heap[c]? =f.heap[c]?):Dx x base e b:=
 ⟨d.num,λa g=>by obtain⟨j,k,l⟩:=d.all a g;exact⟨j,k,l.ah (i a g)⟩⟩
theorem Dx.lt{w:η}{base i e}(f:Dx w base i e){c:Z}(j:c∈Ak e){g}(a:c.ownBlock=J g):base<=g/\g<M (E w)/\∃b,w.heap[g]? =J (ζ b 3 (0,0)):=by
 obtain⟨n,_,d⟩:=f.all c j;refine⟨(Ψ d g a).1,(Ψ d g a).2, ?_⟩;rcases d.2 with⟨rfl,_⟩|⟨_,cap,b,rfl,_,k,_⟩
 ·cases a
 cases a;exact⟨b,k⟩
theorem rF.ah{w x wb f g j k e}(b:rF w wb f g j k e)(c:Bl w x):rF x wb f g j k e:=by
 obtain⟨aS,p,q,l,m⟩:=b.row;exact⟨⟨aS,p,q,(c.block wb (af l)).trans l,aD m λa d=>c.block a (m.lt a d).2⟩,λi n o=>(b.each i n o).move λ_ r a d=>c.block a ((b.each i n o).lt r d).2.1⟩
def aap(w:η)(base i:G)(v:Z):Prop:=∃n,n<=2000/\vC w base (ξ μ (-1-(i:H3))) (V U 0 0) v n
theorem aap.all{d base a c}(b:aap d base a c):Ww d c (-1-(a:H3)):=by
 obtain⟨i,_,b⟩:=b;have e:=b;rcases b.2 with⟨rfl,rfl⟩|⟨j,cap,_,rfl,_,k,_⟩
 ·exact⟨U,0,0,D,I,F4 D⟩
 refine⟨_,i,cap,D,I,G6 ⟨j,0,D,af k,λa _=>?_⟩⟩;have f:=D2 e (a*2) I;have g:=D2 e (a*2+1) I;rw[pu I,pm,υ I]at f;rw[pu I,pm,Θ I]at g;rw[I1];exact⟨f,g⟩
structure Dy(w:World)(base i:Nat)(e:TE):Prop where
 num:e.2.2.2.2=i
 all:∀u∈Ak e,aap w base i u
theorem Dy.move{f x:η}{base e b}(d:Dy f base e b)(i:∀a∈Ak b,∀c,a.ownBlock=J c->x.heap[c]? =f.heap[c]?):Dy x base e b:=
 ⟨d.num,λa g=>by obtain⟨j,k,l⟩:=d.all a g;exact⟨j,k,l.ah (i a g)⟩⟩
theorem Dy.lt{w:η}{base i e}(f:Dy w base i e){c:Z}(j:c∈Ak e){g}(a:c.ownBlock=J g):base<=g/\g<M (E w)/\∃b,w.heap[g]? =J (ζ b 165 (0,0)):=by
 obtain⟨n,_,d⟩:=f.all c j;refine⟨(Ψ d g a).1,(Ψ d g a).2, ?_⟩;rcases d.2 with⟨rfl,_⟩|⟨_,cap,b,rfl,_,k,_⟩
 ·cases a
 cases a;exact⟨b,k⟩
structure qA(w:World)(wb:Nat)(sv:Value)(ss:List TE):Prop where
 own:w.ownsRow (wb+1) 89 5 sv (List.length ss) (jd ss)
 each:∀(i:Nat) (e:TE),ss[i]? =some e->Dy w (wb+1) i e
theorem qA.ah{w x wb f e}(a:qA w wb f e)(d:Bl w x):qA x wb f e:=
 ⟨aD a.own λb c=>d.block b (a.own.lt b c).2,λi g j=>(a.each i g j).move λ_ k b c=>d.block b ((a.each i g j).lt k c).2.1⟩
theorem qA.sl{g wb f b}(d:qA g wb f b):∃e i,f=V e (Q b) i/\(0<Q b->∃a,e=J (H a 0 U)/\a<M (E g)):=by
 rcases d.own.2 with⟨c,j⟩|⟨a,cap,_,c,_,k,_⟩
 ·exact⟨U,0,by rw[j];exact c,λd=>I⟩
 exact⟨_,_,c,λ_=>⟨a,D,af k⟩⟩
theorem Cy{d wb g2 g3 g4 e1 k l}(g:rF d wb g2 g3 g4 e1 k)(i:qA d wb e1 l)(k3:Q k<=16000000)(k4:Q l<=16000000):E7 ρ 8 #[E0 (J (H wb 3 U))] d (RB (D4 E2) d):=by
 obtain⟨aS,e2,g5,f,b0⟩:=g.row;obtain⟨g6,g7,rfl,e3⟩:=i.sl;have b2:=af f;have m:α d (H wb 3 U)=J (V U 0 0):=aC f;have n:α d (H wb 4 U)=J (V U 0 0):=aC f;have o:α d (H wb 5 U)=J (V U 0 0):=aC f;have j:α d (H wb 6 U)=J (V aS e2 g5):=aC f;have e4:α d (H wb 7 U)=J (V g6 (Q l) g7):=aC f;have g8:e2=Q k/\(0<Q k->∃q,aS=J (H q 0 U)/\q<M (E d)):=by
  rcases b0.2 with⟨e,c⟩|⟨q,cap,e5,e,_,b3,_⟩
  ·cases e;exact⟨c.symm,λg=>I⟩
  cases e;exact⟨D,λ_=>⟨q,D,af b3⟩⟩
 obtain⟨rfl,e6⟩:=g8;have e7:G1 (∀(c:G) (e:TE),k[c]? =J e->Dx d (wb+1) c e):=g.each;change G1 _ at b0;have e8:G1 (∀(c:G) (e:TE),l[c]? =J e->Dy d (wb+1) c e):=i.each;have e9:G1 _:=i.own;clear g f i;go_enter func8,ntmps8;go_wp2_with fail;go_loopw [3,4] (λs r wx=>s=D4 E2/\r=ξ μ 0/\wx=d) (λ_ _ _=>0)
 ·exact⟨D,D,D⟩
 obtain⟨rfl,rfl,g9⟩:=hrel
 cases g9;go_wp2_with fail;go_loopw [3,6] (λs r wx=>s=D4 E2/\r=ξ μ 0/\wx=d) (λ_ _ _=>0)
 ·exact⟨D,D,D⟩
 obtain⟨rfl,rfl,h0⟩:=hrel
 cases h0;go_wp2_with fail;go_loopw [3,8] (λs r wx=>s=D4 E2/\r=ξ μ 0/\wx=d) (λ_ _ _=>0)
 ·exact⟨D,D,D⟩
 case round=>
 obtain⟨rfl,rfl,h1⟩:=hrel
 cases h1;go_wp2_with fail;go_loopg [3,10] (Q k) (λgk s r wx=>∃c:G,gk=Q k-c/\c<=Q k/\s=D4 E2/\r=ξ μ c/\Bl d wx)
 ·exact⟨0,D,χ _,D,D,θ _ _⟩
 obtain⟨c,b4,h2,rfl,rfl,i⟩:=hrel;subst b4;have b1:=i.size;have h3:=cK i b2 j;have g0:=cK i b2 e4;have g1:wb<M (E wr):=I;clear m n o j;generalize b5:wr=wo at*;clear b5;by_cases b6:c<Q k
 ·obtain⟨q,rfl,b7⟩:=e6 I;obtain⟨⟨m,v1,v2,v3,f⟩,u⟩:∃e,k[c]? =J e:=⟨_,τ b6⟩;have t:=e7.out c _ u;have b8:f=c:=t.num;subst b8;have j:∀n,n<5->α wo ⟨q,f*5+n,U⟩=(teC (m,v1,v2,v3,f))[n]? :=λn b9=>(cK i b7 (D2 b0 _ I)).trans (wJ k f _ n u b9);have c0:=j 0 I;have c1:=j 1 I;have c2:=j 2 I;have c3:=j 3 I;have c4:=j 4 I;simp only[teC,J0,K3,K4]at c0 c1 c2 c3 c4;have h4:q<M (E wo):=I;have o:∀g∈ [m,v1,v2,v3],∀y:η,Bl d y->E7 ρ 17 #[g,ξ μ (f:H3)] y (RB (D4 E2) y):=λg v y c5=>LB I ((t.all g v).all.ah c5);have W:=o m ak;have X:=o v1 ak;have a0:=o v2 ak;have a1:=o v3 ak;have p:∀g∈ [m,v1,v2,v3],∃a b c6,g=V a b c6:=λg v=>by
   obtain⟨j5,_,c9⟩:=t.all g v;rcases c9.2 with⟨rfl,_⟩|⟨j0,cap,e5,rfl,_,b3,_⟩<;>exact⟨_,_,_,D⟩
  obtain⟨P,n0,w,rfl⟩:=p m ak;obtain⟨R,L,x,rfl⟩:=p v1 ak;obtain⟨S,N,z,rfl⟩:=p v2 ak;obtain⟨T,O,B,rfl⟩:=p v3 ak;clear j o t u p;have C:=ν wo (ζ #[V P n0 w,V R L x,V S N z,V T O B,ξ μ (f:H3)] 85);have c7:=(ai wo (ζ #[V P n0 w,V R L x,V S N z,V T O B,ξ μ (f:H3)] 85));have a2:Bl d (wo.alloc (ζ #[V P n0 w,V R L x,V S N z,V T O B,ξ μ (f:H3)] 85)):=i.trans (c7.mono b1);obtain⟨j8,j9,k0,k1,k2⟩:=iI C;have j1:=af C;go_wp2_with(first
   |(go_at_call 17;refine(W _ a2).mono ?_;clear W;rintro e w2 ⟨rfl,a6⟩;have F:=fZ a6 C;have a3:=bT a2 a6;obtain⟨h5,h6,h7,h8,h9⟩:=iI F;have j2:=af F)
   |(go_at_call 17;refine(X _ a3).mono ?_;clear X;rintro e w3 ⟨rfl,a7⟩;have K:=fZ a7 F;have a4:=bT a3 a7;obtain⟨i0,i1,i2,i3,i4⟩:=iI K;have j3:=af K)
   |(go_at_call 17;refine(a0 _ a4).mono ?_;clear a0;rintro e j6 ⟨rfl,a8⟩;have a9:=fZ a8 K;have a5:=bT a4 a8;obtain⟨i5,i6,i7,i8,i9⟩:=iI a9;have j4:=af a9)
   |(go_at_call 17;refine(a1 _ a5).mono ?_;clear a1;rintro e j7 ⟨rfl,e0⟩;have c8:=bT a5 e0))
  go_roundg (Q k-(f+1))
  case measure=>omega
  exact⟨f+1,D,I,D,aP,c8⟩
 clear e7 b0 e6;go_wp2_with fail;generalize b0:wo=wp at*;clear b0;go_loopg [3,12] (Q l) (λgk s r wx=>∃c:G,gk=Q l-c/\c<=Q l/\s=D4 E2/\r=ξ μ c/\Bl d wx)
 ·exact⟨0,D,χ _,D,D,i⟩
 clear i h3 g0 g1 b1;obtain⟨c,b4,h2,rfl,rfl,i⟩:=hrel;subst b4;have b1:=i.size;have g0:=cK i b2 e4;have g1:wb<M (E wr):=I;generalize b5:wr=wo at*;clear b5;by_cases b6:c<Q l
 ·obtain⟨q,rfl,b7⟩:=e3 I;obtain⟨⟨m,v1,v2,v3,f⟩,u⟩:∃e,l[c]? =J e:=⟨_,τ b6⟩;have t:=e8.out c _ u;have b8:f=c:=t.num;subst b8;have j:∀n,n<5->α wo ⟨q,f*5+n,U⟩=(teC (m,v1,v2,v3,f))[n]? :=λn b9=>(cK i b7 (D2 e9 _ I)).trans (wJ l f _ n u b9);have c0:=j 0 I;have c1:=j 1 I;have c2:=j 2 I;have c3:=j 3 I;have c4:=j 4 I;simp only[teC,J0,K3,K4]at c0 c1 c2 c3 c4;have h4:q<M (E wo):=I;have o:∀g∈ [m,v1,v2,v3],∀y:η,Bl d y->E7 ρ 18 #[g,ξ μ (f:H3)] y (RB (D4 E2) y):=λg v y c5=>Jf I ((t.all g v).all.ah c5);have W:=o m ak;have X:=o v1 ak;have a0:=o v2 ak;have a1:=o v3 ak;have p:∀g∈ [m,v1,v2,v3],∃a b c6,g=V a b c6:=λg v=>by
   obtain⟨j5,_,c9⟩:=t.all g v;rcases c9.2 with⟨rfl,_⟩|⟨j0,cap,e5,rfl,_,b3,_⟩<;>exact⟨_,_,_,D⟩
  obtain⟨P,n0,w,rfl⟩:=p m ak;obtain⟨R,L,x,rfl⟩:=p v1 ak;obtain⟨S,N,z,rfl⟩:=p v2 ak;obtain⟨T,O,B,rfl⟩:=p v3 ak;clear j o t u p;have C:=ν wo (ζ #[V P n0 w,V R L x,V S N z,V T O B,ξ μ (f:H3)] 89);have c7:=(ai wo (ζ #[V P n0 w,V R L x,V S N z,V T O B,ξ μ (f:H3)] 89));have a2:Bl d (wo.alloc (ζ #[V P n0 w,V R L x,V S N z,V T O B,ξ μ (f:H3)] 89)):=i.trans (c7.mono b1);obtain⟨j8,j9,k0,k1,k2⟩:=iI C;have j1:=af C;go_wp2_with(first
   |(go_at_call 18;refine(W _ a2).mono ?_;clear W;rintro e w2 ⟨rfl,a6⟩;have F:=fZ a6 C;have a3:=bT a2 a6;obtain⟨h5,h6,h7,h8,h9⟩:=iI F;have j2:=af F)
   |(go_at_call 18;refine(X _ a3).mono ?_;clear X;rintro e w3 ⟨rfl,a7⟩;have K:=fZ a7 F;have a4:=bT a3 a7;obtain⟨i0,i1,i2,i3,i4⟩:=iI K;have j3:=af K)
   |(go_at_call 18;refine(a0 _ a4).mono ?_;clear a0;rintro e j6 ⟨rfl,a8⟩;have a9:=fZ a8 K;have a5:=bT a4 a8;obtain⟨i5,i6,i7,i8,i9⟩:=iI a9;have j4:=af a9)
   |(go_at_call 18;refine(a1 _ a5).mono ?_;clear a1;rintro e j7 ⟨rfl,e0⟩;have c8:=bT a5 e0))
  go_roundg (Q l-(f+1))
  case measure=>omega
  exact⟨f+1,D,I,D,aP,c8⟩
 clear e8 e9 e3
 go_wp2
 go_ret;exact⟨D,i⟩
structure Gq(w2:World)(wb n0:Nat)(m l v1 v2 v3:Value)(k0 k1 k2 k3:Nat)(wx:World):Prop where
 box:wx.heap[Array.size (World.heap w2)]? =some (.cells #[l,v1,v2,v3,.int .i64 (n0:Int)] 85 (0,0))
 wl:wb<Array.size (World.heap w2)
 ll:∀g,l.ownBlock=some g->g<Array.size (World.heap w2)
 m0:vB wx (wb+1) m l k0
 m1:vB wx (wb+1) m v1 k1
 m2:vB wx (wb+1) m v2 k2
 m3:vB wx (wb+1) m v3 k3
 low:Below (wb+1) w2 wx
 FX:∀g,g<Array.size (World.heap w2)->l.ownBlock≠some g->wx.heap[g]? =w2.heap[g]?
 s1:∀g,v1.ownBlock=some g->l.ownBlock=some g\/Array.size (World.heap w2)<g
 s2:∀g,v2.ownBlock=some g->l.ownBlock=some g\/Array.size (World.heap w2)<g
 s3:∀g,v3.ownBlock=some g->l.ownBlock=some g\/Array.size (World.heap w2)<g
section
variable {w2 : World} {wb n0 : Nat} {m l v1 v2 v3 : Value} {k0 k1 k2 k3 : Nat} {wx y w3 : World}
theorem Gq.size(a:Gq w2 wb n0 m l v1 v2 v3 k0 k1 k2 k3 wx):M (E w2)<M (E wx):=af a.box
theorem Gq.ah(a:Gq w2 wb n0 m l v1 v2 v3 k0 k1 k2 k3 wx)(c:Bl wx y):Gq w2 wb n0 m l v1 v2 v3 k0 k1 k2 k3 y:=by
 have g:=a.size;have d:∀ {v:Z} {k:G},vB wx (wb+1) m v k->vB y (wb+1) m v k:=λf=>f.ah λb e=>c.block b (Ψ f b e).2;exact⟨(c.block _ g).trans a.box,a.wl,a.ll,d a.m0,d a.m1,d a.m2,d a.m3,a.low.trans (c.mono (by have:=a.wl;omega)),λb e i=>(c.block b I).trans (a.FX b e i),a.s1,a.s2,a.s3⟩
theorem Gq.Fv(a:Gq w2 wb n0 m l v1 v2 v3 k0 k1 k2 k3 y){v:Z}{o}(n:vB y (wb+1) m v o)(g:∀b,v.ownBlock=J b->l.ownBlock=J b\/M (E w2)<b)(f:y.grownBy w3 v.ownBlock)(e:∀j i,vB y (wb+1) m j i->vB w3 (wb+1) m j i):Gq w2 wb n0 m l v1 v2 v3 k0 k1 k2 k3 w3:=by
 have p:=a.size;have q:=a.wl;have r:v.ownBlock≠J (M (E w2)):=λc=>by
  rcases g _ c with d|d
  ·have:=a.ll _ d;omega
  omega
 refine⟨(f.block _ p (λc=>r c.symm)).trans a.box,q,a.ll,e _ _ a.m0,e _ _ a.m1,e _ _ a.m2,e _ _ a.m3,a.low.grown f I (λs k=>(Ψ n s k).1),λb s k=>(f.block b I (λc=>?_)).trans (a.FX b s k),a.s1,a.s2,a.s3⟩;rcases g b c.symm with d|d
 ·exact k d
 omega
theorem Gq.far(d:Gq w2 wb n0 m l v1 v2 v3 k0 k1 k2 k3 y){v v':Z}(f:∀a,v.ownBlock=J a->l.ownBlock=J a\/M (E w2)<a)(e:v'.ownBlock=v.ownBlock\/v'.ownBlock=J (M (E y))):∀a,v'.ownBlock=J a->l.ownBlock=J a\/M (E w2)<a:=λa b=>by
 rcases e with c|c
 ·exact f a (by rw[<-c];exact b)
 rw[c]at b;cases b;exact G6 d.size
theorem Gq.off(c:Gq w2 wb n0 m l v1 v2 v3 k0 k1 k2 k3 wx){v:Z}(d:∀a,v.ownBlock=J a->l.ownBlock=J a\/M (E w2)<a):∀a,v.ownBlock=J a->a≠M (E w2):=λa e _=>by
 rcases d a e with b|b
 ·have:=c.ll _ b;omega
 omega
theorem Gq.set(b:Gq w2 wb n0 m l v1 v2 v3 k0 k1 k2 k3 wx)(c k){d e f:Z}{p q r}(x:(wx.setCell (H (M (E w2)) c U) k).heap[M (E w2)]? =J (ζ #[l,d,e,f,ξ μ (n0:H3)] 85 (0,0)))(i:vB wx (wb+1) m d p)(j:vB wx (wb+1) m e q)(w:vB wx (wb+1) m f r)(s:∀a,d.ownBlock=J a->l.ownBlock=J a\/M (E w2)<a)(t:∀a,e.ownBlock=J a->l.ownBlock=J a\/M (E w2)<a)(u:∀a,f.ownBlock=J a->l.ownBlock=J a\/M (E w2)<a):Gq w2 wb n0 m l d e f k0 p q r (wx.setCell (H (M (E w2)) c U) k):=by
 have y:=b.wl;have g:∀ {n:Z} {v:G},vB wx (wb+1) m n v->(∀a,n.ownBlock=J a->a≠M (E w2))->vB (wx.setCell (H (M (E w2)) c U) k) (wb+1) m n v:=λB z=>B.ah λa o=>β _ _ _ _ (z a o);exact⟨x,y,b.ll,g b.m0 (b.off λa o=>F4 o),g i (b.off s),g j (b.off t),g w (b.off u),b.low.setCell (p:=(H (M (E w2)) c U)) (by show wb+1<=M (E w2);omega) _,λa i j=>(β _ _ _ _ (by show a≠M (E w2);omega)).trans (b.FX a i j),s,t,u⟩
end
theorem adb:(ρ.info? 85).map (λa=>(a.zero,a.size,a.bytes))=J (J (I0 #[V U 0 0,V U 0 0,V U 0 0,V U 0 0,ξ μ 0]),5,104):=aF
def Sk(w:η)(wb:G)(g0 g1 g2 g3:Z)(es:ω TE)(l:Z)(w':η):Prop:=∃e':TE,rF w' wb g0 g1 g2 g3 (es++ [e'])/\(∀u∈Ak e',∀g,u.ownBlock=J g->l.ownBlock=J g\/M (E w)<=g)/\Ω wb w w'/\∀(q:G) (cur:G4 Z) (T:F1) (fz:G×G),w.heap[q]? =J (ζ cur T fz)->T≠85->T≠40->l.ownBlock≠J q->w'.heap[q]? =w.heap[q]?
theorem Td{b:η}(d){c}(e:c=M (E b)):∀a,a<1->α (b.alloc (ζ #[ξ μ d] 3)) (((H c 0 U):F3).add a)=J (ξ μ d):=λa f=>by
 subst e
 match a,f with
 |0,_=>exact ο (ν b _) 0 _ D
theorem abq{b:η}(c){d}(e:d=M (E b)):∀a,a<2->α (b.alloc (ζ #[ξ μ c,ξ μ c] 3)) (((H d 0 U):F3).add a)=J (ξ μ c):=λa f=>by
 subst e
 match a,f with
 |0,_=>exact ο (ν b _) 0 _ D
 |1,_=>exact ο (ν b _) 1 _ D
theorem vB.sl{e base m b a}(d:vB e base m b a):∃c cap,b=V c a cap:=by
 rcases d.2 with⟨rfl,rfl⟩|⟨_,cap,_,rfl,_⟩<;>exact⟨_,_,D⟩
theorem wX(a):(ξ μ a).oneCell'=E2:=D
theorem vB.typed{w g:η}{base m f e}(d:vB w base m f e)(k:∀(b:G) (c:G4 Z) (a:F1) (j:G×G),w.heap[b]? =J (ζ c a j)->a≠85->a≠40->g.heap[b]? =w.heap[b]?):vB g base m f e:=d.ah λ_ i=>by
 rcases d.2 with⟨rfl,_⟩|⟨_,cap,c,rfl,_,l,_⟩
 ·cases i
 cases i;exact k _ _ _ _ l Y Y
theorem UK{b p q w10 W1:η}{wb n n0 g7 cap7 v w x y k}{l v1 v2 v3:Z}{k0 k1 k2 k3}(b5:n<=1900)(a2:k0<=n)(a3:k1<=n)(a4:k2<=n)(a5:k3<=n)(F:Q k=n0)(a7:t= -1000-(n0:H3))(R:rF b wb v w x y k)(b4:∀a,l.ownBlock=J a->wb<a/\a<M (E b)/\∃j,b.heap[a]? =J (ζ j 3 (0,0)))(S:∀a,a<M (E b)->l.ownBlock≠J a->p.heap[a]? =b.heap[a]?)(b6:M (E b)<=M (E p))(T:Ω (wb+1) b p)(W:∀o∈k,∀d∈Ak o,∀a,d.ownBlock=J a->l.ownBlock≠J a)(c:Gq p wb n0 (ξ μ t) l v1 v2 v3 k0 k1 k2 k3 q){aS z}(X:q.heap[wb]? =J (ζ #[v,w,x,V U 0 0,V U 0 0,V U 0 0,V aS n0 z,y] 40 (0,0)))(own:q.ownsRow (wb+1) 85 5 (V aS n0 z) n0 (jd k))(a0:Bl q W1)(a1:W1.grownBy w10 (V aS n0 z).ownBlock)(a6:w10.ownsRow (wb+1) 85 5 (V (J (H g7 0 U)) (n0+1) cap7) (n0+1) (jd k++ [l,v1,v2,v3,ξ μ (n0:H3)])):
  Sk b wb v w x y k l (w10.setCell (H wb 6 U) (V (J (H g7 0 U)) (n0+1) cap7)):=by
 obtain⟨_,a8,a9,b0,K⟩:=yU (k:=6) (B:=wb) X own a0 a1 a6 (V (J (H g7 0 U)) (n0+1) cap7) (ε _);have u:∀ {d:Z} {r:G},vB q (wb+1) (ξ μ t) d r->r<=n->aao (w10.setCell (H wb 6 U) (V (J (H g7 0 U)) (n0+1) cap7)) (wb+1) n0 d:=fun {d r} e b8=>⟨r,I,by show vB _ _ (ξ μ (-1000-(n0:H3))) _ _;rw[<-a7];exact e.typed K⟩;have L:∀(f:G) (j:G4 Z) (s:F1) (B:G×G),b.heap[f]? =J (ζ j s B)->s≠85->s≠40->l.ownBlock≠J f->(w10.setCell (H wb 6 U) (V (J (H g7 0 U)) (n0+1) cap7)).heap[f]? =b.heap[f]? :=λf j s B O b1 b2 N=>by
  have m:=af O;have g:=S f m N;have i:=c.FX f I N;exact(K f j s B ((i.trans g).trans O) b1 b2).trans (i.trans g)
 refine⟨(l,v1,v2,v3,n0),⟨⟨_,_,_,a8, ?_⟩,λC o g=>?_⟩,λd i a m=>?_,((T.mono I).trans (c.low.mono I)).trans b0,L⟩
 ·rw[Ct,φ,F];exact a9
 ·rcases I2 C (Q k)with e|e
  ·rw[κ e]at g;have P:=R.each C o g;refine P.move λd i a m=>?_;obtain⟨_,_,j,b3⟩:=P.lt i m;exact L a j _ _ b3 Y Y (W o (Φ g) d i a m)
  rw[ι e]at g;have P:C=n0:=by
   rcases L0 e with b3|b3
   ·omega
   rw[F6 aN]at g;cases g
  subst P;rw[F,I9]at g
  cases g;refine⟨D,λd i=>?_⟩;simp only[Ak,G0,E4,J2]at i;rcases i with rfl|rfl|rfl|rfl
  ·exact u c.m0 a2
  ·exact u c.m1 a3
  ·exact u c.m2 a4
  exact u c.m3 a5
 simp only[Ak,G0,E4,J2]at i;have far:∀ {P:Z},(∀a,P.ownBlock=J a->l.ownBlock=J a\/M (E p)<a)->P.ownBlock=J a->l.ownBlock=J a\/M (E b)<=a:=λe o=>(e a o).imp id I;rcases i with rfl|rfl|rfl|rfl
 ·exact F4 m
 ·exact far c.s1 m
 ·exact far c.s2 m
 exact far c.s3 m
theorem JN{f:η}{wb b0 b1 b2 b3 o}(X:rF f wb b0 b1 b2 b3 o)(g5:Q o<=14000000)(j u i e)(k:f.ownsRow (wb+1) 3 1 (V j u i) (Q e) (aA e))(g6:Q e<=1000)(b4:∀g∈o,∀b5∈Ak g,∀a,b5.ownBlock=J a->(V j u i).ownBlock≠J a):
  E7 ρ 37 #[E0 (J (H wb 3 U)),V j u i] f λg c9=>g=I3 (.tuple #[])/\Sk f wb b0 b1 b2 b3 o (V j u i) c9:=by
 obtain⟨aS,b6,t,s,K⟩:=X.row;have b7:=af s;have C:α f (H wb 6 U)=J (V aS b6 t):=aC s;have e0:b6=Q o:=by
  rcases K.2 with⟨g,b⟩|⟨a,cap,l,g,_,v,_⟩
  ·cases g;exact b.symm
  cases g;rfl
 subst e0;have e1:u=Q e:=by
  rcases k.2 with⟨g,b⟩|⟨a,cap,l,g,_,v,_⟩
  ·cases g;exact b.symm
  cases g;rfl
 subst e1;change G1 _ at X;obtain⟨_,a0,a1,a2,a3⟩:=C0 lX;obtain⟨e2,e3,e4,e5,e6⟩:=C0 adb;go_enter func37,ntmps37;go_wp2_with fail;have w:Bl f f:=θ _ _;have r:=k;have F:=w.size;generalize b:(-1000-(Q o:H3))=z at*;have e7:G1 _:=b.symm;clear b;go_loopg [6] (Q e) (λgk W wr=>∃b:G,gk=Q e-b/\b<=Q e/\W=ξ μ b/\wr.ownsRow (wb+1) 3 1 (V j (Q e) i) (Q e) (Δ b (ξ μ z)++(aA e).drop b)/\(∀a,(V j (Q e) i).ownBlock≠J a->wr.heap[a]? =f.heap[a]?)/\Ω (wb+1) f wr/\M (E wr)=M (E f))
 ·exact⟨0,D,χ _,D,by simpa using r,λ_ _=>rfl,θ _ _,D⟩
 obtain⟨b,a4,e8,rfl,d,m,n,p⟩:=hrel;subst a4;by_cases a5:b<Q e
 ·obtain⟨a,cap,g,c,_⟩:=d.form I
  cases g;have q:=d.cellAt b I;have B:(Δ b (ξ μ z)++(aA e).drop b)[b]? =J (ξ μ e[b]):=by
   rw[ι ak,D5,I9,G7,J0,aA,List.getElem?_map,τ a5];rfl
  rw[B]at q;have O:=d.frozenAt b;have x:=d.stored b (ξ μ z);have N:(Δ b (ξ μ z)++(aA e).drop b).set b (ξ μ z)=Δ (b+1) (ξ μ z)++(aA e).drop (b+1):=by
   rw[List.set_append_right _ _ ak,D5,I9,List.drop_eq_getElem_cons (show b<Q (aA e)by simp[aA];exact a5),List.set_cons_zero,List.replicate_succ',H2];rfl
  go_wp2
  go_roundg (Q e-(b+1))
  case measure=>omega
  refine⟨b+1,D,I,aP, ?_,λL y=>?_,n.setCell (p:=(H a b U)) c _,by simpa using p⟩
  ·have:=x.1;rw[N]at this;exact this
  rw[β _ _ _ _ (by intro g;exact y (by rw[show L=a from g];rfl))];exact m L y
 have e9:b=Q e:=I;subst e9;rw[List.drop_of_length_le (by simp[aA]),E8]at d;generalize c:wr=wo at*;clear c;have N:M (E wo)=M (E f):=p;have q:∀a,(V j (Q e) i).ownBlock=J a->wb<a/\a<M (E f)/\∃l,f.heap[a]? =J (ζ l 3 (0,0)):=λa c=>by
  refine⟨(k.lt a c).1,(k.lt a c).2, ?_⟩;rcases k.2 with⟨g,_⟩|⟨_,cap,l,g,_,v,_⟩
  ·rw[g]at c;cases c
  rw[g]at c;cases c;exact⟨l,v⟩
 have B:∀a,a<M (E f)->(V j (Q e) i).ownBlock≠J a->wo.heap[a]? =f.heap[a]? :=λa c g0=>(m a g0).trans (w.block a c);have b8:Ω (wb+1) f wo:=(w.mono I).trans n;have a6:Gq wo wb (Q o) (ξ μ z) (V j (Q e) i) (V U 0 0) (V U 0 0) (V U 0 0) (Q e) 0 0 0 (wo.alloc (ζ #[V j (Q e) i,V U 0 0,V U 0 0,V U 0 0,ξ μ (Q o:H3)] 85)):=
  ⟨ν wo _,I,λa c=>cz (q a c),D0 d _,H0 _ _ _ _,H0 _ _ _ _,H0 _ _ _ _,(θ _ _).alloc I _,λa c _=>F7 _ _ _ c,λa c=>(by cases c),λa c=>(by cases c),λa c=>(by cases c)⟩
 have b9:M (E f)<=M (E wo):=I;have g7:wb+1<=M (E wo):=I;have c0:G1 (∀a,(V j (Q e) i).ownBlock=J a->wb<a/\a<M (E f)/\∃l,f.heap[a]? =J (ζ l 3 (0,0))):=q;have c1:G1 (∀a,a<M (E f)->(V j (Q e) i).ownBlock≠J a->wo.heap[a]? =f.heap[a]?):=B;change G1 _ at b8;change G1 _ at K;change G1 _ at s;change G1 _ at b4;clear q B k r d m n w C b7 p F N;generalize g1:Q e=d at*;generalize g2:Q o=n0 at*;go_upto_region 7 with fail
 go_cut [32] (λk wx=>Gq wo wb n0 (ξ μ z) (V j d i) k (V U 0 0) (V U 0 0) d (d+1) 0 0 wx)
 ·have m:=a6.ah (ai _ (ζ #[ξ μ z] 3));go_wp2_with(at_builtin;refine lC _ D (.tmp 29) (.tmp 31) D (wb+1) a0 a1 a2 a3 D (wX z) (V j d i) d D m.m0 ⟨M (E wo)+1,0,U⟩ 1 1 D Y (Td z ak) I aN ?_;intro r w3 q C B F;have k:=m.Fv m.m0 (λa c=>F4 c) C F;have hF:=m.far (v:=V j d i) (v':=r) (λa c=>F4 c) B;obtain⟨c2,c3,rfl⟩:=q.sl;have n:=k.box;have c4:=af n;obtain⟨N,O,P,R,S⟩:=iI n;have T:δ w3 (H (M (E wo)) 1 U)=E3:=by simp[δ,n]);go_meet;exact k.set 1 _ (by simp[Ξ,ψ,n]) q k.m2 k.m3 hF k.s2 k.s3
 generalize p:wc=wx at*;clear p a6;have p:=hcut;clear hcut;have g8:=p.size;obtain⟨a6,a7,rfl⟩:=p.m1.sl;go_upto_region 8 with fail
 go_cut [38] (λc5 a8=>Gq wo wb n0 (ξ μ z) (V j d i) (V a6 (d+1) a7) c5 (V U 0 0) d (d+1) (d+2) 0 a8)
 ·have m:=p.ah (ai _ (ζ #[ξ μ z,ξ μ z] 3));go_wp2_with(at_builtin;refine lC _ D (.tmp 34) (.tmp 37) D (wb+1) a0 a1 a2 a3 D (wX z) (V j d i) d D m.m0 (H (M (E wx)) 0 U) 2 2 D Y (abq z D) I aN ?_;intro r w3 q C B F;have k:=m.Fv m.m0 (λa c=>F4 c) C F;have hF:=m.far (v:=V j d i) (v':=r) (λa c=>F4 c) B;obtain⟨c2,c3,rfl⟩:=q.sl;have n:=k.box;have c4:=af n;obtain⟨N,O,P,R,S⟩:=iI n;have T:δ w3 (H (M (E wo)) 2 U)=E3:=by simp[δ,n]);go_meet;exact k.set 2 _ (by simp[Ξ,ψ,n]) k.m1 q k.m3 k.s1 hF k.s3
 generalize a9:wc=a8 at*;clear a9 p;have p:=hcut;clear hcut;have w:=p.size;obtain⟨c5,c6,rfl⟩:=p.m2.sl;have n:=p.box;obtain⟨N,O,P,R,S⟩:=iI n;have T:δ a8 (H (M (E wo)) 3 U)=E3:=by simp[δ,n]
 have a9:=p.set 3 (V j d i) (by simp[Ξ,ψ,n]) p.m1 p.m2 p.m0 p.s1 p.s2 (λa c=>F4 c);clear p n;go_wp2_with fail;go_loopg [8] 64 (λgk W wr=>∃(b:G) (v3:Z),gk=64-b/\b<=64/\W=ξ μ b/\Gq wo wb n0 (ξ μ z) (V j d i) (V a6 (d+1) a7) (V c5 (d+2) c6) v3 d (d+1) (d+2) (d+b) wr)
 ·exact⟨0,_,D,I,D,a9⟩
 clear a9 N O P R S T;obtain⟨b,v3,a4,e8,rfl,p⟩:=hrel;subst a4;generalize a9:wr=wq at*;clear a9;have y:=p.size;obtain⟨c7,c8,rfl⟩:=p.m3.sl;have n:=p.box;obtain⟨N,O,P,R,S⟩:=iI n;by_cases a5:b<64
 ·have m:=p.ah (ai _ (ζ #[ξ μ z] 3));go_wp2_with(at_builtin;refine lC _ D (.tmp 47) (.tmp 49) D (wb+1) a0 a1 a2 a3 D (wX z) (V c7 (d+b) c8) (d+b) D m.m3 (H (M (E wq)) 0 U) 1 1 D Y (Td z D) I aN ?_;intro r w3 q C B F;have k:=m.Fv m.m3 m.s3 C F;have hF:=m.far (v':=r) m.s3 B;obtain⟨c2,c3,rfl⟩:=q.sl;have W:=k.box;have c4:=af W;obtain⟨_,_,_,_,_⟩:=iI W;have T:δ w3 (H (M (E wo)) 3 U)=E3:=by simp[δ,W])
  go_roundg (64-(b+1))
  case measure=>omega
  exact⟨b+1,_,D,I,aP,k.set 3 _ (by simp[Ξ,ψ,W]) k.m1 k.m2 q k.s1 k.s2 hF⟩
 obtain rfl:b=64:=I;have b7:wb<M (E f):=af s;have C:∀(a:G) (l:G4 Z) (k:F1) (m:G×G),f.heap[a]? =J (ζ l k m)->k≠3->(V j d i).ownBlock≠J a:=λa l k m c B g=>by
  obtain⟨_,_,_,v⟩:=c0.out a g;rw[v]at c;cases c;exact B D
 have x:∀(a:G) (l:G4 Z) (k:F1) (m:G×G),f.heap[a]? =J (ζ l k m)->k≠3->wq.heap[a]? =f.heap[a]? :=λa l k m c B=>
  (p.FX a (D3 (af c) b9) (C a l k m c B)).trans (c1 a (af c) (C a l k m c B))
 have r:=(x _ _ _ _ s Y).trans s;have own:=gm K λL l m y=>x L l _ m y Y;have g9:α wq (H wb 6 U)=J (V aS n0 t):=aC r;have a9:=af r;change G1 _ at r;have c4:∀v:Obj,(wq.alloc v).drew.ownsRow (wb+1) 85 5 (V aS n0 t) n0 (jd o):=λv=>E1 (D0 own v);have g3:(V aS n0 t).ownBlock≠J wb:=λg=>cz ((own.lt _ g).1);have c2:=fun {q:World} {W F:Nat} (c3:Obj)=>UK (w10:=q) (g7:=W) (cap7:=F) (n:=d+64) (W1:=(wq.alloc c3).drew) I I I I I g2 e7 X c0 c1 b9 b8 b4 p r own (ai wq c3).drew;have g4:G1 _:= @c2;clear c2 own x C s K p;go_upto_region 14 with fail
 go_region_law (refine J9 _ D (.tmp 56) (.tmp 58) 35 D (wb+1) 85 e2 _ 5 104 underlying35 e3 e4 e5 e6 D Y (V aS n0 t) n0 (jd o) jl (c4 _) (H (M (E wq)) 0 U) 1 1 [V j d i,V a6 (d+1) a7,V c5 (d+2) c6,V c7 (d+64) c8,ξ μ (n0:H3)] jl D (ο (LK wq)) (by intro b5 C;simp only[G0,E4,J2]at C;rcases C with rfl|rfl|rfl|rfl|rfl<;>rfl) Y fD I aN (M (E wq)+1) ak ?_;intro W F q K s _ _;have p:q.heap[wb]? =_:=(s.block wb aN g3.symm).trans ((F7 _ _ _ a9).trans r);have c2:=af p;have h1:α q (H wb 6 U)=J (V aS n0 t):=aC p;have h2:δ q (H wb 6 U)=E3:=by simp[δ,p])
 all_goals(go_wp2_with fail)
 all_goals
  go_end0
  exact⟨D,by rw[g1];exact g4 _ s K⟩
structure Fy(w2:World)(wb n0:Nat)(a b l v1 v2 v3:Value)(k0 k1 k2 k3:Nat)(wx:World):Prop where
 box:wx.heap[Array.size (World.heap w2)]? =some (.cells #[l,v1,v2,v3,.int .i64 (n0:Int)] 89 (0,0))
 wl:wb<Array.size (World.heap w2)
 ll:∀g,l.ownBlock=some g->g<Array.size (World.heap w2)
 m0:vC wx (wb+1) a b l k0
 m1:vC wx (wb+1) a b v1 k1
 m2:vC wx (wb+1) a b v2 k2
 m3:vC wx (wb+1) a b v3 k3
 low:Below (wb+1) w2 wx
 FX:∀g,g<Array.size (World.heap w2)->l.ownBlock≠some g->wx.heap[g]? =w2.heap[g]?
 s1:∀g,v1.ownBlock=some g->l.ownBlock=some g\/Array.size (World.heap w2)<g
 s2:∀g,v2.ownBlock=some g->l.ownBlock=some g\/Array.size (World.heap w2)<g
 s3:∀g,v3.ownBlock=some g->l.ownBlock=some g\/Array.size (World.heap w2)<g
section
variable {w2 : World} {wb n0 : Nat} {a b l v1 v2 v3 : Value} {k0 k1 k2 k3 : Nat} {wx y w3 : World}
theorem Fy.size(c:Fy w2 wb n0 a b l v1 v2 v3 k0 k1 k2 k3 wx):M (E w2)<M (E wx):=af c.box
theorem Fy.ah(c:Fy w2 wb n0 a b l v1 v2 v3 k0 k1 k2 k3 wx)(e:Bl wx y):Fy w2 wb n0 a b l v1 v2 v3 k0 k1 k2 k3 y:=by
 have j:=c.size;have f:∀ {v:Z} {k:G},vC wx (wb+1) a b v k->vC y (wb+1) a b v k:=λi=>i.ah λd g=>e.block d (Ψ i d g).2;exact⟨(e.block _ j).trans c.box,c.wl,c.ll,f c.m0,f c.m1,f c.m2,f c.m3,c.low.trans (e.mono (by have:=c.wl;omega)),λd g m=>(e.block d I).trans (c.FX d g m),c.s1,c.s2,c.s3⟩
theorem Fy.Fv(c:Fy w2 wb n0 a b l v1 v2 v3 k0 k1 k2 k3 y){v:Z}{p}(o:vC y (wb+1) a b v p)(j:∀d,v.ownBlock=J d->l.ownBlock=J d\/M (E w2)<d)(i:y.grownBy w3 v.ownBlock)(g:∀m k,vC y (wb+1) a b m k->vC w3 (wb+1) a b m k):Fy w2 wb n0 a b l v1 v2 v3 k0 k1 k2 k3 w3:=by
 have q:=c.size;have r:=c.wl;have s:v.ownBlock≠J (M (E w2)):=λe=>by
  rcases j _ e with f|f
  ·have:=c.ll _ f;omega
  omega
 refine⟨(i.block _ q (λe=>s e.symm)).trans c.box,r,c.ll,g _ _ c.m0,g _ _ c.m1,g _ _ c.m2,g _ _ c.m3,c.low.grown i I (λt n=>(Ψ o t n).1),λd t n=>(i.block d I (λe=>?_)).trans (c.FX d t n),c.s1,c.s2,c.s3⟩;rcases j d e.symm with f|f
 ·exact n f
 omega
theorem Fy.far(f:Fy w2 wb n0 a b l v1 v2 v3 k0 k1 k2 k3 y){v v':Z}(i:∀c,v.ownBlock=J c->l.ownBlock=J c\/M (E w2)<c)(g:v'.ownBlock=v.ownBlock\/v'.ownBlock=J (M (E y))):∀c,v'.ownBlock=J c->l.ownBlock=J c\/M (E w2)<c:=λc d=>by
 rcases g with e|e
 ·exact i c (by rw[<-e];exact d)
 rw[e]at d;cases d;exact G6 f.size
theorem Fy.off(e:Fy w2 wb n0 a b l v1 v2 v3 k0 k1 k2 k3 wx){v:Z}(f:∀c,v.ownBlock=J c->l.ownBlock=J c\/M (E w2)<c):∀c,v.ownBlock=J c->c≠M (E w2):=λc g _=>by
 rcases f c g with d|d
 ·have:=e.ll _ d;omega
 omega
theorem Fy.set(d:Fy w2 wb n0 a b l v1 v2 v3 k0 k1 k2 k3 wx)(e n){f g i:Z}{q r s}(y:(wx.setCell (H (M (E w2)) e U) n).heap[M (E w2)]? =J (ζ #[l,f,g,i,ξ μ (n0:H3)] 89 (0,0)))(k:vC wx (wb+1) a b f q)(m:vC wx (wb+1) a b g r)(x:vC wx (wb+1) a b i s)(t:∀c,f.ownBlock=J c->l.ownBlock=J c\/M (E w2)<c)(u:∀c,g.ownBlock=J c->l.ownBlock=J c\/M (E w2)<c)(v:∀c,i.ownBlock=J c->l.ownBlock=J c\/M (E w2)<c):Fy w2 wb n0 a b l f g i k0 q r s (wx.setCell (H (M (E w2)) e U) n):=by
 have z:=d.wl;have j:∀ {o:Z} {w:G},vC wx (wb+1) a b o w->(∀c,o.ownBlock=J c->c≠M (E w2))->vC (wx.setCell (H (M (E w2)) e U) n) (wb+1) a b o w:=λC B=>C.ah λc p=>β _ _ _ _ (B c p);exact⟨y,z,d.ll,j d.m0 (d.off λc p=>F4 p),j k (d.off t),j m (d.off u),j x (d.off v),d.low.setCell (p:=(H (M (E w2)) e U)) (by show wb+1<=M (E w2);omega) _,λc k m=>(β _ _ _ _ (by show c≠M (E w2);omega)).trans (d.FX c k m),t,u,v⟩
end
theorem adf:(ρ.info? 89).map (λa=>(a.zero,a.size,a.bytes))=J (J (I0 #[V U 0 0,V U 0 0,V U 0 0,V U 0 0,ξ μ 0]),5,104):=aF
def WB(w:η)(wb:G)(g0 g1 g2 g3:Z)(es:ω TE)(l:Z)(w':η):Prop:=∃(e':TE) (sv:Z),w'.heap[wb]? =J (ζ #[g0,g1,g2,V U 0 0,V U 0 0,V U 0 0,g3,sv] 40 (0,0))/\qA w' wb sv (es++ [e'])/\(∀u∈Ak e',∀g,u.ownBlock=J g->l.ownBlock=J g\/M (E w)<=g)/\Ω wb w w'/\∀(q:G) (cur:G4 Z) (T:F1) (fz:G×G),w.heap[q]? =J (ζ cur T fz)->T≠89->T≠40->l.ownBlock≠J q->w'.heap[q]? =w.heap[q]?
theorem Te{d:η}{a b e}(f:e=M (E d)):∀c,c<1*2->α (d.alloc (ζ #[a,b] 165)) (((H e 0 U):F3).add c)=J (pm a b c):=λc g=>by
 subst f
 match c,g with
 |0,_=>exact ο (ν d _) 0 _ D
 |1,_=>exact ο (ν d _) 1 _ D
theorem abr{c:η}{a b e}(f:e=M (E c)):∀d,d<2*2->α (c.alloc (ζ #[a,b,a,b] 165)) (((H e 0 U):F3).add d)=J (pm a b d):=λd g=>by
 subst f
 match d,g with
 |0,_=>exact ο (ν c _) 0 _ D
 |1,_=>exact ο (ν c _) 1 _ D
 |2,_=>exact ο (ν c _) 2 _ D
 |3,_=>exact ο (ν c _) 3 _ D
theorem vC.sl{g base a b d c}(f:vC g base a b d c):∃e cap,d=V e c cap:=by
 rcases f.2 with⟨rfl,rfl⟩|⟨_,cap,_,rfl,_⟩<;>exact⟨_,_,D⟩
theorem vC.typed{w j:η}{base a b i g}(f:vC w base a b i g)(m:∀(d:G) (e:G4 Z) (c:F1) (l:G×G),w.heap[d]? =J (ζ e c l)->c≠89->c≠40->j.heap[d]? =w.heap[d]?):vC j base a b i g:=f.ah λ_ k=>by
 rcases f.2 with⟨rfl,_⟩|⟨_,cap,e,rfl,_,n,_⟩
 ·cases k
 cases k;exact m _ _ _ _ n Y Y
theorem UL{b p q w10 W1:η}{wb n n0 g7 cap7 y z B C k}{a8 l v1 v2 v3:Z}{k0 k1 k2 k3}(b6:n<=1900)(a2:k0<=n)(a3:k1<=n)(a4:k2<=n)(a5:k3<=n)(F:Q k=n0)(a7:t= -1-(n0:H3))(R:qA b wb a8 k)(b5:∀a,l.ownBlock=J a->wb<a/\a<M (E b)/\∃j,b.heap[a]? =J (ζ j 165 (0,0)))(S:∀a,a<M (E b)->l.ownBlock≠J a->p.heap[a]? =b.heap[a]?)(b7:M (E b)<=M (E p))(T:Ω (wb+1) b p)(W:∀o∈k,∀d∈Ak o,∀a,d.ownBlock=J a->l.ownBlock≠J a)(c:Fy p wb n0 (ξ μ t) (V U 0 0) l v1 v2 v3 k0 k1 k2 k3 q){aS v}(X:q.heap[wb]? =J (ζ #[y,z,B,V U 0 0,V U 0 0,V U 0 0,C,V aS n0 v] 40 (0,0)))(own:q.ownsRow (wb+1) 89 5 (V aS n0 v) n0 (jd k))(a0:Bl q W1)(a1:W1.grownBy w10 (V aS n0 v).ownBlock)(a6:w10.ownsRow (wb+1) 89 5 (V (J (H g7 0 U)) (n0+1) cap7) (n0+1) (jd k++ [l,v1,v2,v3,ξ μ (n0:H3)])):
  WB b wb y z B C k l (w10.setCell (H wb 7 U) (V (J (H g7 0 U)) (n0+1) cap7)):=by
 obtain⟨_,a9,b0,b1,K⟩:=yU (k:=7) (B:=wb) X own a0 a1 a6 (V (J (H g7 0 U)) (n0+1) cap7) (ε _);have u:∀ {d:Z} {r:G},vC q (wb+1) (ξ μ t) (V U 0 0) d r->r<=n->aap (w10.setCell (H wb 7 U) (V (J (H g7 0 U)) (n0+1) cap7)) (wb+1) n0 d:=fun {d r} e b9=>⟨r,I,by show vC _ _ (ξ μ (-1-(n0:H3))) _ _ _;rw[<-a7];exact e.typed K⟩;have L:∀(f:G) (j:G4 Z) (s:F1) (w:G×G),b.heap[f]? =J (ζ j s w)->s≠89->s≠40->l.ownBlock≠J f->(w10.setCell (H wb 7 U) (V (J (H g7 0 U)) (n0+1) cap7)).heap[f]? =b.heap[f]? :=λf j s w O b2 b3 N=>by
  have m:=af O;have g:=S f m N;have i:=c.FX f I N;exact(K f j s w ((i.trans g).trans O) b2 b3).trans (i.trans g)
 refine⟨(l,v1,v2,v3,n0),_,a9,⟨?_,λx o g=>?_⟩,λd i a m=>?_,((T.mono I).trans (c.low.mono I)).trans b1,L⟩
 ·rw[Ct,φ,F];exact b0
 ·rcases I2 x (Q k)with e|e
  ·rw[κ e]at g;have P:=R.each x o g;refine P.move λd i a m=>?_;obtain⟨_,_,j,b4⟩:=P.lt i m;exact L a j _ _ b4 Y Y (W o (Φ g) d i a m)
  rw[ι e]at g;have P:x=n0:=by
   rcases L0 e with b4|b4
   ·omega
   rw[F6 aN]at g;cases g
  subst P;rw[F,I9]at g
  cases g;refine⟨D,λd i=>?_⟩;simp only[Ak,G0,E4,J2]at i;rcases i with rfl|rfl|rfl|rfl
  ·exact u c.m0 a2
  ·exact u c.m1 a3
  ·exact u c.m2 a4
  exact u c.m3 a5
 simp only[Ak,G0,E4,J2]at i;have far:∀ {P:Z},(∀a,P.ownBlock=J a->l.ownBlock=J a\/M (E p)<a)->P.ownBlock=J a->l.ownBlock=J a\/M (E b)<=a:=λe o=>(e a o).imp id I;rcases i with rfl|rfl|rfl|rfl
 ·exact F4 m
 ·exact far c.s1 m
 ·exact far c.s2 m
 exact far c.s3 m
theorem jA.SN{b wx:η}{k a n}{far m:G->Z}{l:Ln}{i}(f:jA b wx k a n far m l i){d}{e:G->Z}(j:b.rowIs l.g a d e):dX b wx [a]:=λp _ _ _ c o=>f.pV p (aH c) λq=>by
 subst q;obtain⟨_,r,_⟩:=j;rw[r]at c;cases c;simp at o
theorem Kh{i e k}{f:G->Z}{a}{g:iC}{b j}(o:bX a g (V d b j))(p:∀l∈a,xA i e k f l)(q:∀l∈a,l.n<=1048576):tO i e k f d b j/\b=g.rn:=by
 rcases o with⟨r,c⟩|⟨s,c,m⟩
 ·cases c;exact⟨F4 ⟨D,D,D⟩,r.symm⟩
 cases c;exact⟨G6 ⟨s,D,D,q _ m,p _ m⟩,D⟩
theorem Zn{i e k}{f:G->Z}{a g r b j}(o:uJ a L g r (V d b j))(p:∀l∈a,xA i e k f l)(q:∀l∈a,l.n<=1048576):tO i e k f d b j/\b=g:=by
 rcases o with⟨s,c⟩|⟨t,_,c,m⟩
 ·cases c;exact⟨F4 ⟨D,D,D⟩,s.symm⟩
 cases c;exact⟨G6 ⟨t,D,D,q _ m,p _ m⟩,D⟩
theorem xA.bW{c d a e}{b:G->Z}{l S}(f:xA c a e b l)(i:dX c d S)(g:a∉S):xA d a e b l:=ja f i g
theorem ym{b d a}(c:bX b d a):∃g f e,a=V g f e:=by
 rcases c with⟨_,rfl⟩|⟨_,rfl,_⟩<;>exact⟨_,_,_,D⟩
theorem Ox{b f e a}(c:uJ b d f e a):∃j i g,a=V j i g:=by
 rcases c with⟨_,rfl⟩|⟨_,_,rfl,_⟩<;>exact⟨_,_,_,D⟩
def ovT(j:G):Z:=if j=0 then γ ⟨#[111,118,101,114]⟩else TJ j
structure rW(w wr:World)(mb:Nat)(ls:List Ln)(k:Nat):Prop where
 todo:∀(j:Nat) (l:Ln),k<=j->ls[j]? =some l->wr.rowIs l.g 54 ((l.n+3)*6) (jN 6 l.cs Ay)
 ah:dX w wr [54]
 jH:Below mb w wr
structure vG(wo wx:World)(mb:Nat)(l:Ln)(i:Nat):Prop where
 row:wx.rowIs l.g 54 ((l.n+3)*6) (uM 6 ovT (jN 6 l.cs Ay) 0 (min i l.n*6))
 pV:∀q,q<Array.size (World.heap wo)->q≠l.g->wx.heap[q]? =wo.heap[q]?
 jH:Below mb wo wx
theorem rW.start{e:Ln->Prop}{a d c g b}(f:bE e a 54 d 6 Ay c g b):rW a a c b 0:=
 ⟨λ_ l _ i=>(f.each l (Φ i)).row,dX.refl _ _,θ _ _⟩
theorem rW.more{f wr x c e d}(a:rW f wr c e d)(b:Bl wr x)(k:c<=M (E wr)):rW f x c e d:=
 ⟨λj l g i=>(a.todo j l g i).of_block (b.block _ (a.todo j l g i).lt),a.ah.trans (λn _ _ _ m _=>b.block n (aH m)),a.jH.trans (b.mono k)⟩
theorem vG.start{g b d c a l}(e:rW g b d c a)(f:c[a]? =J l):vG b b d l 0:=
 ⟨(e.todo a l (ε _) f).congr λ_ _=>by rw[Nat.zero_min,I8,ny],λ_ _ _=>rfl,θ _ _⟩
theorem vG.more{d wx x c l i}(a:vG d wx c l i)(b:Bl wx x)(f:c<=M (E wx)):vG d x c l i:=
 ⟨a.row.of_block (b.block _ a.row.lt),λe j g=>(b.block e (by have:=a.jH.size;omega)).trans (a.pV e j g),a.jH.trans (b.mono f)⟩
theorem vG.far{d wx c}{l:Ln}{b}(a:vG d wx c l b)(e:l.n<=b):vG d wx c l (b+1):=
 ⟨by rw[F9 I];have:=a.row;rwa[F9 e]at this,a.pV,a.jH⟩
theorem vG.put{e wx:η}{d}{l:Ln}{i}(c:vG e wx d l i)(m:i<l.n)(b:d<=l.g):vG e ((((((wx.setCell ⟨l.g,i*6,U⟩ (γ ⟨#[111,118,101,114]⟩)).setCell ⟨l.g,i*6+1,U⟩ (V U 0 0)).setCell ⟨l.g,i*6+2,U⟩ (V U 0 0)).setCell ⟨l.g,i*6+3,U⟩ (ξ μ 0)).setCell ⟨l.g,i*6+4,U⟩ (γ ⟨#[]⟩)).setCell ⟨l.g,i*6+5,U⟩ (V U 0 0)) d l (i+1):=by
 have f:=c.row;rw[E9 I]at f;refine⟨?_,λk j a=>?_, ?_⟩
 ·rw[E9 I];have:=YP (K0:=0) (ov:=ovT) (by simpa using f) (χ i) (a0:=γ ⟨#[111,118,101,114]⟩) (a1:=V U 0 0) (a2:=V U 0 0) (a3:=ξ μ 0) (a4:=γ ⟨#[]⟩) (a5:=V U 0 0) D D D D D D;simpa using this
 ·rw[β _ _ _ _ a,β _ _ _ _ a,β _ _ _ _ a,β _ _ _ _ a,β _ _ _ _ a,β _ _ _ _ a];exact c.pV k j a
 exact(((((c.jH.setCell (p:=(H l.g _ U)) b _).setCell (p:=(H l.g _ U)) b _).setCell (p:=(H l.g _ U)) b _).setCell (p:=(H l.g _ U)) b _).setCell (p:=(H l.g _ U)) b _).setCell (p:=(H l.g _ U)) b _
theorem vG.SN{a wx:η}{j}{l:Ln}{i}(e:vG a wx j l i){c}{d:G->Z}(f:a.rowIs l.g 54 c d):dX a wx [54]:=λm _ _ _ b k=>e.pV m (aH b) λn=>by
 subst n;obtain⟨_,o,_⟩:=f;rw[o]at b;cases b;simp at k
theorem rW.next{k m wx i}{e:ω Ln}{c r l}(d:rW k m i e c)(j:e[c]? =J l)(f:vG m wx i l r)(q:e.Pairwise λa b=>a.g<b.g):rW k wx i e (c+1):=by
 refine⟨λo s _ n=>?_,d.ah.trans (f.SN (d.todo c l (ε _) j)),d.jH.trans f.jH⟩;have p:=d.todo o s I n;refine p.of_block (f.pV _ p.lt λ_=>?_);obtain⟨t,rfl⟩:=σ.mp n;obtain⟨k1,rfl⟩:=σ.mp j;have:=G9.mp q c o k1 t I;omega
def TyT(cs:ω Z)(n:G):Prop:=∀i,i<n->∃(s t:K1),cs[i*2]? =J (γ s)/\cs[i*2+1]? =J (γ t)
def TyO(cs:ω Z)(n:G):Prop:=∀i,i<n->∃(s:H3) (t:Bool),cs[i*2]? =J (ξ μ s)/\cs[i*2+1]? =J (D4 t)
def Az(j:G):Z:=if j=0 then γ ⟨#[98,101,121,111,110,100]⟩else γ ⟨#[]⟩
def Aw(j:G):Z:=if j=0 then ξ μ 77 else D4 E3
def ovY(j:G):Z:=if j=0 then γ ⟨#[111,118,101,114]⟩else γ ⟨#[]⟩
def ovO(j:G):Z:=if j=0 then ξ μ 8 else D4 E3
theorem Ey{i:η}{c e f}{d g:G->Z}{K0 a a0 a1}(m:i.rowIs c f e (uM 2 d g (K0*2) (a*2)))(p:K0<=a)(n:a0=d 0)(o:a1=d 1):((i.setCell ⟨c,a*2,U⟩ a0).setCell ⟨c,a*2+1,U⟩ a1).rowIs c f e (uM 2 d g (K0*2) ((a+1)*2)):=by
 subst n o;refine((m.set (a*2) _).set (a*2+1) _).congr λb _=>?_;unfold uM;by_cases j:b=a*2+1
 ·rw[υ j,υ I,show b % 2=1 by omega]
 rw[Θ j];by_cases k:b=a*2
 ·rw[υ k,υ I,show b % 2=0 by omega]
 rw[Θ k];by_cases l:K0*2<=b/\b<a*2
 ·rw[υ l,υ I]
 rw[Θ l,Θ I]
theorem jA.abE{m wx:η}{f j}{far d:G->Z}{l:Ln}{a b c}(e:jA m wx f j 2 far d l a)(k:f<=l.g)(n:b=d 0)(o:c=d 1):jA m ((wx.setCell ⟨l.g,a*2,U⟩ b).setCell ⟨l.g,a*2+1,U⟩ c) f j 2 far d l (a+1):=
 ⟨by have:=Ey (K0:=0) (a0:=b) (a1:=c) (by simpa using e.row) (χ a) n o;simpa using this,λq p i=>(β _ _ _ _ i).trans ((β _ _ _ _ i).trans (e.pV q p i)),(e.jH.setCell (p:=(H l.g _ U)) k _).setCell (p:=(H l.g _ U)) k _⟩
end Go.Proofs.YthkeffolmbnkaaaGreatDoor

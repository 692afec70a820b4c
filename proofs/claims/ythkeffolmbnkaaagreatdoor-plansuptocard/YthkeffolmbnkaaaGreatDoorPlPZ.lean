import Derived.Test.YthkeffolmbnkaaaGreatDoorRtDZ
import Derived.Test.YthkeffolmbnkaaaGreatDoorAtCZ
import Derived.Test.YthkeffolmbnkaaaGreatDoorPlCZ
import Derived.Test.YthkeffolmbnkaaaGreatDoorPlHZ
set_option linter.unusedVariables false
set_option linter.unusedSimpArgs false
set_option maxRecDepth 100000
set_option maxHeartbeats 0
open Array renaming size->ε,toList_setIfInBounds->ρ
open Bool renaming false->τ,true->C9
open Go renaming heap_setCell_other->γ,Calls->η,Value->ι,World->χ,heap_setCell_same->ψ,bits->C4,heap_alloc_new->C8,maxLen->D2
open Go.Addr renaming mk->Z
open Go.BinOp renaming or->B0,andNot->C1,and->C6
open Go.Ending renaming returned->β
open Go.IntKind renaming i64->G,u64->ζ
open Go.Obj renaming cells->ν
open Go.Proofs.Tryz renaming prog->ξ
open Go.Proofs.YthkeffolmbnkaaaGreatDoor renaming aa->J,setOf->Ψ,within->D3
open Go.RowKit renaming Hid->D,intOf->A1
open Go.RowKit.Below renaming heap_alloc->A0,refl->A4
open Go.Value renaming int->M,slice->Y,pointer->ω,tuple->Γ,bool->Φ,string->C0
open Go.World renaming cell?->α,heap->δ,frozen?->Ξ,size_setCell->B2
open Int renaming tdiv_eq_ediv_of_nonneg->A6
open List renaming length->U,getD_eq_getElem?_getD->θ,getElem_mem->κ,drop_of_length_le->μ,drop_eq_getElem_cons->ο,getElem?_eq_getElem->φ,flatMap_cons->Ω,length_map->A3,mem_or_eq_of_mem_set->A5,take_set->A7,take_of_length_le->A9,getElem?_set_ne->B1,set_cons_succ->B3,getElem?_map->B4,map_append->B6,length_nil->B7,map_take->B9,map_set->C2
open Nat renaming lt_of_lt_of_le->σ,zero_le->υ,le_refl->Θ,zero_add->C3
open Option renaming none->I,some->A
open _root_ renaming Int->V,rfl->E,Nat->H,List->Q,if_neg->Δ,if_pos->A2,decide_eq_false->A8,congrArg->B5,beq_eq_false_iff_ne->B8,ByteArray->C5,decide_eq_true->C7,beq_iff_eq->D0,Option->D1
namespace Go.Proofs.YthkeffolmbnkaaaGreatDoor
open Go.Proofs.Tryz
open Go.RowKit
variable{F b3:Array Value}{K L b1 b2:Int}{c C:List (Value×List Nat)}{r:List Bs}{s u:List Nat}{P:List Nat->List Nat->Bool}{a b e o p y R:Nat}{S:Obj}{m:Option Addr}{f:PQ}{t N T W X O a0 a1 a2 a3 a4 a5 a6 a7 a8 a9 b0:Value}{v:Value×List Nat}{d z:World}
theorem DC{b}(c:a<U r):bC (r.drop a) b=(b==r[a]||bC (r.drop (a+1)) b):=by
 unfold bC;rw[ο c,List.contains_cons]
theorem KN(b:C5)(i:gD d t r):
  η ξ 201 #[t,C0 b] d λn o=>(∃l:V,n=β (M G l)/\(decide (0<=l)=bC r b.toList))/\o=d:=by
 obtain⟨_,cap,rfl,p,f⟩:=i;unfold D2 at p;go_enter func201,ntmps201;go_wp2_with fail;go_loopw [8] (λc e=>∃a:H,a<=U r/\c=M G a/\e=d/\D (bC r b.toList=bC (r.drop a) b.toList)) (λc _=>U r-(A1 c).toNat)
 ·exact⟨0,υ _,E,E,E⟩
 obtain⟨a,_,rfl,rfl,c⟩:=hrel;by_cases j:a<U r
 ·rcases(id f)with i|⟨_,_,rfl,_,k⟩
  ·subst i;simp at j
  have:=k a r[a] (φ j);have g:D (bC r b.toList=(b.toList==r[a]||bC (r.drop (a+1)) b.toList)):=c.out.trans (DC j);have:(ae r[a]).toList=r[a]:=ay
  cases m:(b.toList==r[a])with
  |true=>
   have e:D (bC r b.toList=C9):=by rw[D,g.out,m];rfl
   clear c k f g
   go_wp2
   go_ret;exact⟨⟨_,E,by rw[e.out];simp⟩,E⟩
  |false=>
   have e:D (bC r b.toList=bC (r.drop (a+1)) b.toList):=by rw[D,g.out,m];rfl
   clear c k f g
   go_wp2
   go_roundw
   ·exact⟨a+1,J,aP,by trivial,e⟩
   simp[A1];omega
 have e:D (bC r b.toList=τ):=by rw[D,c.out,μ J];rfl
 clear c f
 go_wp2
 go_ret;exact⟨⟨_,E,by rw[e.out];rfl⟩,E⟩
theorem CV(a:C5)(e:gD d t r):
  η ξ 134 #[t,C0 a] d (RE (Φ (bC r a.toList)) d):=by
 obtain⟨_,b⟩:=au (bC r a.toList);have c:=KN a e;rw[<-b]at c ⊢;clear b;go_enter func134,ntmps134;go_wp2_with(go_at_call 201;refine c.mono ?_;rintro _ _ ⟨⟨_,rfl,_⟩,rfl⟩);go_ret;exact⟨E,E⟩
theorem PM(b:C5)(j:gD d t r):
  η ξ 113 #[t,C0 b] d (RE (Φ (bC r b.toList)) d):=by
 obtain⟨_,cap,rfl,m,g⟩:=j;unfold D2 at m;go_enter func113,ntmps113;go_wp2_with fail;go_loopw [5] (λc e=>∃a:H,a<=U r/\c=M G a/\e=d/\D (bC r b.toList=bC (r.drop a) b.toList)) (λc _=>U r-(A1 c).toNat)
 ·exact⟨0,υ _,E,E,E⟩
 obtain⟨a,_,rfl,rfl,e⟩:=hrel;by_cases k:a<U r
 ·rcases(id g)with j|⟨_,_,rfl,_,l⟩
  ·subst j;simp at k
  have:=l a r[a] (φ k);have i:D (bC r b.toList=(b.toList==r[a]||bC (r.drop (a+1)) b.toList)):=e.out.trans (DC k);have:(ae r[a]).toList=r[a]:=ay
  cases c:(b.toList==r[a])with
  |true=>
   have f:D (bC r b.toList=C9):=by rw[D,i.out,c];rfl
   have n:(r[a]==b.toList)=C9:=by rw[D0]at c ⊢;exact c.symm
   clear e l g i c
   go_wp2
   go_ret;exact⟨aG f.symm,E⟩
  |false=>
   have f:D (bC r b.toList=bC (r.drop (a+1)) b.toList):=by rw[D,i.out,c];rfl
   have n:(r[a]==b.toList)=τ:=by rw[B8]at c ⊢;exact λo=>c o.symm
   clear e l g i c
   go_wp2
   go_roundw
   ·exact⟨a+1,J,aP,by trivial,f⟩
   simp[A1];omega
 have f:D (bC r b.toList=τ):=by rw[D,e.out,μ J];rfl
 clear e g
 go_wp2
 go_ret;exact⟨aG f.symm,E⟩
theorem Ux(g:nJ t N T W X O a0 a1 a2 a3 a4 a5 a6 a7 a8 a9 b0)(b:gD d O r)(user):
  η ξ 76 #[.agg #[t,N,T,W,X,O,a0,a1,a2,a3,a4,a5,a6,a7,a8,a9,b0],C0 (ae user)] d (RB (M G (fT (!bC r user) 7)) d):=by
 have c:=ai d (ν #[t,N,T,W,X,O,a0,a1,a2,a3,a4,a5,a6,a7,a8,a9,b0] 235);have f:=C8 d (ν #[t,N,T,W,X,O,a0,a1,a2,a3,a4,a5,a6,a7,a8,a9,b0] 235);have:α (d.alloc (ν #[t,N,T,W,X,O,a0,a1,a2,a3,a4,a5,a6,a7,a8,a9,b0] 235)) (Z (ε (δ d)) 5 I)=A O:=aC f;have a:=CV (ae user) (b.ah c);rw[ay]at a;obtain⟨_,e⟩:=au (bC r user);rw[<-e]at a ⊢;obtain⟨_,_,_,_,_,_,_,_,_,_,_,_,_,_,_,_,_⟩:=g;obtain⟨_,_,rfl, -⟩:=b;clear f e;go_enter func76,ntmps76;go_wp2_with(first
  |(go_at_call 134;refine bP a ?_)
  |(go_at_call 122;refine bP eX ?_))
 go_ret;exact⟨E,c⟩
theorem abx(d:b<16)(c:a<4):C4 B0 ζ (b:V) (ζ.wrap (2^a))=((bu b a:H):V):=by
 have:=(show∀(b:Fin 16) (a:Fin 4),C4 B0 ζ (b.val:V) (ζ.wrap (2^a.val))=((bu b.val a.val:H):V)by decide+kernel);exact this ⟨b,d⟩ ⟨a,c⟩
theorem WW(d:b<16)(c:a<4):(C4 C6 ζ (b:V) (ζ.wrap (2^a)) != 0)=b.testBit a:=by
 have:=(show∀(b:Fin 16) (a:Fin 4),(C4 C6 ζ (b.val:V) (ζ.wrap (2^a.val)) != 0)=b.val.testBit a.val by decide+kernel);exact this ⟨b,d⟩ ⟨a,c⟩
theorem Yx(c:a<16)(d:b<16):(C4 C1 ζ (a:V) (b:V)==0)=D3 a b:=by
 have:=(show∀(a b:Fin 16),(C4 C1 ζ (a.val:V) (b.val:V)==0)=D3 a.val b.val by decide+kernel);exact this ⟨a,c⟩ ⟨b,d⟩
theorem NL(c:a<16)(d:b<16):C4 B0 ζ (a:V) (b:V)=((a|||b:H):V):=by
 have:=(show∀(a b:Fin 16),C4 B0 ζ (a.val:V) (b.val:V)=((a.val|||b.val:H):V)by decide+kernel);exact this ⟨a,c⟩ ⟨b,d⟩
theorem wO(d:b<16)(c:a<4):bu b a<16:=by
 have:=(show∀(b:Fin 16) (a:Fin 4),bu b.val a.val<16 by decide+kernel);exact this ⟨b,d⟩ ⟨a,c⟩
theorem rz(b){s:H}(d:s<16)(c:a<4):η ξ 155 #[M .u64 (s:V),M G (a:V)] b (RE (M .u64 ((bu s a:H):V)) b):=by
 have:=abx d c;go_enter func155,ntmps155
 go_wp2
 go_ret;exact⟨E,E⟩
theorem EP(c)(b:H)(e:a<16)(d:b<4):η ξ 216 #[M .u64 (a:V),M G (b:V)] c (RE (Φ (a.testBit b)) c):=by
 have:=WW e d;go_enter func216,ntmps216
 go_wp2
 go_ret;exact⟨E,E⟩
theorem rU(c)(d:a<16)(e:b<16):η ξ 218 #[M .u64 (a:V),M .u64 (b:V)] c (RE (Φ (D3 a b)) c):=by
 have:=Yx d e;go_enter func218,ntmps218
 go_wp2
 go_ret;exact⟨E,E⟩
theorem Mt(c){b a}(e:0<=b)(f:b<=ru)(i:1<=a)(j:a<=9223372036854775807):η ξ 257 #[M G b,M G a] c (RE (M G (zg b a)) c):=by
 unfold ru at f;have k:(a==0)=τ:=xW;have d:D (zg b a=if b=0 then 0 else max (b / a) 1):=by rw[D,zg,A6 e]
 go_enter func257,ntmps257;go_wp2_with fail;all_goals go_ret
 all_goals refine⟨B5 (λg=>β (M G g)) ?_,E⟩
 all_goals simp only[D0,B8,D]at*
 all_goals rw[d];omega
def si(x y:V):V:=if x<y then-1 else if y<x then 1 else 0
theorem Me(a b e):η ξ 283 #[M G a,M G b] e (RE (M G (si a b)) e):=by
 have g:∀(f:V) (a:χ),η ξ 322 #[M G f] a (RE (Φ τ) a):=λf a=>by
  go_enter func322,ntmps322
  go_wp2
  go_ret;exact⟨E,E⟩
 have c:D (si a b=if a<b then-1 else if b<a then 1 else 0):=E;go_enter func283,ntmps283;go_wp2_with(go_at_call 322;refine bP (g _ _) ?_)
 ·next d=>go_ret;rw[c.out,A2 (by assumption)];exact⟨E,E⟩
 ·next d=>go_ret;rw[c.out,Δ J,A2 (by assumption)];exact⟨E,E⟩
 next d=>go_ret;rw[c.out,Δ J,Δ J];exact⟨E,E⟩
def mZ:Q H->Q H->V
 | [],[]=>0
 | [],_::_=> -1
 |_::_,[]=>1
 |a::l,b::m=>if si a b≠0 then si a b else mZ l m
theorem Sy:∀(a b:Q H),(decide (mZ a b<0)=uY a b)/\(mZ a b=0↔a=b)
 | [],[]=>by simp[mZ,uY]
 | [],_::_=>by simp[mZ,uY]
 |_::_,[]=>by simp[mZ,uY]
 |a::l,b::m=>by
  have ih:=Sy l m;by_cases d:a<b
  ·have c:si a b= -1:=by unfold si;rw[A2 J]
   have:mZ (a::l) (b::m)= -1:=by rw[mZ,c];rfl
   rw[this];refine⟨by simp[uY,d],aN⟩
  by_cases e:b<a
  ·have c:si a b=1:=by unfold si;rw[Δ J,A2 J]
   have:mZ (a::l) (b::m)=1:=by rw[mZ,c];rfl
   rw[this];refine⟨?_,aN⟩;simp[uY];omega
  have c:a=b:=J;subst c;have c:si a a=0:=by unfold si;rw[Δ J,Δ J]
  have:mZ (a::l) (a::m)=mZ l m:=by rw[mZ,c];rfl
  rw[this];refine⟨by rw[ih.1];simp[uY],by rw[ih.2];simp⟩
theorem UM(a b c):decide (aT [si (aZ a b) (aZ a c),mZ b c]<0)=jV a b c:=by
 have i:=Sy b c;unfold jV;by_cases d:aZ a b<aZ a c
 ·have e:si (aZ a b) (aZ a c)= -1:=by unfold si;rw[A2 d]
  rw[e,C7 d,aT];rfl
 by_cases g:aZ a c<aZ a b
 ·have e:si (aZ a b) (aZ a c)=1:=by unfold si;rw[Δ d,A2 g]
  rw[e,A8 d,A8 (show¬aZ a b=aZ a c by omega),aT];rfl
 have e:si (aZ a b) (aZ a c)=0:=by unfold si;rw[Δ d,Δ g]
 rw[e,A8 d,C7 (show aZ a b=aZ a c by omega),aT,A2 E,Bool.false_or,Bool.true_and,<-i.1,aT];by_cases f:mZ b c=0
 ·rw[A2 f,f];rfl
 rw[Δ f]
def zs(o:Q H):Q V:=o.map λ(i:Nat)=>(i:V)
theorem dW(a):U (zs a)=U a:=by simp[zs]
theorem Fs(b:a<U s):(zs s)[a]? =A ((s[a]:H):V):=by simp[zs,b]
theorem Xj(r:aY d t (zs u))(v:aY d N (zs s)):
  η ξ 231 #[t,N] d (RE (M G (mZ u s)) d):=by
 obtain⟨_,_,rfl,w,g⟩:=r;obtain⟨_,_,rfl,x,i⟩:=v;rw[dW]at w x ⊢;rw[dW];go_enter func231,ntmps231;go_wp2_with fail;go_loopw [11] (λb c=>∃a:H,a<=U u/\a<=U s/\b=M G a/\c=d/\D (mZ u s=mZ (u.drop a) (s.drop a))) (λb _=>U u-(A1 b).toNat)
 ·exact⟨0,υ _,υ _,E,E,E⟩
 obtain⟨a,_,_,rfl,rfl,f⟩:=hrel;by_cases q:a<U u
 ·rcases(id g)with k|⟨_,_,rfl,_,l⟩
  ·have:=B5 U k;rw[dW,B7]at this;omega
  have y:=l a _ (Fs q);have c:u.drop a=u[a]::u.drop (a+1):=ο q;by_cases m:a<U s
  ·rcases(id i)with k|⟨_,_,rfl,_,e⟩
   ·have:=B5 U k;rw[dW,B7]at this;omega
   have z:=e a _ (Fs m);have b:s.drop a=s[a]::s.drop (a+1):=ο m;have j:D (mZ u s=if si u[a] s[a]≠0 then si u[a] s[a]else mZ (u.drop (a+1)) (s.drop (a+1))):=by rw[D,f.out,c,b,mZ]
   obtain⟨n,p⟩:=au (si u[a] s[a]);have o:=Me u[a] s[a] wr;rw[<-p]at o j;clear f c b l e g i p;by_cases p:n=0
   ·subst p;have e:D (mZ u s=mZ (u.drop (a+1)) (s.drop (a+1))):=by rw[D,j.out,Δ ak]
    go_wp2_with(go_at_call 283;refine bP o ?_);go_roundw
    ·exact⟨a+1,J,J,aP,by trivial,e⟩
    simp[A1];omega
   have e:D (mZ u s=n):=by rw[D,j.out,A2 p]
   have B:(n==0)=τ:=by simpa using p
   clear j;go_wp2_with(go_at_call 283;refine bP o ?_);go_ret;exact⟨by rw[e.out];rfl,E⟩
  have b:s.drop a= []:=μ J;have e:D (mZ u s=1):=by rw[D,f.out,c,b];rfl
  clear f c b l g i
  go_wp2
  go_ret;exact⟨by rw[e.out];rfl,E⟩
 have c:u.drop a= []:=μ J;by_cases m:U u<U s
 ·have b:s.drop a=s[a]::s.drop (a+1):=ο J;have e:D (mZ u s= -1):=by rw[D,f.out,c,b];rfl
  clear f c b g i
  go_wp2
  go_ret;exact⟨by rw[e.out];rfl,E⟩
 have b:s.drop a= []:=μ J;have e:D (mZ u s=0):=by rw[D,f.out,c,b];rfl
 clear f c b g i
 go_wp2
 go_ret;exact⟨by rw[e.out];rfl,E⟩
def Ji(q:PQ)(x:ι×Q H):Q ι:=[x.1,M .u64 ((Ψ x.2:H):V),M G (aZ q x.2)]
def lJ(q:PQ)(l:Q (ι×Q H)):Q ι:=l.flatMap (Ji q)
theorem wT{l}:U (lJ f l)=U l*3:=by
 induction l with
 |nil=>rfl
 |cons a b ih=>simp only[lJ,Ω,List.length_append,List.length_cons]at ih ⊢;rw[ih];simp[Ji];omega
theorem GH(e):∀(f:Q (ι×Q H)) (c:H) (d:ι×Q H) (b:H),f[c]? =A d->b<3->(lJ e f)[c*3+b]? =(Ji e d)[b]?
 | [],c,d,b,h,_=>by simp at h
 |a::rs,0,d,b,h,hj=>by
  simp at h;subst h;rw[Nat.zero_mul,C3,lJ,Ω,List.getElem?_append_left (by simp[Ji];omega)]
 |a::rs,c+1,d,b,h,hj=>by
  have:=GH e rs c d b (by simpa using h) hj;have g:U (Ji e a)=3:=by simp[Ji]
  rw[lJ,Ω,List.getElem?_append_right J,g];rw[show(c+1)*3+b-3=c*3+b by omega];exact this
def jg(w:χ)(B:H)(v:ι)(o:Q H):Prop:=w.ownsRow B 3 1 v (U o) (aA (zs o))/\U o<=4/\(∃ao n c,v=Y ao n c)
theorem jg.ints(b:jg d a t s):aY d t (zs s):=by
 obtain⟨b,_, -⟩:=b;rcases b.2 with⟨c,e⟩|⟨f,cap,_,c,_,i,_,_,_,_⟩
 ·refine⟨I,0,by rw[dW,e];exact c,by rw[dW];omega,.inl ?_⟩;exact List.length_eq_zero_iff.mp (by rw[dW];exact e)
 refine⟨A (Z f 0 I),cap,by rw[dW];exact c,by rw[dW];omega,.inr ⟨f,0,E,af i,λj _ g=>?_⟩⟩;subst c;have k:=(List.getElem?_eq_some_iff.mp g).1;rw[dW]at k;rw[C3,b.cellAt j J,aA,B4,g];rfl
theorem jg.move{x:χ}(e:jg d a t s)(j:∀(c:H) (b:Array ι),d.heap[c]? =A (ν b 3 (0,0))->x.heap[c]? =A (ν b 3 (0,0))):jg x a t s:=by
 refine⟨aD e.1 λc g=>?_,e.2⟩;rcases e.1.2 with⟨f,_⟩|⟨_,cap,b,f,_,i,_⟩
 ·subst f;cases g
 subst f;cases g;rw[i];exact j _ _ i
def rG(B fb:H)(w x:χ):Prop:=Below B w x/\(∀(g:H) (cur:Array ι) (T:TypeId) (fz:H×H),w.heap[g]? =A (ν cur T fz)->T≠339->T≠395->x.heap[g]? =A (ν cur T fz))/\(fb<ε (δ w)->x.heap[fb]? =w.heap[fb]?)
theorem rG.refl(a b w):rG a b w w:=⟨A4 _ _,λ_ _ _ _ c _ _=>c,λ_=>rfl⟩
theorem rG.trans{B fb w x}(e:rG B fb w x)(k:rG B fb x d):rG B fb w d:=⟨e.1.trans k.1,λg i f j a b c=>k.2.1 g i f j (e.2.1 g i f j a b c) b c,λa=>(k.2.2 (σ a e.1.size)).trans (e.2.2 a)⟩
theorem nV{B fb}(b:Bl d z)(c:B<=ε (δ d)):rG B fb d z:=⟨b.mono c,λe _ _ _ a _ _=>(b.block e (af a)).trans a,λa=>b.block fb a⟩
theorem jg.keq{B fb}(b:jg d B t s)(c:rG a fb d z):jg z B t s:=b.move λg f e=>c.2.1 g f _ _ e ag ag
structure mR(w:World)(B fb qb:Nat)(q:PQ)(l:List (Value×List Nat))(so:Option Addr)(sc:Nat):Prop where
 lo:B<=qb
 box:w.heap[qb]? =some (.cells #[.slice so (List.length l) sc] 395 (0,0))
 row:w.ownsRow B 339 3 (.slice so (List.length l) sc) (List.length l) (lJ q l)
 Ev:∀x∈l,jg w B x.1 x.2
 zq:List.length l<=1000
 yB:fb<Array.size (World.heap w)/\fb≠qb/\∀g,(Value.slice so (List.length l) sc).ownBlock=some g->g≠fb
theorem mR.ah{w x B fb q l so sc}(b:mR w B fb a q l so sc)(c:Bl w x):mR x B fb a q l so sc:=
 ⟨b.lo,(c.block a (af b.box)).trans b.box,aD b.row λd e=>c.block d (b.row.lt d e).2,λg f=>(b.Ev g f).keq (nV (B:=0) (fb:=0) c (υ _)),b.zq,σ b.yB.1 c.size,b.yB.2⟩
theorem mR.cells{w B fb q l so sc}(c:mR w B fb a q l so sc){i}(e:i<U l):∃g,so=A (Z g 0 I)/\g<ε (δ w)/\U l<=sc/\α w ⟨g,i*3,I⟩=A l[i].1/\α w ⟨g,i*3+1,I⟩=A (M .u64 ((Ψ l[i].2:H):V))/\α w ⟨g,i*3+2,I⟩=A (M G (aZ q l[i].2)):=by
 rcases c.row.2 with⟨d,_⟩|⟨g,cap,_,d,_,f,k,_,_,_⟩
 ·omega
 cases d;have b:∀j,j<3->α w ⟨g,i*3+j,I⟩=(Ji q l[i])[j]? :=λj m=>(c.row.cellAt _ J).trans (GH q l i _ j (φ e) m);exact⟨g,E,af f,k,b 0 J,b 1 J,b 2 J⟩
theorem Io:η ξ 403 #[Y m a b] d (RE (M G (a:V)) d):=by
 go_enter func403,ntmps403
 go_wp2
 go_ret;exact⟨E,E⟩
theorem abw:η ξ 229 #[Y (A (Z (ε (δ d)) 0 I)) 2 2] (d.alloc (ν #[M G K,M G L] 3)).drew λb c=>b=β (M G (aT [K,L]))/\c=(d.alloc (ν #[M G K,M G L] 3)).drew:=by
 refine Ud (ε (δ d)) 2 [K,L] ak λe _ a=>?_;rw[aI (x:=(d.alloc (ν #[M G K,M G L] 3)).drew) (C8 d _)]
 match e,a with
 |0,a=>simp at a;subst a;rfl
 |1,a=>simp at a;subst a;rfl
theorem QS(i:mR d o p y f c m e)(k:a<U c)(l:b<U c):
  η ξ 404 #[Y m (U c) e,M G (a:V),M G (b:V)] d (RB (Φ (jV f c[a].2 c[b].2)) d):=by
 obtain⟨j,rfl,_,F,K, -,L⟩:=i.cells k;obtain⟨_,N, -, -,O, -,P⟩:=i.cells l
 cases N;have n:=i.Ev c[a] (κ k);have q:=i.Ev c[b] (κ l);obtain⟨R,S,T,r⟩:=n.2.2;obtain⟨W,X,a0,s⟩:=q.2.2;have t:∀g:χ,Bl d g->η ξ 231 #[c[a].1,c[b].1] g (RE (M G (mZ c[a].2 c[b].2)) g):=λg z=>
  Xj (n.ints.ah z) (q.ints.ah z)
 have B:=UM f c[a].2 c[b].2;rw[r,s]at t;rw[r]at K;rw[s]at O;obtain⟨a1,u⟩:=au (aZ f c[a].2);obtain⟨a2,v⟩:=au (aZ f c[b].2);obtain⟨_,w⟩:=au (mZ c[a].2 c[b].2);obtain⟨_,x⟩:=au (jV f c[a].2 c[b].2);rw[<-u,<-v,<-w,<-x]at B;rw[<-u]at L;rw[<-v]at P;rw[<-w]at t;rw[<-x];obtain⟨_,C⟩:=au (U c);have a3:=i.zq;rw[<-C]at k l F a3 ⊢;clear u v w x C n q r s i;go_enter func404,ntmps404;go_upto_region 1 with fail
 go_region_held2 (λg=>α g ⟨j,a*3,I⟩=A (Y R S T)/\α g ⟨j,a*3+2,I⟩=A (M G a1)/\α g ⟨j,b*3,I⟩=A (Y W X a0)/\α g ⟨j,b*3+2,I⟩=A (M G a2)) (go_keep) (first
  |(go_at_call 283;refine(Me _ _ _).mono ?_;rintro i n ⟨rfl,rfl⟩)
  |(go_at_call 231;refine(t _ ?_).mono ?_;exact⟨E,E,E,Θ _,λ_ _=>rfl⟩;rintro i n ⟨rfl,rfl⟩)
  |(go_at_call 229;refine(abw).mono ?_;rintro i n ⟨rfl,rfl⟩))
 all_goals(go_wp2;go_ret)
 all_goals exact⟨by rw[<-B];rfl,(ai d _).drew⟩
def gP(l:Q (ι×Q H))(i:H):ι×Q H:=l.getD i (Y I 0 0,[])
def vD(l:Q (ι×Q H))(i j:H):Q (ι×Q H):=(l.set i (gP l j)).set j (gP l i)
theorem Di(a b c):U (vD a b c)=U a:=by simp[vD]
theorem BI(b:a<U c):gP c a=c[a]:=by simp[gP,b]
theorem vP(b:Q (ι×Q H))(a):gO (b.map (·.2)) a=(gP b a).2:=by
 unfold gO gP;rw[θ,θ,B4]
 cases b[a]? <;>rfl
theorem Ac(c:Q (ι×Q H))(a b):(vD c a b).map (·.2)=KZ (c.map (·.2)) a b:=by
 unfold vD KZ;rw[C2,C2,vP,vP]
theorem abW(e:a<U c)(f:b<U c)(d:v∈vD c a b):v∈c:=by
 unfold vD at d;rw[BI e,BI f]at d;rcases A5 d with d|rfl
 ·rcases A5 d with d|rfl
  ·exact d
  exact κ f
 exact κ e
theorem GI(c d):∀(f:Q (ι×Q H)) (b:H),b<U f->(((lJ c f).set (b*3) d.1).set (b*3+1) (M .u64 ((Ψ d.2:H):V))).set (b*3+2) (M G (aZ c d.2))=lJ c (f.set b d)
 | [],b,h=>by simp at h
 |a::rs,0,h=>by simp[lJ,Ji]
 |a::rs,b+1,h=>by
  have ih:=GI c d rs b (by simpa using h);rw[B3];have i:∀(e:ι×Q H) (g:Q (ι×Q H)),lJ c (e::g)=e.1:: M .u64 ((Ψ e.2:H):V):: M G (aZ c e.2)::lJ c g:=λe g=>rfl;rw[i,i,<-ih,show(b+1)*3=b*3+1+1+1 by omega];simp only[B3,show b*3+1+1+1+1=b*3+1+1+1+1 from E,show b*3+1+1+1+2=b*3+2+1+1+1 from E]
theorem QW{n}(w)(j:d.heap[e]? =A (ν F 339 (0,0)))(y:a<n)(z:b<n)(k o m l q p)(s:α d ⟨e,a*3,I⟩=A (Y k m l))(t:α d ⟨e,a*3+1,I⟩=A (M .u64 K))(u:α d ⟨e,a*3+2,I⟩=A (M G L))(f:α d ⟨e,b*3,I⟩=A (Y o q p))(g:α d ⟨e,b*3+1,I⟩=A (M .u64 b1))(i:α d ⟨e,b*3+2,I⟩=A (M G b2)):
  η ξ 407 #[Y (A (Z e 0 I)) n w,M G (a:V),M G (b:V)] d λv x=>v=β (Γ #[])/\x=((((((d.setCell ⟨e,a*3,I⟩ (Y o q p)).setCell ⟨e,a*3+1,I⟩ (M .u64 b1)).setCell ⟨e,a*3+2,I⟩ (M G b2)).setCell ⟨e,b*3,I⟩ (Y k m l)).setCell ⟨e,b*3+1,I⟩ (M .u64 K)).setCell ⟨e,b*3+2,I⟩ (M G L)).drew:=by
 have:=af j;have c:∀r,Ξ d (Z e r I)=τ:=λr=>by simp[Ξ,j]
 have:=c (a*3);have:=c (a*3+1);have:=c (a*3+2);have:=c (b*3);have:=c (b*3+1);have:=c (b*3+2);clear c;go_enter func407,ntmps407;go_wp2_with fail;by_cases c:a=b
 ·subst c;rw[s]at f;cases f;rw[t]at g;cases g;rw[u]at i;cases i;go_region;go_wp2_with fail
  go_end0
  exact⟨E,E⟩
 have:¬a*3=b*3:=J;have:¬b*3=a*3:=J;have:¬a*3+1=b*3:=J;have:¬b*3=a*3+1:=J;have:¬a*3+2=b*3:=J;have:¬b*3=a*3+2:=J;have:¬a*3=b*3+1:=J;have:¬b*3+1=a*3:=J;have:¬a*3+2=b*3+1:=J;have:¬b*3+1=a*3+2:=J;have:¬a*3=b*3+2:=J;have:¬b*3+2=a*3:=J;have:¬a*3+1=b*3+2:=J;have:¬b*3+2=a*3+1:=J;go_region;go_wp2_with fail
 go_end0
 exact⟨E,E⟩
theorem OE{n}{l:Q (ι×Q H)}(g:d.heap[b]? =A (ν F 339 (0,0)))(i:F.toList.take (n*3)=lJ f l)(k:U l=n)(j:a<n)(c):
  ∃e:Array ι,(((d.setCell ⟨b,a*3,I⟩ c.1).setCell ⟨b,a*3+1,I⟩ (M .u64 ((Ψ c.2:H):V))).setCell ⟨b,a*3+2,I⟩ (M G (aZ f c.2))).heap[b]? =A (ν e 339 (0,0))/\e.size=F.size/\e.toList.take (n*3)=lJ f (l.set a c):=by
 refine⟨_,ψ _ _ _ _ _ _ (ψ _ _ _ _ _ _ (ψ _ _ _ _ _ _ g)),ak, ?_⟩;rw[ρ,ρ,ρ,A7,A7,A7,i];exact GI f c l a J
theorem mR.swap{w x:χ}{q l l2 sc}(c:mR w b e o q l (A (Z a 0 I)) sc)(f:w.heap[a]? =A (ν b3 339 (0,0)))(s:b<=a)(r:U l<=sc)(t:sc<=D2)(v:F.size=sc*3)(y:x.heap[a]? =A (ν F 339 (0,0)))(z:F.toList.take (U l*3)=lJ q l2)(i:U l2=U l)(u:∀j∈l2,j∈l)(k:∀d,d≠a->x.heap[d]? =w.heap[d]?)(n:Below b w x):mR x b e o q l2 (A (Z a 0 I)) sc/\rG b e w x:=by
 have B:o≠a:=λg=>by subst g;rw[c.box]at f;cases f
 have p:rG b e w x:=⟨n,λd _ _ _ m C _=>(k d (λg=>by subst g;rw[f]at m;cases m;exact C E)).trans m,λ_=>k e λg=>c.yB.2.2 a E g.symm⟩;refine⟨⟨c.lo, ?_, ?_,λj K=>(c.Ev j (u j K)).keq p,by rw[i];exact c.zq,σ c.yB.1 n.size,c.yB.2.1,λd f=>c.yB.2.2 d f⟩,p⟩
 ·rw[i];exact(k o B).trans c.box
 rw[i];refine⟨by rw[wT,i],.inr ⟨a,sc,F,E,s,y,r,t,v,z⟩⟩
theorem Xt(b:d.heap[a]? =A S):d.drew.heap[a]? =A S:=b
theorem Rs(d:χ)(a f g i j k l m n o p q r c)(b:c≠a):(((((((d.setCell (Z a f I) m).setCell (Z a g I) n).setCell (Z a i I) o).setCell (Z a j I) p).setCell (Z a k I) q).setCell (Z a l I) r).drew).heap[c]? =d.heap[c]? :=by
 show(δ _)[c]? =_;rw[show∀e:χ,e.drew.heap=e.heap from λ_=>rfl,γ _ _ _ _ b,γ _ _ _ _ b,γ _ _ _ _ b,γ _ _ _ _ b,γ _ _ _ _ b,γ _ _ _ _ b]
theorem Rq(e:χ)(f g i j k l m n o p q r)(c:b<=a):Below b e (((((((e.setCell (Z a f I) m).setCell (Z a g I) n).setCell (Z a i I) o).setCell (Z a j I) p).setCell (Z a k I) q).setCell (Z a l I) r).drew):=
 (((((((A4 b e).setCell (p:=(Z a f I)) c m).setCell (p:=(Z a g I)) c n).setCell (p:=(Z a i I)) c o).setCell (p:=(Z a j I)) c p).setCell (p:=(Z a k I)) c q).setCell (p:=(Z a l I)) c r).drew
theorem QU(i:mR d o p y f c m e)(j:a<U c)(k:b<U c):
  η ξ 407 #[Y m (U c) e,M G (a:V),M G (b:V)] d λg l=>g=β (Γ #[])/\mR l o p y f (vD c a b) m e/\rG o p d l:=by
 obtain⟨F,rfl,_,_,K,L,N⟩:=i.cells j;obtain⟨O,P, -, -,R,S,T⟩:=i.cells k
 cases P;obtain⟨n,q,r,w⟩:=(i.Ev c[a] (κ j)).2.2;obtain⟨s,t,u,x⟩:=(i.Ev c[b] (κ k)).2.2;rcases i.row.2 with⟨g,_⟩|⟨O,cap,_,g,z,v,W,X,a0,a1⟩
 ·cases g
 cases g;refine(QW e v j k n s q r t u (by rw[K,w]) L N (by rw[R,x]) S T).mono ?_;rintro g l ⟨rfl,rfl⟩;refine⟨E, ?_⟩;have a2:=Rs d F (a*3) (a*3+1) (a*3+2) (b*3) (b*3+1) (b*3+2) (Y s t u) (M .u64 ((Ψ c[b].2:H):V)) (M G (aZ f c[b].2)) (Y n q r) (M .u64 ((Ψ c[a].2:H):V)) (M G (aZ f c[a].2));have a3:=Rq d (a*3) (a*3+1) (a*3+2) (b*3) (b*3+1) (b*3+2) (Y s t u) (M .u64 ((Ψ c[b].2:H):V)) (M G (aZ f c[b].2)) (Y n q r) (M .u64 ((Ψ c[a].2:H):V)) (M G (aZ f c[a].2)) z;obtain⟨_,a4,a5,a6⟩:=OE v a1 E j c[b];obtain⟨a7,B,a8,C⟩:=OE (l:=c.set a c[b]) (n:=U c) a4 a6 ak k c[a];have a9:vD c a b=(c.set a c[b]).set b c[a]:=by unfold vD;rw[BI j,BI k]
 rw[<-a9]at C;rw[w,x]at B;have b0:a7.size=e*3:=by rw[a8,a5];exact a0
 refine i.swap v z W X b0 ?_ C (Di c a b) (λ_ b1=>abW j k b1) a2 a3;exact Xt B
def xC(q:PQ)(x:ι×Q H):ι:=.agg #[x.1,M .u64 ((Ψ x.2:H):V),M G (aZ q x.2)]
theorem aaX:(ξ.info? 339).map (λa=>(a.zero,a.size,a.bytes))=A (A (.agg #[Y I 0 0,M .u64 0,M G 0]),3,40):=aF
theorem DK(b l a):lJ b (l++ [a])=lJ b l++ [a.1,M .u64 ((Ψ a.2:H):V),M G (aZ b a.2)]:=by simp[lJ,Ji]
theorem aaI{c}(b:d.heap[a]? =A (ν #[t] c (0,0))):α d (Z a 0 I)=A t/\Ξ d (Z a 0 I)=τ:=⟨aC b,by simp[Ξ,b]⟩
theorem mR.boxed{w x:χ}{q l so sc}(n:a<=e)(v:∃p,x.heap[e]? =A (ν #[p] 395 (0,0)))(o:x.ownsRow a 339 3 (Y so (U l) sc) (U l) (lJ q l))(u:∀f∈l,jg w a f.1 f.2)(t:U l<=1000)(g:b<ε (δ x)/\b≠e/\∀d,(Y so (U l) sc).ownBlock=A d->d≠b)(m:rG a b w x):mR (x.setCell (Z e 0 I) (Y so (U l) sc)) a b e q l so sc/\rG a b w (x.setCell (Z e 0 I) (Y so (U l) sc)):=by
 obtain⟨p,i⟩:=v;have r:rG a b x (x.setCell (Z e 0 I) (Y so (U l) sc)):=⟨(A4 a x).setCell (p:=(Z e 0 I)) n _,λd y _ _ j _ z=>(γ x _ d _ (λc=>by simp only at c;subst c;rw[i]at j;cases j;exact z E)).trans j,λ_=>γ x _ b _ g.2.1⟩;refine⟨⟨n, ?_, ?_,λf B=>(u f B).keq (m.trans r),t,by rw[B2];exact g.1,g.2⟩,m.trans r⟩
 ·rw[ψ _ _ _ _ _ _ i];rfl
 refine aD o λd k=>?_;refine γ x _ d _ λc=>?_;simp only at c;subst c;rcases o.2 with⟨c,_⟩|⟨_,cap,y,c,_,s,_⟩
 ·rw[c]at k;cases k
 cases c;cases k;rw[i]at s;cases s
theorem YZ(g:mR d b a o f c m y)(w:jg d b v.1 v.2)(t:U c+1<=1000)(u:z.ownsRow b 339 3 (Y (A (Z e 0 I)) (U c+1) p) (U c+1) (lJ f c++ [v.1,M .u64 ((Ψ v.2:H):V),M G (aZ f v.2)]))(k:(d.alloc S).drew.grownBy z (Y m (U c) y).ownBlock)(x:∃F,z.heap[o]? =A (ν #[F] 395 (0,0)))(s:(Y m (U c) y).ownBlock=A e\/e=ε (δ d)+1):
  (∃C B,mR (z.setCell (Z o 0 I) (Y (A (Z e 0 I)) (U c+1) p)) b a o f (c++ [v]) C B)/\rG b a d (z.setCell (Z o 0 I) (Y (A (Z e 0 I)) (U c+1) p)):=by
 have:=af g.box;have K:b<=ε (δ d):=cz g.lo;have q:rG b a d z:=by
  refine⟨(((A4 b d).alloc K S).drew).grown k aN (λj i=>(g.row.lt j i).1),λj _ _ _ l L _=>?_,λN=>(k.block a aN λi=>g.yB.2.2 a i.symm E).trans (A0 _ _ _ N)⟩;have O:=af l;have P:A j≠(Y m (U c) y).ownBlock:=λi=>by
   rcases g.row.2 with⟨n,_⟩|⟨_,cap,_,n,_,r,_⟩
   ·rw[n]at i;cases i
   cases n;cases i;rw[l]at r;cases r;exact L E
  exact(k.block j aN P).trans ((A0 _ _ _ O).trans l)
 have L:a<ε (δ z)/\a≠o/\∀j,(Y (A (Z e 0 I)) (U (c++ [v])) p).ownBlock=A j->j≠a:=by
  refine⟨σ g.yB.1 q.1.size,g.yB.2.1,λj l=>?_⟩
  cases l;rcases s with i|i
  ·exact g.yB.2.2 _ i
  have:=g.yB.1;simp only;omega
 have l:U (c++ [v])=U c+1:=ak;obtain⟨n,r⟩:=mR.boxed (l:=c++ [v]) (so:=A (Z e 0 I)) (sc:=p) g.lo x (by rw[l,DK];exact u) (λN i=>by
  rcases List.mem_append.mp i with i|i
  ·exact g.Ev N i
  rw[List.mem_singleton.mp i];exact w) (by rw[l];exact t) L q
 rw[l]at n r;exact⟨⟨_,_,n⟩,r⟩
theorem GD(a b):Sem.run ξ (Instr.typeAssert (.iface 339 a) 20 339 τ) b=.ok a b:=by
 simp[Instr.typeAssert,go_sem]
theorem QT(g:mR d a o b f c m e)(l:jg d a v.1 v.2)(r:U c+1<=1000):
  η ξ 406 #[ω (A (Z b 0 I)),.iface 339 (xC f v)] d λi s=>i=β (Γ #[])/\(∃N L,mR s a o b f (c++ [v]) N L)/\rG a o d s:=by
 obtain⟨O,P,R,S,T⟩:=info_parts aaX;obtain⟨W,_⟩:=aaI g.box;have X:=af g.box;obtain⟨t,u,w,j⟩:=l.2.2;have x:∀n:Obj,(d.alloc n).drew.ownsRow a 339 3 (Y m (U c) e) (U c) (lJ f c):=λn=>World.ownsRow.drew (World.ownsRow.alloc g.row n);have y:(Y m (U c) e).ownBlock≠A b:=λi=>by
  rcases g.row.2 with⟨k,_⟩|⟨_,cap,_,k,_,p,_⟩
  ·rw[k]at i;cases i
  cases k;cases i;rw[g.box]at p;cases p
 have:=GD;have:a<=ε (δ d):=cz g.lo;have p:D _:=g.box;change D _ at g;rw[xC,j];have a0:D (v.1=Y t u w):=j;obtain⟨z,k⟩:=au ((Ψ v.2:H):V);obtain⟨B,q⟩:=au (aZ f v.2);rw[<-k,<-q];have a1:D (z=_):=k;have a2:D (B=_):=q;change D _ at l;clear k q j;obtain⟨k,j⟩:=au (U c);have a3:D (k=_):=j;obtain⟨C,q⟩:=au (lJ f c);have a4:D (C=_):=q;rw[<-j]at W y r;rw[<-j,<-q]at x;have p:D (d.heap[b]? =A (ν #[Y m k e] 395 (0,0))):=by rw[D,j];exact p
 clear j q;go_enter func406,ntmps406;go_wp2_with fail
 go_region_law (refine step_append_lies _ E (.tmp 7) (.tmp 10) 395 E a 339 O _ 3 40 underlying395 P R S T E ag (Y m k e) k C jl (x _) (Z (ε (δ d)) 0 I) 1 1 [Y t u w,M .u64 z,M G B] jl E (World.news_of_block (bS d)) (by intro _ K;simp only[List.mem_cons,List.not_mem_nil,or_false]at K;rcases K with rfl|rfl|rfl<;>rfl) ag fD J aN (ε (δ d)+1) ak ?_;intro _ _ b1 F q b0 _;have j:b1.heap[b]? =_:=(q.block b aN y.symm).trans ((A0 _ _ _ X).trans p);have:=af j;obtain⟨_,_⟩:=aaI j)
 all_goals(go_wp2_with fail;go_end0)
 all_goals
  refine⟨E, ?_⟩;have a9:=a0.out;have a8:=a1.out;have a5:=a2.out;have a7:=a3.out;have a6:=a4.out;subst a8 a5 a7 a6;rw[<-a9]at F;exact YZ g l r F q ⟨_,j⟩ b0
theorem abB(g:mR d e o b f (c++ [v]) m a)(j):mR ((d.setCell (Z b 0 I) (Y m (U c) a)).alloc j) e o b f c m a/\rG e o d ((d.setCell (Z b 0 I) (Y m (U c) a)).alloc j):=by
 have z:=af g.box;have n:e<=ε (δ d):=cz g.lo;have p:U (c++ [v])=U c+1:=ak;obtain⟨q,r⟩:=mR.boxed (w:=d) (x:=d) (l:=c) (q:=f) (so:=m) (sc:=a) g.lo ⟨_,g.box⟩ (by
  rcases g.row.2 with⟨l,s⟩|⟨k,cap,t,l,i,u,_,w,x,y⟩
  ·simp at s
  cases l;refine⟨wT,.inr ⟨k,a,t,E,i,u,J,w,x, ?_⟩⟩;have:=B5 (List.take (U c*3)) y;rw[List.take_take,Nat.min_eq_left (by rw[p];omega),DK,List.take_append_of_le_length (by rw[wT];exact Θ _),A9 (l:=lJ f c) (by rw[wT];exact Θ _)]at this;exact this) (λs l=>g.Ev s (List.mem_append_left _ l)) (by have:=g.zq;omega) ⟨g.yB.1,g.yB.2.1,λk i=>by cases m with|none=>cases i|some l=>exact g.yB.2.2 k i⟩ (rG.refl _ _ _)
 have i:=ai (d.setCell (Z b 0 I) (Y m (U c) a)) j;exact⟨q.ah i,r.trans (nV i (by rw[B2];exact n))⟩
theorem Vy(d f g c j a e o i)(b:mR d f g c j (a++ [e]) o i):
  η ξ 405 #[ω (A (Z c 0 I))] d λz p=>z=β (.iface 339 (xC j e))/\mR p f g c j a o i/\rG f g d p:=by
 have q:U (a++ [e])=U a+1:=ak;obtain⟨m,rfl,_,r,n,s,t⟩:=b.cells (i:=U a) J;have u:(a++ [e])[U a]' ak=e:=ak;rw[u]at n s t;obtain⟨_,_,_,v⟩:=(b.Ev e ak).2.2;have w:D (∀k:Obj,mR ((d.setCell (Z c 0 I) (Y (A (Z m 0 I)) (U a) i)).alloc k) f g c j a (A (Z m 0 I)) i/\rG f g d ((d.setCell (Z c 0 I) (Y (A (Z m 0 I)) (U a) i)).alloc k)):=λk=>abB b k;have l:=b.box;have x:=b.zq;rw[q]at l r x;rw[xC];rw[v]at n ⊢;obtain⟨B,_⟩:=aaI l;have:=af l;obtain⟨_,y⟩:=au (U a);rw[<-y]at B r x n s t w;clear y l b q u v;go_enter func405,ntmps405
 go_wp2
 go_ret;refine⟨E, ?_⟩;exact w _
theorem mR.Po{w q l so sc}(c:mR w b e a q l so sc):α w (Z a 0 I)=A (Y so (U l) sc):=(aaI c.box).1
theorem abV(d:a≠b)(f:a≠e):gP (vD c b e) a=gP c a:=by
 unfold gP vD;rw[θ,θ,B1 J,B1 J]
theorem mh(s:mR d p y R f c m o)(j:a<U c)(k:b<U c)(l n)(q:l=(a:V))(r:n=(b:V))(t:U c=e){g}(i:jV f (gO (c.map (·.2)) a) (gO (c.map (·.2)) b)=g):
  η ξ 404 #[Y m e o,M G l,M G n] d (RB (Φ g) d):=by
 subst t q r;have:=QS s j k;rw[vP,vP,BI j,BI k]at i;rw[i]at this;exact this
theorem Ad(q:mR d a b p f c m e)(g i)(r:g<U c)(s:i<U c){zi zj}(l:zi=(g:V))(n:zj=(i:V))(t:U c=o):
  η ξ 407 #[Y m o e,M G zi,M G zj] d λk j=>k=β (Γ #[])/\mR j a b p f (vD c g i) m e/\rG a b d j:=by
 subst t l n;exact QU q r s
structure Fw(w wr:World)(B fb qb:Nat)(q:PQ)(l lk:List (Value×List Nat))(so:Option Addr)(sc n i:Nat):Prop where
 qu:mR wr B fb qb q lk so sc
 sink:Gs (jV q) (l.map (·.2)) (lk.map (·.2)) n i
 len:List.length lk=List.length l
 far:∀k,n<=k->gP lk k=gP l k
 ke:rG B fb w wr
theorem Fw.ah{w wr x B fb l i}(d:Fw w wr B fb b f l c m e a i)(g:Bl wr x):Fw w x B fb b f l c m e a i:=
 ⟨d.qu.ah g,d.sink,d.len,d.far,d.ke.trans (nV g (by have:=d.qu.lo;have:=af d.qu.box;omega))⟩
theorem Fw.step{wr}(i:Fw z wr o p y f C c m R e b)(r:e<=U C)(j:a<e)(k:(a-1) / 2=b)(t:0<a)(q:∀g,0<g->g<e->(g-1) / 2=b->jV f (gO (c.map (·.2)) g) (gO (c.map (·.2)) a)=τ)(n:jV f (gO (c.map (·.2)) a) (gO (c.map (·.2)) b)=C9)(s:mR d o p y f (vD c b a) m R)(l:rG o p wr d):Fw z d o p y f C (vD c b a) m R e a:=by
 refine⟨s, ?_,by rw[Di];exact i.len,λv u=>?_,i.ke.trans l⟩
 ·rw[Ac];exact VO (kZ f) (by simpa using r) i.sink j k t q n
 rw[abV J J];exact i.far v u
theorem SWk.irr(c:SWk P)(a):P a a=τ:=by
 cases b:P a a with
 |false=>rfl
 |true=>rw[<-b];exact(c.Xa b)
theorem nW(d:0<a)(c:(a-1) / 2=b):a=2*b+1\/a=2*b+2:=J
def IV(w:χ)(B fb qb:H)(q:PQ)(l:Q (ι×Q H))(so:D1 Addr)(sc n:H)(w':χ):Prop:=∃lk,mR w' B fb qb q lk so sc/\U lk=U l/\(∀k,n<=k->gP lk k=gP l k)/\(lk.map (·.2)).Perm (l.map (·.2))/\Hp (jV q) (lk.map (·.2)) n/\rG B fb w w'
theorem Fw.stop{wr}(i:Fw d wr e o p f C c m y b a)(k:(∀g,0<g->g<b->(g-1) / 2≠a)\/∃j,(∀g,0<g->g<b->(g-1) / 2=a->jV f (gO (c.map (·.2)) g) (gO (c.map (·.2)) j)=τ)/\jV f (gO (c.map (·.2)) j) (gO (c.map (·.2)) a)=τ):IV d e o p f C m y b wr:=
 ⟨c,i.qu,i.len,i.far,i.sink.perm,aaS (kZ f) i.sink.dn k,i.ke⟩
theorem Uy(n:Fw d d e o p f c c m a b 0)(a0:b<=U c):
  η ξ 259 #[.iface 393 (ω (A (Z p 0 I))),M G 0,M G (b:V)] d λk K=>(∃a3,k=β (Φ a3))/\IV d e o p f c m a b K:=by
 have:=n.qu.zq;have a4:D _:=n;clear n;go_enter func259,ntmps259;go_wp2_with fail;go_loopw [7] (λi wr=>∃(g:H) (j:Q (ι×Q H)),i=M G g/\g<=b/\D (Fw d wr e o p f c j m a b g)) (λi _=>b-(A1 i).toNat)
 ·exact⟨0,c,E,υ _,a4⟩
 obtain⟨g,j,rfl,_,q⟩:=hrel;have l:=q.out.len;by_cases a9:b<=2*g+1
 ·have a5:(b:V)<=2*(g:V)+1:=by omega
  clear l
  go_wp2
  go_ret;exact⟨⟨_,E⟩,q.stop (.inl λR u S k=>by rcases nW u k with n|n<;>omega)⟩
 have a5:¬(b:V)<=2*(g:V)+1:=J;have:¬(2*(g:V)+1<0):=J;have a6:=Ic q.qu.Po;have a7:=zD q.qu.Po;rw[l]at a6 a7;by_cases b0:2*g+2<b
 ·have a8:2*(g:V)+1+1<(b:V):=by omega
  cases P:jV f (gO (j.map (·.2)) (2*g+2)) (gO (j.map (·.2)) (2*g+1))with
  |true=>
   have a1:D (jV f (gO (j.map (·.2)) (2*g+1)) (gO (j.map (·.2)) (2*g+2))=τ):=(kZ f).Xa P
   cases s:jV f (gO (j.map (·.2)) (2*g+2)) (gO (j.map (·.2)) g)with
   |true=>
    have x:=mh q.qu J J (2*(g:V)+1+1) (2*(g:V)+1) J J l P;have y:∀i,Bl wr i->η ξ 404 #[Y m (U c) a,M G (2*(g:V)+1+1),M G (g:V)] i (RB (Φ C9) i):=λi v=>mh (q.qu.ah v) J J _ _ J E l s;have X:∀i,mR i e o p f j m a->η ξ 407 #[Y m (U c) a,M G (g:V),M G (2*(g:V)+1+1)] i λk K=>k=β (Γ #[])/\mR K e o p f (vD j g (2*g+2)) m a/\rG e o i K:=λi v=>Ad v g (2*g+2) J J E J l;go_wp2_with(first|(go_at_call 404;refine x.mono ?_;clear x;rintro k F ⟨rfl,B⟩;have w:D (Fw d F e o p f c j m a b g):=q.out.ah B;have O:=Ic w.qu.Po;rw[l]at O)|(go_at_call 404;refine cB (y F B) ?_;rintro t C;have r:D (Fw d t e o p f c j m a b g):=w.out.ah C;have z:=zD r.qu.Po;rw[l]at z)|(go_at_call 407;refine(X t r.qu).mono ?_;rintro k a2 ⟨rfl,N,L⟩;have W:D _:=N;have T:D _:=L;clear N L));go_roundw
    ·exact⟨2*g+2,vD j g (2*g+2),aP,J,r.step a0 J J J (λR u S k=>by rcases nW u k with n|n<;>subst n;exact a1;exact(kZ f).irr _) s W T⟩
    simp[A1];omega
   |false=>
    have x:=mh q.qu J J (2*(g:V)+1+1) (2*(g:V)+1) J J l P;have y:∀i,Bl wr i->η ξ 404 #[Y m (U c) a,M G (2*(g:V)+1+1),M G (g:V)] i (RB (Φ τ) i):=λi v=>mh (q.qu.ah v) J J _ _ J E l s;go_wp2_with(first|(go_at_call 404;refine x.mono ?_;clear x;rintro k F ⟨rfl,B⟩;have w:D (Fw d F e o p f c j m a b g):=q.out.ah B;have O:=Ic w.qu.Po;rw[l]at O)|(go_at_call 404;refine cB (y F B) ?_;rintro t C;have r:D (Fw d t e o p f c j m a b g):=w.out.ah C;have z:=zD r.qu.Po;rw[l]at z));go_ret;exact⟨⟨_,E⟩,r.stop (.inr ⟨2*g+2,(λR u S k=>by rcases nW u k with n|n<;>subst n;exact a1;exact(kZ f).irr _),s⟩)⟩
  |false=>
   cases s:jV f (gO (j.map (·.2)) (2*g+1)) (gO (j.map (·.2)) g)with
   |true=>
    have x:=mh q.qu J J (2*(g:V)+1+1) (2*(g:V)+1) J J l P;have y:∀i,Bl wr i->η ξ 404 #[Y m (U c) a,M G (2*(g:V)+1),M G (g:V)] i (RB (Φ C9) i):=λi v=>mh (q.qu.ah v) J J _ _ J E l s;have X:∀i,mR i e o p f j m a->η ξ 407 #[Y m (U c) a,M G (g:V),M G (2*(g:V)+1)] i λk K=>k=β (Γ #[])/\mR K e o p f (vD j g (2*g+1)) m a/\rG e o i K:=λi v=>Ad v g (2*g+1) J J E J l;go_wp2_with(first|(go_at_call 404;refine x.mono ?_;clear x;rintro k F ⟨rfl,B⟩;have w:D (Fw d F e o p f c j m a b g):=q.out.ah B;have O:=Ic w.qu.Po;rw[l]at O)|(go_at_call 404;refine cB (y F B) ?_;rintro t C;have r:D (Fw d t e o p f c j m a b g):=w.out.ah C;have z:=zD r.qu.Po;rw[l]at z)|(go_at_call 407;refine(X t r.qu).mono ?_;rintro k a2 ⟨rfl,N,L⟩;have W:D _:=N;have T:D _:=L;clear N L));go_roundw
    ·exact⟨2*g+1,vD j g (2*g+1),aP,J,r.step a0 J J J (λR u S k=>by rcases nW u k with n|n<;>subst n;exact(kZ f).irr _;exact P) s W T⟩
    simp[A1];omega
   |false=>
    have x:=mh q.qu J J (2*(g:V)+1+1) (2*(g:V)+1) J J l P;have y:∀i,Bl wr i->η ξ 404 #[Y m (U c) a,M G (2*(g:V)+1),M G (g:V)] i (RB (Φ τ) i):=λi v=>mh (q.qu.ah v) J J _ _ J E l s;go_wp2_with(first|(go_at_call 404;refine x.mono ?_;clear x;rintro k F ⟨rfl,B⟩;have w:D (Fw d F e o p f c j m a b g):=q.out.ah B;have O:=Ic w.qu.Po;rw[l]at O)|(go_at_call 404;refine cB (y F B) ?_;rintro t C;have r:D (Fw d t e o p f c j m a b g):=w.out.ah C;have z:=zD r.qu.Po;rw[l]at z));go_ret;exact⟨⟨_,E⟩,r.stop (.inr ⟨2*g+1,(λR u S k=>by rcases nW u k with n|n<;>subst n;exact(kZ f).irr _;exact P),s⟩)⟩
 have a8:¬(2*(g:V)+1+1<(b:V)):=J
 cases s:jV f (gO (j.map (·.2)) (2*g+1)) (gO (j.map (·.2)) g)with
 |true=>
  have y:=mh q.qu J J (2*(g:V)+1) (g:V) J E l s;have X:∀i,mR i e o p f j m a->η ξ 407 #[Y m (U c) a,M G (g:V),M G (2*(g:V)+1)] i λk K=>k=β (Γ #[])/\mR K e o p f (vD j g (2*g+1)) m a/\rG e o i K:=λi v=>Ad v g (2*g+1) J J E J l;go_wp2_with(first|(go_at_call 404;refine cB y ?_;rintro t C;have r:D (Fw d t e o p f c j m a b g):=q.out.ah C;have z:=zD r.qu.Po;rw[l]at z)|(go_at_call 407;refine(X t r.qu).mono ?_;rintro k a2 ⟨rfl,N,L⟩;have W:D _:=N;have T:D _:=L;clear N L));go_roundw
  ·exact⟨2*g+1,vD j g (2*g+1),aP,J,r.step a0 J J J (λR u S k=>by rcases nW u k with n|n;subst n;exact(kZ f).irr _;omega) s W T⟩
  simp[A1];omega
 |false=>
  have y:=mh q.qu J J (2*(g:V)+1) (g:V) J E l s;go_wp2_with(first|(go_at_call 404;refine cB y ?_;rintro t C;have r:D (Fw d t e o p f c j m a b g):=q.out.ah C;have z:=zD r.qu.Po;rw[l]at z));go_ret;exact⟨⟨_,E⟩,r.stop (.inr ⟨2*g+1,(λR u S k=>by rcases nW u k with n|n;subst n;exact(kZ f).irr _;omega),s⟩)⟩
structure PI(w wr:World)(B fb qb:Nat)(q:PQ)(l lk:List (Value×List Nat))(so:Option Addr)(sc j:Nat):Prop where
 qu:mR wr B fb qb q lk so sc
 adV:Lm (jV q) (l.map (·.2)) (lk.map (·.2)) j
 len:List.length lk=List.length l
 ke:rG B fb w wr
theorem PI.ah{w wr x B fb l}(d:PI w wr B fb b f l c m e a)(g:Bl wr x):PI w x B fb b f l c m e a:=
 ⟨d.qu.ah g,d.adV,d.len,d.ke.trans (nV g (by have:=d.qu.lo;have:=af d.qu.box;omega))⟩
theorem PI.step{wr}(g:PI z wr b e o f C c m p a)(l:0<a)(j:jV f (gO (c.map (·.2)) a) (gO (c.map (·.2)) ((a-1) / 2))=C9)(k:mR d b e o f (vD c ((a-1) / 2) a) m p)(i:rG b e wr d):PI z d b e o f C (vD c ((a-1) / 2) a) m p ((a-1) / 2):=by
 refine⟨k, ?_,by rw[Di];exact g.len,g.ke.trans i⟩;rw[Ac];exact VL (kZ f) g.adV l j
def Sq(w:χ)(B fb qb:H)(q:PQ)(l:Q (ι×Q H))(so:D1 Addr)(sc:H)(w':χ):Prop:=∃lk,mR w' B fb qb q lk so sc/\U lk=U l/\(lk.map (·.2)).Perm (l.map (·.2))/\Hp (jV q) (lk.map (·.2)) (U lk)/\rG B fb w w'
theorem PI.stop{wr}(g:PI d wr b e o f C c m p a)(j:a=0\/jV f (gO (c.map (·.2)) a) (gO (c.map (·.2)) ((a-1) / 2))=τ):Sq d b e o f C m p wr:=by
 obtain⟨i,k⟩:=VM g.adV j;exact⟨c,g.qu,g.len,k,by rw[A3]at i;exact i,g.ke⟩
theorem aaW(k b c f e d i g s)(R:s<U d)(z:PI k k b c f e d d i g s):
  η ξ 260 #[.iface 393 (ω (A (Z f 0 I))),M G (s:V)] k λr t=>r=β (Γ #[])/\Sq k b c f e d i g t:=by
 have:=z.qu.zq;change D _ at z;go_enter func260,ntmps260;go_wp2_with fail;go_loopw [1] (λl wr=>∃(a:H) (j:Q (ι×Q H)),l=M G a/\a<U d/\D (PI k wr b c f e d j i g a)) (λl _=>(A1 l).toNat)
 ·exact⟨s,d,E,R,z⟩
 obtain⟨a,j,rfl,_,l⟩:=hrel;have m:=l.out.len;have S:=Ic l.qu.Po;rw[m]at S;by_cases T:a=0
 ·subst T;clear m;go_wp2_with fail
  go_end0
  exact⟨E,l.stop (.inl E)⟩
 have F:((a:V)-1).tdiv 2=(((a-1) / 2:H):V):=by rw[A6 J];omega
 have K:((a:V)-1) / 2=(((a-1) / 2:H):V):=J;have L:((((a-1) / 2:H):V)==(a:V))=τ:=xW
 cases n:jV e (gO (j.map (·.2)) a) (gO (j.map (·.2)) ((a-1) / 2))with
 |true=>
  have p:=mh l.qu J J _ _ E E m n;have N:∀x,mR x b c f e j i g->η ξ 407 #[Y i (U d) g,M G (((a-1) / 2:H):V),M G (a:V)] x λr t=>r=β (Γ #[])/\mR t b c f e (vD j ((a-1) / 2) a) i g/\rG b c x t:=λx a3=>Ad a3 ((a-1) / 2) a J J E E m;have u:D (∀x (y:χ),PI k x b c f e d j i g a->mR y b c f e (vD j ((a-1) / 2) a) i g->rG b c x y->PI k y b c f e d (vD j ((a-1) / 2) a) i g ((a-1) / 2)):=λx y B a1 a2=>B.step J n a1 a2;obtain⟨v,q⟩:=au ((a-1) / 2);have:v<a:=J;rw[<-q]at F K L p N u;clear q n;go_wp2_with(first
   |(go_at_call 404;refine cB p ?_;rintro w C;have o:D (PI k w b c f e d j i g a):=l.out.ah C;have a0:=zD o.qu.Po;rw[m]at a0)
   |(go_at_call 407;refine(N w o.qu).mono ?_;rintro r _ ⟨rfl,P,O⟩;have X:D _:=P;have W:D _:=O;clear P O))
  go_roundw
  ·exact⟨v,vD j v a,E,J,u _ _ o X W⟩
  simp[A1];omega
 |false=>
  have p:=mh l.qu J J _ _ E E m n;have u:D (∀x,PI k x b c f e d j i g a->Sq k b c f e d i g x):=λx B=>B.stop (.inr n);obtain⟨v,q⟩:=au ((a-1) / 2);rw[<-q]at F K L p;clear q n;go_wp2_with(go_at_call 404;refine cB p ?_;rintro w C;have o:D (PI k w b c f e d j i g a):=l.out.ah C)
  go_end0
  exact⟨E,u _ o⟩
theorem Hp.vU{c}(e:Hp P c b)(d:b=a):Hp P c a:=d▸e
theorem Uz{j e g f d}{a:Q (ι×Q H)}{W T}(u:mR j e g f d a W T)(R:Hp (jV d) (a.map (·.2)) (U a))(c)(C:jg j e c.1 c.2)(P:U a+1<=1000):
  η ξ 217 #[.iface 393 (ω (A ⟨f,0,I⟩)),.iface 339 (xC d c)] j λi k=>i=β (Γ #[])/\∃b q o,mR k e g f d b q o/\U b=U a+1/\(b.map (·.2)).Perm (a.map (·.2)++ [c.2])/\Hp (jV d) (b.map (·.2)) (U b)/\rG e g j k:=by
 have l:=QT u C P;have a0:=aeU j f;obtain⟨t,z⟩:∃t,t=xC d c:=⟨_,E⟩;rw[<-z]at l ⊢;have B:U (a++ [c])=U a+1:=ak;clear z u C;go_enter func217,ntmps217;go_wp2_with(first
  |(go_at_call 406;refine l.mono ?_;clear l;rintro i a2 ⟨rfl,⟨r,p,n⟩,S⟩;have O:=aeT n.Po;rw[B]at O;have L:D _:=n;clear n)
  |(go_at_call 403;refine(Io).mono ?_;rintro i s ⟨rfl,rfl⟩;have N:η ξ 260 #[.iface 393 (ω (A ⟨f,0,I⟩)),M G (U a:V)] s λi k=>i=β (Γ #[])/\Sq s e g f d (a++ [c]) r p k:=aaW s e g f d (a++ [c]) r p (U a) J ⟨L.out,by rw[B6];have:=Rk (x:=c.2) (R.vU (A3 (f:=λX:Value×List Nat=>X.2)).symm);rw[A3]at this;exact this,E,rG.refl _ _ _⟩)
  |(go_at_call 260;refine N.mono ?_;rintro i F ⟨rfl,b,v,w,m,x,y⟩;have K:D _:=(⟨b,r,p,v,w.trans B,by rw[B6]at m;exact m,x,S.trans y⟩:∃b q o,mR F e g f d b q o/\U b=U a+1/\(b.map (·.2)).Perm (a.map (·.2)++ [c.2])/\Hp (jV d) (b.map (·.2)) (U b)/\rG e g j F);clear v w m x y))
 go_end0
 exact⟨E,K.out⟩
theorem aeb(d:a<U c):gP (vD c b a) a=gP c b:=by
 unfold vD;rw[gP,θ,List.getElem?_set_self (by simpa using d)];rfl
theorem aea(d:U c=a+1):c=c.take a++ [gP c a]:=by
 have b:a<U c:=J;rw[BI b,List.take_append_getElem b,A9 J]
def WJ(w:χ)(B fb qb:H)(q:PQ)(l:Q (ι×Q H))(n:H)(e:Ending)(w':χ):Prop:=∃(x:ι×Q H) (lk:Q (ι×Q H)) (so':D1 Addr) (sc':H),e=β (.iface 339 (xC q x))/\x.2=gO (l.map (·.2)) 0/\jg w' B x.1 x.2/\mR w' B fb qb q lk so' sc'/\U lk=n/\(l.map (·.2)).Perm (x.2::lk.map (·.2))/\Hp (jV q) (lk.map (·.2)) n/\rG B fb w w'
theorem abC{k p q l c d g e}{b l2:Q (ι×Q H)}{j i a}(s:mR k c d g e b j i)(x:U b=a+1)(u:rG c d k p)(n:∀f,a<=f->gP l2 f=gP (vD b 0 a) f)(o:(l2.map (·.2)).Perm ((vD b 0 a).map (·.2)))(t:Hp (jV e) (l2.map (·.2)) a)(v:rG c d p q)(y:mR l c d g e (l2.take a) j i)(w:rG c d q l):WJ k c d g e b a (β (.iface 339 (xC e (gP l2 a)))) l:=by
 have m:gP l2 a=gP b 0:=(n a (Θ _)).trans (aeb J);have r:=u.trans (v.trans w);rw[Ac]at o;have z:(b.map (·.2)).length=a+1:=by simpa using x
 have B:gO (l2.map (·.2)) a=gO (KZ (b.map (·.2)) 0 a) a:=by rw[vP,<-Ac,vP,n a (Θ _)]
 obtain⟨_,C,F,K⟩:=YW z o B t;refine⟨gP l2 a,l2.take a,j,i,E, ?_, ?_,y, ?_, ?_, ?_,r⟩
 ·rw[m,vP]
 ·rw[m,BI J];exact(s.Ev _ (κ _)).keq r
 ·simpa using K
 ·rw[m,<-vP,B9];exact C
 rw[B9];exact F
theorem XL(j:mR d e o b f c m p)(k:U c=a+1)(r:Hp (jV f) (c.map (·.2)) (a+1)):
  η ξ 215 #[.iface 393 (ω (A (Z b 0 I)))] d λi l=>WJ d e o b f c a i l:=by
 have P:=j.zq;have R:=aeT j.Po;have S:=zD j.Po;rw[k]at R S P;have s:=Ad j 0 a J J (zi:=0) (zj:=(a:V)) E E k;have t:D (∀g,mR g e o b f (vD c 0 a) m p->Fw g g e o b f (vD c 0 a) (vD c 0 a) m p a 0):=λg n=>⟨n,by rw[Ac];exact Rw r (by simpa using k),E,λ_ _=>rfl,rG.refl _ _ _⟩;have T:U (vD c 0 a)=a+1:=by rw[Di,k]
 have X:∀g,mR g e o b f (vD c 0 a) m p->η ξ 259 #[.iface 393 (ω (A (Z b 0 I))),M G 0,M G (a:V)] g λi l=>(∃v,i=β (Φ v))/\IV g e o b f (vD c 0 a) m p a l:=λg n=>Uy (t g n) J;have a0:D _:= @abC d;change D _ at j;clear t r;go_enter func215,ntmps215;go_wp2_with(first
  |(go_at_call 403;refine bP Io ?_)
  |(go_at_call 407;refine s.mono ?_;clear s;rintro i a9 ⟨rfl,L,F⟩;have a7:D _:=L;have a3:D _:=F;clear L F)
  |(go_at_call 259;refine(X a9 a7).mono ?_;rintro i O ⟨⟨v,rfl⟩,l2,w,x,y,z,B,C⟩;have a4:D _:=C;have a1:D _:=y;have a6:D _:=z;have a2:D _:=B;have u:=Vy O e o b f (l2.take a) (gP l2 a) m p (by rw[<-aea (x.trans T)];exact w);have b2:=afI O b;obtain⟨_,q⟩:=au (xC f (gP l2 a));rw[<-q]at u;have W:D _:=q;clear w x y z B C q)
  |(go_at_call 405;refine u.mono ?_;rintro i _ ⟨rfl,N,K⟩;have a8:D _:=N;have a5:D _:=K;clear N K))
 go_ret;have:=W.out;subst this;exact a0 j k a3 a1 a6 a2 a4 a8 a5
end Go.Proofs.YthkeffolmbnkaaaGreatDoor

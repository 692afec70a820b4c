import Derived.Test.YthkeffolmbnkaaaGreatDoorRtDZ
import Derived.Test.YthkeffolmbnkaaaGreatDoorBaCZ
set_option linter.unusedVariables false
set_option linter.unusedSimpArgs false
set_option maxRecDepth 100000
set_option maxHeartbeats 0
open Array renaming size->E
open Bool renaming false_ne_true->δ,false->ξ,eq_false_iff->χ,or_eq_false_iff->Δ,or_eq_true->Θ,true->Ξ,or_false->C2,and_comm->C3,eq_iff_iff->E0
open Go renaming heap_alloc_new->θ,World->A2,Calls->B0,maxLen->D6
open Go.Addr renaming mk->Q,add_lit->E4
open Go.IntKind renaming i64->B2,u8->D8
open Go.Obj renaming cells->ε
open Go.Proofs.Tryz renaming ntmps245->υ,func245->φ,prog->B9
open Go.Proofs.YthkeffolmbnkaaaGreatDoor renaming aa->I,ae->H,post->D2
open Go.RowKit renaming Hid->Z,intOf->E7
open Go.RowKit.Below renaming refl->B8,heap_alloc->D7
open Go.Value renaming slice->M,string->Y,int->ρ,bool->A5,agg->E6
open Go.World renaming heap->D,cell?->β,size_alloc->ψ
open List renaming length->U,getElem?_eq_getElem->α,mem_of_getElem?->γ,getElem?_eq_some_iff->η,mem_append_left->ι,getElem?_map->ο,mem_cons_of_mem->ω,getElem?_set_ne->Γ,mem_cons_self->Φ,drop_eq_getElem_cons->Ω,mem_map->A0,length_pos_of_mem->A1,mem_append->A3,mem_append_right->A4,getElem?_of_mem->A6,length_append->B1,take_succ_eq_append_getElem->B4,length_take->B5,all_eq_true->B6,map_cons->C0,any_cons->C1,length_eq_zero_iff->C5,take_of_length_le->C7,any_nil->C8,mem_singleton->D3,findIdx?_cons->D4,length_cons->D9,all_cons->E2
open Nat renaming zero_add->μ,mul_comm->ν,zero_le->B7,le_refl->D1,lt_of_lt_of_le->D5
open Option renaming some->V,none->G
open Option.some renaming inj->Ψ
open Or renaming inl->B3,inr->C6
open _root_ renaming rfl->J,Int->A,if_neg->ζ,if_pos->κ,List->σ,beq_iff_eq->τ,Nat->C4,decide_eq_true->C9,Option->D0,absurd->E1,decide_eq_true_eq->E3,decide_eq_false->E5
namespace Go.Proofs.YthkeffolmbnkaaaGreatDoor
open Go.Proofs.Tryz
open Go.RowKit
variable{a:Bs}{C:Bs->Int}{k K:Int}{f:List Ex}{b:List RF}{m:List Tr}{n N:List Value}{d o p s v x z:Nat}{q L:Nat->Int}{B:Nat->Prop}{u y:Option Addr}{i:Sc}{j:Tr}{e F:World}
def TH:Bs:=[117,115,101,114]
def TG:Bs:=[116,114,117,101]
def KV:Bs:=[102,97,108,115,101]
def wB(args t:Bs):A:=match args[(t.getD 1 0).toNat-49]? with|none=>0|some c=>(c.toNat:A)
def BP(aB:σ (Bs×A))(o:D0 C4):A:=match o with|none=>0|some i=>match aB[i]? with|none=>0|some c=>pQ c.2
def rY(aB:σ (Bs×A))(args t:Bs):A:=
 if gH t then 110 else if fJ t||t==TH then 116 else if t==TG||t==KV then 98 else if lN t then wB args t else BP aB (nK aB t)
def jR(aB:σ (Bs×A))(l:Bs)(i:C4):D0 C4:=((aB.drop i).findIdx? (λc=>c.1==l)).map (· +i)
theorem Jw(aB a):nK aB a=jR aB a 0:=by
 unfold jR nK;simp
theorem Mi{aB}(c:d<U aB)(b:(aB[d].1==a)=Ξ):jR aB a d=V d:=by
 unfold jR;rw[Ω c,D4,b];simp
theorem Jv{aB}(c:d<U aB)(b:(aB[d].1==a)=ξ):jR aB a d=jR aB a (d+1):=by
 unfold jR;rw[Ω c,D4,b];simp only[Bool.false_eq_true,if_false,Option.map_map];congr 1;funext x;simp;omega
theorem Mh{aB}(b:U aB<=d):jR aB a d=G:=by
 unfold jR;rw[List.drop_of_length_le b];rfl
theorem CO{aS:D0 Addr}{args:Bs}{aB:σ (Bs×A)}(B:qP e u o d aS s p (M y x v) aB b)(a2:U args<=D6)(R:U a<=D6):
  B0 B9 245 #[E6 #[M u o d,M aS s p,Y (H args),M y x v],Y (H a)] e (RB (ρ D8 (rY aB args a)) e):=by
 have j:∀g:A2,B0 B9 179 #[Y (H a)] g (RE (.tuple #[ρ B2 (AZ a),A5 (gH a)]) g):=by
  intro g;have:=jE (s:=(H a)) (w:=g) (by rw[aX];exact R);rw[ay]at this;exact this
 have k:∀g:A2,B0 B9 181 #[Y (H a)] g (RE (A5 (fJ a)) g):=by
  intro g;have:=lF (s:=(H a)) (w:=g) (by rw[aX];exact R);rw[ay]at this;exact this
 have l:∀g:A2,B0 B9 182 #[Y (H a)] g (RE (ρ B2 (vg a)) g):=by
  intro g;have:=iD (s:=(H a)) (w:=g);rw[ay]at this;exact this
 have i:=ai e (ε #[M u o d,M aS s p,Y (H args),M y x v] 214);obtain⟨C,m⟩:=au (e.alloc (ε #[M u o d,M aS s p,Y (H args),M y x v] 214));have L:e.alloc (ε #[M u o d,M aS s p,Y (H args),M y x v] 214)=C:=m.symm;rw[L]at i;have c:C.heap[E (D e)]? =V (ε #[M u o d,M aS s p,Y (H args),M y x v] 214 (0,0)):=by rw[m];exact θ e _
 have a3:β C (Q (E (D e)) 0 G)=V (M u o d):=aC c;have a4:β C (Q (E (D e)) 1 G)=V (M aS s p):=aC c;have a5:β C (Q (E (D e)) 2 G)=V (Y (H args)):=aC c;obtain⟨rfl,rfl,_,N,O,_,_,_⟩:=B;have f:Z (rY aB args a=if gH a then 110 else if fJ a||a==TH then 116 else if a==TG||a==KV then 98 else if lN a then wB args a else BP aB (nK aB a)):=J;obtain⟨_,n⟩:=au (AZ a);have a6:(H a).toList=a:=ay;have a0:(H args).size=U args:=aX _;rw[<-n]at j;clear m c n
 cases S:gH a with
 |true=>
  rw[S]at j f;go_enter φ,υ;go_wp2_with(first
   |(go_at_call 179;refine bP (j _) ?_)
   |(go_at_call 181;refine bP (k _) ?_)
   |(go_at_call 182;refine bP (l _) ?_))
  go_ret;exact⟨lq f.symm,i⟩
 |false=>
  rw[S]at j f;rw[ζ δ]at f
  cases n:(fJ a||a==TH)with
  |true=>
   rw[n]at f
   cases F:fJ a with
   |true=>
    rw[F]at k;clear n;go_enter φ,υ;go_wp2_with(first
     |(go_at_call 179;refine bP (j _) ?_)
     |(go_at_call 181;refine bP (k _) ?_)
     |(go_at_call 182;refine bP (l _) ?_))
    go_ret;exact⟨lq f.symm,i⟩
   |false=>
    rw[F]at k n;have a1:(a== [117,115,101,114])=Ξ:=by rw[Bool.false_or]at n;exact n
    clear n;go_enter φ,υ;go_wp2_with(first
     |(go_at_call 179;refine bP (j _) ?_)
     |(go_at_call 181;refine bP (k _) ?_)
     |(go_at_call 182;refine bP (l _) ?_))
    go_ret;exact⟨lq f.symm,i⟩
  |false=>
   rw[n,ζ δ]at f;rw[Δ]at n;obtain⟨F,c⟩:=n;have a1:(a== [117,115,101,114])=ξ:=c;rw[F]at k;clear F c
   cases r:(a==TG||a==KV)with
   |true=>
    rw[r]at f;have c:((a== [116,114,117,101])||(a== [102,97,108,115,101]))=Ξ:=r;clear r;go_enter φ,υ;go_wp2_with(first
     |(go_at_call 179;refine bP (j _) ?_)
     |(go_at_call 181;refine bP (k _) ?_)
     |(go_at_call 182;refine bP (l _) ?_))
    all_goals go_ret
    all_goals exact⟨lq f.symm,i⟩
   |false=>
    rw[r,ζ δ]at f;rw[Δ]at r;have a7:(a== [116,114,117,101])=ξ:=r.1;have a8:(a== [102,97,108,115,101])=ξ:=r.2;clear r
    cases t:lN a with
    |true=>
     rw[t,κ J]at f;obtain⟨c,rfl,_,_⟩:=Ez t;have w:vg [36,c]=(c.toNat:A)-49:=by rw[vg,t];rfl
     rw[w]at l;obtain⟨z,K⟩:=au (c.toNat-49);have P:(c.toNat:A)-49=(z:A):=I;rw[P]at l;by_cases m:z<U args
     ·have W:z<(H args).size:=by rw[a0];exact m
      have q:Z (wB args [36,c]=((H args)[z].toNat:A)):=by
       have T:=gp (H args) z W;simp only[ay]at T;rw[Z,wB,show([36,c]:Bs).getD 1 0=c from J,<-K,α m,<-T]
      clear t P K w;go_enter φ,υ;go_wp2_with(first
       |(go_at_call 179;refine bP (j _) ?_)
       |(go_at_call 181;refine bP (k _) ?_)
       |(go_at_call 182;refine bP (l _) ?_))
      all_goals go_ret
      all_goals exact⟨lq (by rw[f.out,q.out]),i⟩
     have q:Z (wB args [36,c]=0):=by
      rw[Z,wB,show([36,c]:Bs).getD 1 0=c from J,<-K,List.getElem?_eq_none I]
     clear t P K w;go_enter φ,υ;go_wp2_with(first
      |(go_at_call 179;refine bP (j _) ?_)
      |(go_at_call 181;refine bP (k _) ?_)
      |(go_at_call 182;refine bP (l _) ?_))
     all_goals go_ret
     all_goals exact⟨lq (by rw[f.out,q.out]),i⟩
    |false=>
     rw[t,ζ δ,Jw]at f;have w:vg a= -1:=by rw[vg,t];rfl
     rw[w]at l;clear t w;go_enter φ,υ;go_wp2_with(first
      |(go_at_call 179;refine bP (j _) ?_)
      |(go_at_call 181;refine bP (k _) ?_)
      |(go_at_call 182;refine bP (l _) ?_))
     try rw[L]
     clear L j k l;go_loop [9] (λz=>∃c:C4,c<=U aB/\z=ρ B2 c/\Z (jR aB a 0=jR aB a c)) (λc=>U aB-(E7 c).toNat)
     ·exact⟨0,B7 _,J,J⟩
     obtain⟨c,_,rfl,z⟩:=hrel;by_cases m:c<U aB
     ·rcases(id N)with B|⟨_,rfl,P,T⟩
      ·subst B;simp at m
      rcases(id O)with B|⟨_,rfl,W,X⟩
      ·subst B;simp at m
      have a9:=cK i P (T c aB[c] (α m));have b0:=cK i W (X c aB[c] (α m));have b1:=D5 P i.size;have b2:=D5 W i.size;have b3:(H aB[c].1).toList=aB[c].1:=ay;have K:Z (aB[c]? =V aB[c]):=α m;clear T X N O
      cases T:(aB[c].1==a)with
      |true=>
       have q:Z (BP aB (jR aB a 0)=pQ aB[c].2):=by rw[Z,z.out,Mi m T,BP,K.out]
       clear z K
       go_wp2
       go_ret;exact⟨lq (by rw[f.out,q.out]),i⟩
      |false=>
       have q:Z (jR aB a 0=jR aB a (c+1)):=by rw[Z,z.out,Jv m T]
       clear z K
       go_wp2
       go_round
       ·exact⟨c+1,I,aP,q⟩
       simp[E7];omega
     have q:Z (BP aB (jR aB a 0)=0):=by rw[Z,z.out,Mh I];rfl
     clear z N O
     go_wp2
     go_ret;exact⟨lq (by rw[f.out,q.out]),i⟩
def tyR(o:Except A Ex):A:=match o with| .error _=>0| .ok x=>pQ x.ty
def aeO(o:Except A Ex):A:=match o with| .error n=>n| .ok _=>0
def fA(t:A):Prop:=t=1\/t=2\/t=3
def Eo(t:A):UInt8:=if t=1 then 110 else if t=2 then 116 else 98
theorem Ym(a:fA k):((Eo k).toNat:A)=pQ k/\fM (Eo k)=Ξ/\lK (Eo k).toNat=k:=by
 rcases a with rfl|rfl|rfl<;>decide
theorem zC(b:fA k)(c:fA K)(a:Eo k=Eo K):k=K:=by
 rcases b with rfl|rfl|rfl<;>rcases c with rfl|rfl|rfl<;>first|rfl|(exact E1 a ag)
theorem JU(a:fA k):pQ k≠0:=by
 rcases a with rfl|rfl|rfl<;>decide
structure tN(ps:Sc)(args:Bs)(rfs:List RF):Prop where
 par:ps.2=bB args
 lets:args.all fM=true
 aB:∀c∈ps.1,fA c.2
 words:∀c∈ps.1,jq c.1=true
 fty:∀r∈rfs,fA r.fn.body.ty
 SG:∀r∈rfs,r.fn.args=bB r.args/\r.args.all fM=true
 free:∀r∈rfs,dU r.fn.name=false
 OJ:∀r∈rfs,0<=r.fn.body.size/\r.fn.body.size<=300
theorem oq{a:UInt8}(b:fM a=Ξ):fA (lK a.toNat)/\pQ (lK a.toNat)=(a.toNat:A):=by
 unfold fM at b;simp only[Θ,τ]at b;rcases b with(rfl|rfl)|rfl<;>exact⟨by unfold fA;decide,ag⟩
theorem Hy(p:Bs->A){args}(q:tN i args b)(fns)(v:kg j)(t:j.br=ξ):
  tyR (bO p i fns j)=rY i.1 args j.tx/\((∃u,bO p i fns j=.ok u/\fA u.ty)\/bO p i fns j=.error 2):=by
 obtain⟨w,a,x,y⟩:=j;obtain⟨_,z,B⟩:=v t;have C:x=ξ:=t;have F:w=bF a:=B;subst C F;have g:kJ a=Ξ:=z;show tyR (bO p i fns (.mk (bF a) a ξ y))=rY i.1 args a/\_;have K:(a== [40])=ξ:=by
  rw[χ];intro e;rw[τ]at e;subst e;exact E1 g ag
 have L:(a== [41])=ξ:=by
  rw[χ];intro e;rw[τ]at e;subst e;exact E1 g ag
 have N:lZ a=ξ:=by
  rw[χ];intro e;rw[(Ii e).1]at g;cases g
 rw[bO,ζ δ];have k:bF a=if gH a then 3 else if fJ a then 4 else if lN a then 7 else if aW a then 5 else if jq a then 6 else 0:=by
  unfold bF;rw[K,L,N];rfl
 cases c:gH a with
 |true=>
  have d:bF a=3:=by rw[k,c];rfl
  rw[d,ζ ag,ζ ag];exact⟨by rw[rY,c];rfl,B3 ⟨_,J,B3 J⟩⟩
 |false=>
  rw[c,ζ δ]at k
  cases f:fJ a with
  |true=>
   have d:bF a=4:=by rw[k,f];rfl
   rw[d,ζ ag,ζ ag];exact⟨by rw[rY,c,f];rfl,B3 ⟨_,J,C6 (B3 J)⟩⟩
  |false=>
   rw[f,ζ δ]at k
   cases l:lN a with
   |true=>
    have s:bF a=7:=by rw[k,l];rfl
    rw[s,ζ ag,κ J];obtain⟨n,rfl,_,_⟩:=Ez l;have r:rY i.1 args [36,n]=wB args [36,n]:=by
     rw[rY,c,f,l];rfl
    rw[r,EA,wB,q.par,bB,ο]
    cases m:args[(([36,n]:Bs).getD 1 0).toNat-49]? with
    |none=>exact⟨J,C6 J⟩
    |some d=>
     have o:fM d=Ξ:=B6.mp q.lets d (γ m);exact⟨(oq o).2,B3 ⟨_,J,(oq o).1⟩⟩
   |false=>
    rw[l,ζ δ]at k
    cases o:aW a with
    |true=>
     have O:bF a=5:=by rw[k,o];rfl
     have d:nG a=Ξ:=by
      have s:=(oC o).2.2.2.2.1;rw[kJ,c,f,l,s]at g;simpa using g
     rw[O,ζ ag,ζ ag];unfold nG at d;simp only[Θ,τ]at d;rcases d with(rfl|rfl)|rfl
     iterate 2
      ·exact⟨by rw[rY,c,f];rfl,B3 ⟨_,J,C6 (C6 J)⟩⟩
     exact⟨by rw[rY,c,f];rfl,B3 ⟨_,J,C6 (B3 J)⟩⟩
    |false=>
     have d:nG a=ξ:=by
      rw[χ];intro e;rw[Fq e]at o;cases o
     have s:jq a=Ξ:=by
      rw[kJ,c,f,l,d]at g;simpa using g
     have O:bF a=6:=by rw[k,o,s];rfl
     rw[O,κ J];unfold nG at d;simp only[Δ]at d;have r:rY i.1 args a=BP i.1 (nK i.1 a):=by
      rw[rY,c,f,l,show(a==TH)=ξ from d.2,show(a==TG)=ξ from d.1.1,show(a==KV)=ξ from d.1.2];rfl
     rw[r,zb]
     cases P:nK i.1 a with
     |none=>exact⟨J,C6 J⟩
     |some e=>
      cases m:i.1[e]? with
      |none=>exact⟨by simp only[BP,m];rfl,C6 (by simp only[m])⟩
      |some n=>exact⟨by simp only[BP,m];rfl,B3 ⟨Mg n.2 e,by simp only[m],q.aB n (γ m)⟩⟩
def bz(es:σ Ex):Bs:=es.map λx=>Eo x.ty
theorem TF{ls:σ A}(e:∀c∈ls,fA c)(d:∀b∈f,fA b.ty):(bz f==ls.map Eo)=decide (f.map Ex.ty=ls):=by
 rw[E0,τ,E3]
 induction f generalizing ls with
 |nil=>cases ls<;>simp[bz]
 |cons b j ih=>
  cases ls with
  |nil=>simp[bz]
  |cons c zs=>
   have:=ih (ls:=zs) (λi a=>e i (ω _ a)) (λg a=>d g (ω _ a));simp only[bz,C0,List.cons.injEq]at this ⊢;rw[this];exact⟨λa=>⟨zC (d b (Φ ..)) (e c (Φ ..)) a.1,a.2⟩,λa=>⟨by rw[a.1],a.2⟩⟩
theorem acd(e:fA k)(c:∀b∈f,fA b.ty):mF (bz f) (Eo k)=(decide (0<U (f.map Ex.ty))&&(f.map Ex.ty).all (· ==k)):=by
 have g:(bz f).all (· ==Eo k)=(f.map Ex.ty).all (· ==k):=by
  induction f with
  |nil=>rfl
  |cons b j ih=>
   have d:=ih (λi a=>c i (ω _ a));simp only[bz,C0,E2]at d ⊢;rw[d];congr 1;rw[E0,τ,τ];exact⟨λa=>zC (c b (Φ ..)) e a,λa=>by rw[a]⟩
 unfold mF;rw[g,C3];congr 1
 cases f<;>simp[bz]
theorem Ec(m:dU a=Ξ)(e:∀u∈f,fA u.ty):ML a (bz f)=pQ (iB a (f.map Ex.ty))/\(iB a (f.map Ex.ty)≠0->fA (iB a (f.map Ex.ty))):=by
 have q:fA 1:=B3 J;have s:fA 2:=C6 (B3 J);have n:fA 3:=C6 (C6 J);have r:∀(j:σ A) (g:A),(∀p∈j,fA p)->fA g->pO (bz f==j.map Eo) (pQ g)=pQ (mI j g (f.map Ex.ty))/\(mI j g (f.map Ex.ty)≠0->fA (mI j g (f.map Ex.ty))):=by
  intro j g i d;rw[TF i e,mI,pO];by_cases a:f.map Ex.ty=j
  ·rw[κ a,C9 a];exact⟨J,λ_=>d⟩
  rw[ζ a,E5 a];exact⟨J,λa=>absurd J a⟩
 have t:∀g:A,fA g->pO (mF (bz f) (Eo g)) (pQ g)=pQ (uS g (f.map Ex.ty))/\(uS g (f.map Ex.ty)≠0->fA (uS g (f.map Ex.ty))):=by
  intro g d;rw[acd d e,uS,pO];by_cases a:0<U (f.map Ex.ty)/\(f.map Ex.ty).all (· ==g)=Ξ
  ·rw[κ a,C9 a.1,a.2];exact⟨J,λ_=>d⟩
  rw[ζ a];have:(decide (0<U (f.map Ex.ty))&&(f.map Ex.ty).all (· ==g))=ξ:=by
   rw[χ];intro k;rw[Bool.and_eq_true,E3]at k;exact a k
  rw[this];exact⟨J,λa=>absurd J a⟩
 have v:pO (Ap (bz f)) 98=pQ (qF (f.map Ex.ty))/\(qF (f.map Ex.ty)≠0->fA (qF (f.map Ex.ty))):=by
  match f,e with
  | [],_=>exact⟨J,λa=>absurd J a⟩
  | [_],_=>exact⟨J,λa=>absurd J a⟩
  | [d,b],e=>
   have o:=e d ak;have m:=e b ak;show pO (Eo d.ty==Eo b.ty) 98=pQ (if d.ty=b.ty then 3 else 0)/\((if d.ty=b.ty then 3 else 0)≠0->fA (if d.ty=b.ty then 3 else 0));by_cases a:d.ty=b.ty
   ·rw[κ a,a];simp[pO,pQ];exact n
   have:(Eo d.ty==Eo b.ty)=ξ:=by
    rw[beq_eq_false_iff_ne];intro k;exact a (zC o m k)
   rw[ζ a,this];exact⟨J,λa=>absurd J a⟩
  |_::_::_::_,_=>exact⟨J,λa=>absurd J a⟩
 simp only[dU,rZ,C1,C8,Θ,τ,C2]at m;rcases m with rfl|rfl|rfl|rfl|rfl|rfl|rfl|rfl|rfl|rfl|rfl|rfl|rfl|rfl|rfl
 iterate 4
  ·exact r [1,1] 1 (by intro p i;simp at i;rw[i];exact q) q
 iterate 3
  ·exact v
 iterate 2
  ·exact t 3 n
 ·exact r [3] 3 (by intro p i;simp at i;rw[i];exact n) n
 ·match f,e with
  | [],_=>exact⟨J,λa=>absurd J a⟩
  | [_],_=>exact⟨J,λ_=>n⟩
  |d::b::l,_=>
   refine⟨?_,λa=>absurd J a⟩;show pO ((U (bz (d::b::l)):A)==1) 98=0;have:((U (bz (d::b::l)):A)==1)=ξ:=by simp[bz];omega
   rw[this];rfl
 ·match f,e with
  | [],_=>exact⟨J,λa=>absurd J a⟩
  | [_],_=>exact⟨J,λa=>absurd J a⟩
  | [_,_],_=>exact⟨J,λa=>absurd J a⟩
  | [c,d,b],e=>
   have w:=e c ak;have o:=e d ak;have m:=e b ak;show(if Eo c.ty=98/\Eo d.ty=Eo b.ty then((Eo d.ty).toNat:A)else 0)=pQ (if c.ty=3/\d.ty=b.ty then d.ty else 0)/\((if c.ty=3/\d.ty=b.ty then d.ty else 0)≠0->fA (if c.ty=3/\d.ty=b.ty then d.ty else 0));by_cases a:c.ty=3/\d.ty=b.ty
   ·rw[κ a,κ ⟨by rw[a.1];rfl,by rw[a.2]⟩];exact⟨(Ym o).1,λ_=>o⟩
   rw[ζ a,ζ (λk=>a ⟨zC w n k.1,zC o m k.2⟩)];exact⟨J,λa=>absurd J a⟩
  |_::_::_::_::_,_=>exact⟨J,λa=>absurd J a⟩
 ·exact r [2] 1 (by intro p i;simp at i;rw[i];exact s) q
 ·exact t 2 s
 match f,e with
 | [],_=>exact⟨J,λa=>absurd J a⟩
 | [d],e=>exact⟨(Ym (e d ak)).1,λ_=>e d ak⟩
 |_::_::_,_=>exact⟨J,λa=>absurd J a⟩
mutual
theorem xx{f:Bs->A}{l:Sc}{args:Bs}{c:σ RF}(g:tN l args c):∀(q:Tr) (d:Ex),(∀e∈post q,kg e)->bO f l (RF.list c) q=.ok d->fA d.ty
 | .mk k tx false ops,d,hL,b=>by
  rcases(Hy f g (RF.list c) (hL (.mk k tx ξ ops) (by rw[post];simp)) J).2 with⟨e,o,s⟩|n
  ·rw[b]at o;cases o;exact s
  rw[b]at n;cases n
 | .mk k tx true ops,d,hL,b=>by
  rw[bO,κ J]at b
  cases j:dN f l (RF.list c) ops with
  |error C=>rw[j]at b;cases b
  |ok m=>
   rw[j]at b;have t:=yL g ops m (λe w=>hL e (by rw[post];exact ι _ w)) j;have a:uh (RF.list c) tx m=.ok d:=b;unfold uh at a
   cases i:dU tx with
   |true=>
    rw[i,κ J]at a;split at a
    ·cases a
    next r=>cases a;exact(Ec i t).2 r
   |false=>
    rw[i,ζ δ]at a;unfold uI at a;split at a
    ·cases a
    next B z=>
    split at a
    ·cases a
    next y u=>
    split at a
    ·cases a;have p:=γ u;rw[RF.list,A0]at p;obtain⟨x,v,rfl⟩:=p;exact g.fty x v
    cases a
theorem yL{k:Bs->A}{g:Sc}{args:Bs}{i:σ RF}(f:tN g args i):∀(e:σ Tr) (d:σ Ex),(∀c∈dm e,kg c)->dN k g (RF.list i) e=.ok d->∀j∈d,fA j.ty
 | [],d,hL,a=>by rw[dN]at a;cases a;simp
 |t::e,d,hL,a=>by
  rw[dm]at hL;rw[dN]at a;split at a
  ·cases a
  next j l=>
  split at a
  ·cases a
  next n m=>
  cases a;intro c b;rcases List.mem_cons.mp b with rfl|b
  ·exact xx f t _ (λc b=>hL c (ι _ b)) l
  exact yL f e n (λc b=>hL c (A4 _ b)) m c b
end
def DL(rfs:σ RF)(tx:Bs)(lets:Bs):A:=match dG (RF.list rfs) tx with
 |some i=>(match rfs[i]? with|none=>0|some r=>pO (lets==r.args) (pQ r.fn.body.ty))
 |none=>ML tx lets
def mJ(rfs:σ RF)(tx:Bs)(lets:Bs):A:=if(dG (RF.list rfs) tx).isNone&& !dU tx then 2 else if DL rfs tx lets=0 then 3 else 0
theorem nS{fns}(c:dG fns a=V d):∃b,fns[d]? =V b/\b.name=a:=by
 unfold dG at c;obtain⟨e,f,_⟩:=List.findIdx?_eq_some_iff_getElem.mp c;exact⟨fns[d],α e,by simpa using f⟩
theorem aaJ{args}(s:tN i args b){k tx}(B:dN C i (RF.list b) m=.ok f)(v:∀d∈f,fA d.ty):
  aeO (bO C i (RF.list b) (.mk k tx Ξ m))=mJ b tx (bz f)/\(mJ b tx (bz f)=0->∃d,bO C i (RF.list b) (.mk k tx Ξ m)=.ok d/\pQ d.ty=DL b tx (bz f))/\(mJ b tx (bz f)≠0->bO C i (RF.list b) (.mk k tx Ξ m)=.error (mJ b tx (bz f))):=by
 rw[bO,κ J,B];show aeO (uh (RF.list b) tx f)=_/\(_->∃d,uh (RF.list b) tx f=.ok d/\_)/\(_->uh (RF.list b) tx f=_);unfold uh
 cases e:dU tx with
 |true=>
  rw[κ J];have u:dG (RF.list b) tx=G:=by
   cases g:dG (RF.list b) tx with
   |none=>rfl
   |some w=>
    obtain⟨x,j,r⟩:=nS g;have n:=γ j;rw[RF.list,A0]at n;obtain⟨a,l,rfl⟩:=n;rw[<-r,s.free a l]at e;cases e
  obtain⟨j,r⟩:=Ec e v;have o:DL b tx (bz f)=pQ (iB tx (f.map Ex.ty)):=by rw[DL,u];exact j
  have p:mJ b tx (bz f)=if pQ (iB tx (f.map Ex.ty))=0 then 3 else 0:=by rw[mJ,u,e,o];rfl
  rw[p,o];by_cases q:iB tx (f.map Ex.ty)=0
  ·rw[κ q,q];exact⟨J,λc=>absurd c ag,λ_=>rfl⟩
  have t:=JU (r q);rw[ζ q,ζ t];exact⟨J,λ_=>⟨_,J,J⟩,λc=>absurd J c⟩
 |false=>
  rw[ζ δ];unfold uI
  cases g:dG (RF.list b) tx with
  |none=>
   have p:mJ b tx (bz f)=2:=by rw[mJ,g,e];rfl
   rw[p];exact⟨J,λc=>absurd c ag,λ_=>rfl⟩
  |some w=>
   obtain⟨x,j,_⟩:=nS g;have q:=j;rw[RF.list,ο]at q
   cases l:b[w]? with
   |none=>rw[l]at q;cases q
   |some a=>
    rw[l]at q;have F:a.fn=x:=Ψ q;subst F;have n:=γ l;have o:DL b tx (bz f)=pO (bz f==a.args) (pQ a.fn.body.ty):=by simp only[DL,g,l]
    have p:mJ b tx (bz f)=if pO (bz f==a.args) (pQ a.fn.body.ty)=0 then 3 else 0:=by rw[mJ,g,e,o];rfl
    have K:(bz f==a.args)=decide (f.map Ex.ty=a.fn.args):=by
     obtain⟨L,y⟩:=s.SG a n;have N:a.args=(bB a.args).map Eo:=by
      rw[bB,List.map_map];conv=>lhs;rw[<-List.map_id a.args]
      refine List.map_congr_left λr u=>?_;have:=B6.mp y r u;unfold fM at this;simp only[Θ,τ]at this;rcases this with(rfl|rfl)|rfl<;>decide
     rw[N,L];refine TF (λ_ z=>?_) v;rw[bB,A0]at z;obtain⟨r,u,rfl⟩:=z;exact(oq (B6.mp y r u)).1
    rw[p,o,K];simp only[j];by_cases r:f.map Ex.ty=a.fn.args
    ·have t:=JU (s.fty a n);rw[κ r,C9 r,pO,κ J,ζ t];exact⟨J,λ_=>⟨_,J,J⟩,λc=>absurd J c⟩
    rw[ζ r,E5 r,show pO ξ (pQ a.fn.body.ty)=0 from J,κ J];exact⟨J,λc=>absurd c ag,λ_=>rfl⟩
def lu:σ Bs:=[[97,110,100],[111,114],[110,111,116],[105,115,110,117,108,108],[105,102],[108,101,110],[99,97,116],[110,111,116,101]]
theorem BA(a):dU a=(lZ a||bC lu a):=by
 rw[<-rQ];unfold bC jX lu dU rZ;simp only[List.contains_cons,List.contains_nil,C2,C1,C8];simp only[Bool.or_assoc]
theorem Bf(a:A2):B0 B9 178 #[] a λb d=>b=.returned (M (V (Q (E (D a)) 0 G)) 7 7)/\d=a.alloc (ε (jX.map λc=>Y (H c)).toArray 9):=by
 go_enter func178,ntmps178
 go_wp2
 go_ret;exact⟨J,J⟩
theorem zV(a:A2):B0 B9 114 #[] a λb d=>b=.returned (M (V (Q (E (D a)) 0 G)) 8 8)/\d=a.alloc (ε (lu.map λc=>Y (H c)).toArray 9):=by
 go_enter func114,ntmps114
 go_wp2
 go_ret;exact⟨J,J⟩
theorem CY{L:σ Bs}(a)(g:U L=a)(c:a<=100000)(f:e.heap[d]? =V (ε (L.map λi=>Y (H i)).toArray 9 (0,0)))(b):
  B0 B9 113 #[M (V (Q d 0 G)) a a,Y (H b)] e (RE (A5 (bC L b)) e):=by
 subst g;have:=Gy L (H b) e d 0 (D1 _) c (λ_ j=>by simp[β,f,j]);rw[ay]at this;exact this
theorem Qs{c:Value}{cap}(g:e.ownsRow 0 3 1 c s N)(i:e.ownsRow 0 183 4 (M (V (Q o 0 G)) p cap) p n)(b:c.ownBlock=V d):d≠o:=by
 intro j;subst j;rcases g.2 with⟨rfl,_⟩|⟨k,_,_,rfl,_,l,_⟩
 ·cases b
 have:k=d:=Ψ b;subst this;rcases i.2 with⟨a,_⟩|⟨_,_,_,a,_,f,_⟩
 ·cases a
 cases a;rw[l]at f;cases f
theorem lI.stored{cap}(p:lI e B n 0 m q)(b:e.ownsRow 0 183 4 (M (V (Q o 0 G)) (U m) cap) (U m) n)(C:d<U m):
  lI (e.setCell ⟨o,d*4+3,G⟩ (ρ D8 k)) B (n.set (d*4+3) (ρ D8 k)) 0 m (λa=>if a=d then k else q a):=by
 have:U n=U m*4:=b.1;intro a r s;obtain⟨t,u,c,f,g,i,j,v,w,x,y⟩:=p a r s;rw[μ]at c f g i;refine⟨t,u, ?_, ?_, ?_, ?_,aD j λ_ z=>Below.heap_setCell _ _ _ _ (Qs j b z),v,w,x,y⟩
 ·rw[μ,Γ I];exact c
 ·rw[μ,Γ I];exact f
 ·rw[μ,Γ I];exact g
 rw[μ];by_cases l:a=d
 ·subst l;rw[show 4*a+3=a*4+3 by omega,List.getElem?_set_self I];simp only[if_true]
 rw[Γ I];simp only[ζ l];exact i
theorem lI.grown{x:A2}(c:lI e B n d m q)(f:∀a,a<E (D e)->x.heap[a]? =e.heap[a]?):lI x B n d m q:=by
 intro g i j;obtain⟨k,l,o,p,r,s,b,t⟩:=c g i j;exact⟨k,l,o,p,r,s,aD b λa u=>f a (b.lt a u).2,t⟩
theorem lI.congr{l}(f:lI e B n d l q)(c:∀a,a<U l->q a=L a):lI e B n d l L:=by
 intro a g b;obtain⟨i,j,k,m,o,p,r⟩:=f a g b;exact⟨i,j,k,m,o,by rw[<-c a (η.mp b).1];exact p,r⟩
def nM(atoi:Bs->A)(ps:Sc)(fns:σ Fn)(l:σ Tr)(i j:C4):A:=if j<i then(match l[j]? with|none=>0|some t=>tyR (bO atoi ps fns t))else 0
theorem Sd{atoi:Bs->A}{ps fns}(e:d<U m)(a):(if a=d then tyR (bO atoi ps fns m[d])else nM atoi ps fns m d a)=nM atoi ps fns m (d+1) a:=by
 unfold nM;by_cases b:a=d
 ·subst b;rw[κ J,κ I,α e]
 rw[ζ b];by_cases c:a<d
 ·rw[κ c,κ I]
 rw[ζ c,ζ I]
theorem Vk{atoi:Bs->A}{ps fns ops}(f:∀b∈ops,∃c,bO atoi ps fns b=.ok c):∃d,dN atoi ps fns ops=.ok d/\U d=U ops/\∀(a:C4) (b:Tr),ops[a]? =V b->∃c,d[a]? =V c/\bO atoi ps fns b=.ok c:=by
 induction ops with
 |nil=>exact⟨[],J,J,λa b f=>by simp at f⟩
 |cons b m ih=>
  obtain⟨c,i⟩:=f b (Φ ..);obtain⟨d,j,k,l⟩:=ih λg e=>f g (ω _ e);refine⟨c::d,by rw[dN,i,j],by simp[k],λa g e=>?_⟩
  cases a with
  |zero=>simp at e;subst e;exact⟨c,J,i⟩
  |succ a=>simpa using l a g (by simpa using e)
mutual
theorem NZ{d:Tr} :∀ {c a:Tr},a∈D2 c->d∈dm a.ops->d∈D2 c
 | .mk k tx br ops,a,hT,hy=>by
  rw[D2]at hT ⊢;rcases A3.mp hT with b|b
  ·exact ι _ (Il b hy)
  rw[D3.mp b]at hy;exact ι _ hy
theorem Il{d:Tr} :∀ {c:σ Tr} {a:Tr},a∈dm c->d∈dm a.ops->d∈dm c
 | [],a,hT,hy=>by simp[dm]at hT
 |t::c,a,hT,hy=>by
  rw[dm]at hT ⊢;rcases A3.mp hT with b|b
  ·exact ι _ (NZ b hy)
  exact A4 _ (Il b hy)
end
theorem sU(a):0<U (D2 a):=A1 (γ (fQ a))
theorem Ik:∀a:σ Tr,U a<=U (dm a)
 | []=>D1 _
 |t::a=>by
  rw[dm,B1,D9];have:=sU t;have:=Ik a;omega
mutual
theorem wm:∀ {c a:Tr},a∈D2 c->U a.ops<=U (D2 c)
 | .mk k tx br ops,a,hT=>by
  rw[D2]at hT ⊢;rw[B1];rcases A3.mp hT with b|b
  ·have:=zI b;omega
  rw[D3.mp b];have:=Ik ops;show U ops<=_;omega
theorem zI:∀ {c:σ Tr} {a:Tr},a∈dm c->U a.ops<=U (dm c)
 | [],a,hT=>by simp[dm]at hT
 |t::c,a,hT=>by
  rw[dm]at hT ⊢;rw[B1];rcases A3.mp hT with b|b
  ·have:=wm b;omega
  have:=zI b;omega
end
def aex(atoi:Bs->A)(ps:Sc)(fns:σ Fn)(t:Tr)(w:A2)(g cap:C4)(e:Ending)(w':A2):Prop:=w.grownBy w' (V g)/\
 ((∃n:A,bO atoi ps fns t=.error n/\n≠0/\e=.returned (ρ B2 n))\/
  (∃(x:Ex) (cs:σ Value),bO atoi ps fns t=.ok x/\e=.returned (ρ B2 0)/\w'.ownsRow 0 183 4 (M (V ⟨g,0,G⟩) (U (D2 t)) cap) (U (D2 t)) cs/\lI w' (λ_=>True) cs 0 (D2 t) (nM atoi ps fns (D2 t) (U (D2 t)))))
def WS(atoi:Bs->A)(ps:Sc)(fns:σ Fn)(l:σ Tr)(W:A2)(g cap:C4)(i:C4)(wr:A2):Prop:=∃cs:σ Value,
 i<=U l/\W.grownBy wr (V g)/\wr.ownsRow 0 183 4 (M (V ⟨g,0,G⟩) (U l) cap) (U l) cs/\lI wr (λ_=>True) cs 0 l (nM atoi ps fns l i)/\(∀j,j<i->∀t,l[j]? =V t->∃x,bO atoi ps fns t=.ok x)
theorem Kw(N:Bs->A){aS:D0 Addr}{args:Bs}(e6:qP F y p o aS z x (M u v s) i.1 b)(w4:U args<=D6)(h1:tN i args b)(e8:Bl F e){cap:C4}(E':E (D F)<=d)(K:e.ownsRow 0 183 4 (M (V (Q d 0 G)) (U (post j)) cap) (U (post j)) n)(a2:lI e (λ_=>True) n 0 (post j) (λ_=>0))(j5:∀a7∈post j,U a7.tx<=D6)(X:U (post j)<=1000):
  B0 B9 191 #[E6 #[M y p o,M aS z x,Y (H args),M u v s],E6 #[M (V (Q d 0 G)) (U (post j)) cap]] e λc7 a'=>aex N i (RF.list b) j e d cap c7 a':=by
 obtain⟨a8,e7⟩:=au ((e.alloc (ε #[M y p o,M aS z x,Y (H args),M u v s] 214)).alloc (ε #[M (V (Q d 0 G)) (U (post j)) cap] 102));have e2:(e.alloc (ε #[M y p o,M aS z x,Y (H args),M u v s] 214)).alloc (ε #[M (V (Q d 0 G)) (U (post j)) cap] 102)=a8:=e7.symm;have a4:Bl e a8:=by rw[e7];exact aV e _ _
 have x7:a8.heap[E (D e)]? =V (ε #[M y p o,M aS z x,Y (H args),M u v s] 214 (0,0)):=by rw[e7,D7 _ _ _ ek];exact θ e _
 have q7:a8.heap[E (D e)+1]? =V (ε #[M (V (Q d 0 G)) (U (post j)) cap] 102 (0,0)):=by
  rw[e7];have:=θ (e.alloc (ε #[M y p o,M aS z x,Y (H args),M u v s] 214)) (ε #[M (V (Q d 0 G)) (U (post j)) cap] 102);rw[ψ]at this;exact this
 have T':E (D a8)=E (D e)+2:=by rw[e7];simp[ψ]
 have G':d<E (D e):=(K.lt d J).2;have h2:∀a7∈post j,kg a7:=by
  intro a7 e0;obtain⟨m,c2⟩:=A6 e0;obtain⟨_,_,_,_,_,_,_,_,_,v4,_⟩:=a2 m a7 c2;exact v4
 obtain⟨q,m4⟩:=au (post j);have b4:Z (q=post j):=m4;rw[<-m4]at K a2 j5 X h2 q7 e2 ⊢;have o9:WS N i (RF.list b) q a8 d cap 0 a8:=by
  refine⟨n,B7 _,⟨J,J,J,D1 _,λ_ _ _=>rfl⟩,aD K λr l=>a4.block r (K.lt r l).2,(a2.ah a4).congr (λm _=>by rw[nM,ζ I]),λm c2=>I⟩
 have r4:e.grownBy a8 (V d):=⟨a4.os,a4.tape,a4.output,a4.size,λr l _=>a4.block r l⟩;clear e7 m4 K a2;go_enter func191,ntmps191;go_wp2_with fail
 try rw[e2]
 clear e2;go_loopg [5] (U q) (λgk y9 wr=>∃f:C4,gk=U q-f/\y9=ρ B2 f/\WS N i (RF.list b) q a8 d cap f wr)
 ·exact⟨0,J,J,o9⟩
 clear o9;generalize y5:wr=wo at*;clear y5;obtain⟨f,x4,rfl,n,I',a1,K,a2,c9⟩:=hrel;subst x4;have w0:=(a1.block (E (D e)) I aN).trans x7;have v8:=(a1.block (E (D e)+1) I aN).trans q7;have U':=a1.size;have p7:Bl F wo:=by
  refine⟨a1.os.trans (a4.os.trans e8.os),a1.tape.trans (a4.tape.trans e8.tape),a1.output.trans (a4.output.trans e8.output), ?_,λr l=>?_⟩
  ·have:=e8.size;omega
  have:=e8.size;rw[a1.block r I aN,a4.block r I,e8.block r l]
 obtain⟨⟨z0,z1,z2,z3⟩,_⟩:=bM w0;obtain⟨p0,_⟩:=rM v8;by_cases h4:f<U q
 ·obtain⟨a,S⟩:=au (q[f]);have i8:q[f]? =V a:=by rw[S];exact α h4
  obtain⟨u2,h6,n4,n5,n6,j8,g4,_,s8,n7,j9⟩:=a2 f a i8;rw[μ]at n4 n5 n6 j8;have i6:E (D e)<E (D wo):=I;have v9:E (D e)+1<E (D wo):=I;have X':β wo ⟨d,f*4,G⟩=V (Y (H a.tx)):=(K.cellAt (f*4) I).trans (by rw[ν];exact n4);have u0:β wo ⟨d,f*4+1,G⟩=V (A5 a.br):=(K.cellAt (f*4+1) I).trans (by rw[ν];exact n5);have Y':β wo ⟨d,f*4+2,G⟩=V u2:=(K.cellAt (f*4+2) I).trans (by rw[ν];exact n6);have p5:nM N i (RF.list b) q f f=0:=by rw[nM,ζ I]
  rw[p5]at j8;have z5:β wo ⟨d,f*4+3,G⟩=V (ρ D8 0):=(K.cellAt (f*4+3) I).trans (by rw[ν];exact j8);have r5:d<E (D wo):=I;have C':U q<=cap:=by
   rcases K.2 with⟨T,_⟩|⟨_,_,_,T,_,_,c8,_⟩
   ·cases T
   cases T;exact c8
  have j0:a∈post j:=by rw[<-b4.out,S];exact List.getElem_mem h4
  have w2:U a.tx<=D6:=j5 a (by rw[b4.out];exact j0);have w1:kg a:=n7;have i0:∀L:A,bO N i (RF.list b) a=.error L->bO N i (RF.list b) j=.error L:=by
   intro L a5;refine NY j (q.take f) a (q.drop (f+1)) L (λa7 e0=>h2 a7 (by rw[b4.out];exact e0)) ?_ (λo1 b1=>?_) a5
   ·rw[<-b4.out,S,<-Ω h4,List.take_append_drop]
   obtain⟨m,c2⟩:=A6 b1;have r7:m<f:=by
    have:=(η.mp c2).1;rw[B5]at this;omega
   rw[List.getElem?_take,κ r7]at c2;exact c9 m r7 o1 c2
  have i1:∀(c:Ex) (L:A) (R:A2),bO N i (RF.list b) a=.ok c->pQ c.ty=L->Bl wo R->WS N i (RF.list b) q a8 d cap (f+1) (R.setCell ⟨d,f*4+3,G⟩ (ρ D8 L)):=by
   intro c L R C a5 c1;have i7:R.ownsRow 0 183 4 (M (V (Q d 0 G)) (U q) cap) (U q) n:=aD K λr l=>c1.block r (K.lt r l).2;obtain⟨a6,b2⟩:=i7.stored (f*4+3) (ρ D8 L);refine⟨_,I,aO (aO a1 (bU c1)) b2,a6,((a2.grown λr l=>c1.block r l).stored i7 h4).congr (λm _=>?_),λm c2 o1 b1=>?_⟩
   ·have:=Sd (atoi:=N) (ps:=i) (fns:=RF.list b) h4 m;rw[<-this,<-S,C];show(if m=f then L else _)=(if m=f then pQ c.ty else _);rw[a5]
   rcases Nat.lt_or_ge m f with e6|e6
   ·exact c9 m e6 o1 b1
   have:m=f:=I;subst this;rw[i8]at b1;cases b1;exact⟨c,C⟩
  have b7:∀R:A2,Bl wo R->World.frozen? R ⟨d,f*4+3,G⟩=ξ/\β R ⟨d,f*4+3,G⟩=V (ρ D8 0)/\β R ⟨E (D e)+1,0,G⟩=V (M (V (Q d 0 G)) (U q) cap):=by
   intro R c1;have i7:R.ownsRow 0 183 4 (M (V (Q d 0 G)) (U q) cap) (U q) n:=aD K λr l=>c1.block r (K.lt r l).2;exact⟨i7.frozenAt _,cK c1 r5 z5,cK c1 (by show E (D e)+1<_;omega) p0⟩
  have s6:∃a9 g3 b0,u2=M a9 g3 b0:=by
   rcases g4.2 with⟨rfl,_⟩|⟨i4,v0,v1,rfl,_⟩<;>exact⟨_,_,_,J⟩
  have i5:e.grownBy wo (V d):=aO r4 a1;have g7:qP wo y p o aS z x (M u v s) i.1 b:=e6.ah p7;clear n4 n5 n6 j8 p5
  cases j1:a.br with
  |false=>
   rw[j1]at u0;obtain⟨a6,b2⟩:=Hy N h1 (RF.list b) w1 j1;obtain⟨a9,g3,b0,rfl⟩:=s6;have o6:=CO (g7.ah (ai wo (ε #[Y (H a.tx),A5 ξ,M a9 g3 b0,ρ D8 0] 183))) w4 w2;obtain⟨L,a5⟩:=au (rY i.1 args a.tx);rw[<-a5]at o6 a6;change Z _ at a6;change Z _ at b2;have e4:Z _:=i0;have g6:Z _:=i1;have e5:Z _:=i5;clear a5 i0 i1 K a2 c9 g4 s8 n7 j9 i8 S i5 h2 j5 g7 p7 a1;go_wp2_with(go_at_call 245;refine cB o6 ?_;rintro b3 w5;have k8:=(ai wo (ε #[Y (H a.tx),A5 ξ,M a9 g3 b0,ρ D8 0] 183)).trans (w5.mono ak);obtain⟨o2,o3,u3⟩:=b7 b3 k8)
   ·have W:L=0:=by rename_i l;simpa using l
    have t:bO N i (RF.list b) a=.error 2:=by
     rcases b2.out with⟨c,C,n0⟩|t
     ·have b9:=a6.out;rw[C,W]at b9;exact E1 b9 (JU n0)
     exact t
    go_ret;exact⟨aO e5 (bU k8),B3 ⟨2,e4 2 t,ag,J⟩⟩
   have W:L≠0:=by rename_i l;simpa using l
   obtain⟨c,C⟩:∃c,bO N i (RF.list b) a=.ok c:=by
    rcases b2.out with⟨c,C,_⟩|t
    ·exact⟨c,C⟩
    have b9:=a6.out;rw[t]at b9;exact E1 b9.symm W
   have a5:pQ c.ty=L:=by have b9:=a6.out;rw[C]at b9;exact b9
   go_roundg (U q-(f+1))
   case measure=>omega
   exact⟨f+1,J,aP,g6 c L b3 C a5 k8⟩
  |true=>
   rw[j1]at u0;obtain⟨g,m2,w9,q8⟩:=Vk (atoi:=N) (ps:=i) (fns:=RF.list b) (ops:=a.ops) (λa7 e0=>by
    obtain⟨B,X⟩:=A6 e0;have J':=(η.mp X).1;have l:=α (l:=h6) (i:=B) I;obtain⟨h7,_,m9,m6⟩:=j9 B _ l;exact c9 h7 m9 a7 (by rw[m6,X]))
   have m3:∀c∈g,fA c.ty:=yL h1 a.ops g (λa7 e0=>h2 a7 (by
    rw[b4.out];exact NZ j0 e0)) m2
   have i9:∃k,a=.mk k a.tx Ξ a.ops:=⟨a.kd,by obtain⟨k,tx,k',z4⟩:=a;cases j1;rfl⟩;obtain⟨k,i9⟩:=i9;have p9:=aaJ h1 (k:=k) (tx:=a.tx) m2 m3;rw[<-i9]at p9;obtain⟨_,q0,q1⟩:=p9;have q5:∀(B:C4) (X:B<U a.ops),∃(r:C4),h6[B]? =V r/\r<f/\β wo ⟨d,r*4+3,G⟩=V (ρ D8 ((Eo (g[B]' I).ty).toNat:A)):=by
    intro B X;have l:=α (l:=h6) (i:=B) I;obtain⟨h7,s3,m9,m6⟩:=j9 B _ l;rw[μ]at s3;have g1:q[h7]? =V a.ops[B]:=by rw[m6];exact α X
    obtain⟨c,n2,y6⟩:=q8 B _ (α X);obtain⟨_,_,_,_,_,g8,_⟩:=a2 h7 _ g1;rw[μ]at g8;have n0:nM N i (RF.list b) q f h7=((Eo (g[B]' I).ty).toNat:A):=by
     have y8:g[B]' I=c:=by rw[α I]at n2;exact Ψ n2
     rw[nM,κ m9,g1,y8];show tyR (bO N i (RF.list b) a.ops[B])=_;rw[y6];exact((Ym (m3 c (γ n2))).1).symm
    exact⟨h6[B]' I,l,I,(K.cellAt _ I).trans (by rw[s3,ν,g8,n0])⟩
   obtain⟨a9,g3,b0,rfl⟩:=s6;have j6:g3=U a.ops/\(a.ops= []\/∃O,a9=V (Q O 0 G)/\O<E (D wo)/\U a.ops<=b0/\∀(B r:C4),h6[B]? =V r->β wo (Q O B G)=V (ρ B2 (r:A))):=by
    rcases g4.2 with⟨T,W⟩|⟨i4,v0,v1,T,_,A',w8,_⟩
    ·cases T;exact⟨W.symm,B3 (C5.mp W)⟩
    cases T;refine⟨J,C6 ⟨i4,J,(g4.lt i4 J).2,w8,λB r l=>?_⟩⟩;have:=g4.cells (g:=i4) J B (ρ B2 (r:A)) (by simp[l]);rw[E4]at this;simpa using this
   obtain⟨rfl,j6⟩:=j6;have N':U a.ops<=1000:=by
    have v3:=wm j0;rw[<-b4.out]at v3;omega
   have g6:Z _:=i1;have e4:Z _:=i0;have e5:Z _:=i5;have a6:Z _:=q0;have b2:Z _:=q1;change Z _ at q5;change Z _ at j6;have o7:Z (U g=U a.ops):=w9;clear q0 q1 i0 i1 K a2 c9 g4 s8 n7 j9 i8 S i5 h2 j5 a1 m2 m3 q8 i9 j0;obtain⟨b5,h3⟩:=au (wo.alloc (ε #[Y (H a.tx),A5 Ξ,M a9 (U a.ops) b0,ρ D8 0] 183));have e2:Z (wo.alloc (ε #[Y (H a.tx),A5 Ξ,M a9 (U a.ops) b0,ρ D8 0] 183)=b5):=h3.symm;have h0:Bl wo b5:=by rw[h3];exact ai wo _
   have y7:b5.heap[E (D wo)]? =V (ε #[Y (H a.tx),A5 Ξ,M a9 (U a.ops) b0,ρ D8 0] 183 (0,0)):=by rw[h3];exact θ wo _
   have R':E (D b5)=E (D wo)+1:=by rw[h3];simp[ψ]
   clear h3;have s':=h0.size;have c5:∀c:A2,Bl b5 c->(β c (Q (E (D wo)) 0 G)=V (Y (H a.tx))/\β c (Q (E (D wo)) 2 G)=V (M a9 (U a.ops) b0))/\(β c (Q (E (D e)) 0 G)=V (M y p o)/\β c (Q (E (D e)) 1 G)=V (M aS z x)/\β c (Q (E (D e)) 2 G)=V (Y (H args))/\β c (Q (E (D e)) 3 G)=V (M u v s))/\β c ⟨E (D e)+1,0,G⟩=V (M (V (Q d 0 G)) (U q) cap):=by
    intro c C;have s7:=(C.block (E (D wo)) I).trans y7;have a0:Bl wo c:=bT h0 C;exact⟨⟨aC s7,aC s7⟩,⟨cK a0 i6 z0,cK a0 i6 z1,cK a0 i6 z2,cK a0 i6 z3⟩,cK a0 v9 p0⟩
   have j3:U (bz g)=U a.ops:=by rw[bz,List.length_map];exact o7
   go_wp2_with fail;rw[e2.out];clear e2;go_loopw [8,9] (λz9 n3 R=>∃m:C4,m<=U a.ops/\n3=ρ B2 m/\z9=Y (H ((bz g).take m))/\Bl b5 R) (λ_ n3 _=>U a.ops-(E7 n3).toNat)
   ·exact⟨0,B7 _,J,J,B8 _ _⟩
   obtain⟨m,c2,rfl,rfl,a0⟩:=hrel;obtain⟨⟨k1,k2⟩,⟨k3,k4,k5,k6⟩,k7⟩:=c5 wr a0;have V':=a0.size;by_cases g0:m<U a.ops
   ·rcases j6.out with e6|⟨O,rfl,w7,B',q6⟩
    ·rw[e6]at g0;simp at g0
    obtain⟨r,l,O',s2⟩:=q5.out m g0;have p8:Bl wo wr:=bT h0 a0;have j':β wr (Q O m G)=V (ρ B2 (r:A)):=cK p8 w7 (q6 m r l);have u9:=cK p8 r5 s2;have c1:O<E (D wr):=I;have H':d<E (D wr):=I;have u':E (D e)+1<E (D wr):=I;have w3:E (D wo)<E (D wr):=I;have P':r<U q:=I;have r6:m<U g:=cz o7.out;obtain⟨b8,c8⟩:=au (Eo (g[m]'r6).ty);rw[<-c8]at u9;have u6:Z (H ((bz g).take m)++⟨#[b8]⟩=H ((bz g).take (m+1))):=by
     rw[Z,B4 (by rw[j3];exact g0)];have:(bz g)[m]'(by rw[j3];exact g0)=b8:=by rw[c8];simp[bz]
     rw[this];apply ByteArray.ext;rw[ByteArray.data_append];simp[H]
    have y2:(H ((bz g).take m)).size=m:=by rw[aX,B5,j3];omega
    have q4:(convert 174 9 (M (V (Q (E (D wr)) 0 G)) 1 1)).run B9 (wr.alloc (ε #[ρ D8 (b8.toNat:A)] 5)).drew=.ok (Y ⟨#[b8]⟩) (wr.alloc (ε #[ρ D8 (b8.toNat:A)] 5)).drew:=run_convert_bytes_back (P:=B9) (wr.alloc (ε #[ρ D8 (b8.toNat:A)] 5)).drew 174 9 5 (Q (E (D wr)) 0 G) 1 [b8] underlying174 underlying5 underlying9 (by
     intro B X;have x8:B=0:=by simp at X;exact X
     subst x8;exact aC (θ wr _))
    have K':¬9223372036854775807<(H ((bz g).take m)).size+(ByteArray.mk #[b8]).size:=by
     rw[y2];show¬9223372036854775807<m+1;omega
    clear q6 s2 l c8;go_wp2_with fail;go_region;all_goals(try go_wp2_with fail)
    go_roundw
    ·exact⟨m+1,I,aP,by rw[u6.out],(a0.alloc a0.size _).drew⟩
    simp[E7];omega
   have r6:m=U a.ops:=I;subst r6;have s5:(bz g).take (U a.ops)=bz g:=C7 I;rw[s5];have w':E (D e)<E (D wr):=I;have w3:E (D wo)<E (D wr):=I;have v7:Bl wo wr:=bT h0 a0;obtain⟨p1,b6⟩:=au (dG (RF.list b) a.tx);have o8:B0 B9 66 #[E6 #[M y p o,M aS z x,Y (H args),M u v s],Y (H a.tx)] wr (RB (ρ B2 (Hw p1)) wr):=by
    rw[b6];exact mi (g7.ah v7).fns a.tx
   change Z _ at b6;obtain⟨g5,g1⟩:=au (bC jX a.tx);obtain⟨h8,n1⟩:=au (bC lu a.tx);have o4:Z (dU a.tx=(g5||h8)):=by rw[Z,BA,g1,n1,rQ]
   have k9:∀(c:A2) (O:C4),c.heap[O]? =V (ε (jX.map λj=>Y (H j)).toArray 9 (0,0))->B0 B9 113 #[M (V (Q O 0 G)) 7 7,Y (H a.tx)] c (RE (A5 g5) c):=by
    intro c O l9;rw[g1];exact CY 7 J I l9 a.tx
   have h9:∀(c:A2) (O:C4),c.heap[O]? =V (ε (lu.map λj=>Y (H j)).toArray 9 (0,0))->B0 B9 113 #[M (V (Q O 0 G)) 8 8,Y (H a.tx)] c (RE (A5 h8) c):=by
    intro c O l9;rw[n1];exact CY 8 J I l9 a.tx
   have l1:=Bf;have i2:=zV;obtain⟨n9,m7⟩:=au (ε (jX.map λj=>Y (H j)).toArray 9);obtain⟨o0,m8⟩:=au (ε (lu.map λj=>Y (H j)).toArray 9);rw[<-m7]at k9;rw[<-m8]at h9;simp only[<-m7]at l1;simp only[<-m8]at i2;clear g1 n1 m7 m8 s5 g0;go_upto_region 16 with(go_at_call 66;refine cB o8 ?_;rintro e1 q2)
   have p6:Bl b5 e1:=bT a0 q2;obtain⟨⟨b',c'⟩,⟨d',e',f',g'⟩,h'⟩:=c5 e1 p6;have x':E (D wo)<E (D e1):=cz q2.size;clear o8 k1 k2 k3 k4 k5 k6 k7;go_cut [11] (λz7 R=>z7=A5 g5/\Bl e1 R)
   ·clear h9 i2 c5 b7;go_region_with(first
     |(go_at_call 178;refine(l1 _).mono ?_;rintro c7 b3 ⟨rfl,rfl⟩)
     |(go_at_call 113;refine(k9 _ _ ?_).mono ?_;(first|exact θ _ _|exact θ e1 n9);rintro c7 P ⟨rfl,rfl⟩))
    all_goals(go_wp2;go_meet)
    all_goals exact⟨J,by first|exact ai e1 n9|exact(ai e1 n9).drew⟩
   obtain⟨rfl,v5⟩:=hcut;have l7:Bl b5 wc:=bT p6 v5;clear b' c' d' e' f' g' h' k9 l1;generalize y3:wc=b3 at*;clear y3;obtain⟨⟨k1,k2⟩,⟨k3,k4,k5,k6⟩,k7⟩:=c5 b3 l7;have y':E (D wo)<E (D b3):=cz l7.size;go_upto_region 17 with fail
   go_cut [12] (λz8 R=>z8=A5 h8/\Bl b3 R)
   ·clear c5 b7;go_region_with(first
     |(go_at_call 114;refine(i2 _).mono ?_;rintro c7 P ⟨rfl,rfl⟩)
     |(go_at_call 113;refine(h9 _ _ ?_).mono ?_;(first|exact θ _ _|exact θ b3 o0);rintro c7 k0 ⟨rfl,rfl⟩))
    all_goals(go_wp2;go_meet)
    all_goals exact⟨J,by first|exact ai b3 o0|exact(ai b3 o0).drew⟩
   obtain⟨rfl,v6⟩:=hcut;have l8:Bl b5 wc:=bT l7 v6;clear k1 k2 k3 k4 k5 k6 k7 h9 i2;generalize y4:wc=P at*;clear y4;obtain⟨⟨k1,k2⟩,⟨k3,k4,k5,k6⟩,k7⟩:=c5 P l8;have c0:Bl wo P:=bT h0 l8;obtain⟨o2,o3,_⟩:=b7 P c0;have S':=l8.size;have z':E (D wo)<E (D P):=I;have v':E (D e)<E (D P):=I;have t':E (D e)+1<E (D P):=I;have x3:d<E (D P):=I;have u5:Z (qP P y p o aS z x (M u v s) i.1 b):=g7.ah c0;change Z _ at b7;clear c5 g7
   cases p1 with
   |none=>
    have x6:Hw G= -1:=J
    cases e9:(g5||h8)with
    |false=>
     rw[Δ]at e9;obtain⟨rfl,rfl⟩:=e9;have t:mJ b a.tx (bz g)=2:=by rw[mJ,<-b6.out,o4.out];rfl
     have e3:Z (bO N i (RF.list b) a=.error 2):=by rw[Z,<-t];exact b2 (by rw[t];decide)
     clear t
     go_wp2
     go_ret;exact⟨aO e5 (bU c0),B3 ⟨2,e4 2 e3,ag,J⟩⟩
    |true=>
     have m1:dU a.tx=Ξ:=by rw[o4.out];exact e9
     have l0:B0 B9 246 #[Y (H a.tx),Y (H (bz g))] P (RB (ρ D8 (ML a.tx (bz g))) P):=by
      have:=CR m1 (H (bz g)) P (by rw[aX,j3];unfold D6;omega);rw[ay]at this;exact this
     have S:DL b a.tx (bz g)=ML a.tx (bz g):=by rw[DL,<-b6.out]
     have t:mJ b a.tx (bz g)=if ML a.tx (bz g)=0 then 3 else 0:=by rw[mJ,<-b6.out,m1,S];rfl
     obtain⟨L,a5⟩:=au (ML a.tx (bz g));rw[<-a5]at l0 S t;have c6:Z _:=S;have a3:Z _:=t;have q3:g5=ξ->h8=Ξ:=by intro c7;rw[c7]at e9;simpa using e9
     clear a5 S t m1 e9
     cases g5 with
     |true=>
      clear q3;go_wp2_with(go_at_call 246;refine cB l0 ?_;rintro k0 m0;have c4:=bT c0 m0;obtain⟨o2,o3,u3⟩:=b7.out k0 c4)
      ·have W:L=0:=by rename_i l;simpa using l
       have t:mJ b a.tx (bz g)=3:=by rw[a3.out,κ W]
       go_ret;exact⟨aO e5 (bU c4),B3 ⟨3,e4 3 (by rw[<-t];exact b2 (by rw[t];decide)),ag,J⟩⟩
      have W:L≠0:=by rename_i l;simpa using l
      obtain⟨c,C,c3⟩:=a6.out (by rw[a3.out,ζ W]);rw[c6.out]at c3
      go_roundg (U q-(f+1))
      case measure=>omega
      exact⟨f+1,J,aP,g6 c _ _ C c3 c4⟩
     |false=>
      obtain rfl:=q3 J;go_wp2_with(go_at_call 246;refine cB l0 ?_;rintro k0 m0;have c4:=bT c0 m0;obtain⟨o2,o3,u3⟩:=b7.out k0 c4)
      ·have W:L=0:=by rename_i l;simpa using l
       have t:mJ b a.tx (bz g)=3:=by rw[a3.out,κ W]
       go_ret;exact⟨aO e5 (bU c4),B3 ⟨3,e4 3 (by rw[<-t];exact b2 (by rw[t];decide)),ag,J⟩⟩
      have W:L≠0:=by rename_i l;simpa using l
      obtain⟨c,C,c3⟩:=a6.out (by rw[a3.out,ζ W]);rw[c6.out]at c3
      go_roundg (U q-(f+1))
      case measure=>omega
      exact⟨f+1,J,aP,g6 c _ _ C c3 c4⟩
   |some g2=>
    obtain⟨m',r0,_⟩:=nS b6.symm;have j2:=r0;rw[RF.list,ο]at j2;obtain⟨w,h5⟩:∃w,b[g2]? =V w:=by
     cases l:b[g2]? with
     |none=>rw[l]at j2;cases j2
     |some w=>exact⟨w,J⟩
    have r8:g2<U b:=(η.mp h5).1;have s4:=γ h5;have w6:dU a.tx=ξ:=by
     obtain⟨n',x0,x9⟩:=nS b6.symm;have X:=γ x0;rw[RF.list,A0]at X;obtain⟨z6,y1,rfl⟩:=X;rw[<-x9];exact h1.free z6 y1
    have S:DL b a.tx (bz g)=pO (bz g==w.args) (pQ w.fn.body.ty):=by simp only[DL,<-b6.out,h5]
    have t:mJ b a.tx (bz g)=if pO (bz g==w.args) (pQ w.fn.body.ty)=0 then 3 else 0:=by rw[mJ,<-b6.out,S];rfl
    have j4:pQ w.fn.body.ty≠0:=JU (h1.fty w s4);obtain⟨p',r',x2,x1,r3⟩:=u5.out.fns
    cases x2;obtain⟨q',rfl,D',r1⟩:∃O,u=V (Q O 0 G)/\O<E (D P)/\∀(f:C4) (u1:RF),b[f]? =V u1->Dr P O f u1:=by
     rcases r3 with T|T
     ·rw[T]at r8;simp at r8
     exact T
    obtain⟨g9,l4,l',Z',_,o',v2,_,_,s1,i3,p2,p3⟩:=r1 g2 w h5;have y0:0<U (post w.t):=A1 (γ (fQ w.t));have m5:β P ⟨g9,(U (post w.t)-1)*4+3,G⟩=V (ρ D8 (pQ w.fn.body.ty)):=by
     obtain⟨_,_,_,_,_,g8,_⟩:=p2 _ _ (fQ w.t);rw[μ,p3]at g8;exact(i3.cellAt _ I).trans (by rw[ν];exact g8)
    have F':g9<E (D P):=(i3.lt g9 J).2;have q4:U (post w.t)<=l4:=by
     rcases i3.2 with⟨T,_⟩|⟨_,_,_,T,_,_,c8,_⟩
     ·cases T
     cases T;exact c8
    obtain⟨j7,r9⟩:∃j7,U (post w.t)=j7+1:=⟨U (post w.t)-1,I⟩;rw[r9]at v2 m5 q4 s1;rw[Nat.add_sub_cancel]at m5;obtain⟨s9,s0⟩:=au (pQ w.fn.body.ty);rw[<-s0]at m5 S t j4;have c6:Z _:=S;have a3:Z _:=t;have L':(H (bz g)).toList=bz g:=ay;have M':(H w.args).toList=w.args:=ay;have x6:Hw (V g2)=(g2:A):=J;have Q':U b<=8:=x1;have o5:Z (∀n8:Obj,Bl wo (P.alloc n8)):=λn8=>c0.alloc c0.size n8;clear S t s0 r9 i3 p2 p3 r1 r3 r0 j2 h5 s4 w6 y0
    cases q9:(bz g==w.args)with
    |true=>
     rw[q9]at c6 a3;have u7:Z (DL b a.tx (bz g)=s9):=c6;have e3:Z (mJ b a.tx (bz g)=0):=by rw[Z,a3.out];exact ζ j4
     have W':(s9==0)=ξ:=by simpa using j4
     obtain⟨A9,A8,A7⟩:=b7.out _ (o5 (ε #[M (V (Q g9 0 G)) (j7+1) l4] 102));clear c6 a3 j4;go_wp2_with fail;obtain⟨c,C,c3⟩:=a6.out e3;rw[u7.out]at c3
     go_roundg (U q-(f+1))
     case measure=>omega
     have r2:=g6.out c _ _ C c3 (o5 (ε #[M (V (Q g9 0 G)) (j7+1) l4] 102));rw[World.setCell_alloc_past _ _ _ _ x3]at r2;exact⟨f+1,J,aP,r2⟩
    |false=>
     rw[q9]at a3;have e3:Z (mJ b a.tx (bz g)=3):=by rw[Z,a3.out];rfl
     clear c6 a3
     go_wp2
     go_ret;exact⟨aO e5 (bU c0),B3 ⟨3,e4 3 (by have p4:=b2.out (by rw[e3.out];decide);rw[e3.out]at p4;exact p4),ag,J⟩⟩
 have x5:f=U q:=I;subst x5;have b1:=fQ j;rw[<-b4.out]at b1;have s1:0<U q:=A1 (γ b1);obtain⟨c,C⟩:=c9 (U q-1) I j b1;have u4:Z (aex N i (RF.list b) j e d cap (.returned (ρ B2 0)) wo):=⟨aO r4 a1,C6 ⟨c,n,C,J,by rw[<-b4.out];exact K,by rw[<-b4.out];exact a2⟩⟩;clear C b1 c9 K a2
 go_wp2
 go_ret;exact u4
def xZ(rfs:σ RF)(o:D0 C4):A:=match o with|none=>0|some i=>match rfs[i]? with|none=>0|some r=>r.fn.body.size
def KO(rfs:σ RF)(t:Tr):A:=if t.br then xZ rfs (dG (RF.list rfs) t.tx)else 0
theorem Ha{args}(e:tN i args b)(c:dU a=Ξ):dG (RF.list b) a=G:=by
 cases f:dG (RF.list b) a with
 |none=>rfl
 |some m=>
  obtain⟨_,g,j⟩:=nS f;have d:=γ g;rw[RF.list,A0]at d;obtain⟨k,l,rfl⟩:=d;rw[<-j,e.free k l]at c;cases c
theorem OV{args}(e:tN i args b)(a):KO b a=Qm (RF.list b) a:=by
 unfold KO Qm
 cases j:a.br with
 |false=>rfl
 |true=>
  cases f:dU a.tx with
  |true=>rw[Ha e f];rfl
  |false=>
   rw[κ J];show _=(match dG (RF.list b) a.tx with|none=>(0:A)|some c=>match(RF.list b)[c]? with|none=>0|some d=>d.body.size);unfold xZ
   cases dG (RF.list b) a.tx with
   |none=>rfl
   |some c=>
    show(match b[c]? with|none=>(0:A)|some g=>g.fn.body.size)=(match(RF.list b)[c]? with|none=>0|some d=>d.body.size);rw[RF.list,ο]
    cases b[c]? <;>rfl
theorem ZH{args}(c:tN i args b)(a):0<=KO b a/\KO b a<=300:=by
 unfold KO xZ;split
 ·split
  ·omega
  split
  ·omega
  next e d=>exact c.OJ e (γ d)
 omega
theorem abT{args}(c:tN i args b)(a:σ Tr):0<=pU (a.map (KO b))/\pU (a.map (KO b))<=300*U a:=by
 induction a with
 |nil=>simp[pU]
 |cons d e ih=>
  have:=ZH c d;simp only[C0,pU,D9];omega
def wW(rfs:σ RF)(o:D0 C4):Bool:=match o with|none=>Ξ|some i=>match rfs[i]? with|none=>Ξ|some r=>r.fn.body.quiet
mutual
def yD(rfs:σ RF):Tr->Bool
 | .mk _ tx br ops=>(!br||(!mO tx&&wW rfs (dG (RF.list rfs) tx)))&&Be rfs ops
def Be(rfs:σ RF):σ Tr->Bool
 | []=>Ξ
 |t::ts=>yD rfs t&&Be rfs ts
end
theorem Ze(b)(a:σ Tr):Be b a=a.all (yD b):=by
 induction a with
 |nil=>rfl
 |cons c a ih=>rw[Be,ih];rfl
theorem KA:(fe C k a).quiet=Ξ:=by
 unfold fe;repeat' split
 all_goals rfl
theorem QH(b:mO a=Ξ):dU a=Ξ:=by
 simp only[mO,C1,C8,Θ,τ,C2]at b;rcases b with rfl|rfl|rfl|rfl|rfl|rfl<;>decide
mutual
theorem zL{n:Bs->A}{j:Sc}{args:Bs}{c:σ RF}(q:tN j args c):∀(l:Tr) (d:Ex),(∀m∈post l,kg m)->bO n j (RF.list c) l=.ok d->d.quiet=yD c l
 | .mk k tx false ops,d,hL,a=>by
  have p:=(hL (.mk k tx ξ ops) (by rw[post];simp) J).1;rw[show(Tr.mk k tx ξ ops).ops=ops from J]at p;subst p;rw[bO,ζ δ]at a;have w:d.quiet=Ξ:=by
   split at a
   ·unfold zb at a;split at a
    ·cases a
    split at a
    ·cases a
    cases a;rfl
   split at a
   ·unfold EA at a;split at a
    ·cases a
    cases a;rfl
   cases a;exact KA
  rw[w];simp[yD,Be]
 | .mk k tx true ops,d,hL,a=>by
  rw[bO,κ J]at a
  cases i:dN n j (RF.list c) ops with
  |error C=>rw[i]at a;cases a
  |ok o=>
   rw[i]at a;have y:=Ip q ops o (λm x=>hL m (by rw[post];exact ι _ x)) i;have b:uh (RF.list c) tx o=.ok d:=a;unfold uh at b;rw[yD,<-y]
   cases e:dU tx with
   |true=>
    rw[e,κ J]at b;split at b
    ·cases b
    cases b;rw[Ha q e];simp[Ex.quiet,wW,C3]
   |false=>
    have v:mO tx=ξ:=by
     cases u:mO tx with
     |false=>rfl
     |true=>rw[QH u]at e;cases e
    rw[e,ζ δ]at b;unfold uI at b;split at b
    ·cases b
    next z t=>
    split at b
    ·cases b
    next r s=>
    have f:=s;rw[RF.list,ο]at f;split at b
    ·cases b
     cases g:c[z]? with
     |none=>rw[g]at f;cases f
     |some B=>
      rw[g]at f;have:B.fn=r:=Ψ f;subst this;simp[Ex.quiet,wW,v,t,g,C3]
    cases b
theorem Ip{j:Bs->A}{i:Sc}{args:Bs}{f:σ RF}(g:tN i args f):∀(b:σ Tr) (d:σ Ex),(∀c∈dm b,kg c)->dN j i (RF.list f) b=.ok d->d.all Ex.quiet=Be f b
 | [],d,hL,a=>by rw[dN]at a;cases a;rfl
 |t::b,d,hL,a=>by
  rw[dm]at hL;rw[dN]at a;split at a
  ·cases a
  next m k=>
  split at a
  ·cases a
  next n l=>
  cases a;rw[Be,E2,zL g t m (λc e=>hL c (ι _ e)) k,Ip g b n (λc e=>hL c (A4 _ e)) l]
end
structure iN(w:World)(g cap:Nat)(l:List Tr)(ty:Nat->Int)(cs:List Value):Prop where
 own:w.ownsRow 0 183 4 (.slice (some ⟨g,0,none⟩) (List.length l) cap) (List.length l) cs
 nodes:lI w (λ_=>True) cs 0 l ty
 small:List.length l<=1000
 zq:∀t∈l,List.length t.ops<=1000
theorem iN.ah{w x cap l}(a:iN w d cap l q n)(b:Bl w x):iN x d cap l q n:=
 ⟨aD a.own λc e=>b.block c (a.own.lt c e).2,a.nodes.ah b,a.small,a.zq⟩
theorem iN.lt{w g cap l}(a:iN w g cap l q n):g<E (D w):=(a.own.lt g J).2
theorem iN.cap{w g cap}(b:iN w g cap m q n):U m<=cap:=by
 rcases b.own.2 with⟨a,_⟩|⟨_,_,_,a,_,_,c,_⟩
 ·cases a
 cases a;exact c
theorem iN.at{w g cap l cs}(e:iN w g cap l q cs){i}(p:l[i]? =V j):∃(n:D0 Addr) (o:C4) (d:σ C4),
  β w ⟨g,i*4,G⟩=V (Y (H j.tx))/\β w ⟨g,i*4+1,G⟩=V (A5 j.br)/\β w ⟨g,i*4+2,G⟩=V (M n (U j.ops) o)/\β w ⟨g,i*4+3,G⟩=V (ρ D8 (q i))/\
  U d=U j.ops/\(∀(c a:C4),d[c]? =V a->a<i/\l[a]? =j.ops[c]?)/\(j.ops= []\/∃b,n=V (Q b 0 G)/\b<E (D w)/\U j.ops<=o/\∀(c a:C4),d[c]? =V a->β w (Q b c G)=V (ρ B2 (a:A))):=by
 have O:=(η.mp p).1;obtain⟨v,d,r,s,t,u,f,_,x,_,L⟩:=e.nodes i j p;rw[μ]at r s t u;have y:β w ⟨g,i*4,G⟩=V (Y (H j.tx)):=(e.own.cellAt (i*4) I).trans (by rw[ν];exact r);have z:β w ⟨g,i*4+1,G⟩=V (A5 j.br):=(e.own.cellAt (i*4+1) I).trans (by rw[ν];exact s);have B:β w ⟨g,i*4+2,G⟩=V v:=(e.own.cellAt (i*4+2) I).trans (by rw[ν];exact t);have C:β w ⟨g,i*4+3,G⟩=V (ρ D8 (q i)):=(e.own.cellAt (i*4+3) I).trans (by rw[ν];exact u);have F:∀(c a:C4),d[c]? =V a->a<i/\l[a]? =j.ops[c]? :=by
  intro c a k;obtain⟨_,m,K,N⟩:=L c a k;rw[μ]at m;subst m;exact⟨K,N⟩
 rcases f.2 with⟨rfl,K⟩|⟨m,_,_,rfl,_,_,N,_⟩
 ·exact⟨G,0,d,y,z,by rw[K];exact B,C,x,F,B3 (C5.mp K)⟩
 refine⟨_,_,d,y,z,B,C,x,F,C6 ⟨m,J,(f.lt m J).2,N,λc a k=>?_⟩⟩;have:=f.cells (g:=m) J c (ρ B2 (a:A)) (by simp[k]);rw[E4]at this;simpa using this
theorem Ch(o l k aS t s){args}(f r p)(y:qP e o l k aS t s (M f r p) i.1 b)(W:tN i args b){cap}(c:iN e d cap m q n):
  B0 B9 117 #[E6 #[M o l k,M aS t s,Y (H args),M f r p],E6 #[M (V (Q d 0 G)) (U m) cap]] e (RB (ρ B2 ((U m:A)+pU (m.map (KO b)))) e):=by
 obtain⟨u,a⟩:=au ((e.alloc (ε #[M o l k,M aS t s,Y (H args),M f r p] 214)).alloc (ε #[M (V (Q d 0 G)) (U m) cap] 102));have g:Z ((e.alloc (ε #[M o l k,M aS t s,Y (H args),M f r p] 214)).alloc (ε #[M (V (Q d 0 G)) (U m) cap] 102)=u):=a.symm;have N:Bl e u:=by rw[a];exact aV e _ _
 have a9:u.heap[E (D e)]? =V (ε #[M o l k,M aS t s,Y (H args),M f r p] 214 (0,0)):=by rw[a,D7 _ _ _ ek];exact θ e _
 have b0:u.heap[E (D e)+1]? =V (ε #[M (V (Q d 0 G)) (U m) cap] 102 (0,0)):=by
  rw[a];have:=θ (e.alloc (ε #[M o l k,M aS t s,Y (H args),M f r p] 214)) (ε #[M (V (Q d 0 G)) (U m) cap] 102);rw[ψ]at this;exact this
 have c1:E (D u)=E (D e)+2:=by rw[a];simp[ψ]
 have c2:=c.lt;have c3:=c.cap;have c4:=c.small;have b1:=c.ah N;have b2:=y.ah N;have O:=abT W;clear a c y;go_enter func117,ntmps117;go_wp2_with fail;rw[g.out];clear g;go_loopg [5,6] (U m) (λgk g c wr=>∃a:C4,gk=U m-a/\a<=U m/\c=ρ B2 a/\g=ρ B2 ((U m:A)+pU ((m.take a).map (KO b)))/\Bl u wr)
 ·exact⟨0,J,B7 _,J,by simp[pU],B8 _ _⟩
 obtain⟨a,b3,_,rfl,rfl,g⟩:=hrel;subst b3;generalize c:wr=wo at*;clear c;have c5:=g.size;have b4:=(g.block (E (D e)) I).trans a9;have b5:=(g.block (E (D e)+1) I).trans b0;obtain⟨⟨_,_,_,b6⟩,_⟩:=bM b4;obtain⟨_,_⟩:=rM b5;by_cases X:a<U m
 ·obtain⟨c,w⟩:=au (m[a]);have x:m[a]? =V c:=by rw[w];exact α X
  obtain⟨_,_,_,_,a0,_,_,_⟩:=(b1.ah g).at x;have c6:d<E (D wo):=I;have z:Z (pU ((m.take (a+1)).map (KO b))=pU ((m.take a).map (KO b))+KO b c):=by
   rw[Z,B4 X,List.map_append,Fb,<-w];simp[pU]
  have j:=O (m.take a);have v:=ZH W c;rw[B5]at j;obtain⟨a1,B⟩:=au (pU ((m.take a).map (KO b)));rw[<-B]at z j ⊢;have b7:E (D e)<E (D wo):=I;have c7:E (D e)+1<E (D wo):=I;have c8:a1<=300000:=I;have c9:0<=a1:=j.1;have a2:=b2.ah g;clear w x B O j
  cases B:c.br with
  |false=>
   rw[B]at a0;have x:Z (KO b c=0):=by rw[Z,KO,B];rfl
   clear v
   go_wp2
   go_roundg (U m-(a+1))
   case measure=>omega
   exact⟨a+1,J,I,aP,by rw[z.out,x.out];simp,g⟩
  |true=>
   rw[B]at a0;obtain⟨C,F⟩:=au (dG (RF.list b) c.tx);have a3:KO b c=xZ b C:=by rw[KO,B,F];rfl
   have b8:∀P:A2,Bl wo P->B0 B9 66 #[E6 #[M o l k,M aS t s,Y (H args),M f r p],Y (H c.tx)] P (RB (ρ B2 (Hw C)) wo):=by
    intro P j;rw[F];exact(mi (a2.ah j).fns c.tx).mono λw _ y=>⟨y.1,bT j y.2⟩
   change Z _ at F;rw[a3]at z v;change Z _ at a3;go_upto_region 7 with fail
   go_cut [7] (λj K=>j=ρ B2 (Hw C)/\Bl wo K)
   ·go_region_with(go_at_call 66;refine(b8 _ ?_).mono ?_;(first|exact B8 _ wo|exact(B8 _ wo).drew);rintro w _ ⟨rfl,j⟩);all_goals(go_wp2;go_meet)
    all_goals exact⟨J,by first|exact j|exact j.drew⟩
   obtain⟨rfl,R⟩:=hcut;have a4:Bl u wc:=bT g R
   cases C with
   |none=>
    have b9:Hw G= -1:=J;have x:Z (xZ b G=0):=J;clear v
    go_wp2
    go_roundg (U m-(a+1))
    case measure=>omega
    exact⟨a+1,J,I,aP,by rw[z.out,x.out];simp,a4⟩
   |some w=>
    have b9:Hw (V w)=(w:A):=J;obtain⟨_,K,_⟩:=nS F.symm;rw[RF.list,ο]at K;obtain⟨j,L⟩:∃j,b[w]? =V j:=by
     cases S:b[w]? with
     |none=>rw[S]at K;cases K
     |some j=>exact⟨j,J⟩
    have a5:w<U b:=(η.mp L).1;have x:Z (xZ b (V w)=j.fn.body.size):=by rw[Z,xZ,L]
    obtain⟨_,_,c0,_,a6⟩:=(a2.ah R).fns
    cases c0;obtain⟨_,rfl,_,a7⟩:∃S,f=V (Q S 0 G)/\S<E (D wc)/\∀(a:C4) (a8:RF),b[a]? =V a8->Dr wc S a a8:=by
     rcases a6 with T|T
     ·rw[T]at a5;simp at a5
     exact T
    obtain⟨_,_,_,_,_,_,_,_,_⟩:=a7 w j L;rw[x.out]at v;have T:=cK R b7 b6;have e0:0<=j.fn.body.size:=v.1;have e1:j.fn.body.size<=300:=v.2;clear a7 a6 K L v
    go_wp2
    go_roundg (U m-(a+1))
    case measure=>omega
    exact⟨a+1,J,I,aP,by rw[z.out,x.out,Int.add_assoc],a4⟩
 have c:m.take a=m:=C7 I;rw[c];have j:Bl e wo:=bT N g;clear O
 go_wp2
 go_ret;exact⟨J,j⟩
end Go.Proofs.YthkeffolmbnkaaaGreatDoor

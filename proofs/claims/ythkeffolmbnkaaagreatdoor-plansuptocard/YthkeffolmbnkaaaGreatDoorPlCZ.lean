import Derived.Test.YthkeffolmbnkaaaGreatDoorWkFZ
set_option linter.unusedVariables false
set_option linter.unusedSimpArgs false
set_option maxRecDepth 100000
set_option maxHeartbeats 0
open Bool renaming true->I,false->Q,and_eq_true->θ,or_eq_true->ν,true_and->Ψ
open Go.Proofs.YthkeffolmbnkaaaGreatDoor renaming aa->M
open Int renaming lt_trichotomy->ψ,tdiv_nonneg->Θ
open List renaming length->V,mem_singleton->α,nodup_append->β,mem_filter->γ,pairwise_cons->δ,mem_range->ε,getD_eq_getElem?_getD->ζ,mem_cons->η,mem_append->ι,range->κ,mem_map->ο,nodup_range->τ,mem_flatMap->υ,length_cons->φ,cons_append->χ,length_map->ω,append_nil->Γ,nodup_nil->Δ,sum_cons->Ξ,map_cons->Φ
open List.Pairwise renaming filter->μ,imp->Ω
open Or renaming inr->H,inl->Z
open _root_ renaming Nat->J,List->U,Int->E,if_neg->D,Bool->G,rfl->A,if_pos->Y,decide_eq_true_eq->ξ,beq_iff_eq->ρ,absurd->σ
namespace Go.Proofs.YthkeffolmbnkaaaGreatDoor
variable{d e:Int}
structure PQ where
 cnt:List Int
 parts:List (Nat×Int×Bool)
abbrev ru:E:=1000000000000
def nR:U E->J->J->E->E
 | [],_,_,n=>n
 |c::cs,i,s,n=>nR cs (i+1) s (if s.testBit i then min (n*c) ru else n)
def zg(n d:E):E:=if n=0 then 0 else max (n.tdiv d) 1
def sH:U (J×E×G)->J->E->E
 | [],_,n=>n
 |p::ps,s,n=>sH ps s (if p.1≠0/\p.1&&& s=p.1 then zg n p.2.1 else n)
def ni(q:PQ)(s:J):E:=sH q.parts s (nR q.cnt 0 s 1)
def bu(s i:J):J:=s|||(1<<<i)
def setOf(o:U J):J:=o.foldl bu 0
theorem setOf_snoc{b a}:setOf (b++ [a])=bu (setOf b) a:=by simp[setOf,List.foldl_append]
def sD(q:PQ):J->E->U J->E
 |_,c,[]=>c
 |s,c,i::o=>sD q (bu s i) (min (c+ni q (bu s i)) ru) o
def aZ(q:PQ)(o:U J):E:=sD q 0 0 o
theorem DY(b c):∀(a:U J) (d:J) (e:E),sD b d e (a++ [c])=min (sD b d e a+ni b (bu (a.foldl bu d) c)) ru
 | [],_,_=>rfl
 |_::a,_,_=>DY b c a _ _
theorem Qd(b a c):aZ b (a++ [c])=min (aZ b a+ni b (setOf (a++ [c]))) ru:=by
 rw[setOf_snoc];exact DY b c a 0 0
structure Am(q:PQ):Prop where
 cnt:∀c∈q.cnt,0<=c/\c<=1000000
 parts:∀p∈q.parts,1<=p.2.1
theorem SE(e):∀(b:U E) (d:J) (c:E),(∀a∈b,0<=a/\a<=1000000)->0<=c->c<=ru->0<=nR b d e c/\nR b d e c<=ru
 | [],_,_,_,h1,h2=>⟨h1,h2⟩
 |a::b,d,c,hc,h1,h2=>by
  have f:=hc a ak;refine SE e b (d+1) _ (λa g=>hc a (by simp[g])) ?_ ?_
  ·split
   ·have:=Int.mul_nonneg h1 f.1;omega
   exact h1
  split
  ·omega
  exact h2
theorem SC(a:0<=e)(b:e<=ru)(c:1<=d):0<=zg e d/\zg e d<=ru:=by
 unfold zg;split
 ·omega
 have:=Θ a (show 0<=d by omega);have:e.tdiv d<=e:=by
  rw[Int.tdiv_eq_ediv_of_nonneg a];exact Int.ediv_le_self d a
 omega
theorem SF(d):∀(b:U (J×E×G)) (a:E),(∀c∈b,1<=c.2.1)->0<=a->a<=ru->0<=sH b d a/\sH b d a<=ru
 | [],_,_,h1,h2=>⟨h1,h2⟩
 |c::b,a,hp,h1,h2=>by
  have e:=SC h1 h2 (hp c ak);refine SF d b _ (λf g=>hp f (by simp[g])) ?_ ?_
  ·split
   ·exact e.1
   exact h1
  split
  ·exact e.2
  exact h2
theorem Da{a}(c:Am a)(b):0<=ni a b/\ni a b<=ru:=by
 have:=SE b a.cnt 0 1 c.cnt ag ag;exact SF b a.parts _ c.parts this.1 this.2
theorem DX{c}(e:Am c):∀(d:U J) (b:J) (a:E),0<=a->a<=ru->a<=sD c b a d/\sD c b a d<=ru
 | [],_,_,_,h2=>⟨Int.le_refl _,h2⟩
 |i::d,b,a,h1,h2=>by
  have f:=(Da e (bu b i)).1;have:=DX e d (bu b i) (min (a+ni c (bu b i)) ru) M M;show a<=sD c (bu b i) (min (a+ni c (bu b i)) ru) d/\sD c (bu b i) (min (a+ni c (bu b i)) ru) d<=ru;omega
theorem GQ(b):∀(a c:U J) (d:J) (e:E),sD b d e (a++c)=sD b (a.foldl bu d) (sD b d e a) c
 | [],_,_,_=>rfl
 |_::a,c,_,_=>GQ b a c _ _
theorem Mm{b}(c:Am b)(a):0<=aZ b a/\aZ b a<=ru:=DX c a 0 0 ag ag
theorem Uh{b}(c:Am b){a d}(e:a<+:d):aZ b a<=aZ b d:=by
 obtain⟨f,rfl⟩:=e;unfold aZ;rw[GQ];have:=Mm c a;exact(DX c f _ _ this.1 this.2).1
def uY:U J->U J->G
 |_,[]=>Q
 | [],_::_=>I
 |a::az,b::bs=>decide (a<b)||(a==b&&uY az bs)
theorem JV:∀a,uY a a=Q
 | []=>rfl
 |a::az=>by simp[uY,JV az]
theorem sO:∀ {c d e:U J},uY c d=I->uY d e=I->uY c e=I
 |_,[],_,h,_=>by cases i: ‹U J› <;>simp[uY]at h
 | [],_::_,[],_,h=>by simp[uY]at h
 | [],_::_,_::_,_,_=>rfl
 |_::_,_::_,[],_,h=>by simp[uY]at h
 |c::az,d::bs,e::cs,b,a=>by
  simp only[uY,ν,ξ,θ,ρ]at b a ⊢;rcases b with b|⟨b,f⟩
  ·rcases a with a|⟨a,_⟩<;>left<;>omega
  rcases a with a|⟨a,g⟩
  ·left;omega
  exact H ⟨M,sO f g⟩
theorem JW:∀(b c:U J),uY b c=I\/b=c\/uY c b=I
 | [],[]=>H (Z A)
 | [],_::_=>Z A
 |_::_,[]=>H (H A)
 |b::az,c::bs=>by
  simp only[uY,ν,ξ,θ,ρ,List.cons.injEq];rcases Nat.lt_trichotomy b c with a|a|a
  ·exact Z (Z a)
  ·rcases JW az bs with d|d|d
   ·exact Z (H ⟨a,d⟩)
   ·exact H (Z ⟨a,d⟩)
   exact H (H (H ⟨a.symm,d⟩))
  exact H (H (Z a))
theorem Ta:∀ {d c:U J},d<+:c->d=c\/uY d c=I
 | [],[],_=>Z A
 | [],_::_,_=>H A
 |_::_,[],h=>by simp at h
 |a::az,b::bs,h=>by
  obtain⟨f,g⟩:=List.cons_prefix_cons.mp h;subst f;rcases Ta g with e|e
  ·exact Z (by rw[e])
  exact H (by simp[uY,e])
structure TM(n:Nat)(o:List Nat):Prop where
 Pw:o.Nodup
 lt:∀i∈o,i<n
theorem AX:∀(a:J) (c:U J),c.Nodup->(∀b∈c,b<a)->V c<=a
 |0,[],_,_=>Nat.le_refl _
 |0,b::_,_,h=>absurd (h b ak) M
 |a+1,c,hn,h=>by
  have d:=AX a (c.erase a) (hn.erase a) λb e=>by
   obtain⟨_,f⟩:=hn.mem_erase_iff.mp e;have:=h b f;omega
  rw[List.length_erase]at d;split at d<;>omega
theorem TM.len{a b}(c:TM a b):V b<=a:=AX a b c.Pw c.lt
def Full(n:J)(o:U J):Prop:=TM n o/\V o=n
def vV(q:PQ)(a b:U J):Prop:=aZ q a<aZ q b\/aZ q a=aZ q b/\uY a b=I
def tL(q:PQ)(n:J)(m:U J):Prop:=Full n m/\∀o,Full n o->¬vV q o m
theorem tL.afQ{d k b c}(i:tL d k b)(j:tL d k c):b=c:=by
 have f:=i.2 c j.1;have g:=j.2 b i.1;unfold vV at f g;rcases JW b c with e|e|e
 ·refine σ ?_ g;rcases ψ (aZ d b) (aZ d c)with a|a|a
  ·exact Z a
  ·exact H ⟨a,e⟩
  exact σ (Z a) f
 ·exact e
 refine σ ?_ f;rcases ψ (aZ d c) (aZ d b)with a|a|a
 ·exact Z a
 ·exact H ⟨a,e⟩
 exact σ (Z a) g
structure Dl(n:Nat)(F:List (List Nat)):Prop where
 ok:∀o∈F,TM n o
 cov:∀o,Full n o->∃p∈F,p<+:o
theorem MI(a):Dl a [[]]:=⟨λc b=>by rw[α.mp b];exact⟨Δ,λ_ d=>by cases d⟩,λc _=>⟨[],ak,List.nil_prefix⟩⟩
theorem Qk{b}(o:Am b){e d}(i:Dl e d){a}(m:a∈d)(n:∀c∈d,¬vV b c a)(l:V a=e):tL b e a:=by
 refine⟨⟨i.ok a m,l⟩,λq p f=>?_⟩;obtain⟨c,r,j⟩:=i.cov q p;have s:=n c r;have:=Uh o j;refine s ?_;rcases f with f|⟨f,k⟩
 ·exact Z M
 by_cases t:aZ b c<aZ b a
 ·exact Z t
 refine H ⟨M, ?_⟩;rcases Ta j with g|g
 ·rw[g];exact k
 exact sO g k
def gX(n:J)(m:U J):U (U J):=((κ n).filter λi=> !m.contains i).map λi=>m++ [i]
theorem Ql{f}{g p o:U (U J)}(i:Dl f g){c}(hF:g.Perm (c::p))(s:V c≠f)(j:o.Perm (p++gX f c)):Dl f o:=by
 have t:c∈g:=hF.mem_iff.mpr ak;have q:=i.ok c t;refine⟨λk b=>?_,λk b=>?_⟩
 ·rcases ι.mp (j.mem_iff.mp b)with d|d
  ·exact i.ok k (hF.mem_iff.mpr (by simp[d]))
  obtain⟨a,l,rfl⟩:=ο.mp d;obtain⟨n,r⟩:=γ.mp l;rw[ε]at n;have u:a∉c:=by simpa using r
  refine⟨?_,λv e=>?_⟩
  ·rw[β];exact⟨q.Pw,ak,λ_ w _ x=>by rw[α.mp x];exact λm=>u (m▸w)⟩
  rcases ι.mp e with e|e
  ·exact q.lt v e
  rw[α.mp e];exact n
 obtain⟨e,u,r⟩:=i.cov k b;rcases η.mp (hF.mem_iff.mp u)with m|d
 ·subst m;obtain⟨n,rfl⟩:=r
  cases n with
  |nil=>rw[Γ]at b;exact σ b.2 s
  |cons a n=>
   refine⟨e++ [a],j.mem_iff.mpr (List.mem_append_right _ (ο.mpr ⟨a,γ.mpr ⟨ε.mpr (b.1.lt a ak), ?_⟩,A⟩)),⟨n,ak⟩⟩;have:=b.1.Pw;rw[β]at this;have v:a∉e:=λl=>this.2.2 a l a ak A;simpa using v
 exact⟨e,j.mem_iff.mpr (List.mem_append_left _ d),r⟩
def wtO:J->J
 |0=>1
 |k+1=>1+(k+1)*wtO k
def pF(n:J)(F:U (U J)):J:=(F.map λo=>wtO (n-V o)).sum
theorem XB{b a}(e:TM b a):V (gX b a)<=b-V a:=by
 have f:(a++(κ b).filter λd=> !a.contains d).Nodup:=by
  rw[β];refine⟨e.Pw,μ _ τ,λ_ g _ i c=>?_⟩;have:=(γ.mp i).2;rw[<-c]at this;simp[g]at this
 have g:=AX b _ f λd c=>by
  rcases ι.mp c with c|c
  ·exact e.lt d c
  exact ε.mp (γ.mp c).1
 rw[List.length_append]at g;unfold gX;rw[ω];omega
theorem aca(a b c):pF a (b++c)=pF a b+pF a c:=by simp[pF]
theorem ZT(a b):pF a (gX a b)=V (gX a b)*wtO (a-(V b+1)):=by
 unfold pF gX;rw[List.map_map,ω];generalize (κ a).filter (λc=> !b.contains c)=c
 induction c with
 |nil=>simp
 |cons d c ih=>
  rw[Φ,Ξ,ih,φ,Nat.succ_mul];simp;omega
theorem ZU{a}{e d f:U (U J)}{b}(g:TM a b)(hF:e.Perm (b::d))(n:V b≠a)(i:f.Perm (d++gX a b)):pF a f<pF a e:=by
 have j:pF a e=wtO (a-V b)+pF a d:=by
  unfold pF;rw[(hF.map _).sum_nat];simp
 have k:pF a f=pF a d+pF a (gX a b):=by
  rw[<-aca];unfold pF;exact(i.map _).sum_nat
 have:=XB g;have:=g.len;obtain⟨c,l⟩:∃c,a-V b=c+1:=⟨a-V b-1,M⟩;have m:a-(V b+1)=c:=M;rw[j,k,ZT,m,l];have:V (gX a b)*wtO c<=(c+1)*wtO c:=Nat.mul_le_mul_right _ M;show _<1+(c+1)*wtO c+_;omega
def lM(n:J):J->U (U J)
 |0=>[[]]
 |k+1=>(lM n k).flatMap (gX n)
theorem zk{e b f}:f∈gX e b↔ ∃a,a<e/\a∉b/\f=b++ [a]:=by
 unfold gX;simp only[ο,γ,ε,Bool.not_eq_true',List.contains_eq_mem,decide_eq_false_iff_not];constructor
 ·rintro⟨a,⟨c,d⟩,rfl⟩;exact⟨a,c,d,A⟩
 rintro⟨a,c,d,rfl⟩;exact⟨a,⟨c,d⟩,A⟩
theorem TM.snoc{d m b}:TM d (m++ [b])↔TM d m/\b<d/\b∉m:=by
 constructor
 ·intro e;have c:=e.Pw;rw[β]at c;exact⟨⟨c.1,λf a=>e.lt f (by simp[a])⟩,e.lt b ak,λg=>c.2.2 b g b ak A⟩
 rintro⟨c,e,g⟩;refine⟨?_,λf a=>?_⟩
 ·rw[β];exact⟨c.Pw,ak,λ_ i _ j=>by rw[α.mp j];exact λk=>g (k▸i)⟩
 rcases ι.mp a with a|a
 ·exact c.lt f a
 rw[α.mp a];exact e
theorem oZ(e):∀(c:J) (a:U J),a∈lM e c↔TM e a/\V a=c
 |0,a=>by
  simp only[lM,α];constructor
  ·rintro rfl;exact⟨⟨Δ,λ_ g=>by cases g⟩,A⟩
  rintro⟨_,g⟩;exact List.eq_nil_of_length_eq_zero g
 |c+1,a=>by
  simp only[lM,υ];constructor
  ·rintro⟨b,m,n⟩;obtain⟨i,d⟩:=(oZ e c b).mp m;obtain⟨f,j,k,rfl⟩:=zk.mp n;exact⟨TM.snoc.mpr ⟨i,j,k⟩,by simp[d]⟩
  rintro⟨i,d⟩;have l:a≠ []:=by rintro rfl;simp at d
  obtain⟨b,f,rfl⟩:∃b f,a=b++ [f]:=⟨a.dropLast,a.getLast l,(List.dropLast_concat_getLast l).symm⟩;obtain⟨j,k,o⟩:=TM.snoc.mp i;exact⟨b,(oZ e c b).mpr ⟨j,by simp at d;omega⟩,zk.mpr ⟨f,k,o,A⟩⟩
theorem SY:∀ {b c:U J} (d e:U J),V b=V c->uY b c=I->uY (b++d) (c++e)=I
 | [],[],_,_,_,a=>by simp[uY]at a
 | [],_::_,_,_,a,_=>by simp at a
 |_::_,[],_,_,a,_=>by simp at a
 |b::az,c::bs,d,e,hl,a=>by
  simp only[χ,uY,ν,ξ,θ,ρ]at a ⊢;rcases a with a|⟨a,f⟩
  ·exact Z a
  exact H ⟨a,SY d e (by simpa using hl) f⟩
theorem NB:∀(a:U J) {b c:U J},uY b c=I->uY (a++b) (a++c)=I
 | [],_,_,h=>h
 |a::az,_,_,h=>by simp[uY,NB az h]
theorem MB(d c):(gX d c).Pairwise λa b=>uY a b=I:=by
 unfold gX;rw[List.pairwise_map];refine μ _ (Ω ?_ List.pairwise_lt_range);intro a b e;exact NB c (by simp[uY,e])
theorem BV(b):∀a,(lM b a).Pairwise λd e=>uY d e=I
 |0=>by simp[lM]
 |a+1=>by
  have ih:=BV b a;have f:=oZ b a;simp only[lM];generalize lM b a=g at ih f;have i:∀c∈g,V c=a:=λc j=>((f c).mp j).2;clear f
  induction g with
  |nil=>simp
  |cons d g l=>
   rw[List.flatMap_cons,List.pairwise_append];rw[δ]at ih;refine⟨MB b d,l ih.2 λc j=>i c (by simp[j]),λ_ m _ f=>?_⟩;obtain⟨e,k,f⟩:=υ.mp f;obtain⟨_,_,_,rfl⟩:=zk.mp m;obtain⟨_,_,_,rfl⟩:=zk.mp f;exact SY _ _ (by rw[i d ak,i e (by simp[k])]) (ih.1 e k)
def jh(q:PQ):U J->U (U J)->U J
 |b,[]=>b
 |b,x::xs=>jh q (if aZ q x<aZ q b then x else b) xs
theorem yA(b):∀(i:U (U J)) (a:U J),(a::i).Pairwise (λq a=>uY q a=I)->jh b a i∈a::i/\∀d∈a::i,¬vV b d (jh b a i)
 | [],a,_=>⟨by simp[jh],λd c=>by
  rw[α.mp c];rintro(g|⟨_,g⟩)
  ·simp[jh]at g
  simp[jh,JV]at g⟩
 |e::xs,a,g=>by
  obtain⟨n,o⟩:=δ.mp g;obtain⟨_,r⟩:=δ.mp o;by_cases p:aZ b e<aZ b a
  ·obtain⟨j,f⟩:=yA b xs e o;have k:jh b a (e::xs)=jh b e xs:=by simp[jh,p]
   rw[k];refine⟨List.mem_cons_of_mem _ j,λd c=>?_⟩;rcases η.mp c with rfl|c
   ·have l:=f e ak;unfold vV at l ⊢;omega
   exact f d c
  obtain⟨j,f⟩:=yA b xs a (δ.mpr ⟨λt s=>n t (by simp[s]),r⟩);have k:jh b a (e::xs)=jh b a xs:=by simp[jh,p]
  rw[k];refine⟨?_,λd c=>?_⟩
  ·rcases η.mp j with m|m
   ·rw[m];simp
   simp[m]
  rcases η.mp c with rfl|c
  ·exact f d ak
  rcases η.mp c with rfl|c
  ·have l:=f a ak;intro m;refine l ?_;rcases m with m|⟨m,u⟩
   ·exact Z M
   by_cases v:aZ b a<aZ b (jh b a xs)
   ·exact Z v
   exact H ⟨M,sO (n d ak) u⟩
  exact f d (by simp[c])
theorem Vl{e a b d}(c:lM a a=b::d):tL e a (jh e b d):=by
 have f:=BV a a;rw[c]at f;obtain⟨g,j⟩:=yA e d b f;rw[<-c]at g;exact⟨(oZ a a _).mp g,λi k=>j i (by rw[<-c];exact(oZ a a i).mpr k)⟩
def gO(l:U (U J))(i:J):U J:=l.getD i []
def KZ(l:U (U J))(i j:J):U (U J):=(l.set i (gO l j)).set j (gO l i)
theorem abU(a b c):V (KZ a b c)=V a:=by simp[KZ]
theorem Ab{l i j}(e:i<V l)(f:j<V l)(a):gO (KZ l i j) a=if a=j then gO l i else if a=i then gO l j else gO l a:=by
 unfold gO KZ;simp only[ζ,List.getElem?_set,List.length_set];by_cases b:a=j
 ·subst b;simp[f,gO]
 rw[D (λc=>b c.symm),D b];by_cases d:a=i
 ·subst d;simp[e,gO]
 rw[D (λc=>d c.symm),D d]
theorem Ff{a b c}(d:b<V a)(e:c<V a):(KZ a b c).Perm a:=by
 have f:gO a c=a[c]:=by simp[gO,e]
 have g:gO a b=a[b]:=by simp[gO,d]
 unfold KZ;rw[f,g];exact List.set_set_perm d e
structure SWk(lt:List Nat->List Nat->Bool):Prop where
 Xa:∀ {a b},lt a b=true->lt b a=false
 neg:∀ {a b c},lt a b=false->lt b c=false->lt a c=false
section
variable {lt : List Nat -> List Nat -> Bool}
def Hp(lt:U J->U J->G)(l:U (U J))(n:J):Prop:=∀i,0<i->i<n->lt (gO l i) (gO l ((i-1) / 2))=Q
theorem Hp.root(c:SWk lt){b d}(f:Hp lt b d):∀a,a<d->lt (gO b a) (gO b 0)=Q:=by
 intro a
 induction a using Nat.strongRecOn with
 |ind a ih=>
  intro g;by_cases i:a=0
  ·subst i
   cases e:lt (gO b 0) (gO b 0)with
   |false=>rfl
   |true=>have:=c.Xa e;rw[e]at this;exact this
  exact c.neg (f a M g) (ih ((a-1) / 2) M M)
structure UpI(lt:List Nat->List Nat->Bool)(l:List (List Nat))(n j:Nat):Prop where
 low:j<n
 all:∀i,0<i->i<n->i≠j->lt (gO l i) (gO l ((i-1) / 2))=false
 kid:∀c,0<c->c<n->(c-1) / 2=j->0<j->lt (gO l c) (gO l ((j-1) / 2))=false
theorem aaa{a x}(f:Hp lt a (V a)):UpI lt (a++ [x]) (V a+1) (V a):=by
 have c:∀b,b<V a->gO (a++ [x]) b=gO a b:=λb g=>by simp[gO,ζ,List.getElem?_append_left g]
 refine⟨M,λe d i j=>?_,λ_ d i j _=>M⟩;rw[c e M,c _ M];exact f e d M
theorem ace(i:SWk lt){c j a}(z:j<=V c)(f:UpI lt c j a)(t:0<a)(p:lt (gO c a) (gO c ((a-1) / 2))=I):UpI lt (KZ c ((a-1) / 2) a) j ((a-1) / 2):=by
 have B:=f.low;obtain⟨b,k⟩:=au ((a-1) / 2);rw[<-k]at p ⊢;have g:=Ab (l:=c) (i:=b) (j:=a) M M;have q:=i.Xa p;refine⟨M,λe r s u=>?_,λl v x w y=>?_⟩
 ·rw[g,g];by_cases d:e=a
  ·subst d;rw[Y A,<-k,D (show¬b=e by omega),Y A];exact q
  rw[D d,D u];by_cases m:(e-1) / 2=a
  ·rw[Y m];have:=f.kid e r s m t;rw[<-k]at this;exact this
  rw[D m];have n:=f.all e r s d;by_cases o:(e-1) / 2=b
  ·rw[Y o];rw[o]at n;exact i.neg n q
  rw[D o];exact n
 have m:=f.all b y M M;rw[g,g,D (show¬(b-1) / 2=a by omega),D (show¬(b-1) / 2=b by omega)];by_cases d:l=a
 ·rw[Y d];exact m
 rw[D d,D (show¬l=b by omega)];have n:=f.all l v x d;rw[w]at n;exact i.neg n m
theorem acf{b c a}(f:UpI lt b c a)(g:a=0\/lt (gO b a) (gO b ((a-1) / 2))=Q):Hp lt b c:=by
 intro d i j;by_cases e:d=a
 ·subst e;exact g.resolve_left M
 exact f.all d i j e
structure DnI(lt:List Nat->List Nat->Bool)(l:List (List Nat))(n i:Nat):Prop where
 all:∀k,0<k->k<n->(k-1) / 2≠i->lt (gO l k) (gO l ((k-1) / 2))=false
 kid:∀c,0<c->c<n->(c-1) / 2=i->0<i->lt (gO l c) (gO l ((i-1) / 2))=false
theorem Xq{b a}(e:Hp lt b (a+1))(i:V b=a+1):DnI lt (KZ b 0 a) a 0:=by
 have d:=Ab (l:=b) (i:=0) (j:=a) M M;refine⟨λc f _ g=>?_,λ_ _ _ _ _=>M⟩;rw[d,d,D (show¬c=a by omega),D (show¬c=0 by omega),D (show¬(c-1) / 2=a by omega),D g];exact e c f M
theorem aaR(s:SWk lt){c f b a}(z:f<=V c)(j:DnI lt c f b)(p:a<f)(k:(a-1) / 2=b)(t:0<a)(r:∀d,0<d->d<f->(d-1) / 2=b->lt (gO c d) (gO c a)=Q)(q:lt (gO c a) (gO c b)=I):DnI lt (KZ c b a) f a:=by
 have B:b<a:=M;have g:=Ab (l:=c) (i:=b) (j:=a) M M;have u:=s.Xa q;refine⟨λe l m v=>?_,λd w y x _=>?_⟩
 ·rw[g,g,D v];by_cases n:e=a
  ·subst n;rw[Y A,Y k];exact u
  rw[D n];by_cases o:e=b
  ·subst o;rw[Y A,D (show¬(e-1) / 2=e by omega)];exact j.kid a t p k l
  rw[D o];by_cases i:(e-1) / 2=b
  ·rw[Y i];exact r e l m i
  rw[D i];exact j.all e l m i
 rw[g,g,k,D (show¬d=a by omega),D (show¬d=b by omega),D (show¬b=a by omega),Y A];have:=j.all d w y M;rw[x]at this;exact this
theorem aaS(m:SWk lt){b d c}(l:DnI lt b d c)(g:(∀a,0<a->a<d->(a-1) / 2≠c)\/∃i,(∀a,0<a->a<d->(a-1) / 2=c->lt (gO b a) (gO b i)=Q)/\lt (gO b i) (gO b c)=Q):Hp lt b d:=by
 intro e j k;by_cases f:(e-1) / 2=c
 ·rcases g with g|⟨i,n,o⟩
  ·exact σ f (g e j k)
  rw[f];exact m.neg (n e j k f) o
 exact l.all e j k f
end
def jV(q:PQ)(a b:U J):G:=decide (aZ q a<aZ q b)||(decide (aZ q a=aZ q b)&&uY a b)
theorem sN{c a b}:jV c a b=I↔vV c a b:=by simp[jV,vV]
theorem kZ(c):SWk (jV c):=by
 refine⟨fun {e d} a=>?_,fun {e d i} f g=>?_⟩
 ·cases b:jV c d e with
  |false=>rfl
  |true=>
   have a:=sN.mp a;have b:=sN.mp b;unfold vV at a b;rcases a with a|⟨a,k⟩
   ·omega
   rcases b with b|⟨_,j⟩
   ·omega
   have:=sO k j;rw[JV]at this;cases this
 cases b:jV c e i with
 |false=>rfl
 |true=>
  have b:=sN.mp b;have f:¬vV c e d:=λa=>by rw[sN.mpr a]at f;cases f
  have g:¬vV c d i:=λa=>by rw[sN.mpr a]at g;cases g
  unfold vV at b f g;exfalso;rcases b with b|⟨b,j⟩
  ·omega
  have k:aZ c e=aZ c d/\aZ c d=aZ c i:=M;have m:uY e d≠I:=λa=>f (H ⟨k.1,a⟩);have l:uY d i≠I:=λa=>g (H ⟨k.2,a⟩);rcases JW e d with a|a|a
  ·exact m a
  ·subst a;exact l j
  exact l (sO a j)
structure WM(q:PQ)(n:Nat)(l:List (List Nat)):Prop where
 hp:Hp (jV q) l (List.length l)
 fr:Dl n l
theorem VR(b a):WM b a [[]]:=⟨λ_ _ c=>by simp at c;omega,MI a⟩
theorem Dl.ne{a b}(c:Dl a b):b≠ []:=by
 rintro rfl;have d:Full a (κ a):=⟨⟨τ,λ_ e=>ε.mp e⟩,ak⟩;obtain⟨_,f,_⟩:=c.cov _ d
 cases f
theorem acZ{a b}(c:b<V a):gO a b∈a:=by simp[gO,c]
theorem ZB{b}(i:Am b){d a}(c:WM b d a)(g:V (gO a 0)=d):tL b d (gO a 0):=by
 have j:0<V a:=List.length_pos_iff.mpr c.fr.ne;refine Qk i c.fr (acZ j) (λm l k=>?_) g;obtain⟨e,f,n⟩:=List.mem_iff_getElem.mp l;have:=c.hp.root (kZ b) e f;rw[show gO a e=m by simp[gO,f,n],sN.mpr k]at this
 cases this
structure Gs(lt:List Nat->List Nat->Bool)(l0 l:List (List Nat))(n i:Nat):Prop where
 dn:DnI lt l n i
 perm:l.Perm l0
 far:∀k,n<=k->gO l k=gO l0 k
theorem Gs.len{lt b a d i}(c:Gs lt b a d i):V a=V b:=c.perm.length_eq
theorem Rw{lt b a}(c:Hp lt b (a+1))(d:V b=a+1):Gs lt (KZ b 0 a) (KZ b 0 a) a 0:=⟨Xq c d,List.Perm.refl _,λ_ _=>rfl⟩
theorem VO{lt}(m:SWk lt){g b d c a}(q:d<=V g)(f:Gs lt g b d c)(i:a<d)(j:(a-1) / 2=c)(n:0<a)(l:∀e,0<e->e<d->(e-1) / 2=c->lt (gO b e) (gO b a)=Q)(k:lt (gO b a) (gO b c)=I):Gs lt g (KZ b c a) d a:=by
 have:=f.len;refine⟨aaR m M f.dn i j n l k,(Ff M M).trans f.perm,λp o=>?_⟩;rw[Ab M M,D M,D M];exact f.far p o
theorem RH{a:U (U J)}{b}(e:V a=b+1):a=a.take b++ [gO a b]:=by
 have c:b<V a:=M;have d:=List.take_succ_eq_append_getElem c;rw[List.take_of_length_le M]at d;rw[show gO a b=a[b]by simp[gO,c]];exact d
theorem YW{lt}{b l2:U (U J)}{a}(l:V b=a+1)(d:l2.Perm (KZ b 0 a))(j:gO l2 a=gO (KZ b 0 a) a)(k:Hp lt l2 a):gO l2 a=gO b 0/\b.Perm (gO b 0::l2.take a)/\Hp lt (l2.take a) a/\V (l2.take a)=a:=by
 have e:gO l2 a=gO b 0:=by rw[j,Ab M M,Y A]
 have m:V l2=a+1:=by rw[d.length_eq,abU,l]
 refine⟨e, ?_,λg n f=>?_,PS⟩
 ·have c:=RH m;rw[e]at c;have i:b.Perm (l2.take a++ [gO b 0]):=by rw[<-c];exact((d.trans (Ff M M)).symm)
  exact i.trans List.perm_append_comm
 have i:∀c,c<a->gO (l2.take a) c=gO l2 c:=λc o=>by simp[gO,ζ,o]
 rw[i g f,i _ M];exact k g n f
structure Lm(lt:List Nat->List Nat->Bool)(l0 l:List (List Nat))(j:Nat):Prop where
 up:UpI lt l (List.length l0) j
 perm:l.Perm l0
theorem Rk{lt a x}(b:Hp lt a (V a)):Lm lt (a++ [x]) (a++ [x]) (V a):=⟨by simpa using aaa (x:=x) b,List.Perm.refl _⟩
theorem VL{lt}(g:SWk lt){d c a}(b:Lm lt d c a)(e:0<a)(f:lt (gO c a) (gO c ((a-1) / 2))=I):Lm lt d (KZ c ((a-1) / 2) a) ((a-1) / 2):=by
 have:=b.perm.length_eq;have:=b.up.low;exact⟨ace g M b.up e f,(Ff M M).trans b.perm⟩
theorem VM{lt}{d a:U (U J)}{b}(c:Lm lt d a b)(e:b=0\/lt (gO a b) (gO a ((b-1) / 2))=Q):Hp lt a (V a)/\a.Perm d:=by
 rw[c.perm.length_eq];exact⟨acf c.up e,c.perm⟩
def iR(k:J)(m:U J):U (U J):=((κ k).filter λi=> !m.contains i).map λi=>m++ [i]
theorem GZ(b a):iR b a=gX b a:=A
theorem xY(a)(b:U J):iR (a+1) b=iR a b++(if b.contains a then []else [b++ [a]]):=by
 unfold iR;rw[List.range_succ,List.filter_append,List.map_append]
 cases c:b.contains a<;>simp_all
structure Py(q:PQ)(R:List (List Nat))(m:List Nat)(k:Nat)(l:List (List Nat)):Prop where
 hp:Hp (jV q) l (List.length l)
 perm:l.Perm (R++iR k m)
theorem UQ{b a d}(c:Hp (jV b) a (V a)):Py b a d 0 a:=⟨c,by simp[iR]⟩
theorem Yf{f c e}{b:U J}{a}(d:Py f c b a e)(g:b.contains a=I):Py f c b (a+1) e:=⟨d.hp,by rw[xY,Y g,Γ];exact d.perm⟩
theorem Ye{c}{d e l2:U (U J)}{b:U J}{a}(f:Py c d b a e)(i:b.contains a=Q)(g:Hp (jV c) l2 (V l2))(j:l2.Perm (e++ [b++ [a]])):Py c d b (a+1) l2:=by
 refine⟨g, ?_⟩;rw[xY,D (by rw[i];exact Bool.false_ne_true),<-List.append_assoc];exact j.trans (f.perm.append_right _)
theorem ZC{f a}{e g l2:U (U J)}{b}(i:WM f a e)(d:e.Perm (b::g))(j:V b≠a)(c:Py f g b a l2):WM f a l2/\pF a l2<pF a e:=
 have k:=i.fr.ok b (d.mem_iff.mpr ak)
 ⟨⟨c.hp,Ql i.fr d j (by rw[<-GZ];exact c.perm)⟩,ZU k d j (by rw[<-GZ];exact c.perm)⟩
theorem TC(b):∀(a:U (U J)),V a<=pF b a
 | []=>Nat.zero_le _
 |o::a=>by
  have d:=TC b a;have:1<=wtO (b-V o):=by
   cases b-V o with
   |zero=>exact Nat.le_refl _
   |succ c=>show 1<=1+(c+1)*wtO c;omega
  show V a+1<=_;simp only[pF,Φ,Ξ]at d ⊢;omega
def Gl(q:PQ):J->E->U J->E
 |_,c,[]=>c
 |s,c,i::o=>Gl q (bu s i) (c+ni q (bu s i)) o
theorem GR{c}(e:Am c):∀(d:U J) (a:J) (b:E),0<=b->sD c a (min b ru) d=min (Gl c a b d) ru
 | [],_,_,_=>rfl
 |i::d,a,b,hc=>by
  have g:=(Da e (bu a i)).1;have ih:=GR e d (bu a i) (b+ni c (bu a i)) M;have f:min (min b ru+ni c (bu a i)) ru=min (b+ni c (bu a i)) ru:=M;show sD c (bu a i) (min (min b ru+ni c (bu a i)) ru) d=_;rw[f];exact ih
theorem Ui{b}(c:Am b)(a):aZ b a=min (Gl b 0 0 a) ru:=GR c a 0 0 M
def Kr:U (J×E×G)->J->E->E
 | [],_,n=>n
 |p::ps,s,n=>Kr ps s (if(if p.1≠0/\p.1&&& s=p.1 then n.tdiv p.2.1 else n)=0 then 1 else(if p.1≠0/\p.1&&& s=p.1 then n.tdiv p.2.1 else n))
theorem GY(b):∀a,sH a b 0=0
 | []=>rfl
 |p::a=>by
  have:(if p.1≠0/\p.1&&& b=p.1 then zg 0 p.2.1 else 0)=0:=by split<;>rfl
  show sH a b _=0;rw[this];exact GY b a
theorem Tw(c):∀(d:U (J×E×G)) (b:E),(∀a∈d,1<=a.2.1)->1<=b->Kr d c b=sH d c b
 | [],_,_,_=>rfl
 |a::d,b,hp,hn=>by
  have i:=hp a ak;have:=Θ (show 0<=b by omega) (show 0<=a.2.1 by omega);have f:(if(if a.1≠0/\a.1&&& c=a.1 then b.tdiv a.2.1 else b)=0 then 1 else(if a.1≠0/\a.1&&& c=a.1 then b.tdiv a.2.1 else b))=(if a.1≠0/\a.1&&& c=a.1 then zg b a.2.1 else b):=by
   by_cases e:a.1≠0/\a.1&&& c=a.1
   ·rw[Y e,Y e];unfold zg;rw[D (show¬b=0 by omega)];split<;>omega
   rw[D e,D e,D (show¬b=0 by omega)]
  show Kr d c _=sH d c _;rw[f];refine Tw c d _ (λg e=>hp g (by simp[e])) ?_;split
  ·unfold zg;rw[D (show¬b=0 by omega)];omega
  exact hn
theorem qz(c b a:J):(bu c b).testBit a=(c.testBit a||decide (b=a)):=by
 unfold bu;rw[Nat.testBit_or,Nat.one_shiftLeft,Nat.testBit_two_pow]
theorem wP(b a):bu b a≠0:=λc=>by
 have:=qz b a a;rw[c]at this;simp at this
def within(p s:J):G:=p&&& s==p
theorem within_iff{b d:J}:within b d=I↔ ∀a,b.testBit a=I->d.testBit a=I:=by
 unfold within;rw[ρ];constructor
 ·intro c a e;have:=congrArg (λf=>f.testBit a) c;simp only[Nat.testBit_and,e,Ψ]at this;exact this
 intro c;refine Nat.eq_of_testBit_eq λa=>?_;rw[Nat.testBit_and]
 cases e:b.testBit a with
 |false=>rfl
 |true=>rw[c a e];rfl
theorem Pt{a b d}(c:within a b=I):within a (bu b d)=I:=within_iff.mpr λf e=>by rw[qz,within_iff.mp c f e];rfl
def jW(B item:J)(p:J×E×G):G:= !(B != 0&&within p.1 B)&&within p.1 (bu B item)
def jC(P:J×E×G->G):J->U (J×E×G)->U J
 |_,[]=>[]
 |k,p::ps=>if P p then k::jC P (k+1) ps else jC P (k+1) ps
def uT(ps:U (J×E×G))(item B:J):U J:=jC (λp=>jW B item p&&p.2.2) 0 ps++jC (λp=>jW B item p&& !p.2.2) 0 ps
def iA(ps:U (J×E×G)):J->U J->U (J×U J)
 |_,[]=>[]
 |B,i::o=>(i,uT ps i B)::iA ps (bu B i) o
def tV(B:J)(p:J×E×G):G:=B != 0&&within p.1 B
theorem PO(a c b):(tV a b||jW a c b)=tV (bu a c) b:=by
 unfold tV jW;have e:(bu a c != 0)=I:=by simp[wP]
 rw[e,Ψ]
 cases d:(a != 0&&within b.1 a)with
 |false=>simp
 |true=>
  rw[θ]at d;rw[Pt d.2];rfl
theorem Ar(d:J×E×G->G)(e):∀(c:U (J×E×G)) (b:J),jC d b (c++ [e])=jC d b c++(if d e then [b+V c]else [])
 | [],b=>by simp[jC]
 |a::c,b=>by
  simp only[χ,jC,Ar d e c (b+1),φ];have:b+1+V c=b+(V c+1):=M;rw[this];split<;>simp
end Go.Proofs.YthkeffolmbnkaaaGreatDoor

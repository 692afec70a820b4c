import Derived.Test.YthkeffolmbnkaaaGreatDoorQrFZ
import Derived.Test.YthkeffolmbnkaaaGreatDoorQbDZ
set_option linter.unusedVariables false
set_option linter.unusedSimpArgs false
set_option maxRecDepth 100000
set_option maxHeartbeats 0
open Array renaming size->G,getElem?_modify->N4
open Bool renaming true->φ,and_eq_true->Δ,false->Θ
open Go renaming bodyPost_ret->ν,World->χ,heap_alloc_new->ψ,Value->Φ,results->K6,Addr->L2,Calls->M8,wpAnyH_ready->O1,info_parts->O9,TypeId->P5,Ending->P6
open Go.Addr renaming mk->D
open Go.AllReadyH renaming cons->M1,nil->M2
open Go.Ending renaming returned->ω
open Go.IntKind renaming i64->Y
open Go.Obj renaming cells->ι
open Go.Proofs.Tryz renaming results87->K2,results42->L4,prog->L6,f87->M6,results44->O7
open Go.RowKit renaming Hid->I,Below->M7
open Go.RowKit.Below renaming heap_setCell->ζ,refl->Γ,heap_alloc->O2
open Go.Value renaming slice->U,int->Z,string->γ,pointer->δ,tuple->σ,agg->L1,bool->P7
open Go.World renaming heap->H,cell?->α,frozen?->θ,ownsRow_nil->K5,size_alloc->M0,news_of_block->N7,setCell->O6
open Go.World.rowIs renaming cell->M9,lt->N6,frozen->P4
open List renaming length->E,getElem?_eq_getElem->β,getElem?_eq_some_iff->ε,length_append->κ,drop_eq_getElem_cons->ξ,take_succ_eq_append_getElem->ο,setIfInBounds_toArray->τ,mem_of_getElem?->υ,length_map->Ξ,set_cons_zero->Ψ,set_cons_succ->Ω,mem_singleton->K0,getElem?_append_right->K1,getElem?_append_left->K4,mem_append->L0,getElem?_of_mem->L3,mem_map_of_mem->L7,append_assoc->L9,map_append->M4,mem_map->N1,map_map->N2,drop_of_length_le->N3,length_singleton->N5,nodup_append->N8,getElem?_map->N9,flatten_cons->O0,getElem_mem->O3,append_nil->O4,drop_zero->O5
open Nat renaming le_refl->η,zero_le->L5,lt_of_lt_of_le->L8,add_mul->P1
open Option renaming none->J,some->V
open Option.some renaming inj->K3,injEq->P3
open Or renaming inl->N0,inr->P0
open _root_ renaming rfl->M,Nat->A,Int->Q,List->μ,Option->ρ,Except->M3,decide_eq_true_eq->M5,if_pos->O8,if_neg->P2
namespace Go.Proofs.YthkeffolmbnkaaaGreatDoor
open Go.Proofs.Tryz
open Go.RowKit
def IR(w:χ)(o:M3 Q nH)(its:μ (Bs×Bs))(e:P6)(w':χ):Prop:=M7 (G (H w)) w w'/\
 ((∃n:Q,o=.error n/\n≠0/\e=ω (σ #[δ J,Z Y n]))\/
  (∃(r:nH) (yb:A) (ps:μ (A×Q×Bool)),o=.ok r/\e=ω (σ #[δ (V ⟨yb,0,J⟩),Z Y 0])/\Li w' yb r.bI its ps/\Dq r.bI ps/\r.pq=pg r.bI ps))
def Dp(w:χ)(o:M3 Q nH)(e:P6)(w':χ):Prop:=M7 (G (H w)) w w'/\
 ((∃n:Q,o=.error n/\n≠0/\e=ω (σ #[U J 0 0,Z Y n]))\/
  (∃(r:nH) (ao:ρ L2) (an ac:A) (rs:μ iP) (od:μ A) (B:A),o=.ok r/\e=ω (σ #[U ao an ac,Z Y 0])/\G (H w)<=B/\xz w' B (U ao an ac) rs/\iL rs=iA r.pq.parts 0 od/\tL r.pq (E r.bI) od))
theorem Rh(w f e cap t s r user j i g y m l k q p o qM)(c:M3 Q nH)(its)(d:∀x:χ,Bl w x->M8 L6 87 #[L1 #[U f e cap,U t s r],γ (ae user),L1 #[U j i g,γ (ae y),U m l k,U q p o,Z Y qM]] x λa u=>IR x c its a u):
  M8 L6 44 #[L1 #[U f e cap,U t s r],γ (ae user),L1 #[U j i g,γ (ae y),U m l k,U q p o,Z Y qM]] w λa u=>Dp w c a u:=by
 have b:=aV w (ι #[U f e cap,U t s r] 67) (ι #[U j i g,γ (ae y),U m l k,U q p o,Z Y qM] 63);have B:=d _ b;change I _ at b;clear d;go_enter func44,ntmps44;go_wp2_with(go_at_call 87;refine B.mono ?_);rintro a w1 ⟨d,N⟩;have z:I (Bl w w1):=M7.trans b (d.mono gL);clear B d b;rcases N with⟨n,b,O,rfl⟩|⟨d,yb,ps,b,rfl,C,F,K⟩
 ·have B:I (c=.error n):=b;clear b;go_wp2_with fail;refine ν (v:=σ #[U J 0 0,Z Y n]) (by simp[K6,O7,go_sem]) M ?_;exact⟨z,N0 ⟨n,B,O,M⟩⟩
 have B:I (c=.ok d):=b;have P:=Kv C F;have L:I (d.pq=pg d.bI ps):=K;clear b C F K;go_wp2_with(go_at_call 90;refine P.mono ?_;rintro a _ ⟨v,C,W,rfl,b,R,S,T⟩;obtain⟨K,F,rfl⟩:=b.val);refine ν (v:=σ #[U K (E C) F,Z Y 0]) (by simp[K6,O7,go_sem]) M ?_;exact⟨bT z T,P0 ⟨d,K,_,F,C,W,_,B,M,z.size,b,by rw[L.out];exact R,by rw[L.out];exact S⟩⟩
theorem adm{a:UInt8}(b:Em a=φ):a≠46:=λc=>by subst c;exact absurd b ag
theorem Xo{a b}(d:aW a=φ)(f:aW b=φ):jq (a++ [46]++b)=φ:=by
 have e:∀x∈a,(x != 46)=φ:=λx g=>by
  have c:=d;unfold aW at c;rw[Δ]at c;simpa using adm (List.all_eq_true.mp c.2 x g)
 have c:(a++ [46]++b).takeWhile (· != 46)=a:=by
  rw[L9,List.takeWhile_append_of_pos e];simp
 have i:((a++ [46]++b).dropWhile (· != 46)).drop 1=b:=by
  rw[L9,List.dropWhile_append_of_pos e];simp
 unfold jq;rw[c,i,d,f];simp
theorem RN{b}(f:aW b=φ){t:aJ}(c:bG t=φ):∀a∈t.aB.map (bD b),fA a.2/\jq a.1=φ:=λa g=>by
 obtain⟨d,e,rfl⟩:=N1.mp g;exact⟨(IL c).1 (bD qi d) (L7 e),Xo f ((kY c).2.1 d e).1⟩
theorem BB:∀(d:μ (aJ×Ex)) (its:μ (Bs×Bs)) (e:A),(∀c∈d,bG c.1=φ)->(∀it∈its,aW it.2=φ)->∀b∈(aK e d its).map (·.1),fA b.2/\jq b.1=φ
 | [],_,_,_,_,b,a=>by simp[aK]at a
 |_::_,[],_,_,_,b,a=>by simp[aK]at a
 |c::d,it::its,e,ht,hi,b,a=>by
  rw[aK,M4,L0]at a;rcases a with a|a
  ·rw[N2]at a;exact RN (hi it ak) (ht c ak) b a
  exact BB d its (e+1) (λc a=>ht c (by simp[a])) (λit a=>hi it (by simp[a])) b a
theorem wL{e fns}:∀ {c:μ Tr} {a:μ Ex},qQ e fns c a->E c=E a/\∀(i:A) (t:Tr),c[i]? =V t->∃x,a[i]? =V x/\PH e fns t x
 | [],a,b=>by rw[tF b];exact⟨M,λi t b=>by simp at b⟩
 |t::c,a,b=>by
  obtain⟨x,p,rfl,f,g⟩:=oz b;obtain⟨j,k⟩:=wL g;refine⟨by simp[j],λi l d=>?_⟩
  cases i with
  |zero=>simp at d;subst d;exact⟨x,M,f⟩
  |succ i=>simp at d;obtain⟨m,n,o⟩:=k i l d;exact⟨m,by simpa using n,o⟩
mutual
theorem ET:∀(t:Tr),(∀b∈post t,kg b)->∀a∈iH t,∀b∈post a,kg b
 | .mk k tx br ops,h,a,ht=>by
  rw[iH]at ht;split at ht
  ·exact Cq ops (zB h) a ht
  rw[K0.mp ht];exact h
theorem Cq:∀(d:μ Tr),(∀b∈dm d,kg b)->∀c∈dI d,∀b∈post c,kg b
 | [],_,c,a=>by rw[dI]at a;cases a
 |t::d,h,c,a=>by
  rw[dI]at a;rcases L0.mp a with a|a
  ·exact ET t (λb e=>h b (by rw[dm];simp[e])) c a
  exact Cq d (λb e=>h b (by rw[dm];simp[e])) c a
end
theorem VQ{b fns}{t:Tr}{x:Ex}(c:PH b fns t x)(d:x.head= [61]->2<=E x.ops)(e:t.tx= [61])(a:t.br=φ):2<=E t.ops:=by
 obtain⟨_,_,f,_⟩:=t;have a:f=φ:=a;subst a;obtain⟨_,g,i,j, -⟩:=Fp c;have:=d (j.trans e);rw[i,<-(wL g).1]at this;exact this
mutual
theorem Ei{b:μ dB}{n:A}(d:0<n)(c:∀a∈b,a.2.1<n):∀e:Ex,bH b e<2^n
 | .mk s _ _ _ _ _ _ i _ _ o=>by
  rw[bH];refine Ej d c o _ ?_;split
  ·have g:lL b i<n:=by
    unfold lL;split
    ·next a f=>exact c a (υ f)
    exact d
   unfold bu;rw[Nat.zero_or,Nat.one_shiftLeft];exact Nat.pow_lt_pow_right ag g
  exact Nat.two_pow_pos n
theorem Ej{c:μ dB}{n:A}(f:0<n)(d:∀g∈c,g.2.1<n):∀(b:μ Ex) (a:A),a<2^n->iw c a b<2^n
 | [],a,hm=>by rw[iw];exact hm
 |e::b,a,hm=>by rw[iw];exact Ej f d b _ (Nat.or_lt_two_pow hm (Ei f d e))
end
theorem MH{f}:∀(e:μ (μ Φ)) (i b:A) (a:μ Φ),(∀a∈e,E a=f)->e[i]? =V a->b<f->e.flatten[i*f+b]? =a[b]?
 | [],i,b,a,_,c,_=>by simp at c
 |d::e,0,b,a,hl,c,hj=>by
  simp at c;subst c;rw[Nat.zero_mul,Nat.zero_add,O0,K4 (by rw[hl d ak];exact hj)]
 |d::e,i+1,b,a,hl,c,hj=>by
  have g:=hl d ak;rw[O0,K1 (by rw[g,P1];omega),g,show(i+1)*f+b-f=i*f+b by rw[P1];omega];exact MH e i b a (λa c=>hl a (by simp[c])) (by simpa using c) hj
theorem PW.qy{w1 x yb a uv ids e its P m b}(K:PW w1 x yb a uv ids e its m b)(c:YC w1 a ids P m its e){p:μ Ex}(O:qQ (aK 0 e its) (RF.list m) b p)(L:∀t∈b,∀R∈post t,kg R)(N:E b<=1000):Li x yb e its (p.map λd=>(bH (aK 0 e its) d,oQ (aK 0 e its) d,d.quiet)):=by
 obtain⟨S,T,W,X,l,_,u,v⟩:=K;obtain⟨w,a0⟩:=wL O;have y:∀f∈aK 0 e its,jq f.1.1=φ:=λf q=>c.ok.words f.1 (L7 q);have a1:=S.of c.ys c.fn c.len c.idl c.four c.bI c.aB c.LA;have a2:∀f∈l,E f=5:=λf q=>by
  obtain⟨i,j⟩:=L3 q;have n:=(ε.mp j).1;obtain⟨a3,cap,a4,a5,a6,g,a7,rfl, -, -, -⟩:=v i f b[i] j (β aa);rfl
 refine⟨a1,⟨T,W, ?_,λi _ j=>?_⟩,by rw[Ξ,<-w];exact N⟩
 ·rw[Ξ,<-w];exact aC X
 rw[N9]at j
 cases o:p[i]? with
 |none=>rw[o]at j;cases j
 |some d=>
  rw[o]at j;have j:=K3 j;subst j;have n:i<E b:=cz ((ε.mp o).1);obtain⟨z,B,r⟩:=a0 i b[i] (β n);rw[o]at B
  cases B;have s:=L b[i] (O3 n);have C:l[i]? =V l[i]:=β aa;obtain⟨a3,cap,a4,a5,a6,g,a7,a8, -, -,a9⟩:=v i _ b[i] C (β n);rcases u.2 with⟨_,_⟩|⟨F,_,_,z,_⟩
  ·omega
  cases z;have k:∀g,g<5->α x ⟨F,i*5+g,J⟩=l[i][g]? :=λg b0=>(u.cellAt _ aa).trans (MH l i g _ a2 C b0);rw[a8]at k;have b1:d.quiet=yD m b[i]:=zL c.ok b[i] d s r;have b2:=zz y b[i] d s r;have b3:=Uj y s r;refine⟨F,_,_,_,M,⟨k 0 aa,k 1 aa,k 2 aa, ?_, ?_⟩,⟨M,M⟩, ?_⟩
  ·dsimp only;rw[b1];exact k 3 aa
  ·dsimp only;rw[<-b3];exact k 4 aa
  dsimp only;rw[<-b2];exact a9.Sv (by have:=c.four;omega)
theorem afn{b its}{c:μ Ex}(g:E b<=4)(f:0<E b)(j:∀k∈b,bG k.1=φ)(i:∀a∈c,lT (E (aK 0 b its)) a=φ/\(a.head= [61]->2<=E a.ops)):Dq b (c.map λa=>(bH (aK 0 b its) a,oQ (aK 0 b its) a,a.quiet)):=by
 have d:=Tp (its:=its) (fns:=[]) (outs:=[]) g j i;refine⟨d.1,λl e=>⟨?_,(d.2 l e).1⟩⟩;obtain⟨a, -,rfl⟩:=N1.mp e;exact Ei f (λm n=>cz ((tZ b its 0 m n).2.1)) a
theorem oK.ah{w x v b}(c:oK w v b)(a:Bl w x):oK x v b:=by
 obtain⟨d,cap,e,f,g⟩:=c;exact⟨d,cap,e,f,g.imp id λ⟨j,k,l,m⟩=>⟨j,k,L8 l a.size,λi n o=>ax (m i n o) a⟩⟩
theorem ZI{tt c b}(a:dS tt c=V b):b<E tt:=by
 rw[dS]at a;exact(List.findIdx?_eq_some_iff_getElem.mp a).1
def Oa(l:μ (aJ×Ex)):M3 Q (μ (aJ×Ex))->M3 Q (μ (aJ×Ex))
 | .error n=>.error n
 | .ok m=>.ok (l++m)
theorem YX(a b o):Oa a (Oa b o)=Oa (a++b) o:=by
 cases o<;>simp[Oa]
section
variable {tt : List (aJ × Ex)} {user : Bs} {its : List (Bs × Bs)} {i : Nat} {it : Bs × Bs} (hit : its[i]? = some it)
include hit
theorem Qv(a:dS tt it.1=J):dh tt user (its.take i) (its.drop i)=.error 2:=by
 obtain⟨b,rfl⟩:=ε.mp hit;rw[ξ b,dh,a]
theorem UJ{a d}(b:dS tt it.1=V a)(c:tt[a]? =V d)(f:(aW it.2&& !(its.take i).any λo=>o.2==it.2)=Θ):dh tt user (its.take i) (its.drop i)=.error 2:=by
 obtain⟨e,rfl⟩:=ε.mp hit;rw[ξ e,dh,b];simp only[c];rw[O8]
 cases g:aW its[i].2<;>simp_all
theorem XY{c a}(e:dS tt it.1=V c)(f:tt[c]? =V a)(b:(aW it.2&& !(its.take i).any λo=>o.2==it.2)=φ):dh tt user (its.take i) (its.drop i)=if bC a.1.gZ user then Oa [a] (dh tt user (its.take (i+1)) (its.drop (i+1)))else .error 7:=by
 obtain⟨d,rfl⟩:=ε.mp hit;rw[ξ d,dh,e];simp only[f];rw[Δ,Bool.not_eq_true']at b;rw[P2 (by simp[b.1,b.2]),ο d]
 cases bC a.1.gZ user with
 |false=>rfl
 |true=>
  simp only[Bool.not_true,Bool.false_eq_true,if_false,if_true]
  cases dh tt user (its.take i++ [its[i]]) (its.drop (i+1))<;>rfl
end
theorem RQ{its:μ (Bs×Bs)}{b a}(d:its[b]? =V a)(n c):(c&& !(its.take b).any (λo=>o.2==n)&& !(a.2==n))=(c&& !(its.take (b+1)).any λo=>o.2==n):=by
 obtain⟨e,rfl⟩:=ε.mp d;rw[ο e,List.any_append,List.any_cons,List.any_nil,Bool.or_false,Bool.not_or,Bool.and_assoc]
theorem DV:∀(a:μ (aJ×Ex)) (c:aJ×Ex) (its:μ (Bs×Bs)) (b:A) (d:E a<E its),aK b (a++ [c]) its=aK b a its++c.1.aB.map λe=>(bD its[E a].2 e,b+E a,e.2.2)
 | [],c,it::its,b,d=>by simp[aK]
 |t::a,c,it::its,b,d=>by
  have:=DV a c its (b+1) (by simpa using d);rw[List.cons_append,aK,aK,this,L9];congr 2;simp only[List.length_cons,List.getElem_cons_succ];rw[show b+1+E a=b+(E a+1)by omega]
theorem Mj{a}(b){its}(c:E a<E its):(aK 0 (a++ [b]) its).map (·.1)=(aK 0 a its).map (·.1)++b.1.aB.map (bD its[E a].2):=by
 rw[DV a b its 0 c,M4,N2];rfl
abbrev YV.up(a:YV)(io:ρ L2)(il ic:A)(ko:ρ L2)(kn kc:A)(so:ρ L2)(sn sc:A):YV:={a with io:=io,il:=il,ic:=ic,ko:=ko,kn:=kn,kc:=kc,so:=so,sn:=sn,sc:=sc}
theorem YS.up{w1}{a:YV}{d c its}(b:YS w1 a d c its)(io il ic ko kn kc so sn sc):YS w1 (a.up io il ic ko kn kc so sn sc) d c its:=⟨b.bI,b.fns,b.BK⟩
theorem Uf{c}:∀ {a:μ (aJ×Ex)} {its:μ (Bs×Bs)},(∀b∈a,1<=E b.1.aB)->E a<=E its->(aK c a its).map (·.1)= []->a= []
 | [],_,_,_,_=>rfl
 |b::a,[],_,h,_=>by simp at h
 |b::a,it::its,h1,_,h=>by
  have:=h1 b ak;rw[aK,M4,N2,List.append_eq_nil_iff,List.map_eq_nil_iff]at h;rw[h.1]at this;simp at this
section
variable {w1 x w9 : World} {o : Obj} {yb : Nat} {a : YV} {io ko so : Option Addr} {il ic kn kc sn sc : Nat} {pv uv : Value} {ids : List Nat} {aB cols' : List (Bs × Int)}
theorem YI.afK{m f e:A}(k:YI w1 x yb (a.up io il ic ko kn kc so sn sc) ids aB)(u:x.heap[yb]? =V (ι (qO (a.up io il ic ko kn kc so sn sc) pv uv) 262 (0,0)))(w:w9.ownsRow (yb+1) 3 1 (U (V (D f 0 J)) (E ids+1) e) (E ids+1) (aA (zs ids)++ [Z Y (m:Q)]))(l:(x.alloc o).grownBy w9 (U io il ic).ownBlock):
  w9.heap[yb]? =V (ι (qO (a.up io il ic ko kn kc so sn sc) pv uv) 262 (0,0))/\YI w1 (w9.setCell (D yb 7 J) (U (V (D f 0 J)) (E ids+1) e)) yb (a.up (V (D f 0 J)) (E ids+1) e ko kn kc so sn sc) (ids++ [m]) aB/\(w9.setCell (D yb 7 J) (U (V (D f 0 J)) (E ids+1) e)).heap[yb]? =V (ι (qO (a.up (V (D f 0 J)) (E ids+1) e ko kn kc so sn sc) pv uv) 262 (0,0)):=by
 have K:=af u;have y:=k.ids;have L:=l.size;rw[M0]at L;have q:∀b,(U io il ic).ownBlock=V b->yb<b/\∃z,x.heap[b]? =V (ι z 3 (0,0)):=λb c=>by
  refine⟨(y.lt b c).1, ?_⟩;rcases y.2 with⟨g,_⟩|⟨N,cap,O,g,_,i,_⟩
  ·rw[g]at c;cases c
  rw[g]at c;cases c;exact⟨_,i⟩
 have r:∀b,b<G (H x)->(U io il ic).ownBlock≠V b->w9.heap[b]? =x.heap[b]? :=λb d P=>(l.block b FK (λc=>P c.symm)).trans (O2 _ _ _ d);have B:=(r yb K λc=>cz ((q yb c).1)).trans u;have C:=(aQ (P:=L6) (j:=7) B (by simp[qO]) (v:=U (V (D f 0 J)) (E ids+1) e) M).2;have F:∀ {p:P5} {v:Φ} {n:A} {s:μ Φ},p≠3->x.ownsRow (yb+1) p 1 v n s->(w9.setCell (D yb 7 J) (U (V (D f 0 J)) (E ids+1) e)).ownsRow (yb+1) p 1 v n s:=fun {p v n s} R t=>aD t λb d=>by
  obtain⟨_,S⟩:=t.lt b d;refine(ζ _ _ _ _ (by show b≠yb;omega)).trans (r b S λc=>?_);obtain⟨-,z,T⟩:=q b c;rcases t.2 with⟨g,_⟩|⟨N,cap,O,g,_,i,_⟩
  ·rw[g]at d;cases d
  rw[g]at d;cases d;rw[T]at i;cases i;exact R M
 refine⟨B,⟨k.at', ?_,⟨_,_,C⟩, ?_,F ag k.nms,F ag k.Bo⟩,C⟩
 ·suffices i:M7 yb w1 w9 from i.setCell (p:=(D yb 7 J)) (η _) _
  have g:=k.jH;exact⟨l.os.trans g.os,l.tape.trans g.tape,l.output.trans g.output,cz g.size,λb d=>(r b aa λc=>cz ((q b c).1)).trans (g.block b d)⟩
 rw[κ,show aA (zs (ids++ [m]))=aA (zs ids)++ [Z Y (m:Q)]by simp[aA,zs]];exact aD w λb d=>ζ _ _ _ _ (by show b≠yb;have:=(w.lt b d).1;omega)
theorem YI.afL{f aS e d i g}(j:YI w1 x yb (a.up io il ic ko kn kc so sn sc) ids aB)(r:x.heap[yb]? =V (ι (qO (a.up io il ic ko kn kc so sn sc) pv uv) 262 (0,0)))(m:Bl x w9)(k:w9.ownsRow (G (H x)) 9 1 (U f e d) (E cols') (Er cols'))(l:w9.ownsRow (G (H x)) 5 1 (U aS i g) (E cols') (Ib cols')):
  w9.heap[yb]? =V (ι (qO (a.up io il ic ko kn kc so sn sc) pv uv) 262 (0,0))/\YI w1 ((((w9.setCell (D yb 8 J) (U f e d)).setCell (D yb 9 J) (U aS i g)).setCell (D yb 10 J) (γ ⟨#[]⟩)).setCell (D yb 11 J) (U a.go a.gn a.gc)) yb (a.up io il ic f e d aS i g) ids cols'/\((((w9.setCell (D yb 8 J) (U f e d)).setCell (D yb 9 J) (U aS i g)).setCell (D yb 10 J) (γ ⟨#[]⟩)).setCell (D yb 11 J) (U a.go a.gn a.gc)).heap[yb]? =V (ι (qO (a.up io il ic f e d aS i g) pv uv) 262 (0,0)):=by
 have u:=af r;have s:=(m.block yb u).trans r;have t:=(aQ (P:=L6) (j:=11) (aQ (P:=L6) (j:=10) (aQ (P:=L6) (j:=9) (aQ (P:=L6) (j:=8) s (by simp[qO]) (v:=U f e d) M).2 (by simp[qO]) (v:=U aS i g) M).2 (by simp[qO]) (v:=γ ⟨#[]⟩) M).2 (by simp[qO]) (v:=U a.go a.gn a.gc) M).2;have p:∀b,b≠yb->((((w9.setCell (D yb 8 J) (U f e d)).setCell (D yb 9 J) (U aS i g)).setCell (D yb 10 J) (γ ⟨#[]⟩)).setCell (D yb 11 J) (U a.go a.gn a.gc)).heap[b]? =w9.heap[b]? :=λb c=>by
  rw[ζ _ _ _ _ c,ζ _ _ _ _ c,ζ _ _ _ _ c,ζ _ _ _ _ c]
 refine⟨s,⟨j.at', ?_,⟨_,_,t⟩, ?_, ?_, ?_⟩,t⟩
 ·exact(((((j.jH.trans (m.mono aa)).setCell (p:=(D yb 8 J)) (η _) _).setCell (p:=(D yb 9 J)) (η _) _).setCell (p:=(D yb 10 J)) (η _) _).setCell (p:=(D yb 11 J)) (η _) _)
 ·exact aD j.ids λb c=>by
   obtain⟨_,q⟩:=j.ids.lt b c;exact(p b aa).trans (m.block b q)
 ·exact aD (bY k λb c=>cz ((k.lt b c).1)) λb c=>p b (by have:=(k.lt b c).1;omega)
 exact aD (bY l λb c=>cz ((l.lt b c).1)) λb c=>p b (by have:=(l.lt b c).1;omega)
end
structure xR(w1 x:World)(a:YV)(tl:List ig)(user:Bs)(its:List (Bs×Bs))(ids:List Nat)(tes:List (aJ×Ex)):Prop where
 yi:YI w1 x (Array.size (World.heap w1)) a ids ((aK 0 tes its).map (·.1))
 LH:x.heap[Array.size (World.heap w1)]? =some (.cells (qO a (.slice none 0 0) (.slice none 0 0)) 262 (0,0))
 len:List.length ids=List.length tes
 le:List.length tes<=List.length its
 bI:∀(i k:Nat) (te:aJ×Ex),ids[i]? =some k->tes[i]? =some te->∃r,tl[k]? =some r/\te=(r.t,r.x)
 nil:tes= []->(a.ko=none/\a.kc=0)/\a.so=none/\a.sc=0
 wd:∀it∈its.take (List.length tes),aW it.2=true
 res:dh (fB tl) user [] its=Oa tes (dh (fB tl) user (its.take (List.length tes)) (its.drop (List.length tes)))
theorem xR.ah{w1 x f a e user its ids d}(b:xR w1 x a e user its ids d)(c:Bl x f):xR w1 f a e user its ids d:=
 ⟨b.yi.ah c,(c.block _ (af b.LH)).trans b.LH,b.len,b.le,b.bI,b.nil,b.wd,b.res⟩
theorem xR.mem{w1 x a f user its ids e}(d:xR w1 x a f user its ids e):∀c∈e,∃b∈f,c=(b.t,b.x):=λc j=>by
 obtain⟨i,g⟩:=L3 j;have k:=(ε.mp g).1;have l:i<E ids:=by rw[d.len];exact k
 obtain⟨b,m,n⟩:=d.bI i ids[i] c (β l) g;exact⟨b,υ m,n⟩
theorem xR.done{w1 x a c user its ids b}(d:xR w1 x a c user its ids b)(e:E its<=E b):dh (fB c) user [] its=.ok b:=by
 rw[d.res,N3 e,dh,Oa,O4]
def WY(f:Func):Code:=((f.body.bind (fV 23)).getD .skip)
theorem aaH{d:χ}{yb B k e m z i l n a9 a0 b0:A}{ko so a6:ρ L2}{kn kc sn sc a5 a4:A}{s:ByteArray}{N O P R S T:Φ}(w7:aaq N O P R S T)(b5:α d (D B 0 J)=V (U (V (D e z J)) n a9))(b6:α d ⟨e,z+i*2+1,J⟩=V (γ s))(b7:α d (D k 1 J)=V (U (V (D m 0 J)) a0 b0))(y:Six d m (l*6) N O P R S T)(n':i<n)(o':l<a0)(j:B<yb/\e<yb/\k<yb/\m<yb)(X:yb<G (H d))
  (w8:α d (D yb 8 J)=V (U ko kn kc)/\α d (D yb 9 J)=V (U so sn sc)/\α d (D yb 10 J)=V (γ ⟨#[]⟩)/\α d (D yb 11 J)=V (U a6 a5 a4)) {b2:ρ L2->A->A->ρ L2->A->A->χ->Prop}
  (b3:M8 L6 120 #[L1 #[U ko kn kc,U so sn sc,γ ⟨#[]⟩,U a6 a5 a4],γ s,L1 #[N,O,P,R,S,T]] d.drew λa3 p=>∃u t r K F C,a3=ω (L1 #[U u t r,U K F C,γ ⟨#[]⟩,U a6 a5 a4])/\I (b2 u t r K F C p)/\Bl d p) {b8 b9 m4 n5 o6 q7 r8 u9 c0 g0 h1 i2 j3 k4 l9 m5 m6 m7 m8 m9 n0 n1 n2 n3 n4 n6 n7 n8 n9 o0 o1 o2 o3 o4 o5 o7 o8 o9 p0 p1 p2 p3 p4 p5 p6 p7 p8 p9 q0 q1 q2 q3 q4 q5 q6 q8 q9 r0 r1 r2 r3 r4 r5 r6 r7 r9 s0 s1 s2 s3 s4 s5 s6 s7 s8 s9 u0 u1 u2 u3 u4 u5 u6 u7 u8 v0 v1 v2 v3 v4 v5 v6 v7 v8 v9 c1 c2 c3 c4 c5 c6 c7 c8 c9 e0 e1 e2 x0 x1 x2 x3 x4 x5 x6 x7 x8 x9 y0 y1 y2 y3 y4 y5 y6 y7 y8 y9 z0 e3 e4 e5 e6 e7 e8 e9 g1 g2 g3 g4 g5 g6 g7 g8 g9 h0 h2 h3 h4 h5 h6 h7 h8 h9 i0 i1 i3 i4 i5 i6 i7 i8 i9 j0 j1 j2 j4 j5 j6 j7 j8 j9 k0 k1 k2 k3 k5 k6 k7 k8 k9 l0 l1 l4 l7 l8 m0 m1 m2 m3:Φ} {a2:Exit->Act->χ->Prop} (c:∀f (a:Act) (w6:A) (v:Φ) (w:χ),a2 (.panic f) (a.put (V w6) v) w->a2 (.panic f) a w) (W:∀p,Bl d p->(∀w9,θ p (D yb w9 J)=Θ))
  (b4:∀(z1 z2 z3 z4 z5 z6 z7 z8 z9 a' b' c' d' e' f' v127 g' h' i' j' k':Φ) (u:ρ L2) (t r:A) (K:ρ L2) (F C:A) (p:χ),b2 u t r K F C p->a2 .normal ⟨#[b8,b9,m4,n5,o6,δ (V (D B 0 J)),q7,r8,δ (V (D k 0 J)),u9,c0,δ (V (D yb 0 J)),Z Y (i:Q),Z Y (l:Q),g0,h1,i2,j3,k4,l9,m5,m6,m7,m8,m9,n0,n1,n2,n3,n4,n6,n7,n8,n9,o0,o1,o2,o3,o4,o5,o7,o8,o9,p0,p1,p2,p3,p4,p5,p6,p7,p8,p9,q0,q1,q2,q3,q4,q5,q6,q8,q9,r0,r1,r2,r3,r4,r5,r6,r7,r9,s0,s1,s2,s3,s4,s5,s6,s7,s8,s9,u0,u1,u2,u3,u4,u5,u6,u7,u8,v0,v1,v2,v3,v4,v5,v6,v7,v8,v9,c1,c2,c3,c4,c5,c6,c7,c8,c9,e0,e1,e2,z1,z2,z3,z4,z5,z6,z7,z8,z9,a',b',c',d',e',f',v127,g',h',i',j',k',e3,e4,e5,e6,e7,e8,e9,g1,g2,g3,g4,g5,g6,g7,g8,g9,h0,h2,h3,h4,h5,h6,h7,h8,h9,i0,i1,i3,i4,i5,i6,i7,i8,i9,j0,j1,j2,j4,j5,j6,j7,j8,j9,k0,k1,k2,k3,k5,k6,k7,k8,k9,l0,l1,l4,l7,l8,m0,m1,m2,m3],[]⟩ ((((p.setCell (D yb 8 J) (U u t r)).setCell (D yb 9 J) (U K F C)).setCell (D yb 10 J) (γ ⟨#[]⟩)).setCell (D yb 11 J) (U a6 a5 a4))):
  Code.wp L6 (WY M6) a2 ⟨#[b8,b9,m4,n5,o6,δ (V (D B 0 J)),q7,r8,δ (V (D k 0 J)),u9,c0,δ (V (D yb 0 J)),Z Y (i:Q),Z Y (l:Q),g0,h1,i2,j3,k4,l9,m5,m6,m7,m8,m9,n0,n1,n2,n3,n4,n6,n7,n8,n9,o0,o1,o2,o3,o4,o5,o7,o8,o9,p0,p1,p2,p3,p4,p5,p6,p7,p8,p9,q0,q1,q2,q3,q4,q5,q6,q8,q9,r0,r1,r2,r3,r4,r5,r6,r7,r9,s0,s1,s2,s3,s4,s5,s6,s7,s8,s9,u0,u1,u2,u3,u4,u5,u6,u7,u8,v0,v1,v2,v3,v4,v5,v6,v7,v8,v9,c1,c2,c3,c4,c5,c6,c7,c8,c9,e0,e1,e2,x0,x1,x2,x3,x4,x5,x6,x7,x8,x9,y0,y1,y2,y3,y4,y5,y6,y7,y8,y9,z0,e3,e4,e5,e6,e7,e8,e9,g1,g2,g3,g4,g5,g6,g7,g8,g9,h0,h2,h3,h4,h5,h6,h7,h8,h9,i0,i1,i3,i4,i5,i6,i7,i8,i9,j0,j1,j2,j4,j5,j6,j7,j8,j9,k0,k1,k2,k3,k5,k6,k7,k8,k9,l0,l1,l4,l7,l8,m0,m1,m2,m3],[]⟩ d:=by
 conv=>arg 2;whnf
 change I _ at b4;change I _ at c;change I _ at W;obtain⟨_,_,_,_,_,_⟩:=w7;have a7:∀x:χ,M7 yb d x->(α x (D B 0 J)=V (U (V (D e z J)) n a9)/\α x ⟨e,z+i*2+1,J⟩=V (γ s)/\α x (D k 1 J)=V (U (V (D m 0 J)) a0 b0)/\Six x m (l*6) N O P R S T)/\(B<G (H x)/\e<G (H x)/\k<G (H x)/\m<G (H x)):=λx l'=>by
  have f:∀ {e o:A} {v:Φ},e<yb->α d (D e o J)=V v->α x (D e o J)=V v:=fun {e o v} a1 a3=>cK l' a1 a3;have b:=f j.1 b5;have g:=f j.2.1 b6;have q:=f j.2.2.1 b7;have L:=f j.2.2.2 y.1;exact⟨⟨b,g,q,L,f j.2.2.2 y.2.1,f j.2.2.2 y.2.2.1,f j.2.2.2 y.2.2.2.1,f j.2.2.2 y.2.2.2.2.1,f j.2.2.2 y.2.2.2.2.2⟩,aU b,aU g,aU q,aU L⟩
 obtain⟨w4,w5,w2,w3⟩:=w8;have:¬((n:Q)<=(i:Q)):=aa;have:¬((a0:Q)<=(l:Q)):=aa;clear b5 b6 b7 y;refine wp_region_held_drew (S:=λx=>M7 yb d x) aF (Γ _ _).drew (λb=>?_);refine tH 0 112 (δ (V (D yb 0 J))) M M aF c b ?_ ?_;refine tH 1 113 (δ (V (D yb 0 J))) M M aF c b ?_ ?_;refine tH 2 114 (δ (V (D yb 0 J))) M M aF c b ?_ ?_;refine tH 3 115 (δ (V (D yb 8 J))) M M aF c b ?_ ?_;refine tH 5 117 (δ (V (D B 0 J))) M M aF c b ?_ ?_;refine tH 6 118 (U (V (D e z J)) n a9) M M aF c b ?_ ?_;refine tH 7 119 (Z Y (i:Q)) M M aF c b ?_ ?_;refine tH 8 120 (δ (V ⟨e,z+i*2,J⟩)) M M aF c b ?_ ?_;refine tH 9 121 (δ (V ⟨e,z+i*2+1,J⟩)) M M aF c b ?_ ?_;refine tH 10 122 (γ s) M M aF c b ?_ ?_;refine tH 11 123 (δ (V (D k 0 J))) M M aF c b ?_ ?_;refine tH 12 124 (δ (V (D k 0 J))) M M aF c b ?_ ?_;refine tH 13 125 (δ (V (D k 1 J))) M M aF c b ?_ ?_;refine tH 14 126 (U (V (D m 0 J)) a0 b0) M M aF c b ?_ ?_;refine tH 15 127 (Z Y (l:Q)) M M aF c b ?_ ?_;refine tH 16 128 (δ (V ⟨m,l*6,J⟩)) M M aF c b ?_ ?_;refine tH 17 129 (L1 #[N,O,P,R,S,T]) M M aF c b ?_ ?_;all_goals try(simp only[Act.put,τ,Ψ,Ω];first|exact P0 ⟨by rfl,M⟩|exact N0 ⟨by rfl,λx a8=>by obtain⟨⟨_,_,_,_,_,_,_,_,_⟩,_,_,_,_⟩:=a7 x a8;clear a8 a7;go_simp⟩)
 simp only[Act.put,τ,Ψ,Ω];refine O1 (rs:=[4]) aF ak ?_;refine M1 M (λa1 q=>?_) M2
 go_simp
 go_wp2_with fail;refine q _ _ (Γ _ _).drew (λb=>?_);clear q a1;refine O1 (rs:=[18]) aF ak ?_;refine M1 M (λa1 q=>?_) M2
 go_simp
 go_wp2_with(go_at_call 120;refine b3.mono ?_;rintro a3 L ⟨u,t,r,K,F,C,rfl,m',g⟩);clear b3;have w0:M7 yb d L:=g.mono aa;refine q _ _ w0 (λb=>?_);clear q a1;refine tH 19 131 (δ (V (D yb 0 J))) M M aF c b ?_ ?_;refine tH 20 132 (δ (V (D yb 8 J))) M M aF c b ?_ ?_;all_goals try(simp only[Act.put,τ,Ψ,Ω];first|exact P0 ⟨by rfl,M⟩|exact N0 ⟨by rfl,λx a8=>by clear a8 a7;go_simp⟩)
 simp only[Act.put,τ,Ψ,Ω];have:=cK g X w4;have:=cK g X w5;have:=cK g X w2;have:=cK g X w3;have:=W.out L g 8;have:=W.out L g 9;have:=W.out L g 10;have:=W.out L g 11;have:yb<G (H L):=L8 X g.size;clear w4 w5 w2 w3 a7;refine O1 (rs:=[21]) aF ak ?_;refine M1 M (λa1 q=>?_) M2
 go_simp
 go_wp2_with fail;refine q _ _ ((((w0.setCell (p:=(D yb 8 J)) (η _) _).setCell (p:=(D yb 9 J)) (η _) _).setCell (p:=(D yb 10 J)) (η _) _).setCell (p:=(D yb 11 J)) (η _) _) (λb=>?_);clear q a1;refine wpAnyH_done aF ?_ _;exact b4 _ _ _ _ _ _ _ _ _ _ _ _ _ _ _ _ _ _ _ _ _ u t r K F C L m'
def KR(ps:Sc)(fns:μ Fn)(s:Bs)(v:Φ)(t n:Q)(w':χ):Prop:=
 (dH bL ps fns s=.error n/\n≠0/\v=U J 0 0)\/
 (∃(x:Ex) (tr:Tr) (g cap:A) (cs:μ Φ),dH bL ps fns s=.ok x/\bO bL ps fns tr=.ok x/\(∀y∈post tr,kg y)/\v=U (V ⟨g,0,J⟩) (E (post tr)) cap/\t=pQ x.ty/\n=0/\iN w' g cap (post tr) (nM bL ps fns (post tr) (E (post tr))) cs)
section
variable {ps : Sc} {fns : List Fn} {s : Bs} {v : Value} {t n : Int} {w x : World}
theorem KR.ah(a:KR ps fns s v t n w)(b:Bl w x):KR ps fns s v t n x:=
 a.imp id λ⟨c,d,e,cap,f,g,i,j,k,l,m,o⟩=>⟨c,d,e,cap,f,g,i,j,k,l,m,o.ah b⟩
theorem KR.other(e:KR ps fns s v t n w){b:A}{c d}(f:w.heap[b]? =V (ι #[c] 102 d))(i:∀a,a≠b->x.heap[a]? =w.heap[a]?):KR ps fns s v t n x:=
 e.imp id λ⟨j,k,g,cap,l,m,o,p,q,r,u,y⟩=>⟨j,k,g,cap,l,m,o,p,q,r,u,y.other f i⟩
end
theorem WA.kr{w b ps fns s f}(j:WA w ps fns s f b):∃(a:ρ L2) (d e:A) (t n:Q),f=ω (σ #[L1 #[U a d e],Z .u8 t,Z Y n])/\I (KR ps fns s (U a d e) t n b)/\Bl w b:=by
 obtain⟨g,⟨n,c,i,rfl⟩|⟨x,k,l,cap,m,c,i,o,p,rfl,_,q⟩⟩:=j
 ·exact⟨_,_,_,_,_,M,N0 ⟨c,i,M⟩,g⟩
 exact⟨_,_,_,_,_,M,P0 ⟨x,k,l,cap,m,c,o,p,M,M,M,q⟩,g⟩
def Vs(l:μ Ex):M3 Q (μ Ex)->M3 Q (μ Ex)
 | .error n=>.error n
 | .ok m=>.ok (l++m)
theorem YN{sc fns}{outs:μ Bs}{i s n}(b:outs[i]? =V s)(a:dH bL sc fns s=.error n):eF sc fns (outs.drop i)=.error n:=by
 obtain⟨c,rfl⟩:=ε.mp b;rw[ξ c,eF,a]
theorem abz{sc fns}{outs:μ Bs}{i s x a}(c:outs[i]? =V s)(b:dH bL sc fns s=.ok x):Vs a (eF sc fns (outs.drop i))=Vs (a++ [x]) (eF sc fns (outs.drop (i+1))):=by
 obtain⟨d,rfl⟩:=ε.mp c;rw[ξ d,eF,b];dsimp only
 cases eF sc fns (outs.drop (i+1))<;>simp[Vs]
structure OW(w1 x:World)(yb:Nat)(a:YV)(ids:List Nat)(tes:List (aJ×Ex))(its:List (Bs×Bs))(rfs:List RF)(ts:List Tr)(uo:Option Addr)(n uc:Nat)(vs:List Value):Prop where
 pw:PW w1 x yb a (.slice uo n uc) ids tes its rfs ts
 own:x.ownsRow (yb+1) 102 1 (.slice uo n uc) n vs
theorem OW.ah{w1 x k yb a ids e its d f i n g j}(b:OW w1 x yb a ids e its d f i n g j)(c:Bl x k):OW w1 k yb a ids e its d f i n g j:=
 ⟨b.pw.ah c,aD b.own λl m=>c.block l (b.own.lt l m).2⟩
theorem OW.Fv{w1 x j:χ}{o yb p m a ids B its X a0 u n s C v}(a8:OW w1 x yb a ids B its X a0 u n s C)(W:j.ownsRow (yb+1) 102 1 (U (V (D p 0 J)) (n+1) m) (n+1) (C++ [v]))(r:(x.alloc o).drew.grownBy j (U u n s).ownBlock):
  OW w1 (j.setCell (D yb 13 J) (U (V (D p 0 J)) (n+1) m)) yb a ids B its X a0 (V (D p 0 J)) (n+1) m (C++ [v])/\∃pv,j.heap[yb]? =V (ι (qO a pv (U u n s)) 262 (0,0)):=by
 obtain⟨⟨w,a9,b0,F,b1,b2,b3,b4⟩,a1⟩:=a8;have b5:=af F;have b6:=r.size;simp only[World.size_drew,M0]at b6;have K:∀b,(U u n s).ownBlock=V b->yb<b/\∃g,x.heap[b]? =V (ι g 102 (0,0)):=λb d=>by
  refine⟨(a1.lt b d).1, ?_⟩;rcases a1.2 with⟨q,_⟩|⟨a5,cap,a6,q,_,y,_⟩
  ·rw[q]at d;cases d
  rw[q]at d;cases d;exact⟨_,y⟩
 have L:∀b,b<G (H x)->(U u n s).ownBlock≠V b->j.heap[b]? =x.heap[b]? :=λb f b7=>(r.block b LZ (λd=>b7 d.symm)).trans (O2 _ _ _ f);have a2:=(L yb b5 λd=>cz ((K yb d).1)).trans F;have a3:=(aQ (P:=L6) (j:=13) a2 (by simp[qO]) (v:=U (V (D p 0 J)) (n+1) m) M).2;have N:∀(b:A) (g:Array Φ) (e:P5) (k:A×A),x.heap[b]? =V (ι g e k)->b≠yb->e≠102->(j.setCell (D yb 13 J) (U (V (D p 0 J)) (n+1) m)).heap[b]? =x.heap[b]? :=λb g e k d f l=>(ζ _ _ _ _ f).trans (L b (af d) λO=>by
  obtain⟨-,_,z⟩:=K b O;rw[d]at z;cases z;exact l M)
 have b8:M7 yb w1 (j.setCell (D yb 13 J) (U (V (D p 0 J)) (n+1) m)):=by
  suffices y:M7 yb w1 j from y.setCell (p:=(D yb 13 J)) (η _) _
  have z:=w.jH;exact⟨r.os.trans z.os,r.tape.trans z.tape,r.output.trans z.output,cz z.size,λb f=>(L b aa λd=>cz ((K b d).1)).trans (z.block b f)⟩
 have z:∀ {e:P5} {P:A} {v:Φ} {R:A} {S:μ Φ},e≠102->x.ownsRow (yb+1) e P v R S->(j.setCell (D yb 13 J) (U (V (D p 0 J)) (n+1) m)).ownsRow (yb+1) e P v R S:=fun {e P v R S} l T=>aD T λb f=>by
  have:=(T.lt b f).1;rcases T.2 with⟨q,_⟩|⟨a5,cap,a6,q,_,y,_⟩
  ·rw[q]at f;cases f
  rw[q]at f;cases f;exact N _ _ _ _ y aa l
 refine⟨⟨⟨⟨w.at',b8,⟨_,_,a3⟩,z ag w.ids,z ag w.nms,z ag w.Bo⟩,a9,b0,a3,b1,b2,z ag b3,λi c t b9 c0=>?_⟩, ?_⟩,_,a2⟩
 ·obtain⟨b,cap,c1,c2,c3,a4,y,c4,c5,c6,a5⟩:=b4 i c t b9 c0;have a6:∀(q:A) (g:Array Φ) (e:P5) (k:A×A),x.heap[q]? =V (ι g e k)->e≠262->q≠yb:=λq g e k d l O=>by
   subst O;rw[F]at d;cases d;exact l M
  refine⟨b,cap,c1,c2,c3,a4,y,c4,c5,c6.move λq g e k d l=>N q g e k d (a6 q g e k d (by rcases l with rfl|rfl<;>decide)) (by rcases l with rfl|rfl<;>decide), ?_⟩;have c7:x.rowIs y 4 (E B) _:=a5;obtain⟨a7,d, -⟩:=c7;exact a5.ah (N y a7 _ _ d (a6 y a7 _ _ d ag) ag)
 exact aD W λb f=>ζ _ _ _ _ (by show b≠yb;have:=(W.lt b f).1;omega)
def aaE(f:Func):Code:=((f.body.bind (iT 0)).getD .skip)
theorem TV{w1 g8}(e1){a:YV}{l h0 user its}(c:YS w1 a l h0 its)(c8:∀(p:A) (b:ig),l[p]? =V b->Gu w1 a.xb p a.go a.gn a.gc b)(e0:α w1 (D e1 0 J)=V (U a.fo (E its) a.fc))(K9:E its<=4)(c9:∀it∈its,E it.2<=maxLen)(b2:∀b∈l,bG b.t=φ)(d:xR w1 g8 a l user its [] []){h1 o1 p2 q3 r1 h2 e' i' j' k' l0 m5 n6 o2 o3 o4 o5 o6 o7 o8 o9 p0 p1 p3 p4 p5 p6 p7 p8 p9 q0 q1 q2 q4 q5 q6 q7 q8 q9 r0 l' m' n' o' p' q' r' s' t' u' v' w' x' y' z' A' B' C' D' E' F' G' H' I' J' K' L' M' N' O' P' Q' R' S' T' U' V' W' X' Y' Z' A9 A8 A7 A6 A5 A4 A3 A2 A1 A0 B9 B8 x4 x5 x6 x7 x8 x9 y0 y1 y2 y3 y4 y5 y6 y7 y8 y9 z0 z1 z2 z3 z4 z5 z6 z7 z8 z9 a' b' c' d' f' g' h' h3 h4 h5 h6 h7 h8 h9 i0 i1 i2 i3 i4 i5 i6 i7 i8 i9 j0 j1 j2 j3 j4 j5 j6 j7 j8 j9 k0 k1 k2 k3 k4 k5 k6 k7 k8 k9 l1 l4 l7 l8 l9 m0 m1 m2 m3 m4 m6 m7 m8 m9 n0 n1 n2 n3 n4 n5 n7 n8 n9 o0}{g6:Act->χ->Prop}{g7:P6->χ->Prop}(b9:∀(n:Q) (x:χ),dh (fB l) user [] its=.error n->n≠0->Bl w1 x->g7 (ω (σ #[δ J,Z Y n])) x)(g9:∀(D0 F9 C5 C4 C3 C2 C1 C0 D9 D8 v51 D7 v53 D6 D5 D4 D3 D2 D1 E9 E8 E7 E6 E5 E4 E3 E2 E1 E0 v70 F8 v72 F7 F6 v75 v76 F5 F4 F3 F2 F1 F0 G9 G8 v85 G7 G6 G5 G4 G3 G2 G1 G0 H9 H8 H7 H6 H5 H4 B7 B6 B5 B4 B3 B2 B1 B0 C9 C8 C7 C6 r2 r3 r4 r5 r6 r7 r8 r9 s0 s1 s2 s3 s4 s5 s6 v127 s7 s8 s9 u0 u1:Φ) (k:χ) (ids:μ A) (e:μ (aJ×Ex)) (io:ρ L2) (il ic:A) (ko:ρ L2) (kn kc:A) (so:ρ L2) (sn sc:A),xR w1 k (a.up io il ic ko kn kc so sn sc) l user its ids e->E e=E its->g6 ⟨#[h1,γ (ae user),o1,p2,q3,δ (V (D e1 0 J)),D0,F9,δ (V (D a.xb 0 J)),r1,h2,δ (V (D (G (H w1)) 0 J)),Z Y (E its:Q),C5,C4,C3,C2,l0,m5,n6,o2,o3,o4,o5,o6,o7,o8,o9,p0,p1,p3,p4,p5,p6,p7,p8,p9,q0,q1,q2,q4,q5,q6,q7,q8,q9,r0,C1,C0,D9,D8,v51,D7,v53,D6,D5,D4,D3,D2,D1,E9,E8,E7,E6,E5,E4,E3,E2,E1,E0,v70,F8,v72,F7,F6,v75,v76,F5,F4,F3,F2,F1,F0,G9,G8,v85,G7,G6,G5,G4,G3,G2,G1,G0,H9,H8,H7,H6,H5,H4,B7,B6,B5,B4,B3,B2,B1,B0,C9,C8,C7,C6,r2,r3,r4,r5,r6,r7,r8,r9,s0,s1,s2,s3,s4,s5,s6,v127,s7,s8,s9,u0,u1,h3,h4,h5,h6,h7,h8,h9,i0,i1,i2,i3,i4,i5,i6,i7,i8,i9,j0,j1,j2,j3,j4,j5,j6,j7,j8,j9,k0,k1,k2,k3,k4,k5,k6,k7,k8,k9,l1,l4,l7,l8,l9,m0,m1,m2,m3,m4,m6,m7,m8,m9,n0,n1,n2,n3,n4,n5,n7,n8,n9,o0],[]⟩ k):
  Code.wp L6 (aaE M6) (Exit.then g6 (bodyPost L6 M6 g7)) ⟨#[h1,γ (ae user),o1,p2,q3,δ (V (D e1 0 J)),δ J,Z Y 0,δ (V (D a.xb 0 J)),r1,h2,δ (V (D (G (H w1)) 0 J)),Z Y 0,e',i',j',k',l0,m5,n6,o2,o3,o4,o5,o6,o7,o8,o9,p0,p1,p3,p4,p5,p6,p7,p8,p9,q0,q1,q2,q4,q5,q6,q7,q8,q9,r0,l',m',n',o',p',q',r',s',t',u',v',w',x',y',z',A',B',C',D',E',F',G',H',I',J',K',L',M',N',O',P',Q',R',S',T',U',V',W',X',Y',Z',A9,A8,A7,A6,A5,A4,A3,A2,A1,A0,B9,B8,x4,x5,x6,x7,x8,x9,y0,y1,y2,y3,y4,y5,y6,y7,y8,y9,z0,z1,z2,z3,z4,z5,z6,z7,z8,z9,a',b',c',d',f',g',h',h3,h4,h5,h6,h7,h8,h9,i0,i1,i2,i3,i4,i5,i6,i7,i8,i9,j0,j1,j2,j3,j4,j5,j6,j7,j8,j9,k0,k1,k2,k3,k4,k5,k6,k7,k8,k9,l1,l4,l7,l8,l9,m0,m1,m2,m3,m4,m6,m7,m8,m9,n0,n1,n2,n3,n4,n5,n7,n8,n9,o0],[]⟩ g8:=by
 conv=>arg 2;whnf
 obtain⟨H3,H2,H1,H0,I9⟩:=O9 lX;change I _ at g9;change I _ at b9;have u2:I _:=c;change I _ at c8;change I _ at c9;change I _ at b2;have I8:=aU e0;obtain⟨aS,_,_,e2,e3,e4⟩:=c.bI;change I _ at e4;change I _ at e3;have b3:I _:=c.BK;have I7:=aU e2;clear c;go_wp2_with fail;go_loopg [12] (E its) (λgk c wr=>∃(i:A) (ids:μ A) (e:μ (aJ×Ex)) (io:ρ L2) (il ic:A) (ko:ρ L2) (kn kc:A) (so:ρ L2) (sn sc:A),gk=E its-i/\i<=E its/\c=Z Y (i:Q)/\I (E e=i/\xR w1 wr (a.up io il ic ko kn kc so sn sc) l user its ids e))
 ·exact⟨0,[],[],a.io,a.il,a.ic,a.ko,a.kn,a.kc,a.so,a.sn,a.sc,M,L5 _,M,M,d⟩
 clear d;obtain⟨i,ids,e,io,il,ic,ko,kn,kc,so,sn,sc,e5,_,rfl,S⟩:=hrel;subst e5;generalize e6:wr=wo at*;clear e6;have m:Bl w1 wo:=S.out.2.yi.jH;have c0:=m.size;have c1:=ax e0 m;have I6:=aU c1;by_cases q:i<E its
 ·obtain⟨T,f,hit⟩:∃a s,its[i]? =V (a,s):=⟨its[i].1,its[i].2,β q⟩;obtain⟨s,z,b4,B,C⟩:∃s z,a.fo=V (D s z J)/\α wo ⟨s,z+i*2,J⟩=V (γ (ae T))/\α wo ⟨s,z+i*2+1,J⟩=V (γ (ae f)):=by
   obtain⟨e7,cap,d, -,N⟩:=iM.ah b3 m
   cases d;rcases N with j|⟨s,z,d,b5,W⟩
   ·rw[j]at q;simp at q
   exact⟨s,z,d,W i _ hit⟩
  have c:=zR (ax e2 m) (oK.ah e3 m) T;rw[<-Pd]at c;obtain⟨u3,r⟩:=au (dS (fB l) T);rw[<-r]at c;have O:I (dS (fB l) T=u3):=r.symm;have g:=λx=>iZ (ae f) x (by rw[aX];exact c9 _ (υ hit));rw[ay]at g;obtain⟨u4,u⟩:=au (aW f);rw[<-u]at g;have R:I (u4=(aW f&& !(its.take 0).any λo=>o.2==f)):=by rw[I,u];simp
  have y:I (its[i]? =V (T,f)):=hit;have X:=aU B;rw[b4]at c1;clear r u hit;go_upto_region 12 with(go_at_call 78;refine cB c ?_;rintro c2 r)
  have F:=ax C r;have K:=ax c1 r;have a2:=aU K;have a3:=aU F;have P:I (Bl wo c2):=r;clear B C c1 I6 X c r;go_upto_region 13 with(go_at_call 111;refine(g _).mono ?_;rintro d I5 ⟨rfl,rfl⟩)
  clear g;generalize c:I5=c2 at*;clear c;go_wp2_with fail;go_loopg [14,15] i (λgk r g k=>∃(c:A) (X:Bool),gk=i-c/\c<=i/\r=P7 X/\g=Z Y (c:Q)/\I (X=(aW f&& !(its.take c).any λo=>o.2==f))/\Bl c2 k)
  ·exact⟨0,u4,M,L5 _,M,M,R,Γ _ _⟩
  clear R;obtain⟨c,X,e5,_,rfl,rfl,B,u⟩:=hrel;subst e5;generalize e6:wr=k at*;clear e6;by_cases K8:c<i
  ·obtain⟨g,a4,a0⟩:∃g:Bs×Bs,I (its[c]? =V g)/\α c2 ⟨s,z+c*2+1,J⟩=V (γ (ae g.2)):=by
    obtain⟨e7,cap,d, -,N⟩:=iM.ah b3 (m.trans (P.mono c0));rw[b4]at d
    cases d;rcases N with j|⟨u5,u6,d,e8,W⟩
    ·rw[j]at q;simp at q
    cases d;exact⟨_,β aa,(W c _ (β aa)).2⟩
   have a1:=ax F u;have a5:=ax a0 u;have a6:=ax K u;have a9:=aU a6;have b0:=aU a1;have b1:c<E its:=aa;have r:I ((X&& !((ae g.2).toList==(ae f).toList))=(aW f&& !(its.take (c+1)).any λo=>o.2==f)):=by
    rw[I,B.out,ay,ay,<-RQ a4.out]
   obtain⟨a7,C⟩:=au (ae g.2);obtain⟨a8,R⟩:=au (ae f);rw[<-C,<-R]at r;rw[<-C]at a5;rw[<-R]at a1;clear C R;clear F K a0 B m c0;go_upto_region 16 with fail
   cases X with
   |true=>
    have C:I ((!(a7.toList==a8.toList))=(aW f&& !(its.take (c+1)).any λo=>o.2==f)):=r;clear r;go_region;all_goals(go_wp2;go_roundg (i-(c+1)))
    all_goals first
     |omega
     |exact⟨c+1,_,M,aa,M,aP,C,u⟩
     |exact⟨c+1,_,M,aa,M,aP,C,u.drew⟩
   |false=>
    have C:I (Θ=(aW f&& !(its.take (c+1)).any λo=>o.2==f)):=r;clear r
    first
     |(go_region;all_goals(go_wp2;go_roundg (i-(c+1)));all_goals first|omega|exact⟨c+1,_,M,aa,M,aP,C,u⟩|exact⟨c+1,_,M,aa,M,aP,C,u.drew⟩)
     |fail
  obtain rfl:c=i:=aa;have u7:Bl wo k:=bT P u;have g:I (E e=c/\xR w1 k (a.up io il ic ko kn kc so sn sc) l user its ids e):=⟨S.1,S.2.ah u7⟩;clear S P u m c0 F K a2 a3;have m:Bl w1 k:=g.out.2.yi.jH
  cases u3 with
  |none=>
   have I4:Hw J= -1:=M;have P:=b9.out 2 k (by rw[g.out.2.res,g.out.1,Qv y.out O.out];rfl) ag m;clear O B g y;go_wp2_with fail;exact P
  |some p=>
   have I4:Hw (V p)=(p:Q):=M;obtain⟨b,b6⟩:∃b,I (l[p]? =V b):=by
    have r:p<E l:=by have:=ZI O;rw[fB,Ξ]at this;exact this
    exact⟨_,β r⟩
   have e9:I ((fB l)[p]? =V (b.t,b.x)):=by rw[I,fB,N9,b6.out];rfl
   cases X with
   |false=>
    have P:=b9.out 2 k (by rw[g.out.2.res,g.out.1,UJ y.out O.out e9.out B.out.symm];rfl) ag m;clear O B g y;go_wp2_with fail;exact P
   |true=>
    have c3:I _:=XY (user:=user) y O e9 B.symm;have c4:=EH ((c8 p b b6).ah m) user;obtain⟨u8,r⟩:=au (bC b.t.gZ user);rw[<-r]at c4;have g0:I (u8=bC b.t.gZ user):=r;have u9:I ((aW f&& !(its.take c).any λo=>o.2==f)=φ):=B.out.symm;clear r O B
    cases u8 with
    |false=>
     have P:=b9.out 7 k (by rw[g.out.2.res,g.out.1,c3.out,<-g0.out];rfl) ag m;clear g y c3;go_wp2_with(go_at_call 79;refine c4.mono ?_;rintro d v0 ⟨rfl,rfl⟩);exact P
    |true=>
     have v1:I (dh (fB l) user [] its=Oa (e++ [(b.t,b.x)]) (dh (fB l) user (its.take (c+1)) (its.drop (c+1)))):=by
      rw[I,g.out.2.res,g.out.1,c3.out,<-g0.out,O8 M,YX]
     clear c3 g0;go_upto_region 22 with(go_at_call 79;refine c4.mono ?_;rintro d v0 ⟨rfl,rfl⟩)
     clear c4;generalize r:v0=k at*;clear r;obtain⟨I3,K, -⟩:=nY g.2.yi.ids;subst I3;have r:E ids=c:=g.out.2.len.trans g.1;have K7:E ids<4:=aa;have v2:I (∀(w9:χ) (a0:Obj) (a1 a2:A),w9.ownsRow (G (H w1)+1) 3 1 (U (V (D a1 0 J)) (E ids+1) a2) (E ids+1) (aA (zs ids)++ [Z Y (p:Q)])->(k.alloc a0).grownBy w9 (U io (E ids) ic).ownBlock->_):=λw9 a0 a1 a2 x I2=>g.out.2.yi.afK g.2.LH x I2;have v3:∀a0:Obj,(k.alloc a0).ownsRow (G (H w1)+1) 3 1 (U io (E ids) ic) (E ids) (aA (zs ids)):=λa0=>World.ownsRow.alloc g.2.yi.ids a0;have R:α k (D (G (H w1)) 7 J)=V (U io (E ids) ic):=aC g.2.LH;have a4:=af g.2.LH;have v4:I (E ids=c):=r;clear r;go_upto_region 23 with(at_builtin;refine wpList_append_lies _ M (.tmp 106) (.tmp 108) 42 M (G (H w1)+1) 3 H3 _ 1 8 underlying42 H2 H1 H0 I9 M ag (U io (E ids) ic) (E ids) (aA (zs ids)) M (v3 _) (D (G (H k)) 0 J) 1 1 [Z Y (p:Q)] M M (N7 (ψ k _)) (by intro _ r;simp at r;subst r;rfl) ag fD aa aN (G (H k)+1) ak ?_;intro a1 a2 w9 v8 v6 I1 a8;obtain⟨c5,v5,v7⟩:=v2.out w9 _ a1 a2 v8 v6;have a3:I _:=v5;have C:I _:=v7;have a5:=(aI (j:=7) c5).trans M;have a6:=af c5;have a7:θ w9 (D (G (H w1)) 7 J)=Θ:=(by simp[θ,c5]);clear v8 v6 I1 v5 c5 v3 v2 v7)
     have r:I _:=g.out.2;have F:I (E e=c):=g.out.1;clear a5 a6 a7 R a4 K g m u7 a8;generalize K:w9.setCell (D (G (H w1)) 7 J) (U (V (D a1 0 J)) (E ids+1) a2)=wA at*;clear K;obtain⟨I0,J9, -⟩:=nY a3.nms;obtain⟨J8,J7, -⟩:=nY a3.Bo;subst I0 J8;have a4:Bl w1 wA:=a3.out.jH;have g1:=af C;obtain⟨_,J6,J5,g2,v9⟩:=e4.out p b b6;have g3:=ax e2 a4;rw[J6]at g3;obtain⟨w0,w2,w3,w4,w5,w6⟩:=g2.ah a4;have g4:=ax e0 a4;rw[b4]at g4;obtain⟨w7⟩:Nonempty (α wA ⟨s,z+c*2+1,J⟩=V (γ (ae f))):=by
      obtain⟨e7,cap,d, -,N⟩:=iM.ah b3 a4;rw[b4]at d
      cases d;rcases N with j|⟨u5,u6,d,e8,W⟩
      ·rw[j]at q;simp at q
      cases d;exact⟨(W c _ y).2⟩
     have w8:=b2.out b (υ b6);have c6:aW f=φ:=by
      have:=u9.out;rw[Δ]at this;exact this.1
     have x0:E f<=1000:=by
      unfold aW at c6;simp only[Δ,M5]at c6;omega
     have x1:((aK 0 e its).map (·.1)).length<=12:=by
      rw[Ξ];have:=sw e its 0 λb7 R=>by
       obtain⟨b1,c7,rfl⟩:=r.out.mem b7 R;exact(kY (b2 b1 c7)).1.1
      have:=F.out;have:=v4.out;omega
     have x2:M8 L6 120 #[L1 #[U ko ((aK 0 e its).map (·.1)).length kc,U so ((aK 0 e its).map (·.1)).length sc,γ ⟨#[]⟩,U a.go a.gn a.gc],γ (ae f),L1 #[γ (ae b.t.name),U b.co b.cn b.cc,U b.ro b.rn b.rc,Z Y b.t.count,γ (ae b.t.aR),U b.uo b.un b.uc]] wA.drew λd K=>∃a5 a6 a7 a8 a9 b0,d=ω (L1 #[U a5 a6 a7,U a8 a9 b0,γ ⟨#[]⟩,U a.go a.gn a.gc])/\I (xR w1 ((((K.setCell (D (G (H w1)) 8 J) (U a5 a6 a7)).setCell (D (G (H w1)) 9 J) (U a8 a9 b0)).setCell (D (G (H w1)) 10 J) (γ ⟨#[]⟩)).setCell (D (G (H w1)) 11 J) (U a.go a.gn a.gc)) (a.up (V (D a1 0 J)) (E ids+1) a2 a5 a6 a7 a8 a9 b0) l user its (ids++ [p]) (e++ [(b.t,b.x)]))/\Bl wA K:=by
      obtain⟨x,x3⟩:=au wA.drew;have b8:Bl wA x:=by rw[x3];exact(Γ _ _).drew
      rw[<-x3];have u:=bT a4 b8;refine(zU x a.go a.gn a.gc h0 f x0 _ x1 ko kc so sc ((a3.ah b8).kn (u2.up _ _ _ _ _ _ _ _ _) aa) (λg5=>r.out.nil ?_) b.t (γ (ae b.t.name)) (γ (ae b.t.aR)) (Z Y b.t.count) b.co b.cn b.cc (U b.ro b.rn b.rc) (U b.uo b.un b.uc) ⟨M,M,M,M,M⟩ (v9.ah u) (qK w8)).mono ?_
      ·exact Uf (λb7 R=>by obtain⟨b1,c7,rfl⟩:=r.out.mem b7 R;exact(kY (b2 b1 c7)).1.2) r.le g5
      rintro d K ⟨a5,a6,a7,a8,a9,b0,rfl,J4,J3,b5⟩;obtain⟨_,J2,J1⟩:=YI.afL (a3.ah b8) ((b8.block _ g1).trans C) b5 J4 J3;refine⟨a5,a6,a7,a8,a9,b0,M,⟨?_,J1,by rw[κ,κ,r.out.len];rfl,by rw[κ,F.out];exact q, ?_,λj=>by simp at j, ?_, ?_⟩,bT b8 b5⟩
      ·have R:E e<E its:=by rw[F.out];exact q
       have d:its[E e]=(T,f):=by
        have:=y.out;rw[<-F.out,β R]at this;exact K3 this
       rw[Mj (b.t,b.x) R,d];exact J2
      ·intro c7 J0 b7 b1 R;rcases Nat.lt_or_ge c7 (E e)with j|j
       ·rw[K4 (by rw[r.out.len];exact j)]at b1;rw[K4 j]at R;exact r.bI c7 J0 b7 b1 R
       rw[K1 (by rw[r.out.len];exact j)]at b1;rw[K1 j]at R;have g5:=(ε.mp R).1;simp only[N5]at g5;rw[show c7-E ids=0 by rw[r.out.len];omega]at b1;rw[show c7-E e=0 by omega]at R;simp only[List.getElem?_cons_zero,P3]at b1 R;subst b1 R;exact⟨b,b6,M⟩
      ·intro it hit;rw[κ,F.out,N5]at hit;obtain⟨R,b1⟩:=ε.mp y;rw[ο R,L0]at hit;rcases hit with j|j
       ·exact r.wd it (by rw[F.out];exact j)
       rw[K0.mp j,b1];exact c6
      rw[κ,F.out];exact v1
     have R:α wA (D (G (H w1)) 8 J)=V (U ko ((aK 0 e its).map (·.1)).length kc):=aC C;have b1:α wA (D (G (H w1)) 9 J)=V (U so ((aK 0 e its).map (·.1)).length sc):=aC C;have b7:α wA (D (G (H w1)) 10 J)=V (γ ⟨#[]⟩):=aC C;have b8:α wA (D (G (H w1)) 11 J)=V (U a.go a.gn a.gc):=aC C;have c7:=aU g2.1;have g5:I (s<G (H w1)):=by
      obtain⟨e7,cap,d, -,N⟩:=b3.out;rw[b4]at d
      cases d;rcases N with j|⟨u5,u6,d,e8,W⟩
      ·rw[j]at q;simp at q
      cases d;exact e8
     have N:I (∀K,Bl wA K->(∀c,θ K (D (G (H w1)) c J)=Θ)):=λK b5 c=>by
      simp[θ,(b5.block _ g1).trans C.out]
     have W:I (E e=E ids):=r.out.len.symm;clear a3 C r v1 b2 e9 y v9 w8 c6 x0 x1 u9 e4 u2 c8 c9 b3 e3 J9 J7 F g2 a4;generalize ((aK 0 e its).map (·.1)).length=L at*;refine aaH ⟨M,M,M,M,M,M⟩ g4 w7 g3 ⟨w0,w2,w3,w4,w5,w6⟩ q J5 ⟨I8,g5,I7,c7⟩ g1 ⟨R,b1,b7,b8⟩ x2 (λ_ a _ v w j=>j) N ?_;intro r2 r3 r4 r5 r6 r7 r8 r9 s0 s1 s2 s3 s4 s5 s6 v127 s7 s8 s9 u0 u1 a5 a6 a7 a8 a9 b0 K j;dsimp only;have P:I _:=j;clear x2 R b1 b7 b8 w0 w2 w3 w4 w5 w6 g4 w7 g3 j N
     go_wp2
     go_roundg (E its-(c+1))
     all_goals first
      |omega
      |exact⟨c+1,_,_,_,_,_,_,_,_,_,_,_,M,aa,aP,by rw[κ,<-v4.out,W.out];rfl,P⟩
 obtain rfl:i=E its:=aa;clear m c0;go_wp2_with fail;exact g9 _ _ _ _ _ _ _ _ _ _ _ _ _ _ _ _ _ _ _ _ _ _ _ _ _ _ _ _ _ _ _ _ _ _ _ _ _ _ _ _ _ _ _ _ _ _ _ _ _ _ _ _ _ _ _ _ _ _ _ _ _ _ _ _ _ _ _ _ _ _ _ _ _ _ _ _ _ _ _ _ _ _ _ _ _ _ _ _ _ _ _ _ _ ids e io il ic ko kn kc so sn sc S.2 S.1
def aaF(f:Func):Code:=((f.body.bind (iT 4)).getD .skip)
theorem WZ{w1 b8 L a ids g its z1 f b1}(c0:YC w1 a ids z1 f its g){outs a9 a8}(a6:α w1 (D L 2 J)=V (U a9 (E outs) a8))(c7:gD w1 (U a9 (E outs) a8) outs)(B0:E outs<=4)(c2:OW w1 b8 (G (H w1)) a ids g its f b1 J 0 0 []){e1 e2 m6 n3 o4 D' E' s5 u6 e3 h4 i5 j6 k7 m1 m2 m3 m4 A' B' C' m7 m8 m9 n0 n1 n2 n4 n5 n6 n7 n8 n9 o0 o1 o2 o3 o5 o6 o7 o8 o9 p0 p1 p2 p3 p4 p5 p6 p7 p8 p9 q0 q1 q2 q3 q4 q5 q6 q7 q8 q9 r0 r1 r2 r3 r4 r5 r6 r7 r8 r9 s0 s1 s2 s3 s4 s6 s7 s8 s9 u0 u1 u2 u3 u4 u5 u7 u8 u9 v0 v1 v2 v3 v4 v5 v6 e4 e5 e6 e7 e8 e9 g0 g1 g2 g3 g4 g5 g6 g7 g8 g9 h0 h1 h2 h3 h5 h6 h7 h8 h9 i0 i1 i2 i3 i4 i6 i7 i8 i9 j0 j1 j2 j3 j4 j5 j7 j8 j9 k0 k1 k2 k3 k4 k5 k6 k8 k9 l0 l1 l4 l7 l8 l9 m0 z2 z3 z4 z5 z6 z7 z8 z9 a' b' c' d' e' f' g' h' i' j' k' l' m' n' o' p' q' r' s' t' u' v' w' x' y' z' m5}{b6:Act->χ->Prop}{b7:P6->χ->Prop}(c1:∀(n:Q) (x:χ),eF ((aK 0 g its).map (·.1),[]) (RF.list f) outs=.error n->n≠0->Bl w1 x->b7 (ω (σ #[δ J,Z Y n])) x)(c3:∀(B9 B8 v21 A1 A0 F' G' H' I' J' K' L' M' v167 v168 N' O' v171 P' v173 Q' v175 R' S' T' U' V' W' X' Y' Z' A9 A8 A7 A6 A5 A4 A3 A2:Φ) (b:χ) (z:μ Ex) (l:ρ L2) (n k:A) (r:μ Φ),OW w1 b (G (H w1)) a ids g its f b1 l n k r->eF ((aK 0 g its).map (·.1),[]) (RF.list f) outs=.ok z->b6 ⟨#[e1,e2,m6,n3,o4,δ (V (D L 0 J)),B9,B8,s5,u6,e3,δ (V (D (G (H w1)) 0 J)),h4,i5,j6,k7,m1,m2,m3,m4,Z Y (E outs:Q),v21,A1,A0,m7,m8,m9,n0,n1,n2,n4,n5,n6,n7,n8,n9,o0,o1,o2,o3,o5,o6,o7,o8,o9,p0,p1,p2,p3,p4,p5,p6,p7,p8,p9,q0,q1,q2,q3,q4,q5,q6,q7,q8,q9,r0,r1,r2,r3,r4,r5,r6,r7,r8,r9,s0,s1,s2,s3,s4,s6,s7,s8,s9,u0,u1,u2,u3,u4,u5,u7,u8,u9,v0,v1,v2,v3,v4,v5,v6,e4,e5,e6,e7,e8,e9,g0,g1,g2,g3,g4,g5,g6,g7,g8,g9,h0,h1,h2,h3,h5,h6,h7,h8,h9,i0,i1,i2,i3,i4,i6,i7,i8,i9,j0,j1,j2,j3,j4,j5,j7,j8,j9,k0,k1,k2,k3,k4,k5,k6,k8,k9,l0,l1,l4,l7,l8,l9,m0,F',G',H',I',J',K',L',M',v167,v168,N',O',v171,P',v173,Q',v175,R',S',T',U',V',W',X',Y',Z',A9,A8,A7,A6,A5,A4,A3,A2,m5],[]⟩ b):
  Code.wp L6 (aaF M6) (Exit.then b6 (bodyPost L6 M6 b7)) ⟨#[e1,e2,m6,n3,o4,δ (V (D L 0 J)),D',E',s5,u6,e3,δ (V (D (G (H w1)) 0 J)),h4,i5,j6,k7,m1,m2,m3,m4,Z Y 0,A',B',C',m7,m8,m9,n0,n1,n2,n4,n5,n6,n7,n8,n9,o0,o1,o2,o3,o5,o6,o7,o8,o9,p0,p1,p2,p3,p4,p5,p6,p7,p8,p9,q0,q1,q2,q3,q4,q5,q6,q7,q8,q9,r0,r1,r2,r3,r4,r5,r6,r7,r8,r9,s0,s1,s2,s3,s4,s6,s7,s8,s9,u0,u1,u2,u3,u4,u5,u7,u8,u9,v0,v1,v2,v3,v4,v5,v6,e4,e5,e6,e7,e8,e9,g0,g1,g2,g3,g4,g5,g6,g7,g8,g9,h0,h1,h2,h3,h5,h6,h7,h8,h9,i0,i1,i2,i3,i4,i6,i7,i8,i9,j0,j1,j2,j3,j4,j5,j7,j8,j9,k0,k1,k2,k3,k4,k5,k6,k8,k9,l0,l1,l4,l7,l8,l9,m0,z2,z3,z4,z5,z6,z7,z8,z9,a',b',c',d',e',f',g',h',i',j',k',l',m',n',o',p',q',r',s',t',u',v',w',x',y',z',m5],[]⟩ b8:=by
 conv=>arg 2;whnf
 obtain⟨y3,x4,x8,x9,y0⟩:=O9 Hm;have b3:I _:=c3;have b2:I _:=c1;have O:I _:=c0;have b4:I _:=c7;clear c3 c1 c0 c7;go_wp2_with fail;go_loopg [20] (E outs) (λgk y4 wr=>∃(i:A) (z:μ Ex) (l:ρ L2) (k:A) (r:μ Φ),gk=E outs-i/\i<=E outs/\y4=Z Y (i:Q)/\I (OW w1 wr (G (H w1)) a ids g its f b1 l i k r)/\I (eF ((aK 0 g its).map (·.1),[]) (RF.list f) outs=Vs z (eF ((aK 0 g its).map (·.1),[]) (RF.list f) (outs.drop i))))
 ·exact⟨0,[],J,0,[],M,L5 _,M,c2,by rw[I,O5];cases eF ((aK 0 g its).map (·.1),[]) (RF.list f) outs<;>rfl⟩
 clear c2;obtain⟨i,z,l,k,r,x3,C7,rfl,u,v⟩:=hrel;subst x3;generalize x6:wr=wo at*;clear x6;have a4:Bl w1 wo:=u.out.pw.yi.jH;have X:=ax a6 a4;have y7:=aU X;by_cases a5:i<E outs
 ·obtain⟨s,a7⟩:∃s,outs[i]? =V s:=⟨_,β a5⟩;obtain⟨q,y,x5,b0⟩:∃q y,a9=V (D q y J)/\α wo ⟨q,y+i,J⟩=V (γ (ae s)):=by
   obtain⟨B7,cap,w, -,y2⟩:=gD.ah b4 a4
   cases w;rcases y2 with a2|⟨q,y,w,C9,x2⟩
   ·rw[a2]at a5;simp at a5
   exact⟨q,y,w,x2 i _ a7⟩
  have x0:=aU b0;rw[x5]at X;obtain⟨y6,y5,j, -⟩:=u.out.pw.LH;have y1:=af j;have v9:α wo (D (G (H w1)) 8 J)=V (U a.ko a.kn a.kc):=aC j;have w0:α wo (D (G (H w1)) 9 J)=V (U a.so a.sn a.sc):=aC j;have v7:α wo (D (G (H w1)) 10 J)=V (γ ⟨#[]⟩):=aC j;have v8:α wo (D (G (H w1)) 11 J)=V (U a.go a.gn a.gc):=aC j;have b5:∀x:χ,Bl wo x->M8 L6 116 #[L1 #[U a.ko a.kn a.kc,U a.so a.sn a.sc,γ ⟨#[]⟩,U a.go a.gn a.gc],γ (ae s)] x λw a0=>∃(c:ρ L2) (d e:A) (t n:Q),w=ω (σ #[L1 #[U c d e],Z .u8 t,Z Y n])/\I (KR ((aK 0 g its).map (·.1),[]) (RF.list f) s (U c d e) t n a0)/\Bl x a0/\Bl wo a0:=λx e0=>
   (ry ((u.pw.yi.ah e0).kn O.ys O.zq) ak O.ok s).mono λw a0 a2=>by obtain⟨c,d,e,t,n,m,a3,b9⟩:=a2.kr;exact⟨c,d,e,t,n,m,a3,b9,bT e0 b9⟩
  have a1:I (outs[i]? =V s):=a7;clear a7 j;go_upto_region 34 with fail
  go_cut [21,22,23] (λy8 y9 z0 b=>∃(R:A) (c:ρ L2) (d e:A) (t n:Q),y8=δ (V (D R 0 J))/\y9=Z .u8 t/\z0=Z Y n/\b.heap[R]? =V (ι #[U c d e] 102 (0,0))/\I (KR ((aK 0 g its).map (·.1),[]) (RF.list f) s (U c d e) t n b)/\Bl wo b)
  ·clear u v b2 O b4 b3 a1;go_region_held2 (λx=>α x (D (G (H w1)) 8 J)=V (U a.ko a.kn a.kc)/\α x (D (G (H w1)) 9 J)=V (U a.so a.sn a.sc)/\α x (D (G (H w1)) 10 J)=V (γ ⟨#[]⟩)/\α x (D (G (H w1)) 11 J)=V (U a.go a.gn a.gc)/\α x (D L 2 J)=V (U (V (D q y J)) (E outs) a8)/\α x ⟨q,y+i,J⟩=V (γ (ae s))) (go_keep) (first|(go_at_call 116;refine(b5 _ ?_).mono ?_;(first|exact(Γ _ _).drew|exact Γ _ _|exact(ai wo _).drew|exact ai wo _);rintro w N ⟨c,d,e,t,n,rfl,F,w9,p⟩;have E8:=ax v9 p;have E7:=ax w0 p;have D1:=ax v7 p;have D0:=ax v8 p;have E9:=ax X p;have D2:=ax b0 p;(first|(have K:N.heap[G (H wo)]? =V (ι #[U J 0 0] 102 (0,0)):=(w9.block (G (H wo)) ek).trans (ψ wo _);have D6:=(aI (j:=0) K).trans M;have D5:θ N (D (G (H wo)) 0 J)=Θ:=(by simp[θ,K]);have D4:=af K;have C2:G (H wo)≠G (H w1):=aa;have C3:G (H wo)≠L:=aa;have C1:G (H wo)≠q:=aa)|skip)));all_goals(go_wp2;go_meet)
   all_goals first
    |exact⟨G (H N),c,d,e,t,n,M,M,M,ψ N _,KR.ah F (ai N _),p.alloc p.size _⟩
    |exact⟨G (H wo),c,d,e,t,n,M,M,M,by simp[O6,N4,K],KR.other F K (λD9 a6=>ζ _ _ _ _ a6),p.setCell (p:=(D (G (H wo)) 0 J)) (η _) _⟩
  obtain⟨R,c,d,e,t,n,rfl,rfl,rfl,T,F,x1⟩:=hcut;generalize x7:wc=b at*;clear x7 v9 w0 v7 v8 b5 X y7 b0 x0;have C:I _:=u.out.ah x1;clear u;rcases F.out with⟨m,c6, -⟩|⟨x,D8,B1,cap,B6,m, -, -, -, -,rfl, -⟩
  ·have w7:=b2.out n b (by rw[v.out,YN a1.out m];rfl) c6 C.pw.yi.jH;have C5:(n==0)=Θ:=by simpa using c6
   clear m F v C T;go_wp2_with fail;exact w7
  have w6:I (eF ((aK 0 g its).map (·.1),[]) (RF.list f) outs=Vs (z++ [x]) (eF ((aK 0 g its).map (·.1),[]) (RF.list f) (outs.drop (i+1)))):=by rw[I,v.out,abz a1.out m]
  have B2:α b (D R 0 J)=V (U c d e):=aC T;have C8:=af T;obtain⟨y6,y5,j, -⟩:=C.out.pw.LH;have y1:=af j;have D3:α b (D (G (H w1)) 13 J)=V (U l i k):=aC j;have w5:∀o:Obj,(b.alloc o).drew.ownsRow (G (H w1)+1) 102 1 (U l i k) i r:=λo=>World.ownsRow.drew (World.ownsRow.alloc C.own o);have w2:I (∀(B:χ) (o:Obj) (S P:A),B.ownsRow (G (H w1)+1) 102 1 (U (V (D S 0 J)) (i+1) P) (i+1) (r++ [U c d e])->(b.alloc o).drew.grownBy B (U l i k).ownBlock->_):=λB o S P m a3=>C.out.Fv m a3;clear m F v C T j;go_upto_region 37 with fail
  go_region_law (refine step_append_lies _ M (.tmp 187) (.tmp 189) 198 M (G (H w1)+1) 102 y3 _ 1 24 underlying198 x4 x8 x9 y0 M ag (U l i k) i r jl (w5 _) (D (G (H b)) 0 J) 1 1 [U c d e] jl M (N7 (nO b)) (by intro D7 c9;simp at c9;subst c9;rfl) ag fD aa aN (G (H b)+1) ak ?_;intro S P B c8 c5 w8 C6;obtain⟨c4,pv,W⟩:=w2.out B _ S P c8 c5;have w4:I _:=c4;have B5:α B (D (G (H w1)) 13 J)=V (U l i k):=aC W;have B4:θ B (D (G (H w1)) 13 J)=Θ:=(by simp[θ,W]);have B3:=af W;clear c8 c5 w8 c4 W)
  all_goals(go_wp2;go_roundg (E outs-(i+1)))
  all_goals first
   |omega
   |exact⟨i+1,_,_,_,_,M,aa,aP,w4,w6⟩
 obtain rfl:i=E outs:=aa;have w3:I (eF ((aK 0 g its).map (·.1),[]) (RF.list f) outs=.ok z):=by rw[I,v.out,N3 (η _),eF,Vs,O4]
 clear a4 v;go_wp2_with fail;exact b3 _ _ _ _ _ _ _ _ _ _ _ _ _ _ _ _ _ _ _ _ _ _ _ _ _ _ _ _ _ _ _ _ _ _ _ _ _ _ _ _ z l _ k r u w3
def JM(fns:μ Fn)(tt:μ (aJ×Ex))(user:Bs)(q:qD):M3 Q nH:=match dh tt user [] q.from_ with
 | .error n=>.error n
 | .ok tes=>match fw ((aK 0 tes q.from_).map (·.1),[]) fns q.aL with
  | .error n=>.error n
  | .ok cs=>match eF ((aK 0 tes q.from_).map (·.1),[]) fns q.outs with
   | .error n=>.error n
   | .ok os=>.ok ⟨fns,tes,aK 0 tes q.from_,cs,os⟩
theorem Oh{c d user b a}(e:pM user (eG c d)=.ok a)(f:iQ b=φ):lh c d user b=JM a.1 a.2 user b:=by
 unfold lh;rw[e];dsimp only;rw[P2 (by rw[f];decide)];rfl
theorem xR.yc{w1 x}{a:YV}{g user its ids c k}(f:xR w1 x a g user its ids c)(q:YS w1 a g k its)(r:a.fn=E its)(n:E c=E its)(v:E its<=4)(s:∀j∈g,bG j.t=φ)(hF:Fx k):YC w1 a ids g k its c:=by
 have o:∀it∈its,aW it.2=φ:=λit l=>f.wd it (by rw[n,List.take_length];exact l);have m:∀b∈c,bG b.1=φ:=λb i=>by obtain⟨j,u,rfl⟩:=f.mem b i;exact s j u
 have p:=BB c its 0 m o;exact⟨q,r,n,f.len,aa,f.bI,λb i=>⟨(kY (m b i)).1.1,λd e=>cz (wQ ((kY (m b i)).2.1 d e).1)⟩,λit l=>cz (wQ (o it l)),hF.known (args:=[]) M (λd e=>(p d e).1) (λd e=>(p d e).2)⟩
theorem Re{w N c5 c4 cap}(n4:ik w (U c5 c4 cap) N)(m7:∀p0∈N,E p0.2.1<=maxLen){p e3 e2 e1}(n5:kV w (U e3 e2 e1) p)(user){a:qD}{y u B z F C}(b6:rV w y u B z F C a):
  M8 L6 87 #[L1 #[U c5 c4 cap,U e3 e2 e1],γ (ae user),L1 #[U y (E a.from_) u,γ (ae a.aL),U B (E a.outs) z,U F (E a.order) C,Z Y a.bi]] w λl b9=>IR w (lh N p user a) a.from_ l b9:=by
 have a8:=aV w (ι #[U c5 c4 cap,U e3 e2 e1] 67) (ι #[U y (E a.from_) u,γ (ae a.aL),U B (E a.outs) z,U F (E a.order) C,Z Y a.bi] 63);have h9:=Oo (n4.ah a8) m7 (n5.ah a8) user;have n8:((w.alloc (ι #[U c5 c4 cap,U e3 e2 e1] 67)).alloc (ι #[U y (E a.from_) u,γ (ae a.aL),U B (E a.outs) z,U F (E a.order) C,Z Y a.bi] 63)).heap[G (H w)+1]? =V (ι #[U y (E a.from_) u,γ (ae a.aL),U B (E a.outs) z,U F (E a.order) C,Z Y a.bi] 63 (0,0)):=by
  have:=ψ (w.alloc (ι #[U c5 c4 cap,U e3 e2 e1] 67)) (ι #[U y (E a.from_) u,γ (ae a.aL),U B (E a.outs) z,U F (E a.order) C,Z Y a.bi] 63);rw[M0]at this;exact this
 obtain⟨a6,i6⟩:=au (lh N p user a);rw[<-i6];have b2:I (a6=lh N p user a):=i6;have b1:I _:=n8;have c2:I _:=a8;have r:I _:=b6;obtain⟨o5,i5⟩:=au (pM user (eG N p));rw[<-i5]at h9;have e6:I (o5=pM user (eG N p)):=i5;clear i6 b6 n4 n5 m7 a8 n8 i5;go_enter func87,ntmps87;go_wp2_with(go_at_call 72;refine h9.mono ?_);rintro l w1 ⟨j0,q2⟩;have e5:I (Bl w w1):=bT c2 j0;have O:=(j0.block _ (af b1)).trans b1;clear h9 j0 c2 b1;rcases q2 with⟨n,q9,f,W,rfl⟩|⟨d,a1,h4,B9,f,rfl,l9,m2⟩
 ·have a2:I (a6=.error n):=by rw[I,b2.out,lh,<-e6.out,f]
  have q1:(n==0)=Θ:=by simpa using W
  clear f e6 b2 r O;go_wp2_with fail;refine ν (v:=σ #[δ J,Z Y n]) (by simp[K6,K2,go_sem]) M ?_;exact⟨e5,N0 ⟨n,a2,W,M⟩⟩
 have R:I (pM user (eG N p)=.ok (bJ d,fB a1)):=e6.out.symm.trans f;have k4:I _:=l9;have e8:I _:=m2;have h6:=MV y u B z (r.keys.ah e5);have n9:=af O;have e9:α w1 ⟨G (H w)+1,0,J⟩=V (U y (E a.from_) u):=aC O;have i0:α w1 ⟨G (H w)+1,1,J⟩=V (γ (ae a.aL)):=aC O;have i1:α w1 ⟨G (H w)+1,2,J⟩=V (U B (E a.outs) z):=aC O;have i2:α w1 ⟨G (H w)+1,3,J⟩=V (U F (E a.order) C):=aC O;have i3:α w1 ⟨G (H w)+1,4,J⟩=V (Z Y a.bi):=aC O;have b1:I _:=O;clear f l9 m2 e6 O;obtain⟨l0,j1⟩:=au (iQ a);rw[<-j1]at h6;have b0:I (l0=iQ a):=j1;clear j1;go_upto_region 5 with(go_at_call 150;refine cB h6 ?_;rintro b g7)
 clear e9 i0 i1 i2 i3 h6;have P:I (Bl w b):=bT e5 g7;have c1:I _:=kU.ah k4 g7;have a0:=(g7.block _ n9).trans b1;clear e5 k4 b1 g7 n9
 cases l0 with
 |false=>
  have a2:I (a6=.error 8):=by rw[I,b2.out,lh,R.out];dsimp only;rw[O8 b0.out.symm]
  clear R b0 b2 r a0 c1 e8;go_wp2_with fail;refine ν (v:=σ #[δ J,Z Y 8]) (by simp[K6,K2,go_sem]) M ?_;exact⟨P,N0 ⟨8,a2,ag,M⟩⟩
 |true=>
  have e7:I (a6=JM (bJ d) (fB a1) user a):=b2.out.trans (Oh R b0.symm);obtain⟨g4,g3,g2, -,⟨u1,pv,k2⟩,n6⟩:=kU.vis c1;have k3:α b (D h4 0 J)=V (U g4 g3 g2):=aC k2;have q7:=af k2;have u0:=af a0;have e9:α b ⟨G (H w)+1,0,J⟩=V (U y (E a.from_) u):=aC a0;have i0:α b ⟨G (H w)+1,1,J⟩=V (γ (ae a.aL)):=aC a0;have i1:α b ⟨G (H w)+1,2,J⟩=V (U B (E a.outs) z):=aC a0;have i2:α b ⟨G (H w)+1,3,J⟩=V (U F (E a.order) C):=aC a0;have i3:α b ⟨G (H w)+1,4,J⟩=V (Z Y a.bi):=aC a0;have h8:I _:=n6;obtain⟨e,m6⟩:=au (⟨h4,user,y,E a.from_,u,a.aL,B,E a.outs,z,F,E a.order,C,a.bi,J,0,0,J,0,0,J,0,0,g4,g3,g2⟩:YV);have c3:I _:=m6;clear k2 n6 b2 a0 m6;go_upto_region 7 with fail
  go_cut [11] (λr0 q=>r0=δ (V (D (G (H b)) 0 J))/\q.heap[G (H b)]? =V (ι #[δ (V (D h4 0 J)),γ (ae user),U y (E a.from_) u,γ (ae a.aL),U B (E a.outs) z,U F (E a.order) C,Z Y a.bi,U J 0 0,U J 0 0,U J 0 0,γ ⟨#[]⟩,U g4 g3 g2,U J 0 0,U J 0 0] 262 (0,0))/\Bl b q)
  ·clear e7 R b0 r c1 e8 P h8 c3;go_region;all_goals(go_wp2;go_meet)
   all_goals exact⟨M,ψ b _,by first|exact(ai b _).drew|exact ai b _⟩
  case rest=>
  obtain⟨rfl,k1,p5⟩:=hcut;generalize q6:wc=w3 at*;clear q6;have j4:=uw (show eG N p=.ok (bJ d,fB a1)by
   have:=R.out;unfold pM at this;split at this
   ·cases this
   exact this)
  have h0:∀a9∈a1,bG a9.t=φ:=λa9 j7=>j4.2.1 (a9.t,a9.x) (N1.mpr ⟨a9,j7,M⟩);have j2:=b0.out.symm;unfold iQ at j2;simp only[Δ,M5]at j2;have l4:E a.from_<=4:=aa;have r9:1<=E a.from_:=aa;have p3:E a.outs<=4:=aa;have i7:YS b e a1 (d.map (·.1)) a.from_:=by
   rw[c3.out];exact YS.of c1 (r.BK.ah P) k3
  have m0:xR b w3 e a1 user a.from_ [] []:=by
   rw[c3.out];refine⟨⟨M,p5,⟨_,_,k1⟩,K5 _ _ _ _,K5 _ _ _ _,K5 _ _ _ _⟩,k1,M,L5 _,λi o h3 a7=>by simp at a7,λ_=>⟨⟨M,M⟩,M,M⟩,λit a7=>by simp at a7, ?_⟩;rw[List.length_nil,List.take_zero,O5]
   cases dh (fB a1) user [] a.from_<;>rfl
  have h5:I (∀l1∈bJ d,0<=l1.body.size/\l1.body.size<=300):=j4.1;have i9:e.xb=h4/\e.fo=y/\e.fc=u/\e.fn=E a.from_/\e.go=g4/\e.gn=g3/\e.gc=g2:=by rw[c3.out];exact⟨M,M,M,M,M,M,M⟩
  have T:I _:=i9;clear j2 j4 k1 k3 q7;go_upto_block 0 with fail
  rw[<-i9.1];refine TV (G (H w)+1) i7 ?hV ?b6 l4 r.LA h0 m0 ?hE ?hK
  case hV=>
   rw[T.out.1,T.out.2.2.2.2.1,T.out.2.2.2.2.2.1,T.out.2.2.2.2.2.2];exact h8
  case b6=>rw[T.out.2.1,T.out.2.2.1];exact e9
  case hE=>exact λn x f W b3=>⟨bT P b3,N0 ⟨n,by rw[e7.out,JM,f],W,M⟩⟩
  case hK=>
  intro r5 r6 x7 y1 y2 y4 p' q' r' s' v51 t' v53 u' v' w' x' y' z' A' B' C' D' E' F' G' H' I' J' v70 K' v72 L' M' v75 v76 N' O' P' Q' R' S' T' U' v85 V' W' X' Y' Z' A9 A8 A7 A6 A5 A4 A3 A2 A1 u5 u6 u7 u9 v0 v1 v2 v3 v4 v5 v6 v7 v8 v9 w0 w2 w4 w5 w6 w7 w8 w9 x0 x1 x2 x3 x4 v127 x5 x6 x8 x9 y0 g ids c io il ic ko kn kc so sn sc b4 j5;dsimp only;have m:I _:=b4.yc (i7.up io il ic ko kn kc so sn sc) T.2.2.2.1 j5 l4 h0 e8;have k5:I (dh (fB a1) user [] a.from_=.ok c):=b4.done aa;have S:I (PW b g (G (H b)) (e.up io il ic ko kn kc so sn sc) (U J 0 0) ids c a.from_ (d.map (·.1)) []):=⟨b4.yi,J,0,b4.LH,PD.nil _ _ _ _ _⟩;have k9:I (∀h3∈c,bG h3.1=φ):=λh3 q4=>by obtain⟨a9,j7,rfl⟩:=b4.mem h3 q4;exact h0 a9 j7
  have h7:I (E c=E a.from_):=j5;clear b4 i7 h0 i9 m0 j5;have l8:Bl b g:=S.out.yi.jH;have g0:=ax i0 l8;have o0:=aU g0;have K:I (a6=match fw ((aK 0 c a.from_).map (·.1),[]) (bJ d) a.aL with
   | .error n=>.error n
   | .ok i4=>match eF ((aK 0 c a.from_).map (·.1),[]) (bJ d) a.outs with
    | .error n=>.error n
    | .ok h2=>.ok ⟨bJ d,c,aK 0 c a.from_,i4,h2⟩):=by rw[I,e7.out,JM,k5.out]
  clear e7 k5 T c3 h8 R b0 c1 e8 e9 i2 i3
  go_upto_if 135 with fail
  go_cut [] (λr7=>∃(c6:μ Ex) (p:μ Tr),E p<=1000/\I (fw ((aK 0 c a.from_).map (·.1),[]) (bJ d) a.aL=.ok c6/\qQ (aK 0 c a.from_) (bJ d) p c6/\∀t∈p,∀e4∈post t,kg e4)/\I (PW b r7 (G (H b)) (e.up io il ic ko kn kc so sn sc) (U J 0 0) ids c a.from_ (d.map (·.1)) p))
  ·by_cases b7:a.aL= []
   ·have R:I (fw ((aK 0 c a.from_).map (·.1),[]) (bJ d) a.aL=.ok []):=by rw[I,fw,O8 b7]
    have j8:(!(ae a.aL).toList.isEmpty)=Θ:=by rw[ay,b7];rfl
    clear K m r b7;rw[j8]
    go_wp2
    go_meet;exact⟨[],[],ak,⟨R,by unfold qQ;rfl,λt a7=>by simp at a7⟩,S⟩
   have j8:(!(ae a.aL).toList.isEmpty)=φ:=by
    rw[ay]
    cases p8:a.aL with
    |nil=>exact absurd p8 b7
    |cons=>rfl
   have a5:I (fw ((aK 0 c a.from_).map (·.1),[]) (bJ d) a.aL=match dH bL ((aK 0 c a.from_).map (·.1),[]) (bJ d) a.aL with
    | .error n=>.error n
    | .ok l=>if l.ty≠3 then .error 3 else .ok (fU l)):=by rw[I,fw,P2 b7];rfl
   obtain⟨s9,s8,b5, -⟩:=S.out.LH;have s4:=af b5;have o3:α g (D (G (H b)) 8 J)=V (U ko kn kc):=aC b5;have o4:α g (D (G (H b)) 9 J)=V (U so sn sc):=aC b5;have o1:α g (D (G (H b)) 10 J)=V (γ ⟨#[]⟩):=aC b5;have o2:α g (D (G (H b)) 11 J)=V (U e.go e.gn e.gc):=aC b5;have k8:∀x:χ,Bl g x->M8 L6 116 #[L1 #[U ko kn kc,U so sn sc,γ ⟨#[]⟩,U e.go e.gn e.gc],γ (ae a.aL)] x λl b9=>∃(j:ρ L2) (s o:A) (t n:Q),l=ω (σ #[L1 #[U j s o],Z .u8 t,Z Y n])/\I (KR ((aK 0 c a.from_).map (·.1),[]) (bJ d) a.aL (U j s o) t n b9)/\Bl x b9/\Bl g b9:=λx n7=>
    (ry ((S.yi.ah n7).kn m.ys m.zq) ak m.ok a.aL).mono λl b9 a7=>by obtain⟨j,s,o,t,n,f,W,b3⟩:=a7.kr;exact⟨j,s,o,t,n,f,W,b3,bT n7 b3⟩
   clear b5 b7;rw[j8];go_upto_region 25 with fail
   go_cut [17,18,19] (λr1 r2 r3 q=>∃(g1:A) (j:ρ L2) (s o:A) (t n:Q),r1=δ (V (D g1 0 J))/\r2=Z .u8 t/\r3=Z Y n/\q.heap[g1]? =V (ι #[U j s o] 102 (0,0))/\I (KR ((aK 0 c a.from_).map (·.1),[]) (bJ d) a.aL (U j s o) t n q)/\Bl g q)
   ·clear S K m r k9 h7 h5 a5;go_region_held2 (λx=>α x (D (G (H b)) 8 J)=V (U ko kn kc)/\α x (D (G (H b)) 9 J)=V (U so sn sc)/\α x (D (G (H b)) 10 J)=V (γ ⟨#[]⟩)/\α x (D (G (H b)) 11 J)=V (U e.go e.gn e.gc)/\α x ⟨G (H w)+1,1,J⟩=V (γ (ae a.aL))) (go_keep) (first|(go_at_call 116;refine(k8 _ ?_).mono ?_;(first|exact(Γ _ _).drew|exact Γ _ _|exact(ai g _).drew|exact ai g _);rintro l c0 ⟨j,s,o,t,n,rfl,a3,p6,X⟩;have B2:=ax o3 X;have B1:=ax o4 X;have B5:=ax o1 X;have B4:=ax o2 X;have B3:=ax g0 X;(first|(have c9:c0.heap[G (H g)]? =V (ι #[U J 0 0] 102 (0,0)):=(p6.block (G (H g)) ek).trans (ψ g _);have k3:=(aI (j:=0) c9).trans M;have B7:θ c0 (D (G (H g)) 0 J)=Θ:=(by simp[θ,c9]);have B6:=af c9;have s7:G (H g)≠G (H b):=aa;have s6:G (H g)≠G (H w)+1:=aa)|skip)));all_goals(go_wp2;go_meet)
    all_goals first
     |exact⟨G (H c0),j,s,o,t,n,M,M,M,ψ c0 _,KR.ah a3 (ai c0 _),X.alloc X.size _⟩
     |exact⟨G (H g),j,s,o,t,n,M,M,M,by simp[O6,N4,c9],KR.other a3 c9 (λa b6=>ζ _ _ _ _ b6),X.setCell (p:=(D (G (H g)) 0 J)) (η _) _⟩
   obtain⟨g1,j,s,o,t,n,rfl,rfl,rfl,c7,a3,a8⟩:=hcut;generalize j9:wc=q at*;clear j9 o3 o4 o1 o2 k8 g0 o0;have L:I _:=S.out.ah a8;have c2:I (Bl w q):=bT P L.yi.jH;clear S a8;rcases a3.out with⟨f,n1, -⟩|⟨x,k,p1,o7,i4,f,h1,g8,n3,rfl,rfl,g6⟩
   ·have a2:I (a6=.error n):=by rw[I,K.out,a5.out,f]
    have q1:(n==0)=Θ:=by simpa using n1
    clear f a3 K a5 L c7 m r;go_wp2_with fail;refine ν (v:=σ #[δ J,Z Y n]) (by simp[K6,K2,go_sem]) M ?_;exact⟨c2,N0 ⟨n,a2,n1,M⟩⟩
   have k0:fA x.ty:=xx m.ok k x g8 h1;have c8:=Yb k0;have r8:α q (D g1 0 J)=V (U j s o):=aC c7;have s1:=af c7
   cases b8:(x.ty==3)with
   |false=>
    have a2:I (a6=.error 3):=by
     rw[I,K.out,a5.out,f];dsimp only;rw[O8 (by simpa using b8)]
    rw[b8]at c8;have s2:¬pQ x.ty=98:=by simpa using c8
    clear f a3 K a5 L c7 m r h1 g6 k0 b8;go_wp2_with fail;refine ν (v:=σ #[δ J,Z Y 3]) (by simp[K6,K2,go_sem]) M ?_;exact⟨c2,N0 ⟨3,a2,ag,M⟩⟩
   |true=>
    rw[b8]at c8;have l7:pQ x.ty=98:=by simpa using c8
    have i8:fw ((aK 0 c a.from_).map (·.1),[]) (bJ d) a.aL=.ok (fU x):=by
     rw[a5.out,f];dsimp only;rw[P2 (by simpa using b8)]
    have m5:PH (aK 0 c a.from_) (bJ d) k x:=h1;have m8:∀j∈aK 0 c a.from_,jq j.1.1=φ:=λj p7=>m.out.ok.words j.1 (L7 p7);have g9:=EU m8 k x g8 m5;have j3:=rE h5 i8;have q0:=(wL g9).1;have g5:E (iH k)<=1000:=cz j3.2;have n0:=ET k g8;have m9:∀e0∈iH k,e0.tx= [61]->e0.br=φ->2<=E e0.ops:=λe0 q3 o8 o9=>by
     obtain⟨i,p9⟩:=L3 q3;obtain⟨e4,q8,q5⟩:=(wL g9).2 i e0 p9;exact VQ q5 (j3.1 e4 (υ q8)).2 o8 o9
    obtain⟨pm,j6⟩:∃pm,E (post k)=pm+1:=⟨E (post k)-1,cz (sU k)⟩;have k7:=zP (G (H b)) (U J 0 0) m (SizeOf.sizeOf k) k q [] p1 o7 (post k) _ i4 pm (η _) L g6 (by have:=fQ k;rw[j6,Nat.add_sub_cancel]at this;exact this) (by simpa using g5) m9;rw[j6]at n3 k7
    cases n3;rw[l7];have a4:I (fw ((aK 0 c a.from_).map (·.1),[]) (bJ d) a.aL=.ok (fU x)/\qQ (aK 0 c a.from_) (bJ d) (iH k) (fU x)/\∀t∈iH k,∀e4∈post t,kg e4):=⟨i8,g9,n0⟩;have s3:pm+1<=1000:=cz g6.small;clear f a3 K a5 L c7 m r h1 g6 k0 b8 m5 m8 g9 j3 q0 n0 m9 j6 i8 g8 c8 l7;go_wp2_with(go_at_call 151;refine k7.mono ?_;rintro l c0 ⟨rfl,m4, -⟩;rw[List.nil_append]at m4);go_meet;exact⟨fU x,iH k,g5,a4,m4⟩
  case rest=>
  obtain⟨c6,r4,g5,a4,L⟩:=hcut;generalize j9:wc=q at*;clear j9 S g0 o0 l8;have m3:OW b q (G (H b)) (e.up io il ic ko kn kc so sn sc) ids c a.from_ (d.map (·.1)) r4 J 0 0 []:=⟨L,K5 _ _ _ _⟩;have s0:Bl b q:=L.out.yi.jH;clear L;go_upto_block 4 with fail
  refine WZ m i1 (r.outs.ah P) p3 m3 ?hE ?hK
  case hE=>exact λn x f W b3=>⟨bT P b3,N0 ⟨n,by rw[K.out,a4.out.1];dsimp only;rw[show eF ((aK 0 c a.from_).map (·.1),[]) (bJ d) a.outs=.error n from f],W,M⟩⟩
  case hK=>
  intro r5 r6 v21 n' o' y3 y5 y6 y7 y8 y9 z0 z1 v167 v168 z2 z3 v171 z4 v173 z5 v175 z6 z7 z8 z9 a' b' c' d' e' f' g' h' i' j' k' l' m' B8 h2 u4 u3 u2 A0 m1 n2;dsimp only;have o6:I (eF ((aK 0 c a.from_).map (·.1),[]) (bJ d) a.outs=.ok h2):=n2;have k6:I _:=m1;clear m1 n2 m3;go_wp2_with fail;refine ν (v:=σ #[δ (V (D (G (H b)) 0 J)),Z Y 0]) (by simp[K6,K2,go_sem]) M ?_;refine⟨bT P k6.pw.yi.jH,P0 ⟨⟨bJ d,c,aK 0 c a.from_,c6,h2⟩,G (H b),c6.map λl=>(bH (aK 0 c a.from_) l,oQ (aK 0 c a.from_) l,l.quiet), ?_,M, ?_, ?_,M⟩⟩
  ·rw[K.out,a4.out.1];dsimp only;rw[o6.out]
  ·exact k6.pw.qy m a4.2.1 a4.2.2 g5
  have p4:E c<=4:=cz h7.out;have p2:0<E c:=cz h7.out;exact afn p4 p2 k9 (by have:=(rE h5 a4.1).1;rw[Ξ]at this;exact this)
theorem Vm{n:A}{c:μ Q}{i:A}(e:i<E c){d:μ A}(j:c.take i=zs d)(b:c[i]<0\/(n:Q)<=c[i]\/d.contains c[i].toNat=φ):kw n c=Θ:=by
 cases k:kw n c with
 |false=>rfl
 |true=>
  exfalso;obtain⟨a,l,f⟩:=BZ k;subst l;have m:i<E a:=by rw[dW]at e;exact e
  have o:(zs a)[i]=((a[i]:A):Q):=by simp[zs]
  rw[o]at b;have:=f.1.lt a[i] (O3 m);rcases b with b|b|b
  ·omega
  ·omega
  have p:a.take i=d:=by
   have g:=congrArg (List.map Int.toNat) j;rw[Ah,List.map_take,Ah]at g;exact g
  rw[Int.toNat_natCast,<-p]at b;have q:a[i]∈a.take i:=by simpa using b
  have g:=f.1.Pw;have r:a=a.take i++a[i]::a.drop (i+1):=by rw[List.getElem_cons_drop,List.take_append_drop]
  rw[r,N8]at g;exact g.2.2 _ q _ (List.mem_cons_self ..) M
theorem QL{a:μ Q}{i:A}(d:i<E a){c}{b:A}(f:a.take i=zs c)(e:a[i]=(b:Q)):a.take (i+1)=zs (c++ [b]):=by
 rw[ο d,f,e];simp[zs]
theorem QK{n a}(b:n≠E a):kw n a=Θ:=by
 unfold kw;rw[Bool.and_eq_false_iff];exact N0 (decide_eq_false λc=>b c.symm)
theorem Rf{w}(a5 a4 cap b7 b6 b5 user a8 a7 a6 b8 b1 b0 a9 b4 b3 b2 qM)(s:M3 Q nH)(its)(m:∀x:χ,Bl w x->M8 L6 87 #[L1 #[U a5 a4 cap,U b7 b6 b5],γ (ae user),L1 #[U a8 a7 a6,γ (ae b8),U b1 b0 a9,U b4 b3 b2,Z Y qM]] x λf e1=>IR x s its f e1){b N W}(g:aY w (U N (E b) W) b):
  M8 L6 42 #[L1 #[U a5 a4 cap,U b7 b6 b5],γ (ae user),L1 #[U a8 a7 a6,γ (ae b8),U b1 b0 a9,U b4 b3 b2,Z Y qM],U N (E b) W] w (RB (σ #[Z Y (oP s b).1,Z Y (oP s b).2]) w):=by
 obtain⟨e2,e3,e4,e5,e6⟩:=O9 zw;have c:=aV w (ι #[U a5 a4 cap,U b7 b6 b5] 67) (ι #[U a8 a7 a6,γ (ae b8),U b1 b0 a9,U b4 b3 b2,Z Y qM] 63);have o:=m _ c;change I _ at c;have b9:I (aY w (U N (E b) W) b):=g;have e7:E b<=1048576:=by obtain⟨_,_,_,e,_⟩:=g;exact e
 obtain⟨p,k⟩:=au ((oP s b).1);obtain⟨t,l⟩:=au ((oP s b).2);rw[<-k,<-l];have d:I (p=(oP s b).1):=k;have j:I (t=(oP s b).2):=l;clear m g k l;go_enter func42,ntmps42;go_wp2_with(go_at_call 87;refine o.mono ?_);rintro f w1 ⟨g,e8⟩;have u:I (Bl w w1):=M7.trans c (g.mono gL);clear o g c;rcases e8 with⟨n,g,c4,rfl⟩|⟨m,yb,ps,g,rfl,c5,l,o⟩
 ·have q:I (p=0/\t=n):=⟨by rw[d.out,g];rfl,by rw[j.out,g];rfl⟩;clear g;go_wp2_with fail;refine ν (v:=σ #[Z Y 0,Z Y n]) (by simp[K6,L4,go_sem]) M ?_;exact⟨by rw[q.out.1,q.out.2],u⟩
 have e9:I (Li w1 yb m.bI its ps):=c5;have g0:I (Dq m.bI ps):=l;have g1:I (m.pq=pg m.bI ps):=o;have y:I (kw (E m.bI) b=Θ->p=0/\t=9):=λe=>by
  rw[d.out,j.out,g];simp[oP,e]
 have z:I (∀c:μ A,b=zs c->kw (E m.bI) b=φ->p=aZ (pg m.bI ps) c/\t=0):=λc g2 e=>by
  rw[d.out,j.out,g];simp only[oP,e,if_true];rw[g2,Ah,g1.out];exact⟨M,trivial⟩
 obtain⟨n,k⟩:=au (E m.bI);have X:I (n=E m.bI):=k;obtain⟨⟨⟨_,_,_,io,ic,aS,_,_,⟨r,B,c0,C⟩, -, -⟩, -,g3, -, -⟩, -, -⟩:=c5;rw[<-k]at c0 g3;have h0:=aU c0;clear g l o k r B C d j;by_cases c6:E b=n
 ·obtain⟨g4,d⟩:=au (E b);obtain rfl:n=g4:=aa;have B:I (E b=n):=d.symm;rw[<-d];rw[<-d]at b9;clear d c6 e7;go_upto_region 7 with(at_make;refine dx _ M _ _ 263 M 4 e2 _ underlying263 e3 e4 Y Y n _ M M aa (by rw[e6];omega) aa 1 e5 ?_;intro c7 _ o k d j)
  have l:I (ed c7 (G (H w1)) n (setOf []).testBit):=by
   rw[Nat.mul_one]at d;refine World.rowIs.congr d λi _=>?_;rw[j.out i];simp[Value.cells,Nat.mod_one,setOf]
  have a0:I (Bl w1 c7):=k;clear k d j o;go_wp2_with fail;go_loopg [13] n (λgk d wr=>∃(i:A) (c:μ A),gk=n-i/\i<=n/\d=Z Y (i:Q)/\I (b.take i=zs c/\c.Nodup/\∀r∈c,r<n)/\I (ed wr (G (H w1)) n (setOf c).testBit)/\Bl w1 wr)
  ·exact⟨0,[],M,L5 _,M,⟨M,List.nodup_nil,λr o=>by simp at o⟩,l,a0⟩
  clear l a0;obtain⟨i,c,g5,_,rfl,j,O,C⟩:=hrel;subst g5;generalize c1:wr=wo at*;clear c1;by_cases c2:i<n
  ·obtain⟨x,P,F,R,rfl,a1⟩:∃x,I (b[i]? =V x)/\∃F R,N=V (D F R J)/\α wo ⟨F,R+i,J⟩=V (Z Y x):=by
    have k:i<E b:=by rw[B.out];exact c2
    refine⟨b[i],β k, ?_⟩;obtain⟨_,_,f, -,d⟩:=b9.out;rw[B.out]at f
    cases f;rcases d with e|⟨F,R,f,c8,a1⟩
    ·rw[e]at k;simp at k
    exact⟨F,R,f,ax (ax (a1 i _ (β k)) u) C⟩
   have g6:=aU a1;have g7:=ax c0 C;have h1:=aU g7;have g8:=N6 O;obtain⟨K,d⟩:=au (decide (x<0)||decide ((n:Q)<=x)||c.contains x.toNat);have l:I (K=(decide (x<0)||decide ((n:Q)<=x)||c.contains x.toNat)):=d;clear d;go_upto_region 10 with fail
   go_cut [69] (λd L=>d=P7 K/\Bl wo L)
   ·clear j y z P;by_cases L:x<0
    ·have a2:decide (x<0)=φ:=by simpa using L
     have S:I (K=φ):=by rw[I,l.out,a2];rfl
     clear l L
     go_quiet (fail)
     go_wp2
     go_meet;exact⟨by rw[S.out],below_drewN⟩
    have a2:decide (x<0)=Θ:=by simpa using L
    by_cases g:(n:Q)<=x
    ·have T:decide ((n:Q)<=x)=φ:=by simpa using g
     have e0:decide (x≥(n:Q))=φ:=T;have S:I (K=φ):=by rw[I,l.out,a2,T];rfl
     clear l L g
     go_quiet (fail)
     go_wp2
     go_meet;exact⟨by rw[S.out],below_drewN⟩
    have T:decide ((n:Q)<=x)=Θ:=by simpa using g
    have e0:decide (x≥(n:Q))=Θ:=T;obtain⟨d,rfl⟩:∃d:A,x=(d:Q):=⟨x.toNat,aa⟩;have a3:d<n:=aa;have c9:=M9 O a3;obtain⟨g9,c3⟩:=au ((setOf c).testBit d);rw[<-c3]at c9;have S:I (K=g9):=by rw[I,l.out,a2,T,Int.toNat_natCast,c3,IE];rfl
    have h2:decide (n<=d)=Θ:=aN;clear l L g c3
    go_quiet (fail)
    go_wp2
    go_meet;exact⟨by rw[S.out],below_drewN⟩
   obtain⟨rfl,T⟩:=hcut;generalize c1:wc=wq at*;clear c1;have h2:=L8 g6 T.size;have h3:=ax a1 T;have S:I (ed wq (G (H w1)) n (setOf c).testBit):=ed.ah O (T.block _ g8);have c3:Bl w1 wq:=bT C T
   cases K with
   |true=>
    have q:I (p=0/\t=9):=y.out (by
     rw[<-X.out];have k:i<E b:=by rw[B.out];exact c2
     refine Vm k j.1 ?_;have a2:b[i]=x:=by have:=P.out;rw[β k]at this;exact K3 this
     rw[a2];have e:=l.out.symm;simp only[Bool.or_eq_true,M5]at e;rcases e with(e|e)|e
     ·exact N0 e
     ·exact P0 (N0 e)
     exact P0 (P0 e))
    clear y z j l P;go_wp2_with fail;refine ν (v:=σ #[Z Y 0,Z Y 9]) (by simp[K6,L4,go_sem]) M ?_;exact⟨by rw[q.out.1,q.out.2],bT u c3⟩
   |false=>
    obtain⟨d,rfl,a3,e0⟩:∃d:A,x=(d:Q)/\d<n/\I (c.contains d=Θ):=by
     have e:=l.out.symm;simp only[Bool.or_eq_false_iff,decide_eq_false_iff_not]at e;obtain⟨⟨L,g⟩,c4⟩:=e;refine⟨x.toNat,aa,aa,c4⟩
    have L:I (b.take (i+1)=zs (c++ [d])/\(c++ [d]).Nodup/\∀r∈c++ [d],r<n):=by
     have k:i<E b:=by rw[B.out];exact c2
     have a2:b[i]=(d:Q):=by have:=P.out;rw[β k]at this;exact K3 this
     refine⟨QL k j.1 a2, ?_,λr o=>?_⟩
     ·rw[N8];refine⟨j.2.1,ak,λa g9 F c8 f=>?_⟩;rw[K0.mp c8]at f;subst f;have:=e0.out;simp[g9]at this
     rcases L0.mp o with o|o
     ·exact j.2.2 r o
     rw[K0.mp o];exact a3
    have k:I (ed (wq.setCell (D (G (H w1)) d J) (P7 φ)) (G (H w1)) n (setOf (c++ [d])).testBit):=by rw[setOf_snoc];exact S.with d
    have a0:I (Bl w1 (wq.setCell (D (G (H w1)) d J) (P7 φ))):=c3.setCell (p:=(D (G (H w1)) d J)) (η _) _;have c9:=M9 S a3;have c8:=P4 S d;have g9:=N6 S;clear y z j l P O S e0
    go_wp2
    go_roundg (n-(i+1))
    case measure=>omega
    exact⟨i+1,c++ [d],M,aa,aP,L,k,a0⟩
  obtain⟨k,F⟩:M8 L6 88 #[δ (V (D yb 0 J)),U N n W] wo ((RB (Z Y p) wo))/\I (t=0):=by
   have K:b.take i=b:=List.take_of_length_le (by rw[B.out];omega);have d:b=zs c:=by rw[<-j.out.1,K]
   have L:E c=n:=by rw[<-B.out,d,dW]
   have l:=z.out c d (by rw[<-X.out,d];exact MJ ⟨⟨j.2.1,j.2.2⟩,L⟩);refine⟨?_,l.2⟩;rw[l.1];exact zQ (Li.ah e9 C) g0 _ c (by rw[<-d];exact aY.ah b9 (bT u C)) (λr o=>by rw[<-X.out];exact j.2.2 r o) aa
  clear z y j O;go_wp2_with(go_at_call 88;refine k.mono ?_;clear k;rintro f _ ⟨rfl,d⟩);refine ν (v:=σ #[Z Y p,Z Y 0]) (by simp[K6,L4,go_sem]) M ?_;exact⟨by rw[F.out],u.trans ((bT C d).mono u.size)⟩
 have q:I (p=0/\t=9):=y.out (QK (by rw[<-X.out];exact λf=>c6 f.symm));have d:((E b:Q)==(n:Q))=Θ:=xW;have j:((E b:Q) != (n:Q))=φ:=by simp[bne,d]
 clear y z;go_wp2_with fail;refine ν (v:=σ #[Z Y 0,Z Y 9]) (by simp[K6,L4,go_sem]) M ?_;exact⟨by rw[q.out.1,q.out.2],u⟩
end Go.Proofs.YthkeffolmbnkaaaGreatDoor

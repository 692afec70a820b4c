import Derived.Test.YthkeffolmbnkaaaGreatDoorRtJZ
import Derived.Test.YthkeffolmbnkaaaGreatDoorPlEZ
set_option linter.unusedVariables false
set_option linter.unusedSimpArgs false
set_option maxRecDepth 100000
set_option maxHeartbeats 0
open Array renaming size->E
open Bool renaming false->ε,and_eq_true->ν,true->ξ,eq_iff_iff->Δ,false_or->B7
open Go renaming heap_alloc_new->κ,Value->Ξ,World->A7,wpList_append_lies->B6,info_parts->C0
open Go.Addr renaming mk->Q
open Go.Obj renaming cells->θ
open Go.Proofs.YthkeffolmbnkaaaGreatDoor renaming aa->A
open Go.RowKit renaming Hid->V,intOf->A8
open Go.Value renaming slice->Z,int->Ψ,bool->B2
open Go.World renaming heap->D,cell?->β,size_alloc->μ,news_of_block->A3,ownsRow_nil->A6
open Go.World.ownsRow renaming cellAt->χ,alloc->Γ
open Int renaming toNat_natCast->υ
open List renaming length->U,getElem?_eq_getElem->α,getElem?_eq_some_iff->ζ,drop_eq_getElem_cons->η,length_append->ρ,take_succ_eq_append_getElem->σ,length_cons->φ,length_map->ω,getElem?_append_right->Φ,getElem?_append_left->Ω,take_of_length_le->A0,drop_of_length_le->A1,length_filter_le->A2,range->A5,length_range->B0,length_nil->B3,map_cons->B5
open Nat renaming zero_le->δ,testBit_div_two->ο,le_trans->τ,le_refl->ψ,pow_le_pow_right->A4,lt_of_lt_of_le->A9,mul_le_mul->B4,pow_succ->B8,lt_or_ge->B9
open Option renaming some->M,none->G
open _root_ renaming rfl->J,List->I,Int->H,Nat->Y,if_neg->γ,if_pos->ι,decide_eq_true_eq->Θ,Bool->B1
namespace Go.Proofs.YthkeffolmbnkaaaGreatDoor
open Go.Proofs.Tryz
open Go.RowKit
variable{g:Bs}{i:Ex}{o:Int}{d:List (List Nat)}{a j:List Bool}{r:List Ex}{l:List Nat}{n:List Tr}{q:List Value}{b:List dB}{c m s:Nat}{k:Tr}{f t:Value}{e p u:World}
theorem Ue(d:jq g=ξ):bF g=6:=by
 have m:=d;unfold jq at d;simp only[ν]at d;obtain⟨⟨n,f⟩, -⟩:=d;have o:(46:UInt8)∈g:=by simpa using n
 obtain⟨a,b,rfl⟩:∃a b,g=a::b:=by
  cases g with
  |nil=>simp at o
  |cons a b=>exact⟨a,b,J⟩
 have i:fI a.toNat=ξ:=by
  unfold aW at f;simp only[ν,Θ]at f;obtain⟨⟨⟨k, -⟩,e⟩, -⟩:=f;by_cases j:a=46
  ·subst j;simp at k
  have:List.takeWhile (λc=>c != 46) (a::b)=a::b.takeWhile (λc=>c != 46):=by simp[j]
  rw[this]at e;exact e
 have c:∀j:UInt8,fI j.toNat=ε->a≠j:=λj e k=>by subst k;rw[i]at e;cases e
 have p:aW (a::b)=ε:=by
  rw[Bool.eq_false_iff];intro k;have:=(oC k).2.2.2.2.1;rw[m]at this;cases this
 have q:gH (a::b)=ε:=by
  have r:=c 48 ag;have s:=c 45 ag;have t:bN (a::b)=a::b:=by
   unfold bN;have:((a::b).headD 0==45)=ε:=by simpa using s
   rw[this];rfl
  have e:dD a.toNat=ε:=by
   unfold fI at i;unfold dD;simp only[ν,Θ]at i;simp only[Bool.and_eq_false_iff,decide_eq_false_iff_not];right;omega
  unfold gH;rw[t];have l:((a::b)== [48])=ε:=by simp[r]
  rw[l,show dR (a::b) 0=(dD a.toNat&&decide (0*10+((a.toNat:H)-48)<=1000000000)&&dR b (0*10+(a.toNat-48)))from J,e];simp
 have r:fJ (a::b)=ε:=by
  have s:=c 39 ag;unfold fJ;have:((a::b).getD 0 0==39)=ε:=by simpa using s
  rw[this];simp
 have s:lN (a::b)=ε:=by
  have t:=c 36 ag;unfold lN;have:((a::b).headD 0==36)=ε:=by simpa using t
  rw[this];simp
 have t:lZ (a::b)=ε:=by
  unfold lZ;have l:=c 43 ag;have u:=c 45 ag;have v:=c 42 ag;have w:=c 47 ag;have x:=c 61 ag;have y:=c 60 ag;simp[l,u,v,w,x,y]
 have l:((a::b)== [40])=ε:=by have:=c 40 ag;simp[this]
 have u:((a::b)== [41])=ε:=by have:=c 41 ag;simp[this]
 unfold bF;rw[l,u,t,q,r,s,p,m];rfl
def Db(tx:Bs):I dB->H×H
 | []=>(-1,0)
 |c::cs=>if tx=c.1.1 then((c.2.1:H),c.2.2)else Db tx cs
def zG(cs:I dB)(br:B1)(tx:Bs):H×H:=if br then(-1,0)else Db tx cs
theorem NG{c}:∀ {b:I dB},(∀a∈b,c≠a.1.1)->Db c b=(-1,0)
 | [],_=>rfl
 |a::b,h=>by rw[Db,γ (h a ak)];exact NG λd e=>h d (by simp[e])
theorem YB{d}:∀ {cs:I dB} {c:Y},nK (cs.map (·.1)) d=M c->∃a,cs[c]? =M a/\Db d cs=((a.2.1:H),a.2.2)
 | [],c,h=>by simp[nK]at h
 |a::cs,c,h=>by
  rw[nK,B5,List.findIdx?_cons]at h
  cases b:(a.1.1==d)with
  |true=>
   rw[b]at h;simp at h;subst h;exact⟨a,J,by rw[Db,ι (by simpa using(beq_iff_eq.mp b).symm)]⟩
  |false=>
   rw[b]at h;simp only[Bool.false_eq_true,if_false,Option.map_eq_some_iff]at h;obtain⟨k,e,rfl⟩:=h;obtain⟨f,g,i⟩:=YB (cs:=cs) e;refine⟨f,by simpa using g, ?_⟩;rw[Db,γ (λj=>by subst j;simp at b)];exact i
def Wu(p:H×H):Y:=if 0<=p.1 then bu 0 p.1.toNat else 0
mutual
def vS(cs:I dB):Tr->Y
 | .mk _ tx br ops=>uk cs (Wu (zG cs br tx)) ops
def uk(cs:I dB):Y->I Tr->Y
 |m,[]=>m
 |m,t::ts=>uk cs (m|||vS cs t) ts
end
theorem XX:∀a:Tr,vS b a=uk b (Wu (zG b a.br a.tx)) a.ops
 | .mk _ _ _ _=>by rw[vS];rfl
def PH(cs:I dB)(fns:I Fn)(t:Tr)(x:Ex):Prop:=bO bL (cs.map (·.1),[]) fns t=.ok x
def qQ(cs:I dB)(fns:I Fn)(ts:I Tr)(xs:I Ex):Prop:=dN bL (cs.map (·.1),[]) fns ts=.ok xs
theorem Fp{fns}(a:PH b fns (.mk o g ξ n) i):∃c,qQ b fns n c/\i.ops=c/\i.head=g/\i.sort≠2:=by
 unfold PH at a;rw[bO,ι J]at a;unfold Jd at a;split at a
 ·cases a
 next c d=>
 refine⟨c,d, ?_⟩;unfold uh at a;split at a
 ·split at a
  ·cases a
  cases a;exact⟨J,J,by show(4:H)≠2;decide⟩
 unfold uI at a;split at a
 ·cases a
 split at a
 ·cases a
 split at a
 ·cases a;exact⟨J,J,by show(5:H)≠2;decide⟩
 cases a
theorem Af{fns}(q:∀c∈b,jq c.1.1=ξ)(t:kg (.mk o g ε n))(a:PH b fns (.mk o g ε n) i):n= []/\i.ops= []/\i.head= []/\((i.sort=2/\∃(e:Y) (c:dB),b[e]? =M c/\i.place=(e:H)/\Db g b=((c.2.1:H),c.2.2))\/(i.sort≠2/\Db g b=(-1,0))):=by
 obtain⟨j,v,f⟩:=t J;have j:n= []:=j;have f:o=bF g:=f;refine⟨j, ?_⟩;unfold PH at a;rw[bO,γ Bool.false_ne_true]at a;have k:o≠6->Db g b=(-1,0):=λd=>NG λc r l=>d (by rw[f,l];exact Ue (q c r));split at a
 ·unfold zb at a;split at a
  ·cases a
  next e s=>
  split at a
  ·cases a
  next u w=>
  cases a;obtain⟨c,m,p⟩:=YB s;exact⟨J,J,.inl ⟨J,e,c,m,J,p⟩⟩
 next d=>
 split at a
 ·unfold EA at a;split at a
  ·cases a
  cases a;exact⟨J,J,.inr ⟨by show(3:H)≠2;decide,k d⟩⟩
 cases a;have:(fe bL o g).ops= []/\(fe bL o g).head= []/\(fe bL o g).sort≠2:=by
  unfold fe;split
  ·exact⟨J,J,by show(0:H)≠2;decide⟩
  split
  ·exact⟨J,J,by show(0:H)≠2;decide⟩
  split
  ·exact⟨J,J,by show(1:H)≠2;decide⟩
  exact⟨J,J,by show(0:H)≠2;decide⟩
 exact⟨this.1,this.2.1,.inr ⟨this.2.2,k d⟩⟩
theorem Eh(b):∀a:Ex,bH b a=iw b (if a.sort=2 then bu 0 (lL b a.place)else 0) a.ops
 | .mk _ _ _ _ _ _ _ _ _ _ _=>by rw[bH];rfl
theorem oz{fns}(a:qQ b fns (k::n) r):∃c d,r=c::d/\PH b fns k c/\qQ b fns n d:=by
 unfold qQ at a;rw[dN]at a;split at a
 ·cases a
 next c e=>
 split at a
 ·cases a
 next d f=>cases a;exact⟨c,d,J,e,f⟩
theorem tF{fns}(a:qQ b fns [] r):r= []:=by
 unfold qQ at a;rw[dN]at a;cases a;rfl
theorem xe(a:∀b∈post k,kg b):kg k:=a k (List.mem_of_getElem? (fQ k))
theorem zB{b}(c:∀a∈post (.mk o g b n),kg a):∀a∈dm n,kg a:=λa d=>c a (by rw[post];simp[d])
mutual
theorem zz{a:I dB}(i:∀d∈a,jq d.1.1=ξ){fns:I Fn} :∀(e:Tr) (f:Ex),(∀o∈post e,kg o)->PH a fns e f->vS a e=bH a f
 | .mk k tx j ops,f,hl,h=>by
  rw[Eh,vS]
  cases j with
  |true=>
   obtain⟨l,m,c,n,b⟩:=Fp h;rw[γ b,c];exact Hq i ops l 0 (zB hl) m
  |false=>
   obtain⟨rfl,c,n,⟨b,p,d,g,q,r⟩|⟨b,g⟩⟩:=Af i (xe hl) h
   ·rw[ι b,c,q,show zG a ε tx=Db tx a from J,r];have:lL a (p:H)=d.2.1:=by unfold lL;rw[υ,g]
    rw[this,uk,iw,Wu,ι ak];simp
   rw[γ b,c,show zG a ε tx=Db tx a from J,g];rfl
theorem Hq{c:I dB}(g:∀i∈c,jq i.1.1=ξ){fns:I Fn} :∀(a:I Tr) (d:I Ex) (e:Y),(∀b∈dm a,kg b)->qQ c fns a d->uk c e a=iw c e d
 | [],d,e,hl,h=>by rw[tF h];rfl
 |t::a,d,e,hl,h=>by
  obtain⟨l,m,rfl,j,k⟩:=oz h;rw[uk,iw,zz g t l (λb f=>hl b (by rw[dm];simp[f])) j];exact Hq g a m _ (λb f=>hl b (by rw[dm];simp[f])) k
end
def sG(p r:H×H)(l' r':B1):H:=if 0<=p.1/\0<=r.1/\p.1≠r.1/\p.2>r.2 then p.2 else if 0<=p.1/\0<=r.1/\p.1≠r.1 then r.2 else if 0<=p.1/\r'=ε then p.2 else if 0<=r.1/\l'=ε then r.2 else 3
def FN(cs:I dB):Tr->H
 | .mk _ tx br ops=>if br=ξ/\tx= [61]then match ops with
  |l::r::_=>sG (zG cs l.br l.tx) (zG cs r.br r.tx) (decide (vS cs l≠0)) (decide (vS cs r≠0))
  |_=>3
  else 3
theorem NH(j:∀a∈b,jq a.1.1=ξ){fns}(l:∀m∈post k,kg m)(f:PH b fns k i):(i.sort=2/\∃c:Y,zG b k.br k.tx=((c:H),fq b i.place)/\bH b i=bu 0 c)\/(i.sort≠2/\zG b k.br k.tx=(-1,0)):=by
 obtain⟨_,n,o,_⟩:=k
 cases o with
 |true=>exact .inr ⟨(Fp f).choose_spec.2.2.2,J⟩
 |false=>
  obtain⟨rfl,p,_,⟨d,c,a,e,g,q⟩|⟨d,e⟩⟩:=Af j (xe l) f
  ·refine .inl ⟨d,a.2.1, ?_, ?_⟩
   ·show Db n b=_;rw[q,g];unfold fq;rw[υ,e]
   rw[Eh,ι d,p,g];have:lL b (c:H)=a.2.1:=by unfold lL;rw[υ,e]
   rw[this,iw]
  exact .inr ⟨d,e⟩
theorem Wp(a:bu 0 m=bu 0 c):m=c:=by
 have:=congrArg (λb=>Nat.testBit b c) a;simp only[qz,Nat.zero_testBit,B7,decide_true]at this;simpa using this
theorem Uj(f:∀S∈b,jq S.1.1=ξ){fns}(y:∀a∈post k,kg a)(x:PH b fns k i):FN b k=oQ b i:=by
 obtain⟨_,T,W,X⟩:=k
 cases W with
 |false=>
  obtain⟨rfl,z,p, -⟩:=Af f (xe y) x;unfold FN;dsimp only;rw[γ ak,oQ,ι (by rw[p];decide)]
 |true=>
  obtain⟨_,c,z,p,_⟩:=Fp x;unfold FN;dsimp only;rw[oQ];by_cases q:T= [61]
  ·rw[ι ⟨J,q⟩,γ (by rw[p];simpa using q),z];have r:=zB y
   match X,c,r with
   | [],c,_=>rw[tF c]
   | [t],c,_=>obtain⟨g,a0,rfl,_,u⟩:=oz c;rw[tF u]
   |t::B::rest,c,r=>
    obtain⟨g,a0,rfl,K,u⟩:=oz c;obtain⟨s,_,rfl,L, -⟩:=oz u;have O:∀a∈post t,kg a:=λa v=>r a (by rw[dm];simp[v]);have P:∀a∈post B,kg a:=λa v=>r a (by rw[dm,dm];simp[v]);simp only;rw[zz f t g O K,zz f B s P L];rcases NH f O K with⟨n,d,l,C⟩|⟨n,l⟩<;>rcases NH f P L with⟨o,e,m,F⟩|⟨o,m⟩
    ·rw[l,m];unfold sG;simp only[C,F];have j:=wP 0 d;have a3:=wP 0 e;by_cases N:d=e
     ·subst N;rw[γ ak,γ ak,γ (by simp[j]),γ (by simp[j]),γ ak,γ (by simp[j]),γ (by simp[j])]
     have a4:bu 0 d≠bu 0 e:=λa1=>N (Wp a1);have R:(d:H)≠(e:H):=A;rw[ι (show g.sort=2/\s.sort=2/\bu 0 d≠bu 0 e from⟨n,o,a4⟩)];by_cases a2:fq b g.place>fq b s.place
     ·rw[ι ⟨A,A,R,a2⟩];omega
     rw[γ (by simp only[not_and];intros;omega),ι ⟨A,A,R⟩];omega
    ·rw[l,m];have j:=wP 0 d;by_cases w:bH b s=0<;>simp[sG,n,o,w,C]
    ·rw[l,m];have a3:=wP 0 e;by_cases w:bH b g=0<;>simp[sG,n,o,w,F]
    rw[l,m];simp[sG,n,o]
  rw[γ (by simp[q]),ι (by rw[p];exact q)]
mutual
def iH:Tr->I Tr
 | .mk k tx br ops=>if br=ξ/\tx= [97,110,100]then dI ops else [.mk k tx br ops]
def dI:I Tr->I Tr
 | []=>[]
 |t::ts=>iH t++dI ts
end
theorem II:∀a:Tr,iH a=if a.br=ξ/\a.tx= [97,110,100]then dI a.ops else [a]
 | .mk _ _ _ _=>by rw[iH];rfl
theorem RG:∀a:Ex,fU a=if a.head= [97,110,100]then fK a.ops else [a]
 | .mk _ _ _ _ _ _ _ _ _ _ _=>by rw[fU];rfl
theorem Pm{e fns}:∀ {d a:I Tr} {b c:I Ex},qQ e fns d b->qQ e fns a c->qQ e fns (d++a) (b++c)
 | [],a,b,c,h,k=>by rw[tF h];exact k
 |t::d,a,b,c,h,k=>by
  obtain⟨i,j,rfl,f,g⟩:=oz h;have:=Pm g k;unfold qQ at this ⊢;unfold PH at f;rw[List.cons_append,dN,f,this];rfl
mutual
theorem EU{a:I dB}(g:∀m∈a,jq m.1.1=ξ){fns:I Fn} :∀(e:Tr) (b:Ex),(∀n∈post e,kg n)->PH a fns e b->qQ a fns (iH e) (fU b)
 | .mk k tx l ops,b,hl,h=>by
  rw[iH,RG];have one:∀f:Tr,PH a fns f b->qQ a fns [f] [b]:=λf i=>by unfold qQ;unfold PH at i;rw[dN,i,dN]
  cases l with
  |true=>
   obtain⟨o,p,j,c,_⟩:=Fp h;by_cases d:tx= [97,110,100]
   ·rw[ι ⟨J,d⟩,ι (by rw[c];exact d),j];exact Cr g ops o (zB hl) p
   rw[γ (by simp[d]),γ (by rw[c];exact d)];exact one _ h
  |false=>
   obtain⟨rfl,j,c, -⟩:=Af g (xe hl) h;rw[γ ak,γ (by rw[c];decide)];exact one _ h
theorem Cr{d:I dB}(f:∀g∈d,jq g.1.1=ξ){fns:I Fn} :∀(a:I Tr) (c:I Ex),(∀b∈dm a,kg b)->qQ d fns a c->qQ d fns (dI a) (fK c)
 | [],c,hl,h=>by rw[tF h];unfold qQ;rfl
 |t::a,c,hl,h=>by
  obtain⟨k,l,rfl,i,j⟩:=oz h;rw[dI,fK];exact Pm (EU f t k (λb e=>hl b (by rw[dm];simp[e])) i) (Cr f a l (λb e=>hl b (by rw[dm];simp[e])) j)
end
def bl(n m:Y):I B1:=(A5 n).map m.testBit
theorem rJ(a b):U (bl a b)=a:=by simp[bl]
theorem Xe(a:c<s):(bl s m)[c]? =M (m.testBit c):=by simp[bl,a]
def mU(w:A7)(v:Ξ)(l:I B1):Prop:=∃ao cap,v=Z ao (U l) cap/\U l<=1000/\(l= []\/∃b,ao=M ⟨b,0,G⟩/\b<E (D w)/\∀(i:Y) (x:B1),l[i]? =M x->β w ⟨b,i,G⟩=M (B2 x))
theorem mU.ah{w x v l}(c:mU w v l)(a:Bl w x):mU x v l:=by
 obtain⟨d,cap,e,f,g⟩:=c;refine⟨d,cap,e,f,g.imp id ?_⟩;rintro⟨j,k,b,m⟩;exact⟨j,k,A9 b a.size,λi n o=>cK a b (m i n o)⟩
def uO(l:I B1):B1:=l.any id
theorem Ci(g)(k:mU g f a):
  Calls prog 214 #[f] g (RE (B2 (uO a)) g):=by
 obtain⟨o,cap,rfl,_,l⟩:=k;go_enter func214,ntmps214;go_wp2_with fail;go_loopw [3] (λc d=>∃b:Y,b<=U a/\c=Ψ .i64 b/\d=g/\V (uO a=uO (a.drop b))) (λc _=>U a-(A8 c).toNat)
 ·exact⟨0,δ _,J,J,J⟩
 obtain⟨b,_,rfl,rfl,i⟩:=hrel;by_cases j:b<U a
 ·obtain⟨c,rfl,n,m⟩:∃c,o=M (Q c 0 G)/\c<E (D wr)/\β wr (Q c b G)=M (B2 a[b]):=by
   rcases l with k|⟨c,d,n,m⟩
   ·rw[k]at j;simp at j
   exact⟨c,d,n,m b _ (α j)⟩
  have d:V (uO a=(a[b]||uO (a.drop (b+1)))):=by rw[V,i.out,η j];rfl
  obtain⟨p,e⟩:=au (a[b]);rw[<-e]at m d;clear l e i
  cases p with
  |false=>
   have e:V (uO a=uO (a.drop (b+1))):=by rw[V,d.out];rfl
   clear d
   go_wp2
   go_roundw
   ·exact⟨b+1,A,aP,by trivial,e⟩
   simp[A8];omega
  |true=>
   have e:V (uO a=ξ):=by rw[V,d.out];rfl
   clear d
   go_wp2
   go_ret;exact⟨by rw[e.out];rfl,by trivial⟩
 have e:V (uO a=ε):=by rw[V,i.out,A1 A];rfl
 clear i l
 go_wp2
 go_ret;exact⟨by rw[e.out];rfl,by trivial⟩
def xH:I B1->I B1->B1
 |p::ps,s::ss=> !(p&& !s)&&xH ps ss
 |_,_=>ξ
theorem xP(k l m n:Ξ)(P:k.oneCell'=ξ/\l.oneCell'=ξ/\m.oneCell'=ξ/\n.oneCell'=ξ)(z:mU e f a)(B:mU e t j)(L:U a=U j):
  Calls prog 157 #[.agg #[k,l,f,m,n],t] e (RB (B2 (xH a j)) e):=by
 have i:=ai e (θ #[k,l,f,m,n] 350);have z:=z.ah i;have B:=B.ah i;have b:=κ e (θ #[k,l,f,m,n] 350);obtain⟨C,N,rfl,_,s⟩:=z;obtain⟨R,_,rfl,_,u⟩:=B;obtain⟨O,c⟩:=au (e.alloc (θ #[k,l,Z C (U a) N,m,n] 350));rw[<-c]at s u b i;have:=af b;have:β O (Q (E (D e)) 2 G)=M (Z C (U a) N):=aC b;obtain⟨_,_,_,_⟩:=P;change V _ at i;change V _ at L;clear b;go_enter func157,ntmps157;go_upto_region 1 with fail
 rw[<-c];clear c;go_wp2_with fail;go_loopw [5] (λc d=>∃b:Y,b<=U j/\c=Ψ .i64 b/\d=O/\V (xH a j=xH (a.drop b) (j.drop b))) (λc _=>U j-(A8 c).toNat)
 ·exact⟨0,δ _,J,J,J⟩
 obtain⟨b,_,rfl,rfl,v⟩:=hrel;by_cases w:b<U j
 ·have x:b<U a:=by have:=L.out;omega
  obtain⟨c,rfl,y,o⟩:∃c,C=M (Q c 0 G)/\c<E (D wr)/\β wr (Q c b G)=M (B2 a[b]):=by
   rcases s with p|⟨c,q,y,o⟩
   ·rw[p]at x;simp at x
   exact⟨c,q,y,o b _ (α x)⟩
  obtain⟨_,rfl,_,S⟩:∃c,R=M (Q c 0 G)/\c<E (D wr)/\β wr (Q c b G)=M (B2 j[b]):=by
   rcases u with p|⟨c,q,y,o⟩
   ·rw[p]at w;simp at w
   exact⟨c,q,y,o b _ (α w)⟩
  have d:V (xH a j=(!(a[b]&& !j[b])&&xH (a.drop (b+1)) (j.drop (b+1)))):=by rw[V,v.out,η w,η x];rfl
  obtain⟨T,g⟩:=au (a[b]);obtain⟨W,r⟩:=au (j[b]);rw[<-g]at o d;rw[<-r]at S d;clear s u g r v;have r:∀(F K:B1),V (xH a j=(!(F&& !K)&&xH (a.drop (b+1)) (j.drop (b+1))))->(F&& !K)=ε->V (xH a j=xH (a.drop (b+1)) (j.drop (b+1))):=λF K p q=>by rw[V,p.out,q];rfl
  cases T with
  |false=>
   have g:=r _ _ d J;clear d r
   go_wp2
   go_roundw
   ·exact⟨b+1,A,aP,by trivial,g⟩
   simp[A8];omega
  |true=>
   cases W with
   |true=>
    have g:=r _ _ d J;clear d r
    go_wp2
    go_roundw
    ·exact⟨b+1,A,aP,by trivial,g⟩
    simp[A8];omega
   |false=>
    have g:V (xH a j=ε):=by rw[V,d.out];rfl
    clear d r
    go_wp2
    go_ret;exact⟨by rw[g.out];rfl,i⟩
 have g:V (xH a j=ξ):=by rw[V,v.out,A1 (l:=j) A];cases a.drop b<;>rfl
 clear v s u
 go_wp2
 go_ret;exact⟨by rw[g.out];rfl,i⟩
theorem Jk(b a:Y):bl (b+1) a=a.testBit 0::bl b (a / 2):=by
 simp only[bl,List.range_succ_eq_map,B5,List.map_map];congr 1;refine List.map_congr_left λ_ _=>?_;simp[Nat.testBit_succ]
theorem KH:∀(b a:Y),a<2^b->uO (bl b a)=decide (a≠0)
 |0,a,h=>by
  have c:a=0:=by simpa using h
  subst c;rfl
 |b+1,a,h=>by
  rw[Jk,show uO (a.testBit 0::bl b (a / 2))=(a.testBit 0||uO (bl b (a / 2)))from J,KH b (a / 2) (by rw[B8]at h;omega)];have:=Nat.testBit_zero a;rw[this,Δ];simp only[Bool.or_eq_true,Θ];omega
theorem SK:∀(c d e:Y),xH (bl c d) (bl c e)=ξ↔ ∀a,a<c->d.testBit a=ξ->e.testBit a=ξ
 |0,d,e=>by simp[bl,xH]
 |c+1,d,e=>by
  rw[Jk,Jk,xH,ν,SK c];constructor
  ·rintro⟨f,i⟩ a j b
   cases a with
   |zero=>cases k:e.testBit 0 with
    |true=>rfl
    |false=>rw[b,k]at f;cases f
   |succ a=>have:=i a A (by rw[ο];exact b);rwa[ο]at this
  intro g;refine⟨?_,λa j b=>?_⟩
  ·cases b:d.testBit 0 with
   |false=>rfl
   |true=>rw[g 0 A b];rfl
  rw[ο]at b ⊢;exact g (a+1) A b
theorem XV(f:m<2^c):xH (bl c m) (bl c s)=within m s:=by
 rw[Δ,SK,within_iff];constructor
 ·intro d b a;refine d b ?_ a;rcases B9 b c with e|e
  ·exact e
  rw[Nat.testBit_lt_two_pow (A9 f (A4 ag e))]at a;cases a
 exact λd b _ a=>d b a
def xy(w:A7)(u:Ξ)(o:I Y):Prop:=∃g cap,u=Z (M ⟨g,0,G⟩) (U o) cap/\w.ownsRow 0 3 1 u (U o) (aA (zs o))
def Dm(w x:A7):Prop:=∀(g:Y) (cur:Array Ξ),w.heap[g]? =M (θ cur 3 (0,0))->x.heap[g]? =M (θ cur 3 (0,0))
theorem xy.ah{w x}(a:xy w f l)(k:Dm w x):xy x f l:=by
 obtain⟨e,cap,g,a⟩:=a;refine⟨e,cap,g,aD a λ_ c=>?_⟩;rcases a.2 with⟨b,_⟩|⟨_,_,_,b,_,d,_⟩
 ·subst b;cases c
 subst b;cases c;rw[d];exact k _ _ d
theorem Dm.below(b:Bl e p):Dm e p:=λc _ a=>(b.block c (af a)).trans a
def jK(w:A7)(base:Y)(v:Ξ)(os:I (I Y)):Prop:=∃vs:I Ξ,w.ownsRow base 42 1 v (U os) vs/\U vs=U os/\∀(i:Y) (u:Ξ) (o:I Y),vs[i]? =M u->os[i]? =M o->xy w u o
theorem jK.ah{w x base v}(f:jK w base v d)(b:Bl w x):jK x base v d:=by
 obtain⟨g,c,j,k⟩:=f;exact⟨g,aD c λe l=>b.block e (c.lt e l).2,j,λi o n a m=>(k i o n a m).ah (Dm.below b)⟩
theorem jK.low{base}(b:jK e base f d)(g:c<=base):jK e c f d:=by
 obtain⟨i,a,j⟩:=b;exact⟨i,bY a λk l=>τ g (a.lt k l).1,j⟩
theorem jK.nil(a base):jK a base (Z G 0 0) []:=⟨[],A6 _ _ _ _,J,λi _ _ b=>by simp at b⟩
theorem jK.val{base v}(f:jK e base v d):∃c b,v=Z c (U d) b:=by
 obtain⟨_,g, -⟩:=f;rcases g.2 with⟨a,i⟩|⟨_,cap,_,a,_⟩
 ·exact⟨G,0,by rw[i];exact a⟩
 exact⟨_,_,a⟩
theorem jK.at{w:A7}{base f n}(m:jK w base (Z f n c) d){i}(o:i<U d):∃b g cap,f=M (Q b 0 G)/\b<E (D w)/\β w (Q b i G)=M (Z (M (Q g 0 G)) d[i].length cap)/\g<E (D w)/\w.ownsRow 0 3 1 (Z (M (Q g 0 G)) d[i].length cap) d[i].length (aA (zs d[i])):=by
 obtain⟨a,j,_,p⟩:=m;have k:a[i]? =M a[i]:=α A;obtain⟨g,cap,l,e⟩:=p i a[i] d[i] k (α o);rcases j.2 with⟨_,_⟩|⟨b,_,_,q,_,r,_⟩
 ·omega
 cases q;rw[l]at e;refine⟨b,g,cap,J,af r, ?_,(e.lt g J).2,e⟩;have:=j.cellAt i A;rw[this,k,l]
theorem Vn{base}(k:U q=U d)(n:∀(a:Y) (f:Ξ) (l:I Y),q[a]? =M f->d[a]? =M l->xy u f l)(s:Dm u p)(r:xy p f l)(j:Dm p e)(o:e.ownsRow base 42 1 (Z (M (Q m 0 G)) (U d+1) c) (U d+1) (q++ [f])):jK e base (Z (M (Q m 0 G)) (U d+1) c) (d++ [l]):=by
 refine⟨q++ [f],by rw[ρ];exact o,by simp[k],λa v t b g=>?_⟩;rcases B9 a (U q)with i|i
 ·rw[Ω i]at b;rw[Ω A]at g;exact((n a v t b g).ah s).ah j
 rw[Φ i]at b;rw[Φ A]at g;have w:=(ζ.mp b).1;simp only[φ,B3]at w;have x:a-U q=0:=A;have y:a-U d=0:=A;rw[x]at b;rw[y]at g;simp at b g;rw[<-b,<-g];exact r.ah j
theorem QB{j base}(own:e.ownsRow base 42 1 f c q)(i:(e.alloc j).grownBy p f.ownBlock):Dm e p:=λk _ a=>by
 have l:=af a;refine(i.block k aN λd=>?_).trans ((Below.heap_alloc _ _ _ l).trans a);rcases own.2 with⟨b,_⟩|⟨_,cap,_,b,_,g,_⟩
 ·subst b;cases d
 subst b;cases d;rw[a]at g;cases g
theorem XM:(Tryz.prog.info? 42).map (λa=>(a.zero,a.size,a.bytes))=M (M (Z G 0 0),1,24):=aF
theorem XA(a b):U (gX a b)<=a:=by
 unfold gX;rw[ω];have:=A2 (λc=> !b.contains c) (A5 a);rw[B0]at this;exact this
theorem Um(a b):U (iR a b)<=a:=by
 unfold iR;rw[ω];have:=A2 (λc=> !b.contains c) (A5 a);rw[B0]at this;exact this
theorem Ea(b):∀(a:I (I Y)),U (a.flatMap (gX b))<=U a*b
 | []=>by simp
 |m::a=>by
  rw[List.flatMap_cons,ρ,φ];have c:=XA b m;have:=Ea b a;rw[Nat.succ_mul];omega
theorem NM{n}(b:n<=4):∀a,U (lM n a)<=4^a
 |0=>by simp[lM]
 |a+1=>by
  rw[lM];have c:=Ea n (lM n a);have d:=NM b a;rw[B8];exact τ c (B4 d b)
theorem Eu(n)(b:n<=4)(a)(c:a<=4):U (lM n a)<=256:=τ (NM b a) (by have:=A4 (n:=4) ag c;omega)
theorem YL(a:l∈lM m c):U l=c:=((oZ m c l).mp a).2
theorem JI(b a)(c:a<U b):(aA (zs b))[a]? =M (Ψ .i64 ((b[a]:Y):H)):=by simp[aA,zs,c]
theorem Us(a)(b:c<U d):(d.take (c+1)).flatMap (gX a)=(d.take c).flatMap (gX a)++gX a d[c]:=by
 rw[σ b,List.flatMap_append];simp
theorem Ug(a)(b:c<U l):(l.take (c+1)).contains a=((l.take c).contains a||(l[c]==a)):=by
 rw[σ b];simp only[List.contains_eq_any_beq,List.any_append,List.any_cons,List.any_nil,Bool.or_false];congr 1;rw[Bool.beq_comm]
theorem Gi(g)(c:Y)(c6:c<=4):
  Calls prog 219 #[Ψ .i64 (c:H)] g λL c8=>∃c7,L=.returned c7/\jK c8 (E (D g)) c7 (lM c c)/\Bl g c8:=by
 obtain⟨c9,e0,e1,e2,e3⟩:=C0 lX;obtain⟨g0,b0,g1,g2,g3⟩:=C0 XM;obtain⟨a2,a⟩:=au ((g.alloc (θ #[] 3)).alloc (θ #[Z (M (Q (E (D g)) 0 G)) 0 0] 42));have f:V (jK a2 (E (D g)) (Z (M ⟨E (D g)+1,0,G⟩) 1 1) (lM c 0)):=by
  have e:a2.heap[E (D g)]? =M (θ #[] 3 (0,0)):=by rw[a];exact(Below.heap_alloc _ _ _ gL).trans (κ g _)
  have j:a2.heap[E (D g)+1]? =M (θ #[Z (M (Q (E (D g)) 0 G)) 0 0] 42 (0,0)):=by
   have:=κ (g.alloc (θ #[] 3)) (θ #[Z (M (Q (E (D g)) 0 G)) 0 0] 42);rw[μ]at this;rw[a];exact this
  refine⟨[Z (M (Q (E (D g)) 0 G)) 0 0],⟨J,.inr ⟨E (D g)+1,1,_,J,A,j,ψ _,fD,J,J⟩⟩,J,λd p i b x=>?_⟩;have b0:=(ζ.mp b).1;simp only[φ,B3]at b0;obtain rfl:d=0:=A;simp[lM]at b x;subst b x;exact⟨E (D g),0,J,⟨J,.inr ⟨E (D g),0,_,J,δ _,e,ψ _,δ _,J,J⟩⟩⟩
 have b:V (Bl g a2):=by rw[V,a];exact aV g _ _
 go_enter func219,ntmps219;go_upto_region 2 with fail
 rw[<-a];clear a;go_wp2_with fail;go_loopg [3,4] c (λgk j a wr=>∃e:Y,gk=c-e/\e<=c/\a=Ψ .i64 (e:H)/\V (jK wr (E (D g)) j (lM c e))/\Bl g wr)
 ·exact⟨0,J,δ _,J,f,b⟩
 clear f b;obtain⟨e,N,l,rfl,O,a⟩:=hrel;subst N;generalize b:wr=wk at*;clear b;obtain⟨g4,_,rfl⟩:=O.out.val;have b1:V (Bl g wk):=a;have g5:=Eu c c6 e A;have b2:V (∀i∈lM c e,U i=e):=λi g6=>YL g6;have a3:V (lM c (e+1)=(lM c e).flatMap (gX c)):=J;clear a;obtain⟨out,a⟩:=au (lM c e);rw[<-a]at O g5 b2 a3 ⊢;have g7:V (out=lM c e):=a;clear a;by_cases h6:e<c
 ·go_wp2_with fail;go_loopg [5,6] (U out) (λgk j a wr=>∃d:Y,gk=U out-d/\d<=U out/\a=Ψ .i64 (d:H)/\V (jK wr (E (D wk)) j ((out.take d).flatMap (gX c)))/\Bl wk wr)
  ·exact⟨0,J,δ _,J,jK.nil _ _,Below.refl _ _⟩
  obtain⟨d,N,_,rfl,m,P⟩:=hrel;subst N;generalize a:wr=wi at*;clear a;obtain⟨y,z,b3⟩:=m.out.val;subst b3;by_cases b4:d<U out
  ·have b5:V ((out.take (d+1)).flatMap (gX c)=(out.take d).flatMap (gX c)++gX c out[d]):=Us c b4;have f:V (jK wi (E (D wk)) (Z y (U ((out.take d).flatMap (gX c))) z) ((out.take d).flatMap (gX c)++iR 0 out[d])):=by
    rw[V];simpa[iR]using m.out
   have g8:U ((out.take d).flatMap (gX c))<=1024:=by
    have a:=Ea c (out.take d);rw[List.length_take]at a;have:min d (U out)*c<=256*4:=B4 A c6;omega
   have a4:=b2.out out[d] (List.getElem_mem b4);have a5:V (∀b,Bl wk b->∃x B cap,g4=M (Q x 0 G)/\x<E (D b)/\β b (Q x d G)=M (Z (M (Q B 0 G)) out[d].length cap)/\B<E (D b)/\b.ownsRow 0 3 1 (Z (M (Q B 0 G)) out[d].length cap) out[d].length (aA (zs out[d]))):=λb e4=>(jK.ah O e4).at b4;obtain⟨a,k⟩:=au (out[d]);obtain⟨n,o⟩:=au ((out.take d).flatMap (gX c));rw[<-k]at b5 f a4 a5;rw[<-o]at b5 f g8 ⊢;have h7:U a<=4:=A;clear m k o a4;go_wp2_with fail;go_loopg [5,7] c (λgk j k wr=>∃b:Y,gk=c-b/\b<=c/\k=Ψ .i64 (b:H)/\V (jK wr (E (D wk)) j (n++iR b a))/\Bl wk wr)
   ·exact⟨0,J,δ _,J,f,P⟩
   clear f;obtain⟨b,N,e4,rfl,m,R⟩:=hrel;subst N;generalize f:wr=wx at*;clear f;obtain⟨y,z,b3⟩:=m.out.val;subst b3;by_cases h8:b<c
   ·obtain⟨x,B,cap,rfl,_,g9,_,a6⟩:=a5.out wx R;have h9:=Um b a;have a7:V (iR (b+1) a=iR b a++(if a.contains b then []else [a++ [b]])):=xY b a;change V _ at a6;have S:V (Bl wk wx):=R;clear R P;go_wp2_with fail;go_loopw [8,9] (λk f o=>∃j:Y,j<=U a/\f=Ψ .i64 (j:H)/\k=B2 ((a.take j).contains b)/\o=wx) (λ_ f _=>U a-(A8 f).toNat)
    ·exact⟨0,δ _,J,J,J⟩
    obtain⟨j,b6,rfl,rfl,rfl⟩:=hrel;by_cases a8:j<U a
    ·have r:β wr (Q B j G)=M (Ψ .i64 ((a[j]:Y):H)):=(χ a6 j A).trans (JI a j a8);have f:V ((a.take (j+1)).contains b=((a.take j).contains b||(a[j]==b))):=Ug b a8;obtain⟨k,o⟩:=au (a[j]);rw[<-o]at r f;obtain⟨b7,T⟩:=au ((a.take j).contains b);rw[<-T]at f ⊢;clear o T
     cases b7 with
     |true=>
      go_wp2
      go_roundw
      ·exact⟨j+1,A,aP,by rw[f.out];rfl,by trivial⟩
      simp[A8];omega
     |false=>
      have o:((k:H)==(b:H))=(k==b):=by rw[Δ];simp;omega
      go_wp2
      go_roundw
      ·exact⟨j+1,A,aP,by rw[f.out,B7],by trivial⟩
      simp[A8];omega
    have W:V ((a.take j).contains b=a.contains b):=by rw[V,A0 A]
    obtain⟨b7,T⟩:=au ((a.take j).contains b);rw[<-T]at W ⊢;clear T
    cases b7 with
    |true=>
     have s:V (iR (b+1) a=iR b a):=by rw[V,a7.out,<-W.out];simp
     clear a7 W
     go_wp2
     go_roundg (c-(b+1))
     all_goals first
      |omega
      |exact⟨b+1,J,A,aP,by rw[s.out];exact m,S⟩
    |false=>
     have s:V (iR (b+1) a=iR b a++ [a++ [b]]):=by rw[V,a7.out,<-W.out];simp
     clear a7 W;obtain⟨a9,F,c3,c4⟩:=m.out;have a4:U (n++iR b a)<=1028:=Jr;have e5:V (∀(j:Y) (p:Ξ),(aA (zs a))[j]? =M p->β wr (Addr.add (Q B 0 G) j)=M p):=λj p b6=>by
      have a8:=(ζ.mp b6).1;simp only[aA,ω,dW]at a8;rw[Addr.add_lit,Nat.zero_add,χ a6.out j A,b6]
     have e6:V (U (aA (zs a))=U a*1):=by simp[V,aA,dW]
     have e7:V (∀p∈aA (zs a),p.oneCell'=ξ):=λp t=>by
      simp only[aA,List.mem_map]at t;obtain⟨_, -,rfl⟩:=t;rfl
     have e8:V (∀(k f u:A7) (i b8:Obj) (q:Ξ) (v w X a0:Y),k.ownsRow (E (D wr)) 3 1 q (U a) (aA (zs a))->wr.grownBy k G->f.ownsRow (E (D wr)) 3 1 (Z (M (Q v 0 G)) (U a+1) w) (U a+1) (aA (zs a)++ [Ψ .i64 (b:H)])->(k.alloc i).grownBy f q.ownBlock->u.ownsRow (E (D wk)) 42 1 (Z (M (Q X 0 G)) (U (n++iR b a)+1) a0) (U (n++iR b a)+1) (a9++ [Z (M (Q v 0 G)) (U a+1) w])->(f.alloc b8).grownBy u (Z y (U (n++iR b a)) z).ownBlock->jK u (E (D wk)) (Z (M (Q X 0 G)) (U (n++iR b a)+1) a0) (n++iR (b+1) a)/\Bl wk u):=by
      intro k f u i b8 q v w X a0 o b9 c5 c0 e9 c2;have C:Bl wr k:=(Below.refl _ _).grown b9 (ψ _) (λe l=>by cases l);have a1:Bl wr f:=(C.alloc C.size i).grown c0 (by simp only[μ];have:=C.size;omega) (λe l=>(o.lt e l).1);have l:=QB (aD F λK c1=>a1.block K (F.lt K c1).2) c2;have h0:Bl wk u:=((bT S a1).alloc (bT S a1).size b8).grown c2 (by simp only[μ];have:=(bT S a1).size;omega) (λe l=>(F.lt e l).1);refine⟨?_,h0⟩;rw[s.out,<-List.append_assoc];refine Vn c3 c4 (Dm.below a1) ⟨v,w,ak, ?_⟩ l e9;have h1:f.ownsRow 0 3 1 (Z (M (Q v 0 G)) (U a+1) w) (U a+1) (aA (zs a)++ [Ψ .i64 (b:H)]):=bY c5 λ_ _=>δ _;rw[ρ,show aA (zs (a++ [b]))=aA (zs a)++ [Ψ .i64 (b:H)]by simp[aA,zs]];exact h1
     have a1:V (∀(f:A7) (i:Obj),Bl wr f->(f.alloc i).ownsRow (E (D wk)) 42 1 (Z y (U (n++iR b a)) z) (U (n++iR b a)) a9):=λf i h0=>Γ (aD F λK c1=>h0.block K (F.lt K c1).2) i;have c2:V (∀(k f:A7) (i:Obj) (q:Ξ),k.ownsRow (E (D wr)) 3 1 q (U a) (aA (zs a))->wr.grownBy k G->(k.alloc i).grownBy f q.ownBlock->Bl wr f):=λk f i q o b9 c0=>by
      have C:Bl wr k:=(Below.refl _ _).grown b9 (ψ _) (λe l=>by cases l);exact(C.alloc C.size i).grown c0 (by simp only[μ];have:=C.size;omega) (λe l=>(o.lt e l).1)
     obtain⟨C,c5⟩:=au (U (n++iR b a));rw[<-c5]at a4 e8 a1 ⊢;clear F c3 c4 s m c5;go_upto_region 19 with fail
     go_wp2_with(at_builtin;refine wpList_append_own _ J (.tmp 52) (.tmp 56) 42 J (E (D wr)) 3 c9 (Ψ .i64 0) 1 8 underlying42 e0 e1 e2 e3 J ag (Z G 0 0) 0 [] J (A6 _ _ _ _) (Q B 0 G) (U a) cap (aA (zs a)) J e6 e5 e7 fD A ak ?_);intro q k c3 c4 _;obtain⟨o,r,rfl⟩:∃o r,q=Z o (U a) r:=by
      rcases c3.2 with⟨L,F⟩|⟨K,_,_,L,_⟩
      ·exact⟨G,0,by rw[L];simp at F;simp[F]⟩
      exact⟨_,_,L⟩
     have F:V (k.ownsRow (E (D wr)) 3 1 (Z o (U a) r) (U a) (aA (zs a))):=by rw[V];simpa using c3
     have c5:V (wr.grownBy k G):=c4;have i0:E (D wr)<=E (D k):=c4.size;clear c3 c4 e5 e6 e7 g9;have c4:∀i:Obj,(k.alloc i).ownsRow (E (D wr)) 3 1 (Z o (U a) r) (U a) (aA (zs a)):=λi=>Γ F i;clear a6 a5;go_upto_region 20 with fail
     go_upto_region 21 with(at_builtin;refine B6 _ J (.tmp 58) (.tmp 60) 42 J (E (D wr)) 3 c9 _ 1 8 underlying42 e0 e1 e2 e3 J ag (Z o (U a) r) (U a) (aA (zs a)) J (c4 _) (Q (E (D k)) 0 G) 1 1 [Ψ .i64 (b:H)] J J (A3 (κ k _)) (by intro p t;simp at t;subst t;rfl) ag fD A aN (E (D k)+1) ak ?_;intro v w f e6 e5 h2 h3;have h1:V _:=e6;have c3:V ((k.alloc (θ #[Ψ .i64 (b:H)] 3)).grownBy f (Z o (U a) r).ownBlock):=e5;clear e6 e5 h2 h3 c4)
     have e7:∀i:Obj,(f.alloc i).ownsRow (E (D wk)) 42 1 (Z y C z) C a9:=λi=>a1.out f i (c2 k f _ _ F c5 c3);have i1:E (D wk)<=E (D f):=τ S.size (c2 k f _ _ F c5 c3).size;clear a1 c2;go_wp2_with(at_builtin;refine B6 _ J (.tmp 62) (.tmp 64) 358 J (E (D wk)) 42 g0 _ 1 24 underlying358 b0 g1 g2 g3 J ag (Z y C z) C a9 J (e7 _) (Q (E (D f)) 0 G) 1 1 [Z (M (Q v 0 G)) (U a+1) w] J J (A3 (κ f _)) (by intro p t;simp at t;subst t;rfl) ag fD A aN (E (D f)+1) ak ?_;intro X a0 u e9 c2 h4 h5;have a1:V _:=e8.out k f u _ _ _ v w X a0 F c5 h1 c3 e9 c2;clear e9 c2 h4 h5 e7)
     go_roundg (c-(b+1))
     all_goals first
      |omega
      |exact⟨b+1,J,A,aP,a1.1,a1.2⟩
   have s:V (iR b a=gX c a):=by rw[V,show b=c by omega];rfl
   have f:V (Bl wk wx):=R;clear R P a5
   go_wp2
   go_roundg (U out-(d+1))
   all_goals first
    |omega
    |exact⟨d+1,J,A,aP,by rw[V,b5.out,<-s.out];exact m,f⟩
  have s:V (lM c (e+1)=(out.take d).flatMap (gX c)):=by rw[V,a3.out,A0 A]
  have f:V (Bl g wi):=bT b1 P;have a:V (jK wi (E (D g)) (Z y (U ((out.take d).flatMap (gX c))) z) (lM c (e+1))):=by rw[s.out];exact m.low b1.size
  clear P m O a3
  go_wp2
  go_roundg (c-(e+1))
  all_goals first
   |omega
   |exact⟨e+1,J,A,aP,a,f⟩
 have a:e=c:=A;subst a;clear b2 a3
 go_wp2
 go_ret;exact⟨_,J,by rw[<-g7.out];exact O,b1⟩
end Go.Proofs.YthkeffolmbnkaaaGreatDoor

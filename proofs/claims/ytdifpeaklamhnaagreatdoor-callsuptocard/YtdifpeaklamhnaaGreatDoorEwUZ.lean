import Derived.Test.YtdifpeaklamhnaaGreatDoorEwDZ
import Derived.Test.YtdifpeaklamhnaaGreatDoorTyMZ
import Derived.Test.YtdifpeaklamhnaaGreatDoorRef4Z
set_option linter.unusedVariables false
set_option linter.unusedSimpArgs false
set_option maxRecDepth 100000
set_option maxHeartbeats 0
namespace Go.Proofs.YtdifpeaklamhnaaGreatDoor
open Go.RowKit
open Bool (and_eq_true)
def sH(t:Int)(v:au):Prop:=v=bO\/(t=1/\∃n,v=(1,n,[])/\aP n=true)\/(t=2/\∃s,v=(2,0,s)/\s.length<=30)\/(t=3/\∃b,v=aW b)
def DK:List Int->List au->Prop
 | [],[]=>True
 |t::ts,v::vs=>sH t v/\DK ts vs
 |_,_=>False
theorem DK.get:∀ {b:List Int} {vs:List au},DK b vs->∀ {i:Nat} {t:Int},b[i]? =some t->∃v,vs[i]? =some v/\sH t v
 | [],_,_,i,t,h=>by simp at h
 |_::_,[],h,_,_,_=>by cases h
 |a::b,v::vs,h,i,t,hi=>by
  cases i with
  |zero=>simp at hi;subst hi;exact⟨v,rfl,h.1⟩
  |succ i=>simpa using h.2.get (i:=i) (by simpa using hi)
theorem nM(b:Bool):sH 3 (aW b):=.inr (.inr (.inr ⟨rfl,b,rfl⟩))
theorem sH.one{v:au}(h:sH 1 v):v=bO\/∃n,v=(1,n,[])/\aP n=true:=by
 rcases h with h|⟨_,h⟩|⟨e,_⟩|⟨e,_⟩
 ·exact .inl h
 ·exact .inr h
 ·exact absurd e (by decide)
 ·exact absurd e (by decide)
theorem sH.two{v:au}(h:sH 2 v):v=bO\/∃s,v=(2,0,s)/\s.length<=30:=by
 rcases h with h|⟨e,_⟩|⟨_,h⟩|⟨e,_⟩
 ·exact .inl h
 ·exact absurd e (by decide)
 ·exact .inr h
 ·exact absurd e (by decide)
theorem sH.three{v:au}(h:sH 3 v):v=bO\/∃b,v=aW b:=by
 rcases h with h|⟨e,_⟩|⟨e,_⟩|⟨_,h⟩
 ·exact .inl h
 ·exact absurd e (by decide)
 ·exact absurd e (by decide)
 ·exact .inr h
theorem sH.bd{t:Int}{v:au}(h:sH t v):QE v=true/\v.2.2.length<=30/\aP v.2.1=true:=by
 rcases h with rfl|⟨_,n,rfl,h⟩|⟨_,s,rfl,h⟩|⟨_,b,rfl⟩
 ·exact⟨by decide,by decide,by decide⟩
 ·refine⟨?_,by simp,h⟩;simp only[aP,and_eq_true,decide_eq_true_eq]at h;simp[QE];omega
 ·exact⟨by simp[QE];omega,h,show aP 0=true by decide⟩
 ·cases b<;>exact⟨by decide,by decide,by decide⟩
def DV(t s:Int)(ns:List Bs)(r:Rs):Prop:=sH t r.1/\(r.2.1≠0->r.1=bO)/\(r.2.2.length:Int)<=ns.length+s
def DT(f:Ev)(e:Ex):Prop:=0<=e.size/\∀ns:List Bs,(ns.length:Int)+e.size<=1000000->∃r,f e ns=some r/\DV e.ty e.size ns r
theorem DJ{f:Ev} :∀(b:List Ex),(∀e∈b,DT f e)->∀ns:List Bs,(ns.length:Int)+aH b<=1000000->0<=aH b/\∃cs k n,fE f b ns=some (cs,k,n)/\(k=0->DK (b.map Ex.ty) cs)/\(n.length:Int)<=ns.length+aH b
 | [],_,ns,_=>⟨by simp[aH],[],0,ns,rfl,λ_=>trivial,by simp[aH]⟩
 |e::b,h,ns,hs=>by
  have v:=(h e (by simp)).1;have i:∀(l:List Ex),(∀e∈l,DT f e)->0<=aH l:=by
   intro l
   induction l with
   |nil=>intro _;simp[aH]
   |cons a l ih=>intro o;have:=(o a (by simp)).1;have:=ih λe g=>o e (by simp[g]);simp only[aH];omega
  have w:=i b λe g=>h e (by simp[g]);simp only[aH]at hs ⊢;obtain⟨⟨c,k,n⟩,j,g1,s,t⟩:=(h e (by simp)).2 ns (by omega);simp only at g1 s t;refine⟨by omega, ?_⟩;by_cases m:k=0
  ·subst m;obtain⟨_,cs,q,r,p,u,o⟩:=DJ b (λe g=>h e (by simp[g])) n (by omega);by_cases d:q=0
   ·subst d;exact⟨c::cs,0,r,by rw[fE,j];simp[p],λ_=>⟨g1,u rfl⟩,by omega⟩
   ·exact⟨[],q,r,by rw[fE,j];simp[p,d],λe=>absurd e d,by omega⟩
  ·exact⟨[],k,n,by rw[fE,j];simp[m],λe=>absurd e m,by omega⟩
theorem Qg{f:Ev}{stop:au} :∀(d:List Ex) (b:au),(∀e∈d,DT f e/\e.ty=3)->sH 3 b->∀ns:List Bs,(ns.length:Int)+aH d<=1000000->0<=aH d/\∃r,rR f stop b d ns=some r/\DV 3 (aH d) ns r
 | [],b,_,i,ns,_=>⟨by simp[aH],_,rfl,i,λh=>absurd rfl h,by simp[aH]⟩
 |e::d,b,h,i,ns,hs=>by
  have x:=(h e (by simp)).1.1;have j:∀(l:List Ex),(∀e∈l,DT f e/\e.ty=3)->0<=aH l:=by
   intro l
   induction l with
   |nil=>intro _;simp[aH]
   |cons a l ih=>intro i;have:=(i a (by simp)).1.1;have:=ih λe g=>i e (by simp[g]);simp only[aH];omega
  have y:=j d λe g=>h e (by simp[g]);simp only[aH]at hs ⊢;obtain⟨⟨c,k,n⟩,u,g1,m,p⟩:=(h e (by simp)).1.2 ns (by omega);simp only[(h e (by simp)).2]at g1 m p;refine⟨by omega, ?_⟩;rw[rR,u];simp only;by_cases o:k≠0\/c=stop
  ·rw[if_pos o];exact⟨_,rfl,g1,m,by simp only;omega⟩
  ·rw[if_neg o];have t:sH 3 (if c.1=0 then c else b):=by split<;>assumption
   obtain⟨_,r,v,q,s,w⟩:=Qg d _ (λe g=>h e (by simp[g])) t n (by omega);exact⟨r,v,q,s,by omega⟩
theorem CX{a:Int}{cs:List au}(h:DK [a] cs):∃x,cs= [x]/\sH a x:=by
 cases cs with
 |nil=>exact absurd h id
 |cons x cs=>cases cs with
  |nil=>exact⟨x,rfl,h.1⟩
  |cons y cs=>exact absurd h.2 id
theorem Rt{a b:Int}{cs:List au}(h:DK [a,b] cs):∃x y,cs= [x,y]/\sH a x/\sH b y:=by
 cases cs with
 |nil=>exact absurd h id
 |cons x cs=>
  obtain⟨y,rfl,c⟩:=CX h.2;exact⟨x,y,rfl,h.1,c⟩
theorem QK(h:Bs)(a b:Int):sH 1 (jC h a b).1/\((jC h a b).2≠0->(jC h a b).1=bO):=by
 unfold jC;split
 ·exact⟨.inl rfl,λ_=>rfl⟩
 ·split
  ·next h=>exact⟨.inr (.inl ⟨rfl,_,rfl,h⟩),λe=>absurd rfl e⟩
  ·exact⟨.inl rfl,λ_=>rfl⟩
theorem NZ(h:Bs)(n:Int):∃b,vB h n=aW b:=by
 unfold vB;split
 ·exact⟨_,rfl⟩
 ·split<;>exact⟨_,rfl⟩
theorem oz:∀ {b:List Int} {cs:List au},DK b cs->jU cs=true
 | [],[],_=>rfl
 | [],_::_,h=>by cases h
 |_::_,[],h=>by cases h
 |t::b,c::cs,h=>by
  have d:=h.1.bd.2.1;have a:jU cs=true:=oz h.2;simp only[jU,List.all_cons,and_eq_true,decide_eq_true_eq]at a ⊢;exact⟨by omega,a⟩
theorem NB{h:Bs}{q:List Int}{cs:List au}(s:h≠hAnd)(u:h≠hOr)(w:h≠yQ)(z:h≠oL)(c:bK h q≠0)(f:DK q cs):∃v k,qm h cs=some (v,k)/\sH (bK h q) v/\(k≠0->v=bO):=by
 unfold bK at c ⊢;by_cases g:h= [43]\/h= [45]\/h= [42]\/h= [47]
 ·rw[if_pos g]at c ⊢;unfold ig at c ⊢;split at c
  ·next e=>
   subst e;rw[if_pos rfl];obtain⟨a,b,rfl,d,hb⟩:=Rt f;have j:h≠xJ:=by rcases g with rfl|rfl|rfl|rfl<;>decide
   have l:EU h=false:=by rcases g with rfl|rfl|rfl|rfl<;>decide
   have r:LP h=true:=by rcases g with rfl|rfl|rfl|rfl<;>decide
   rw[qm,if_neg j];simp only[Hz,l,r,d.bd.2.2,hb.bd.2.2,Bool.and_self,if_true,if_false,Bool.false_eq_true];split
   ·exact⟨_,_,rfl,.inl rfl,λ_=>rfl⟩
   ·have:=QK h a.2.1 b.2.1;exact⟨_,_,rfl,this⟩
  ·exact absurd rfl c
 ·rw[if_neg g]at c ⊢;by_cases i:h= [61]\/h= [60]\/h= [60,61]
  ·rw[if_pos i]at c ⊢;have j:h≠xJ:=by rcases i with rfl|rfl|rfl<;>decide
   have l:EU h=true:=by rcases i with rfl|rfl|rfl<;>decide
   unfold nU at c ⊢;split at c
   ·next x y=>
    split at c
    ·next e=>
     simp only[if_pos e];obtain⟨a,b,rfl,d,hb⟩:=Rt f;rw[qm,if_neg j];simp only[Hz,l,if_true];obtain⟨t,c⟩:=NZ h (uj a b);refine⟨_,_,rfl, ?_,λe=>absurd rfl e⟩;split
     ·exact .inl rfl
     ·rw[c];exact nM t
    ·exact absurd rfl c
   ·exact absurd rfl c
  ·rw[if_neg i]at c ⊢;rw[if_neg λe=>e.elim s u]at c ⊢;by_cases m:h= [110,111,116]
   ·rw[if_pos m]at c ⊢;unfold ig at c ⊢;split at c
    ·next e=>
     subst e m;rw[if_pos rfl];obtain⟨a,rfl,d⟩:=CX f;refine⟨if a.1=0 then bO else xN a,0,rfl, ?_,λe=>absurd rfl e⟩;split
     ·exact .inl rfl
     ·exact nM _
    ·exact absurd rfl c
   ·rw[if_neg m]at c ⊢;by_cases n:h= [105,115,110,117,108,108]
    ·rw[if_pos n]at c ⊢;unfold FM at c ⊢;split at c
     ·next x=>
      subst n;obtain⟨a,rfl,d⟩:=CX f;exact⟨aW (a.1==0),0,rfl,nM _,λe=>absurd rfl e⟩
     ·exact absurd rfl c
    ·rw[if_neg n,if_neg (show¬h= [105,102]from w)]at c ⊢;by_cases o:h= [108,101,110]
     ·rw[if_pos o]at c ⊢;unfold ig at c ⊢;split at c
      ·next e=>
       subst e o;rw[if_pos rfl];obtain⟨a,rfl,d⟩:=CX f;refine⟨if a.1=0 then bO else(1,(a.2.2.length:Int),[]),0,rfl, ?_,λe=>absurd rfl e⟩;split
       ·exact .inl rfl
       ·have:=d.bd.2.1;exact .inr (.inl ⟨rfl,_,rfl,by simp only[aP,and_eq_true,decide_eq_true_eq];omega⟩)
      ·exact absurd rfl c
     ·rw[if_neg o]at c ⊢;by_cases p:h= [99,97,116]
      ·rw[if_pos p]at c ⊢;unfold kF at c ⊢;split at c
       ·next e=>
        subst p;rw[if_pos e];unfold qm;rw[if_pos (show [99,97,116]=xJ from rfl),if_pos (oz f)];by_cases d:bu cs=true
        ·rw[if_pos d];exact⟨_,_,rfl,.inl rfl,λ_=>rfl⟩
        ·rw[if_neg d];unfold sO;split
         ·exact⟨_,_,rfl,.inl rfl,λ_=>rfl⟩
         ·next A=>exact⟨_,_,rfl,.inr (.inr (.inl ⟨rfl,_,rfl,by omega⟩)),λe=>absurd rfl e⟩
       ·exact absurd rfl c
      ·rw[if_neg p,if_neg (show¬h= [110,111,116,101]from z)]at c;exact absurd rfl c
theorem rD{b:List Int}{a:List Ex}(h:a.map Ex.ty=b)(n:Int)(c:b.all (· ==n)=true):∀e∈a,e.ty=n:=λe d=>by
 have:=List.all_eq_true.mp c e.ty (by rw[<-h];exact List.mem_map_of_mem d);simpa using this
theorem ou{ts:List Int}{n:Int}(h:kF n ts≠0):ts.all (· ==n)=true/\kF n ts=n:=by
 unfold kF at h ⊢;split at h
 ·next e=>exact⟨e.2,if_pos e⟩
 ·exact absurd rfl h
theorem QT{f:Ev}{h:Bs}{g:List Ex}(m:∀e∈g,DT f e)(i:bK h (g.map Ex.ty)≠0)(ns:List Bs)(K:(ns.length:Int)+(1+aH g)<=1000000):∃r,lD f h g ns=some r/\DV (bK h (g.map Ex.ty)) (1+aH g) ns r:=by
 by_cases D:h=hAnd
 ·subst D;have e:bK hAnd (g.map Ex.ty)=kF 3 (g.map Ex.ty):=rfl;rw[e]at i ⊢;obtain⟨q,x⟩:=ou i;rw[x,lD,if_pos rfl];obtain⟨_,r,p,g1,o,y⟩:=Qg (f:=f) (stop:=aW false) g (aW true) (λe j=>⟨m e j,rD rfl 3 q e j⟩) (nM true) ns (by omega);exact⟨r,p,g1,o,by omega⟩
 by_cases E:h=hOr
 ·subst E;have e:bK hOr (g.map Ex.ty)=kF 3 (g.map Ex.ty):=rfl;rw[e]at i ⊢;obtain⟨q,x⟩:=ou i;rw[x,lD,if_neg (by decide),if_pos rfl];obtain⟨_,r,p,g1,o,y⟩:=Qg (f:=f) (stop:=aW true) g (aW false) (λe j=>⟨m e j,rD rfl 3 q e j⟩) (nM false) ns (by omega);exact⟨r,p,g1,o,by omega⟩
 by_cases F:h=yQ
 ·subst F;have e:bK yQ (g.map Ex.ty)=JS (g.map Ex.ty):=rfl;rw[e]at i ⊢;obtain⟨a,b,c,rfl⟩:∃a b c,g= [a,b,c]:=by
   rcases g with _|⟨a,_|⟨b,_|⟨c,_|⟨d,l⟩⟩⟩⟩
   ·exact absurd rfl i
   ·exact absurd rfl i
   ·exact absurd rfl i
   ·exact⟨a,b,c,rfl⟩
   ·exact absurd rfl i
  simp only[List.map,JS]at i ⊢;split at i
  ·next e=>
   rw[if_pos e];have O:=(m a (by simp)).1;have P:=(m b (by simp)).1;have Q:=(m c (by simp)).1;simp only[aH]at K ⊢;obtain⟨⟨v,k,n⟩,J,g1,o,y⟩:=(m a (by simp)).2 ns (by omega);simp only at g1 o y;rw[lD,if_neg (by decide),if_neg (by decide),if_pos rfl,TS,J];simp only;by_cases s:k=0
   ·subst s;simp only[ne_eq,not_true_eq_false,if_false];split
    ·obtain⟨r,p,z,A,I⟩:=(m b (by simp)).2 n (by omega);exact⟨r,p,z,A,by omega⟩
    ·obtain⟨r,p,z,A,I⟩:=(m c (by simp)).2 n (by omega);rw[e.2];exact⟨r,p,z,A,by omega⟩
   ·rw[if_pos s];exact⟨_,rfl,.inl rfl,λ_=>rfl,by simp only;omega⟩
  ·exact absurd rfl i
 obtain⟨M,cs,k,n,L,u,N⟩:=DJ g m ns (by omega);rw[lD,if_neg D,if_neg E,if_neg F,L];simp only;by_cases s:k=0
 ·subst s;simp only[ne_eq,not_true_eq_false,if_false];have u:=u rfl;by_cases G:h=oL
  ·subst G;have e:bK oL (g.map Ex.ty)=zl (g.map Ex.ty):=rfl;rw[e]at i ⊢;rw[if_pos rfl];obtain⟨t,B⟩:∃t,g.map Ex.ty= [t]:=by
    unfold zl at i;split at i
    ·next t C=>exact⟨t,C⟩
    ·exact absurd rfl i
   rw[B]at u ⊢;obtain⟨c,rfl,H⟩:=CX u;rw[zk,if_pos (by simp only[H.bd.1,Bool.true_and,decide_eq_true_eq];omega)];exact⟨_,rfl,H,λe=>absurd rfl e,by simp only[List.length_append,List.length_singleton];omega⟩
  ·rw[if_neg G];obtain⟨v,k,q,g1,o⟩:=NB D E F G i u;rw[q];exact⟨_,rfl,g1,o,by simp only;omega⟩
 ·rw[if_pos s];exact⟨_,rfl,.inl rfl,λ_=>rfl,by simp only;omega⟩
theorem EI:∀(l:Bs) (n:Nat),bN l n=true->∃m:Nat,Lib.decFrom n l=some m/\(m:Int)=jI l n
 | [],n,_=>⟨n,rfl,rfl⟩
 |c::r,n,h=>by
  rw[bN]at h;simp only[and_eq_true,decide_eq_true_eq,bP]at h;obtain⟨⟨⟨g,i⟩,j⟩,a⟩:=h;have b:Lib.digitVal c=some (c.toNat- 48):=by unfold Lib.digitVal;rw[if_pos (by omega)]
  have e:((n:Int)*10+((c.toNat:Int)- 48))=((n*10+(c.toNat- 48):Nat):Int):=by omega
  rw[e]at a;obtain⟨m,d,f⟩:=EI r _ a;exact⟨m,by rw[Lib.decFrom,b];exact d,by rw[jI,e];exact f⟩
theorem Kb{l:Bs}(h:dQ l=true):bi l=oP l/\aP (bi l)=true:=by
 have j:=h;simp only[dQ,Bool.or_eq_true,beq_iff_eq,and_eq_true,decide_eq_true_eq]at h;rcases h with rfl|⟨⟨h1,h2⟩,h3⟩
 ·exact⟨by decide,by decide⟩
 ·obtain⟨m,k,f⟩:=EI (aU l) 0 h3;have hb:=QQ (aU l) 0 (by omega) (by omega) h3;have c:Lib.decNat (aU l)=some m:=by
   unfold Lib.decNat;rw[if_neg (by intro e;rw[List.isEmpty_iff_length_eq_zero]at e;omega)];exact k
  match l with
  | []=>simp[aU]at h1
  |b::r=>
   by_cases a:b=45
   ·subst a;have e:aU (45::r)=r:=by simp[aU]
    rw[e]at c hb f;have i:bi (45::r)= -(m:Int):=by
     rw[bi,Lib.atoi,if_pos (by decide),c];rfl
    rw[i];have d:(m:Int)=jI r 0:=f;refine⟨by rw[oP,j,if_pos rfl,if_pos (by simp)];simp only[List.drop_one,List.tail_cons];rw[d], ?_⟩;simp only[aP,and_eq_true,decide_eq_true_eq];omega
   ·have e:aU (b::r)=b::r:=by simp[aU,a]
    rw[e]at c hb f h3;have g:(b==43)=false:=by
     rw[bN]at h3;simp only[and_eq_true,decide_eq_true_eq,bP]at h3;have:=h3.1.1.1;rw[beq_eq_false_iff_ne];intro e;subst e;simp at this
    have i:bi (b::r)=(m:Int):=by
     rw[bi,Lib.atoi,if_neg (by simpa using a),if_neg (by rw[g];exact Bool.false_ne_true),c];rfl
    rw[i];have d:(m:Int)=jI (b::r) 0:=f;refine⟨by rw[oP,j,if_pos rfl,if_neg (by simpa using a),d], ?_⟩;simp only[aP,and_eq_true,decide_eq_true_eq];omega
def UC(k:Int)(tx:Bs):Prop:=k=aQ tx
def Ty(fns:List Fn)(ps:Sc)(e:Ex):Prop:=∃t,Fit UC t/\aY bi ps fns t=.ok e
def rT(fns:List Fn):Prop:=∀(i:Nat) (fn:Fn),fns[i]? =some fn->Ty (fns.take i) ([],fn.args) fn.body/\0<=fn.body.size/\fn.body.size<=300
theorem zV{ps:Sc}{fns:List Fn} :∀ {f:List Tr} {c:List Ex},bW bi ps fns f=.ok c->Fits UC f->∀e∈c,Ty fns ps e
 | [],c,h,_,e,he=>by rw[bW]at h;cases h;simp at he
 |t::f,c,h,g,e,he=>by
  cases g with
  |cons a b=>
   rw[bW]at h;split at h
   ·cases h
   ·next x i=>
    split at h
    ·cases h
    ·next j d=>
     cases h;rcases List.mem_cons.mp he with rfl|he
     ·exact⟨t,a,i⟩
     ·exact zV d b e he
theorem Qd{fns:List Fn}{ps:Sc}{e:Ex}(h:Ty fns ps e):(∃k n s,e=fQ k n s/\sH k (k,n,s))\/e=tX\/(∃(ty:Int) (p:Nat),e=wV ty p/\ps.2[p]? =some ty)\/(∃(c:Bs × Int) (p:Nat),e=wK c.2 p/\ps.1[p]? =some c)\/
  (∃h a q,(∀e∈a,Ty fns ps e)/\bK h (a.map Ex.ty)≠0/\e=.mk 4 (bK h (a.map Ex.ty)) (1+aH a) q 0 0 [] 0 h none a)\/
  (∃h a q i fn,(∀e∈a,Ty fns ps e)/\fns[i]? =some fn/\a.map Ex.ty=fn.args/\e=.mk 5 fn.body.ty (1+aH a+fn.body.size) q 0 0 [] 0 h (some i) a):=by
 obtain⟨t,b,h⟩:=h
 cases b with
 | @mk k tx o ops hp hf=>
  rw[aY]at h
  cases o with
  |true=>
   rw[if_pos rfl]at h;unfold uY at h;split at h
   ·cases h
   ·next a d=>
    have m:=zV d hf;unfold pQ at h;split at h
    ·split at h
     ·cases h
     ·next g=>cases h;exact .inr (.inr (.inr (.inr (.inl ⟨tx,a,_,m,g,rfl⟩))))
    ·unfold og at h;split at h
     ·cases h
     ·next i x=>
      split at h
      ·cases h
      ·next fn f=>
       split at h
       ·next v=>cases h;exact .inr (.inr (.inr (.inr (.inr ⟨tx,a,_,i,fn,m,f,v,rfl⟩))))
       ·cases h
  |false=>
   rw[if_neg Bool.false_ne_true]at h;have b:k=aQ tx:=hp rfl;by_cases j:k=6
   ·rw[if_pos j]at h;unfold uk at h;split at h
    ·cases h
    ·next i x=>
     split at h
     ·cases h
     ·next c w=>cases h;exact .inr (.inr (.inr (.inl ⟨c,i,rfl,w⟩)))
   ·rw[if_neg j]at h;by_cases l:k=7
    ·rw[if_pos l]at h;unfold xO at h;split at h
     ·cases h
     ·next t g=>cases h;exact .inr (.inr (.inl ⟨t,_,rfl,g⟩))
    ·rw[if_neg l]at h
     cases h;unfold dx;split
     ·next r=>exact .inl ⟨_,_,_,rfl,.inr (.inl ⟨rfl,_,rfl,(Kb (Ff (b.symm.trans r))).2⟩)⟩
     ·split
      ·next u=>
       have:=yV (b.symm.trans u);simp only[cz,and_eq_true,decide_eq_true_eq]at this;have y:=this.1.1.1.2;exact .inl ⟨_,_,_,rfl,.inr (.inr (.inl ⟨rfl,_,rfl,by simp only[List.length_take,List.length_drop];omega⟩))⟩
      ·split
       ·exact .inr (.inl rfl)
       ·exact .inl ⟨_,_,_,rfl,nM _⟩
theorem Kq{es:List Ex}(h:∀e∈es,1<=e.size):(es.length:Int)<=aH es/\∀e∈es,e.size<=aH es:=by
 induction es with
 |nil=>exact⟨by simp[aH],λe b=>by simp at b⟩
 |cons a es ih=>
  obtain⟨d,c⟩:=ih λe b=>h e (by simp[b]);have f:=h a (by simp);simp only[aH,List.length_cons];refine⟨by omega,λe b=> ?_⟩;rcases List.mem_cons.mp b with rfl|b
  ·omega
  ·have:=c e b;omega
theorem Sa{fns:List Fn}{ps:Sc}(n:∀fn∈fns,0<=fn.body.size):∀(N:Nat) (t:Tr),SizeOf.sizeOf t<=N->∀e,aY bi ps fns t=.ok e->1<=e.size:=by
 intro N
 induction N with
 |zero=>intro t i;obtain⟨k,q,m,c⟩:=t;simp at i
 |succ N ih=>
  intro t i e h;obtain⟨k,q,m,c⟩:=t;have b:∀(d:List Tr),SizeOf.sizeOf d<=N->∀a,bW bi ps fns d=.ok a->0<=aH a:=by
   intro d
   induction d with
   |nil=>intro _ a h;rw[bW]at h;cases h;simp[aH]
   |cons t d l=>
    intro o a h;rw[bW]at h;split at h
    ·cases h
    ·next x p=>
     split at h
     ·cases h
     ·next r j=>
      cases h;simp at o;have u:=ih t (by omega) x p;have v:=l (by omega) r j;simp only[aH];omega
  rw[aY]at h
  cases m with
  |true=>
   rw[if_pos rfl]at h;unfold uY at h;split at h
   ·cases h
   ·next a f=>
    have s:=b c (by simp at i;omega) a f;unfold pQ at h;split at h
    ·split at h
     ·cases h
     ·cases h;simp only[Ex.size];omega
    ·unfold og at h;split at h
     ·cases h
     ·split at h
      ·cases h
      ·next fn g=>
       split at h
       ·cases h;have:=n fn (List.mem_of_getElem? g);show 1<=1+aH a+fn.body.size;omega
       ·cases h
  |false=>
   rw[if_neg Bool.false_ne_true]at h;split at h
   ·unfold uk at h;split at h
    ·cases h
    ·split at h
     ·cases h
     ·cases h;simp[wK,Ex.size]
   ·split at h
    ·unfold xO at h;split at h
     ·cases h
     ·cases h;simp[wV,Ex.size]
    ·cases h;unfold dx;split
     ·simp[fQ,Ex.size]
     ·split
      ·simp[fQ,Ex.size]
      ·split<;>simp[fQ,tX,Ex.size]
theorem Ty.pos{fns:List Fn}{ps:Sc}{e:Ex}(h:Ty fns ps e)(a:∀fn∈fns,0<=fn.body.size):1<=e.size:=by
 obtain⟨t,_,h⟩:=h;exact Sa a _ t (Nat.le_refl _) e h
theorem uE{a:List Int}{vs:List au}(h:DK a vs){p:Nat}{t:Int}(d:a[p]? =some t):∃v,qO vs (p:Int)=some v/\sH t v:=by
 obtain⟨v,b,c⟩:=h.get d;exact⟨v,by rw[qO,if_pos (by omega)];simpa using b,c⟩
theorem Vp(fns:List Fn)(d:Bs)(O:d.length<=30)(hF:rT fns):∀(N j:Nat) (ps:Sc) (ay args:List au) (e:Ex),Ty (fns.take j) ps e->e.size<=N->e.size<=300->DK (ps.1.map Prod.snd) ay->DK ps.2 args->DT (nz fns d N ay args) e:=by
 have f:∀j,∀fn∈fns.take j,0<=fn.body.size:=λj fn h=>by
  obtain⟨i,L,b⟩:=List.mem_iff_getElem.mp (List.mem_of_mem_take h);exact(hF i fn (by rw[List.getElem?_eq_getElem L,b])).2.1
 intro N
 induction N with
 |zero=>intro j ps ay args e h E;have:=h.pos (f j);omega
 |succ N ih=>
  intro j ps ay args e h E G B z;have R:=h.pos (f j);refine⟨by omega,λns C=> ?_⟩;have a:∀(t:Int) (v:au),sH t v->DV t e.size ns (v,0,ns):=λt v h=>⟨h,λe=>absurd rfl e,by simp only;omega⟩;rcases Qd h with⟨k,n,s,rfl,o⟩|rfl|⟨ty,p,rfl,w⟩|⟨c,p,rfl,w⟩|⟨h,l,q,m,M,rfl⟩|⟨h,l,q,i,fn,m,u,F,rfl⟩
  ·exact⟨((k,n,s),0,ns),by simp[fQ,nz],a _ _ o⟩
  ·exact⟨((2,0,d),0,ns),by simp[tX,nz],a _ _ (.inr (.inr (.inl ⟨rfl,_,rfl,O⟩)))⟩
  ·obtain⟨v,y,o⟩:=uE z w;exact⟨(v,0,ns),by simp[wV,nz,y,qP],a _ _ o⟩
  ·obtain⟨v,y,o⟩:=uE B (p:=p) (t:=c.2) (by rw[List.getElem?_map,w];rfl);exact⟨(v,0,ns),by simp[wK,nz,y,qP],a _ _ o⟩
  ·simp only[Ex.size]at E G C ⊢;obtain⟨s1,s2⟩:=Kq (es:=l) λe b=>(m e b).pos (f j);have b:∀e∈l,DT (nz fns d N ay args) e:=λe b=>ih j ps ay args e (m e b) (by have:=s2 e b;omega) (by have:=s2 e b;omega) B z;obtain⟨r,D,g⟩:=QT b M ns C;exact⟨r,by rw[nz,if_neg (by omega),if_neg (by decide),if_neg (by decide),if_neg (by decide),if_pos rfl];exact D,g⟩
  ·change 1+aH l+fn.body.size<=_ at E;change 1+aH l+fn.body.size<=_ at G;change (ns.length:Int)+(1+aH l+fn.body.size)<=_ at C;show∃r,_/\DV fn.body.ty (1+aH l+fn.body.size) ns r;have x:fns[i]? =some fn:=by
    rw[List.getElem?_take]at u;split at u
    ·exact u
    ·cases u
   obtain⟨A,J,K⟩:=hF i fn x;obtain⟨s1,s2⟩:=Kq (es:=l) λe b=>(m e b).pos (f j);have b:∀e∈l,DT (nz fns d N ay args) e:=λe b=>ih j ps ay args e (m e b) (by have:=s2 e b;omega) (by have:=s2 e b;omega) B z;obtain⟨_,cs,k,n,y,o,Q⟩:=DJ l b ns (by omega);rw[nz,if_neg (by omega),if_neg (by decide),if_neg (by decide),if_neg (by decide),if_neg (by decide),if_pos rfl,Eu,x];simp only[y];by_cases H:k=0
   ·subst H;have o:=o rfl;rw[F]at o;obtain⟨r,D,g1,I,P⟩:=(ih i ([],fn.args) [] cs fn.body A (by omega) (by omega) trivial o).2 n (by omega);exact⟨r,by simpa using D,g1,I,by omega⟩
   ·exact⟨(bO,k,n),by simp[H],.inl rfl,λ_=>rfl,by simp only;omega⟩
theorem Nc{f:Ev}{a b:au}{e:Ex}{g:List Ex}{ns:List Bs}{r:Rs}(h:rR f a b (e::g) ns=some r):∃c k n,f e ns=some (c,k,n)/\(k≠0\/c=a->r=(c,k,n))/\(k=0->c≠a->rR f a (if c.1=0 then c else b) g n=some r):=by
 rw[rR]at h;split at h
 ·cases h
 ·next c k n j=>
  refine⟨c,k,n,j,λd=> ?_,λd i=> ?_⟩
  ·rw[if_pos d]at h;exact(Option.some.inj h).symm
  ·rw[if_neg λe=>e.elim (λe=>e d) i]at h;exact h
def VA(t:Int)(r:Rs):Prop:=sH t r.1/\(r.2.1≠0->r.1=bO)
def BU(f:Ev)(e:Ex):Prop:=∀(ns:List Bs) (r:Rs),f e ns=some r->VA e.ty r
theorem zY{f:Ev} :∀(a:List Ex),(∀e∈a,BU f e)->∀(ns:List Bs) (cs:List au) (k:Int) (n:List Bs),fE f a ns=some (cs,k,n)->k=0->DK (a.map Ex.ty) cs
 | [],_,ns,cs,k,n,h,_=>by rw[fE]at h;cases h;trivial
 |e::a,he,ns,cs,k,n,h,hk=>by
  rw[fE]at h;split at h
  ·cases h
  next c q p l=>
  split at h
  ·next j=>cases h;exact absurd hk j
  split at h
  ·cases h
  next b o r m=>
  split at h
  ·next d=>cases h;exact absurd hk d
  next d=>
  cases h;exact⟨(he e (by simp) ns _ l).1,zY a (λg i=>he g (by simp[i])) p b o _ m (by omega)⟩
theorem Ut{f:Ev}{b:au} :∀(d:List Ex) (a:au),(∀e∈d,BU f e/\e.ty=3)->sH 3 a->∀(ns:List Bs) (r:Rs),rR f b a d ns=some r->VA 3 r
 | [],a,_,hl,ns,r,h=>by rw[rR]at h;cases h;exact⟨hl,λe=>absurd rfl e⟩
 |e::d,a,he,hl,ns,r,h=>by
  obtain⟨c,k,n,q,o,p⟩:=Nc h;have g:=(he e (by simp)).1 ns _ q;rw[(he e (by simp)).2]at g;by_cases i:k≠0\/c=b
  ·rw[o i];exact g
  ·have j:k=0:=by
    rcases Decidable.em (k=0)with h|h
    ·exact h
    ·exact absurd (.inl h) i
   refine Ut d _ (λl m=>he l (by simp[m])) ?_ n r (p j λe=>i (.inr e));split
   ·exact g.1
   ·exact hl
theorem TR{f:Ev}{h:Bs}{i:List Ex}(p:∀e∈i,BU f e)(j:bK h (i.map Ex.ty)≠0)(ns:List Bs)(r:Rs)(g:lD f h i ns=some r):VA (bK h (i.map Ex.ty)) r:=by
 by_cases x:h=hAnd
 ·subst x;have e:bK hAnd (i.map Ex.ty)=kF 3 (i.map Ex.ty):=rfl;rw[e]at j ⊢;obtain⟨o,q⟩:=ou j;rw[lD,if_pos rfl]at g;rw[q];exact Ut i _ (λe m=>⟨p e m,rD rfl 3 o e m⟩) (nM true) ns r g
 by_cases y:h=hOr
 ·subst y;have e:bK hOr (i.map Ex.ty)=kF 3 (i.map Ex.ty):=rfl;rw[e]at j ⊢;obtain⟨o,q⟩:=ou j;rw[lD,if_neg (by decide),if_pos rfl]at g;rw[q];exact Ut i _ (λe m=>⟨p e m,rD rfl 3 o e m⟩) (nM false) ns r g
 by_cases z:h=yQ
 ·subst z;have e:bK yQ (i.map Ex.ty)=JS (i.map Ex.ty):=rfl;rw[e]at j ⊢;obtain⟨a,b,c,rfl⟩:∃a b c,i= [a,b,c]:=by
   rcases i with _|⟨a,_|⟨b,_|⟨c,_|⟨d,l⟩⟩⟩⟩
   ·exact absurd rfl j
   ·exact absurd rfl j
   ·exact absurd rfl j
   ·exact⟨a,b,c,rfl⟩
   ·exact absurd rfl j
  simp only[List.map,JS]at j ⊢;split at j
  ·next e=>
   rw[if_pos e];rw[lD,if_neg (by decide),if_neg (by decide),if_pos rfl,TS]at g;split at g
   ·cases g
   next v k n E=>
   split at g
   ·cases g;exact⟨.inl rfl,λ_=>rfl⟩
   split at g
   ·exact p b (by simp) n r g
   ·rw[e.2];exact p c (by simp) n r g
  ·exact absurd rfl j
 rw[lD,if_neg x,if_neg y,if_neg z]at g;split at g
 ·cases g
 next cs k n D=>
 split at g
 ·cases g;exact⟨.inl rfl,λ_=>rfl⟩
 next F=>
 have u:=zY i p ns cs k n D (by omega);split at g
 ·next A=>
  subst A;have e:bK oL (i.map Ex.ty)=zl (i.map Ex.ty):=rfl;rw[e]at j ⊢;obtain⟨t,s⟩:∃t,i.map Ex.ty= [t]:=by
   unfold zl at j;split at j
   ·next t w=>exact⟨t,w⟩
   ·exact absurd rfl j
  rw[s]at u ⊢;obtain⟨c,rfl,C⟩:=CX u;rw[zk]at g;split at g
  ·cases g;exact⟨C,λe=>absurd rfl e⟩
  ·cases g
 ·next A=>
  obtain⟨v,G,o,g1,B⟩:=NB x y z A j u;rw[o]at g
  cases g;exact⟨g1,B⟩
theorem Vq(fns:List Fn)(b:Bs)(B:b.length<=30)(hF:rT fns):∀(N j:Nat) (ps:Sc) (ay args:List au) (e:Ex),Ty (fns.take j) ps e->DK (ps.1.map Prod.snd) ay->DK ps.2 args->BU (nz fns b N ay args) e:=by
 intro N
 induction N with
 |zero=>intro j ps ay args e h w u ns r a;cases a
 |succ N ih=>
  intro j ps ay args e h w u ns r a;rcases Qd h with⟨k,n,s,rfl,f⟩|rfl|⟨ty,p,rfl,l⟩|⟨c,p,rfl,l⟩|⟨h,z,q,g,A,rfl⟩|⟨h,z,q,i,fn,g,d,y,rfl⟩
  ·have:r=((k,n,s),0,ns):=by simpa[fQ,nz]using a.symm
   subst this;exact⟨f,λe=>absurd rfl e⟩
  ·have:r=((2,0,b),0,ns):=by simpa[tX,nz]using a.symm
   subst this;exact⟨.inr (.inr (.inl ⟨rfl,_,rfl,B⟩)),λe=>absurd rfl e⟩
  ·obtain⟨v,o,f⟩:=uE u l;have:r=(v,0,ns):=by simpa[wV,nz,o,qP]using a.symm
   subst this;exact⟨f,λe=>absurd rfl e⟩
  ·obtain⟨v,o,f⟩:=uE w (p:=p) (t:=c.2) (by rw[List.getElem?_map,l];rfl);have:r=(v,0,ns):=by simpa[wK,nz,o,qP]using a.symm
   subst this;exact⟨f,λe=>absurd rfl e⟩
  ·rw[nz]at a;split at a
   ·cases a
   rw[if_neg (by decide),if_neg (by decide),if_neg (by decide),if_pos rfl]at a;exact TR (λe x=>ih j ps ay args e (g e x) w u) A ns r a
  ·have m:fns[i]? =some fn:=by
    rw[List.getElem?_take]at d;split at d
    ·exact d
    ·cases d
   rw[nz]at a;split at a
   ·cases a
   rw[if_neg (by decide),if_neg (by decide),if_neg (by decide),if_neg (by decide),if_pos rfl,Eu,m]at a;simp only at a;split at a
   ·cases a
   next cs k n o=>
   split at a
   ·cases a;exact⟨.inl rfl,λ_=>rfl⟩
   next C=>
   have f:=zY z (λe x=>ih j ps ay args e (g e x) w u) ns cs k n o (by omega);rw[y]at f;exact ih i ([],fn.args) [] cs fn.body (hF i fn m).1 trivial f n r a
end Go.Proofs.YtdifpeaklamhnaaGreatDoor

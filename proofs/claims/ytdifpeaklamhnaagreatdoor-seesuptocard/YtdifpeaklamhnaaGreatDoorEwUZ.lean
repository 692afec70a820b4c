import Derived.Test.YtdifpeaklamhnaaGreatDoorEwQZ
import Derived.Test.YtdifpeaklamhnaaGreatDoorRef6Z
set_option linter.unusedVariables false
set_option linter.unusedSimpArgs false
set_option maxRecDepth 100000
set_option maxHeartbeats 0
namespace Go.Proofs.YtdifpeaklamhnaaGreatDoor
open Go.RowKit
open Bool (and_eq_true)
abbrev Nt(x:World)(g o0 o1 o2 o3 o4 o5 o6 o7 o8 o9 o10:Nat)(sort ty size:Int)(quiet:Bool)(vk vn:Int)(vs:Bs)(place:Int)(head:Bs)(fp xo:Option Addr)(xn xc:Nat):Prop:=
 x.cell? ⟨g,o0,none⟩=some (.int .i64 sort)/\x.cell? ⟨g,o1,none⟩=some (.int .i64 ty)/\x.cell? ⟨g,o2,none⟩=some (.int .i64 size)/\x.cell? ⟨g,o3,none⟩=some (.bool quiet)/\x.cell? ⟨g,o4,none⟩=some (.int .i64 vk)/\x.cell? ⟨g,o5,none⟩=some (.int .i64 vn)/\x.cell? ⟨g,o6,none⟩=some (.string (aa vs))/\x.cell? ⟨g,o7,none⟩=some (.int .i64 place)/\x.cell? ⟨g,o8,none⟩=some (.string (aa head))/\x.cell? ⟨g,o9,none⟩=some (.pointer fp)/\x.cell? ⟨g,o10,none⟩=some (.slice xo xn xc)
theorem Ms{ns:List Bs}{cs:List aj}{r:Rs}(h:AX ns cs=some r):∃c,cs= [c]/\SX c=true/\ns.length<=1000000/\r=(c,0,ns++ [ku c]):=by
 rcases cs with _|⟨c,_|⟨d,l⟩⟩
 ·cases h
 ·rw[AX]at h;split at h
  ·next hb=>simp only[and_eq_true,decide_eq_true_eq]at hb;exact⟨c,rfl,hb.1,hb.2,(Option.some.inj h).symm⟩
  ·cases h
 ·cases h
section
variable {sort ty size : Int} {quiet : Bool} {vk vn : Int} {vs : Bs} {place : Int} {fp oo : Option Addr} {on oc : Nat}
end
section
variable {ty size : Int} {quiet : Bool} {vk vn : Int} {vs : Bs} {place : Int} {head : Bs} {fp oo : Option Addr} {on oc : Nat}
end
theorem mP.body{w:World}{b:List Nat}{fb:Nat}{fn:Fn}(h:mP w b fb fn):fb<w.heap.size/\∃sort ty size quiet vk vn vs place head fp oo on oc,dJ w b (λ_=>True) [.int .i64 sort,.int .i64 ty,.int .i64 size,.bool quiet,.int .i64 vk,.int .i64 vn,.string (aa vs),.int .i64 place,.string (aa head),.pointer fp,.slice oo on oc] fn.body/\
  ∀x:World,x.heap[fb]? =w.heap[fb]? ->Nt x fb 2 3 4 5 6 7 8 9 10 11 12 sort ty size quiet vk vn vs place head fp oo on oc:=by
 obtain⟨g,c,d,_,_,e⟩:=h;obtain⟨sort,ty,size,quiet,vk,vn,vs,place,head,i,f,fp,oo,on,oc,cs,j,rfl, -, -, -, -, -⟩:=e.inv;refine⟨ai d,sort,ty,size,quiet,vk,vn,vs,place,head,fp,oo,on,oc,e,λx a=> ?_⟩;have hb:=a.trans d;exact⟨(af hb).trans rfl,(af hb).trans rfl,(af hb).trans rfl,(af hb).trans rfl,(af hb).trans rfl,(af hb).trans rfl,(af hb).trans rfl,(af hb).trans rfl,(af hb).trans rfl,(af hb).trans rfl,(af hb).trans rfl⟩
theorem IA(j:Nat){w:World}{b:List Nat}{oo:Option Addr}{on oc:Nat}{a:List Ex}(h:lH w b (.slice oo on oc) a)(f:j<a.length):∃g sort ty size quiet vk vn vs place head fp xo xn xc,oo=some ⟨g,0,none⟩/\g<w.heap.size/\
  dJ w b (λ_=>True) [.int .i64 sort,.int .i64 ty,.int .i64 size,.bool quiet,.int .i64 vk,.int .i64 vn,.string (aa vs),.int .i64 place,.string (aa head),.pointer fp,.slice xo xn xc] a[j]/\
  Nt w g (j*11) (j*11+1) (j*11+2) (j*11+3) (j*11+4) (j*11+5) (j*11+6) (j*11+7) (j*11+8) (j*11+9) (j*11+10) sort ty size quiet vk vn vs place head fp xo xn xc:=by
 obtain⟨g,sort,ty,size,quiet,vk,vn,vs,place,head,fp,xo,xn,xc,e,d,i,c⟩:=yH h j f;exact⟨g,sort,ty,size,quiet,vk,vn,vs,place,head,fp,xo,xn,xc,e,d,i,c w λ_ _=>rfl⟩
theorem wX{w:World}{f:Option Addr}{d i:Nat}{args:List aj}(h:aO w (.slice f d i) args){p:Int}{v:aj}(c:jO args p=some v):∃(b a k:Nat),f=some ⟨b,a,none⟩/\d=args.length/\b<w.heap.size/\p=(k:Int)/\args[k]? =some v/\w.cell? ⟨b,a+k*3,none⟩=some (.int .i64 v.1)/\w.cell? ⟨b,a+k*3+1,none⟩=some (.int .i64 v.2.1)/\w.cell? ⟨b,a+k*3+2,none⟩=some (.string (aa v.2.2)):=by
 obtain⟨j,g,e,r,l⟩:=h
 cases e;unfold jO at c;split at c
 ·next q=>
  rcases l with h|⟨b,a,rfl,hb,hc⟩
  ·subst h;simp at c
  ·obtain⟨m,n,o⟩:=hc p.toNat v c;exact⟨b,a,p.toNat,rfl,rfl,hb,by omega,c,m,n,o⟩
 ·cases c
theorem dJ.ops{w:World}{e:List Nat}{S:Nat->Prop}{c:List Value}{sort ty size:Int}{quiet:Bool}{vk vn:Int}{vs:Bs}{place:Int}{head:Bs}{j:Option Nat}{i:List Ex}(h:dJ w e S c (.mk sort ty size quiet vk vn vs place head j i)):∃fp oo on oc,c= [.int .i64 sort,.int .i64 ty,.int .i64 size,.bool quiet,.int .i64 vk,.int .i64 vn,.string (aa vs),.int .i64 place,.string (aa head),.pointer fp,.slice oo on oc]/\lH w e (.slice oo on oc) i/\zL e j fp:=by
 cases h with
 |mk a b d f=>
  rcases b.2 with⟨rfl,l⟩|⟨g,cap,k,rfl,m⟩
  ·exact⟨_,_,_,_,rfl,⟨_,_,_,by rw[l],b,a.move (λ_ _=>rfl) λ_ _=>trivial⟩,f⟩
  ·exact⟨_,_,_,_,rfl,⟨_,_,_,rfl,b,a.move (λ_ _=>rfl) λ_ _=>trivial⟩,f⟩
def rT(t:Int)(v:aj):Prop:=v=dm\/(t=1/\∃n,v=(1,n,[])/\aY n=true)\/(t=2/\∃s,v=(2,0,s)/\s.length<=30)\/(t=3/\∃b,v=aV b)
def BB:List Int->List aj->Prop
 | [],[]=>True
 |t::ts,v::vs=>rT t v/\BB ts vs
 |_,_=>False
theorem BB.get:∀ {b:List Int} {vs:List aj},BB b vs->∀ {i:Nat} {t:Int},b[i]? =some t->∃v,vs[i]? =some v/\rT t v
 | [],_,_,i,t,h=>by simp at h
 |_::_,[],h,_,_,_=>by cases h
 |a::b,v::vs,h,i,t,hi=>by
  cases i with
  |zero=>simp at hi;subst hi;exact⟨v,rfl,h.1⟩
  |succ i=>simpa using h.2.get (i:=i) (by simpa using hi)
theorem nE(b:Bool):rT 3 (aV b):=.inr (.inr (.inr ⟨rfl,b,rfl⟩))
theorem rT.one{v:aj}(h:rT 1 v):v=dm\/∃n,v=(1,n,[])/\aY n=true:=by
 rcases h with h|⟨_,h⟩|⟨e,_⟩|⟨e,_⟩
 ·exact .inl h
 ·exact .inr h
 ·exact absurd e (by decide)
 ·exact absurd e (by decide)
theorem rT.two{v:aj}(h:rT 2 v):v=dm\/∃s,v=(2,0,s)/\s.length<=30:=by
 rcases h with h|⟨e,_⟩|⟨_,h⟩|⟨e,_⟩
 ·exact .inl h
 ·exact absurd e (by decide)
 ·exact .inr h
 ·exact absurd e (by decide)
theorem rT.three{v:aj}(h:rT 3 v):v=dm\/∃b,v=aV b:=by
 rcases h with h|⟨e,_⟩|⟨e,_⟩|⟨_,h⟩
 ·exact .inl h
 ·exact absurd e (by decide)
 ·exact absurd e (by decide)
 ·exact .inr h
theorem rT.bd{t:Int}{v:aj}(h:rT t v):SX v=true/\v.2.2.length<=30/\aY v.2.1=true:=by
 rcases h with rfl|⟨_,n,rfl,h⟩|⟨_,s,rfl,h⟩|⟨_,b,rfl⟩
 ·exact⟨by decide,by decide,by decide⟩
 ·refine⟨?_,by simp,h⟩;simp only[aY,and_eq_true,decide_eq_true_eq]at h;simp[SX];omega
 ·exact⟨by simp[SX];omega,h,show aY 0=true by decide⟩
 ·cases b<;>exact⟨by decide,by decide,by decide⟩
def DK(t s:Int)(ns:List Bs)(r:Rs):Prop:=rT t r.1/\(r.2.1≠0->r.1=dm)/\(r.2.2.length:Int)<=ns.length+s
def DI(f:Ev)(e:Ex):Prop:=0<=e.size/\∀ns:List Bs,(ns.length:Int)+e.size<=1000000->∃r,f e ns=some r/\DK e.ty e.size ns r
theorem Dr{f:Ev} :∀(b:List Ex),(∀e∈b,DI f e)->∀ns:List Bs,(ns.length:Int)+aG b<=1000000->0<=aG b/\∃cs k n,gJ f b ns=some (cs,k,n)/\(k=0->BB (b.map Ex.ty) cs)/\(n.length:Int)<=ns.length+aG b
 | [],_,ns,_=>⟨by simp[aG],[],0,ns,rfl,λ_=>trivial,by simp[aG]⟩
 |e::b,h,ns,hs=>by
  have v:=(h e (by simp)).1;have i:∀(l:List Ex),(∀e∈l,DI f e)->0<=aG l:=by
   intro l
   induction l with
   |nil=>intro _;simp[aG]
   |cons a l ih=>intro o;have:=(o a (by simp)).1;have:=ih λe g=>o e (by simp[g]);simp only[aG];omega
  have w:=i b λe g=>h e (by simp[g]);simp only[aG]at hs ⊢;obtain⟨⟨c,k,n⟩,j,g1,s,t⟩:=(h e (by simp)).2 ns (by omega);simp only at g1 s t;refine⟨by omega, ?_⟩;by_cases m:k=0
  ·subst m;obtain⟨_,cs,q,r,p,u,o⟩:=Dr b (λe g=>h e (by simp[g])) n (by omega);by_cases d:q=0
   ·subst d;exact⟨c::cs,0,r,by rw[gJ,j];simp[p],λ_=>⟨g1,u rfl⟩,by omega⟩
   ·exact⟨[],q,r,by rw[gJ,j];simp[p,d],λe=>absurd e d,by omega⟩
  ·exact⟨[],k,n,by rw[gJ,j];simp[m],λe=>absurd e m,by omega⟩
theorem Qn{f:Ev}{stop:aj} :∀(d:List Ex) (b:aj),(∀e∈d,DI f e/\e.ty=3)->rT 3 b->∀ns:List Bs,(ns.length:Int)+aG d<=1000000->0<=aG d/\∃r,tZ f stop b d ns=some r/\DK 3 (aG d) ns r
 | [],b,_,i,ns,_=>⟨by simp[aG],_,rfl,i,λh=>absurd rfl h,by simp[aG]⟩
 |e::d,b,h,i,ns,hs=>by
  have x:=(h e (by simp)).1.1;have j:∀(l:List Ex),(∀e∈l,DI f e/\e.ty=3)->0<=aG l:=by
   intro l
   induction l with
   |nil=>intro _;simp[aG]
   |cons a l ih=>intro i;have:=(i a (by simp)).1.1;have:=ih λe g=>i e (by simp[g]);simp only[aG];omega
  have y:=j d λe g=>h e (by simp[g]);simp only[aG]at hs ⊢;obtain⟨⟨c,k,n⟩,u,g1,m,p⟩:=(h e (by simp)).1.2 ns (by omega);simp only[(h e (by simp)).2]at g1 m p;refine⟨by omega, ?_⟩;rw[tZ,u];simp only;by_cases o:k≠0\/c=stop
  ·rw[if_pos o];exact⟨_,rfl,g1,m,by simp only;omega⟩
  ·rw[if_neg o];have t:rT 3 (if c.1=0 then c else b):=by split<;>assumption
   obtain⟨_,r,v,q,s,w⟩:=Qn d _ (λe g=>h e (by simp[g])) t n (by omega);exact⟨r,v,q,s,by omega⟩
theorem CE{a:Int}{cs:List aj}(h:BB [a] cs):∃x,cs= [x]/\rT a x:=by
 cases cs with
 |nil=>exact absurd h id
 |cons x cs=>cases cs with
  |nil=>exact⟨x,rfl,h.1⟩
  |cons y cs=>exact absurd h.2 id
theorem Ru{a b:Int}{cs:List aj}(h:BB [a,b] cs):∃x y,cs= [x,y]/\rT a x/\rT b y:=by
 cases cs with
 |nil=>exact absurd h id
 |cons x cs=>
  obtain⟨y,rfl,c⟩:=CE h.2;exact⟨x,y,rfl,h.1,c⟩
theorem QM(h:Bs)(a b:Int):rT 1 (qD h a b).1/\((qD h a b).2≠0->(qD h a b).1=dm):=by
 unfold qD;split
 ·exact⟨.inl rfl,λ_=>rfl⟩
 ·split
  ·next h=>exact⟨.inr (.inl ⟨rfl,_,rfl,h⟩),λe=>absurd rfl e⟩
  ·exact⟨.inl rfl,λ_=>rfl⟩
theorem Oa(h:Bs)(n:Int):∃b,uy h n=aV b:=by
 unfold uy;split
 ·exact⟨_,rfl⟩
 ·split<;>exact⟨_,rfl⟩
theorem om:∀ {b:List Int} {cs:List aj},BB b cs->mI cs=true
 | [],[],_=>rfl
 | [],_::_,h=>by cases h
 |_::_,[],h=>by cases h
 |t::b,c::cs,h=>by
  have d:=h.1.bd.2.1;have a:mI cs=true:=om h.2;simp only[mI,List.all_cons,and_eq_true,decide_eq_true_eq]at a ⊢;exact⟨by omega,a⟩
theorem NK{h:Bs}{q:List Int}{cs:List aj}(s:h≠hAnd)(u:h≠hOr)(w:h≠xH)(z:h≠nz)(c:bL h q≠0)(f:BB q cs):∃v k,qB h cs=some (v,k)/\rT (bL h q) v/\(k≠0->v=dm):=by
 unfold bL at c ⊢;by_cases g:h= [43]\/h= [45]\/h= [42]\/h= [47]
 ·rw[if_pos g]at c ⊢;unfold ik at c ⊢;split at c
  ·next e=>
   subst e;rw[if_pos rfl];obtain⟨a,b,rfl,d,hb⟩:=Ru f;have j:h≠Ck:=by rcases g with rfl|rfl|rfl|rfl<;>decide
   have l:IQ h=false:=by rcases g with rfl|rfl|rfl|rfl<;>decide
   have r:IM h=true:=by rcases g with rfl|rfl|rfl|rfl<;>decide
   rw[qB,if_neg j];simp only[Ed,l,r,d.bd.2.2,hb.bd.2.2,Bool.and_self,if_true,if_false,Bool.false_eq_true];split
   ·exact⟨_,_,rfl,.inl rfl,λ_=>rfl⟩
   ·have:=QM h a.2.1 b.2.1;exact⟨_,_,rfl,this⟩
  ·exact absurd rfl c
 ·rw[if_neg g]at c ⊢;by_cases i:h= [61]\/h= [60]\/h= [60,61]
  ·rw[if_pos i]at c ⊢;have j:h≠Ck:=by rcases i with rfl|rfl|rfl<;>decide
   have l:IQ h=true:=by rcases i with rfl|rfl|rfl<;>decide
   unfold nQ at c ⊢;split at c
   ·next x y=>
    split at c
    ·next e=>
     simp only[if_pos e];obtain⟨a,b,rfl,d,hb⟩:=Ru f;rw[qB,if_neg j];simp only[Ed,l,if_true];obtain⟨t,c⟩:=Oa h (sK a b);refine⟨_,_,rfl, ?_,λe=>absurd rfl e⟩;split
     ·exact .inl rfl
     ·rw[c];exact nE t
    ·exact absurd rfl c
   ·exact absurd rfl c
  ·rw[if_neg i]at c ⊢;rw[if_neg λe=>e.elim s u]at c ⊢;by_cases m:h= [110,111,116]
   ·rw[if_pos m]at c ⊢;unfold ik at c ⊢;split at c
    ·next e=>
     subst e m;rw[if_pos rfl];obtain⟨a,rfl,d⟩:=CE f;refine⟨if a.1=0 then dm else xL a,0,rfl, ?_,λe=>absurd rfl e⟩;split
     ·exact .inl rfl
     ·exact nE _
    ·exact absurd rfl c
   ·rw[if_neg m]at c ⊢;by_cases n:h= [105,115,110,117,108,108]
    ·rw[if_pos n]at c ⊢;unfold FL at c ⊢;split at c
     ·next x=>
      subst n;obtain⟨a,rfl,d⟩:=CE f;exact⟨aV (a.1==0),0,rfl,nE _,λe=>absurd rfl e⟩
     ·exact absurd rfl c
    ·rw[if_neg n,if_neg (show¬h= [105,102]from w)]at c ⊢;by_cases o:h= [108,101,110]
     ·rw[if_pos o]at c ⊢;unfold ik at c ⊢;split at c
      ·next e=>
       subst e o;rw[if_pos rfl];obtain⟨a,rfl,d⟩:=CE f;refine⟨if a.1=0 then dm else(1,(a.2.2.length:Int),[]),0,rfl, ?_,λe=>absurd rfl e⟩;split
       ·exact .inl rfl
       ·have:=d.bd.2.1;exact .inr (.inl ⟨rfl,_,rfl,by simp only[aY,and_eq_true,decide_eq_true_eq];omega⟩)
      ·exact absurd rfl c
     ·rw[if_neg o]at c ⊢;by_cases p:h= [99,97,116]
      ·rw[if_pos p]at c ⊢;unfold jV at c ⊢;split at c
       ·next e=>
        subst p;rw[if_pos e];unfold qB;rw[if_pos (show [99,97,116]=Ck from rfl),if_pos (om f)];by_cases d:bF cs=true
        ·rw[if_pos d];exact⟨_,_,rfl,.inl rfl,λ_=>rfl⟩
        ·rw[if_neg d];unfold Ii;split
         ·exact⟨_,_,rfl,.inl rfl,λ_=>rfl⟩
         ·next A=>exact⟨_,_,rfl,.inr (.inr (.inl ⟨rfl,_,rfl,by omega⟩)),λe=>absurd rfl e⟩
       ·exact absurd rfl c
      ·rw[if_neg p,if_neg (show¬h= [110,111,116,101]from z)]at c;exact absurd rfl c
theorem rE{b:List Int}{a:List Ex}(h:a.map Ex.ty=b)(n:Int)(c:b.all (· ==n)=true):∀e∈a,e.ty=n:=λe d=>by
 have:=List.all_eq_true.mp c e.ty (by rw[<-h];exact List.mem_map_of_mem d);simpa using this
theorem ol{ts:List Int}{n:Int}(h:jV n ts≠0):ts.all (· ==n)=true/\jV n ts=n:=by
 unfold jV at h ⊢;split at h
 ·next e=>exact⟨e.2,if_pos e⟩
 ·exact absurd rfl h
theorem QU{f:Ev}{h:Bs}{g:List Ex}(m:∀e∈g,DI f e)(i:bL h (g.map Ex.ty)≠0)(ns:List Bs)(K:(ns.length:Int)+(1+aG g)<=1000000):∃r,nC f h g ns=some r/\DK (bL h (g.map Ex.ty)) (1+aG g) ns r:=by
 by_cases D:h=hAnd
 ·subst D;have e:bL hAnd (g.map Ex.ty)=jV 3 (g.map Ex.ty):=rfl;rw[e]at i ⊢;obtain⟨q,x⟩:=ol i;rw[x,nC,if_pos rfl];obtain⟨_,r,p,g1,o,y⟩:=Qn (f:=f) (stop:=aV false) g (aV true) (λe j=>⟨m e j,rE rfl 3 q e j⟩) (nE true) ns (by omega);exact⟨r,p,g1,o,by omega⟩
 by_cases E:h=hOr
 ·subst E;have e:bL hOr (g.map Ex.ty)=jV 3 (g.map Ex.ty):=rfl;rw[e]at i ⊢;obtain⟨q,x⟩:=ol i;rw[x,nC,if_neg (by decide),if_pos rfl];obtain⟨_,r,p,g1,o,y⟩:=Qn (f:=f) (stop:=aV true) g (aV false) (λe j=>⟨m e j,rE rfl 3 q e j⟩) (nE false) ns (by omega);exact⟨r,p,g1,o,by omega⟩
 by_cases F:h=xH
 ·subst F;have e:bL xH (g.map Ex.ty)=Km (g.map Ex.ty):=rfl;rw[e]at i ⊢;obtain⟨a,b,c,rfl⟩:∃a b c,g= [a,b,c]:=by
   rcases g with _|⟨a,_|⟨b,_|⟨c,_|⟨d,l⟩⟩⟩⟩
   ·exact absurd rfl i
   ·exact absurd rfl i
   ·exact absurd rfl i
   ·exact⟨a,b,c,rfl⟩
   ·exact absurd rfl i
  simp only[List.map,Km]at i ⊢;split at i
  ·next e=>
   rw[if_pos e];have O:=(m a (by simp)).1;have P:=(m b (by simp)).1;have Q:=(m c (by simp)).1;simp only[aG]at K ⊢;obtain⟨⟨v,k,n⟩,J,g1,o,y⟩:=(m a (by simp)).2 ns (by omega);simp only at g1 o y;rw[nC,if_neg (by decide),if_neg (by decide),if_pos rfl,Tu,J];simp only;by_cases s:k=0
   ·subst s;simp only[ne_eq,not_true_eq_false,if_false];split
    ·obtain⟨r,p,z,A,I⟩:=(m b (by simp)).2 n (by omega);exact⟨r,p,z,A,by omega⟩
    ·obtain⟨r,p,z,A,I⟩:=(m c (by simp)).2 n (by omega);rw[e.2];exact⟨r,p,z,A,by omega⟩
   ·rw[if_pos s];exact⟨_,rfl,.inl rfl,λ_=>rfl,by simp only;omega⟩
  ·exact absurd rfl i
 obtain⟨M,cs,k,n,L,u,N⟩:=Dr g m ns (by omega);rw[nC,if_neg D,if_neg E,if_neg F,L];simp only;by_cases s:k=0
 ·subst s;simp only[ne_eq,not_true_eq_false,if_false];have u:=u rfl;by_cases G:h=nz
  ·subst G;have e:bL nz (g.map Ex.ty)=yV (g.map Ex.ty):=rfl;rw[e]at i ⊢;rw[if_pos rfl];obtain⟨t,B⟩:∃t,g.map Ex.ty= [t]:=by
    unfold yV at i;split at i
    ·next t C=>exact⟨t,C⟩
    ·exact absurd rfl i
   rw[B]at u ⊢;obtain⟨c,rfl,H⟩:=CE u;rw[AX,if_pos (by simp only[H.bd.1,Bool.true_and,decide_eq_true_eq];omega)];exact⟨_,rfl,H,λe=>absurd rfl e,by simp only[List.length_append,List.length_singleton];omega⟩
  ·rw[if_neg G];obtain⟨v,k,q,g1,o⟩:=NK D E F G i u;rw[q];exact⟨_,rfl,g1,o,by simp only;omega⟩
 ·rw[if_pos s];exact⟨_,rfl,.inl rfl,λ_=>rfl,by simp only;omega⟩
theorem EI:∀(l:Bs) (n:Nat),bO l n=true->∃m:Nat,Lib.decFrom n l=some m/\(m:Int)=jF l n
 | [],n,_=>⟨n,rfl,rfl⟩
 |c::r,n,h=>by
  rw[bO]at h;simp only[and_eq_true,decide_eq_true_eq,bQ]at h;obtain⟨⟨⟨g,i⟩,j⟩,a⟩:=h;have b:Lib.digitVal c=some (c.toNat- 48):=by unfold Lib.digitVal;rw[if_pos (by omega)]
  have e:((n:Int)*10+((c.toNat:Int)- 48))=((n*10+(c.toNat- 48):Nat):Int):=by omega
  rw[e]at a;obtain⟨m,d,f⟩:=EI r _ a;exact⟨m,by rw[Lib.decFrom,b];exact d,by rw[jF,e];exact f⟩
theorem Ky{l:Bs}(h:dK l=true):bA l=mU l/\aY (bA l)=true:=by
 have j:=h;simp only[dK,Bool.or_eq_true,beq_iff_eq,and_eq_true,decide_eq_true_eq]at h;rcases h with rfl|⟨⟨h1,h2⟩,h3⟩
 ·exact⟨by decide,by decide⟩
 ·obtain⟨m,k,f⟩:=EI (aX l) 0 h3;have hb:=QR (aX l) 0 (by omega) (by omega) h3;have c:Lib.decNat (aX l)=some m:=by
   unfold Lib.decNat;rw[if_neg (by intro e;rw[List.isEmpty_iff_length_eq_zero]at e;omega)];exact k
  match l with
  | []=>simp[aX]at h1
  |b::r=>
   by_cases a:b=45
   ·subst a;have e:aX (45::r)=r:=by simp[aX]
    rw[e]at c hb f;have i:bA (45::r)= -(m:Int):=by
     rw[bA,Lib.atoi,if_pos (by decide),c];rfl
    rw[i];have d:(m:Int)=jF r 0:=f;refine⟨by rw[mU,j,if_pos rfl,if_pos (by simp)];simp only[List.drop_one,List.tail_cons];rw[d], ?_⟩;simp only[aY,and_eq_true,decide_eq_true_eq];omega
   ·have e:aX (b::r)=b::r:=by simp[aX,a]
    rw[e]at c hb f h3;have g:(b==43)=false:=by
     rw[bO]at h3;simp only[and_eq_true,decide_eq_true_eq,bQ]at h3;have:=h3.1.1.1;rw[beq_eq_false_iff_ne];intro e;subst e;simp at this
    have i:bA (b::r)=(m:Int):=by
     rw[bA,Lib.atoi,if_neg (by simpa using a),if_neg (by rw[g];exact Bool.false_ne_true),c];rfl
    rw[i];have d:(m:Int)=jF (b::r) 0:=f;refine⟨by rw[mU,j,if_pos rfl,if_neg (by simpa using a),d], ?_⟩;simp only[aY,and_eq_true,decide_eq_true_eq];omega
def UD(k:Int)(tx:Bs):Prop:=k=aT tx
def Ty(fns:List Fn)(ps:Sc)(e:Ex):Prop:=∃t,Fit UD t/\bg bA ps fns t=.ok e
def pX(fns:List Fn):Prop:=∀(i:Nat) (fn:Fn),fns[i]? =some fn->Ty (fns.take i) ([],fn.args) fn.body/\0<=fn.body.size/\fn.body.size<=300
theorem zC{ps:Sc}{fns:List Fn} :∀ {f:List Tr} {c:List Ex},bY bA ps fns f=.ok c->Fits UD f->∀e∈c,Ty fns ps e
 | [],c,h,_,e,he=>by rw[bY]at h;cases h;simp at he
 |t::f,c,h,g,e,he=>by
  cases g with
  |cons a b=>
   rw[bY]at h;split at h
   ·cases h
   ·next x i=>
    split at h
    ·cases h
    ·next j d=>
     cases h;rcases List.mem_cons.mp he with rfl|he
     ·exact⟨t,a,i⟩
     ·exact zC d b e he
theorem JH{fns:List Fn}{ps:Sc}{e:Ex}(h:Ty fns ps e):(∃k n s,e=dI k n s/\rT k (k,n,s))\/e=mK\/(∃(ty:Int) (p:Nat),e=qd ty p/\ps.2[p]? =some ty)\/(∃(c:Bs × Int) (p:Nat),e=oC c.2 p/\ps.1[p]? =some c)\/
  (∃h a q,(∀e∈a,Ty fns ps e)/\bL h (a.map Ex.ty)≠0/\e=.mk 4 (bL h (a.map Ex.ty)) (1+aG a) q 0 0 [] 0 h none a)\/
  (∃h a q i fn,(∀e∈a,Ty fns ps e)/\fns[i]? =some fn/\a.map Ex.ty=fn.args/\e=.mk 5 fn.body.ty (1+aG a+fn.body.size) q 0 0 [] 0 h (some i) a):=by
 obtain⟨t,b,h⟩:=h
 cases b with
 | @mk k tx o ops hp hf=>
  rw[bg]at h
  cases o with
  |true=>
   rw[if_pos rfl]at h;unfold qz at h;split at h
   ·cases h
   ·next a d=>
    have m:=zC d hf;unfold nR at h;split at h
    ·split at h
     ·cases h
     ·next g=>cases h;exact .inr (.inr (.inr (.inr (.inl ⟨tx,a,_,m,g,rfl⟩))))
    ·unfold lY at h;split at h
     ·cases h
     ·next i x=>
      split at h
      ·cases h
      ·next fn f=>
       split at h
       ·next v=>cases h;exact .inr (.inr (.inr (.inr (.inr ⟨tx,a,_,i,fn,m,f,v,rfl⟩))))
       ·cases h
  |false=>
   rw[if_neg Bool.false_ne_true]at h;have b:k=aT tx:=hp rfl;by_cases j:k=6
   ·rw[if_pos j]at h;unfold qH at h;split at h
    ·cases h
    ·next i x=>
     split at h
     ·cases h
     ·next c w=>cases h;exact .inr (.inr (.inr (.inl ⟨c,i,rfl,w⟩)))
   ·rw[if_neg j]at h;by_cases l:k=7
    ·rw[if_pos l]at h;unfold uN at h;split at h
     ·cases h
     ·next t g=>cases h;exact .inr (.inr (.inl ⟨t,_,rfl,g⟩))
    ·rw[if_neg l]at h
     cases h;unfold cK;split
     ·next r=>exact .inl ⟨_,_,_,rfl,.inr (.inl ⟨rfl,_,rfl,(Ky (Ff (b.symm.trans r))).2⟩)⟩
     ·split
      ·next u=>
       have:=yO (b.symm.trans u);simp only[cB,and_eq_true,decide_eq_true_eq]at this;have y:=this.1.1.1.2;exact .inl ⟨_,_,_,rfl,.inr (.inr (.inl ⟨rfl,_,rfl,by simp only[List.length_take,List.length_drop];omega⟩))⟩
      ·split
       ·exact .inr (.inl rfl)
       ·exact .inl ⟨_,_,_,rfl,nE _⟩
theorem KN{es:List Ex}(h:∀e∈es,1<=e.size):(es.length:Int)<=aG es/\∀e∈es,e.size<=aG es:=by
 induction es with
 |nil=>exact⟨by simp[aG],λe b=>by simp at b⟩
 |cons a es ih=>
  obtain⟨d,c⟩:=ih λe b=>h e (by simp[b]);have f:=h a (by simp);simp only[aG,List.length_cons];refine⟨by omega,λe b=> ?_⟩;rcases List.mem_cons.mp b with rfl|b
  ·omega
  ·have:=c e b;omega
theorem Sj{fns:List Fn}{ps:Sc}(n:∀fn∈fns,0<=fn.body.size):∀(N:Nat) (t:Tr),SizeOf.sizeOf t<=N->∀e,bg bA ps fns t=.ok e->1<=e.size:=by
 intro N
 induction N with
 |zero=>intro t i;obtain⟨k,q,m,c⟩:=t;simp at i
 |succ N ih=>
  intro t i e h;obtain⟨k,q,m,c⟩:=t;have b:∀(d:List Tr),SizeOf.sizeOf d<=N->∀a,bY bA ps fns d=.ok a->0<=aG a:=by
   intro d
   induction d with
   |nil=>intro _ a h;rw[bY]at h;cases h;simp[aG]
   |cons t d l=>
    intro o a h;rw[bY]at h;split at h
    ·cases h
    ·next x p=>
     split at h
     ·cases h
     ·next r j=>
      cases h;simp at o;have u:=ih t (by omega) x p;have v:=l (by omega) r j;simp only[aG];omega
  rw[bg]at h
  cases m with
  |true=>
   rw[if_pos rfl]at h;unfold qz at h;split at h
   ·cases h
   ·next a f=>
    have s:=b c (by simp at i;omega) a f;unfold nR at h;split at h
    ·split at h
     ·cases h
     ·cases h;simp only[Ex.size];omega
    ·unfold lY at h;split at h
     ·cases h
     ·split at h
      ·cases h
      ·next fn g=>
       split at h
       ·cases h;have:=n fn (List.mem_of_getElem? g);show 1<=1+aG a+fn.body.size;omega
       ·cases h
  |false=>
   rw[if_neg Bool.false_ne_true]at h;split at h
   ·unfold qH at h;split at h
    ·cases h
    ·split at h
     ·cases h
     ·cases h;simp[oC,Ex.size]
   ·split at h
    ·unfold uN at h;split at h
     ·cases h
     ·cases h;simp[qd,Ex.size]
    ·cases h;unfold cK;split
     ·simp[dI,Ex.size]
     ·split
      ·simp[dI,Ex.size]
      ·split<;>simp[dI,mK,Ex.size]
theorem Ty.pos{fns:List Fn}{ps:Sc}{e:Ex}(h:Ty fns ps e)(a:∀fn∈fns,0<=fn.body.size):1<=e.size:=by
 obtain⟨t,_,h⟩:=h;exact Sj a _ t (Nat.le_refl _) e h
theorem uI{a:List Int}{vs:List aj}(h:BB a vs){p:Nat}{t:Int}(d:a[p]? =some t):∃v,jO vs (p:Int)=some v/\rT t v:=by
 obtain⟨v,b,c⟩:=h.get d;exact⟨v,by rw[jO,if_pos (by omega)];simpa using b,c⟩
theorem Vj(fns:List Fn)(d:Bs)(O:d.length<=30)(hF:pX fns):∀(N j:Nat) (ps:Sc) (ax args:List aj) (e:Ex),Ty (fns.take j) ps e->e.size<=N->e.size<=300->BB (ps.1.map Prod.snd) ax->BB ps.2 args->DI (pg fns d N ax args) e:=by
 have f:∀j,∀fn∈fns.take j,0<=fn.body.size:=λj fn h=>by
  obtain⟨i,L,b⟩:=List.mem_iff_getElem.mp (List.mem_of_mem_take h);exact(hF i fn (by rw[List.getElem?_eq_getElem L,b])).2.1
 intro N
 induction N with
 |zero=>intro j ps ax args e h E;have:=h.pos (f j);omega
 |succ N ih=>
  intro j ps ax args e h E G B z;have R:=h.pos (f j);refine⟨by omega,λns C=> ?_⟩;have a:∀(t:Int) (v:aj),rT t v->DK t e.size ns (v,0,ns):=λt v h=>⟨h,λe=>absurd rfl e,by simp only;omega⟩;rcases JH h with⟨k,n,s,rfl,o⟩|rfl|⟨ty,p,rfl,w⟩|⟨c,p,rfl,w⟩|⟨h,l,q,m,M,rfl⟩|⟨h,l,q,i,fn,m,u,F,rfl⟩
  ·exact⟨((k,n,s),0,ns),by simp[dI,pg],a _ _ o⟩
  ·exact⟨((2,0,d),0,ns),by simp[mK,pg],a _ _ (.inr (.inr (.inl ⟨rfl,_,rfl,O⟩)))⟩
  ·obtain⟨v,y,o⟩:=uI z w;exact⟨(v,0,ns),by simp[qd,pg,y,lD],a _ _ o⟩
  ·obtain⟨v,y,o⟩:=uI B (p:=p) (t:=c.2) (by rw[List.getElem?_map,w];rfl);exact⟨(v,0,ns),by simp[oC,pg,y,lD],a _ _ o⟩
  ·simp only[Ex.size]at E G C ⊢;obtain⟨s1,s2⟩:=KN (es:=l) λe b=>(m e b).pos (f j);have b:∀e∈l,DI (pg fns d N ax args) e:=λe b=>ih j ps ax args e (m e b) (by have:=s2 e b;omega) (by have:=s2 e b;omega) B z;obtain⟨r,D,g⟩:=QU b M ns C;exact⟨r,by rw[pg,if_neg (by omega),if_neg (by decide),if_neg (by decide),if_neg (by decide),if_pos rfl];exact D,g⟩
  ·change 1+aG l+fn.body.size<=_ at E;change 1+aG l+fn.body.size<=_ at G;change (ns.length:Int)+(1+aG l+fn.body.size)<=_ at C;show∃r,_/\DK fn.body.ty (1+aG l+fn.body.size) ns r;have x:fns[i]? =some fn:=by
    rw[List.getElem?_take]at u;split at u
    ·exact u
    ·cases u
   obtain⟨A,J,K⟩:=hF i fn x;obtain⟨s1,s2⟩:=KN (es:=l) λe b=>(m e b).pos (f j);have b:∀e∈l,DI (pg fns d N ax args) e:=λe b=>ih j ps ax args e (m e b) (by have:=s2 e b;omega) (by have:=s2 e b;omega) B z;obtain⟨_,cs,k,n,y,o,Q⟩:=Dr l b ns (by omega);rw[pg,if_neg (by omega),if_neg (by decide),if_neg (by decide),if_neg (by decide),if_neg (by decide),if_pos rfl,Er,x];simp only[y];by_cases H:k=0
   ·subst H;have o:=o rfl;rw[F]at o;obtain⟨r,D,g1,I,P⟩:=(ih i ([],fn.args) [] cs fn.body A (by omega) (by omega) trivial o).2 n (by omega);exact⟨r,by simpa using D,g1,I,by omega⟩
   ·exact⟨(dm,k,n),by simp[H],.inl rfl,λ_=>rfl,by simp only;omega⟩
theorem Nq{f:Ev}{a b:aj}{e:Ex}{g:List Ex}{ns:List Bs}{r:Rs}(h:tZ f a b (e::g) ns=some r):∃c k n,f e ns=some (c,k,n)/\(k≠0\/c=a->r=(c,k,n))/\(k=0->c≠a->tZ f a (if c.1=0 then c else b) g n=some r):=by
 rw[tZ]at h;split at h
 ·cases h
 ·next c k n j=>
  refine⟨c,k,n,j,λd=> ?_,λd i=> ?_⟩
  ·rw[if_pos d]at h;exact(Option.some.inj h).symm
  ·rw[if_neg λe=>e.elim (λe=>e d) i]at h;exact h
def VK(t:Int)(r:Rs):Prop:=rT t r.1/\(r.2.1≠0->r.1=dm)
def Bv(f:Ev)(e:Ex):Prop:=∀(ns:List Bs) (r:Rs),f e ns=some r->VK e.ty r
theorem zD{f:Ev} :∀(a:List Ex),(∀e∈a,Bv f e)->∀(ns:List Bs) (cs:List aj) (k:Int) (n:List Bs),gJ f a ns=some (cs,k,n)->k=0->BB (a.map Ex.ty) cs
 | [],_,ns,cs,k,n,h,_=>by rw[gJ]at h;cases h;trivial
 |e::a,he,ns,cs,k,n,h,hk=>by
  rw[gJ]at h;split at h
  ·cases h
  next c q p l=>
  split at h
  ·next j=>cases h;exact absurd hk j
  split at h
  ·cases h
  next b o r m=>
  split at h
  ·next d=>cases h;exact absurd hk d
  next d=>
  cases h;exact⟨(he e (by simp) ns _ l).1,zD a (λg i=>he g (by simp[i])) p b o _ m (by omega)⟩
theorem UA{f:Ev}{b:aj} :∀(d:List Ex) (a:aj),(∀e∈d,Bv f e/\e.ty=3)->rT 3 a->∀(ns:List Bs) (r:Rs),tZ f b a d ns=some r->VK 3 r
 | [],a,_,hl,ns,r,h=>by rw[tZ]at h;cases h;exact⟨hl,λe=>absurd rfl e⟩
 |e::d,a,he,hl,ns,r,h=>by
  obtain⟨c,k,n,q,o,p⟩:=Nq h;have g:=(he e (by simp)).1 ns _ q;rw[(he e (by simp)).2]at g;by_cases i:k≠0\/c=b
  ·rw[o i];exact g
  ·have j:k=0:=by
    rcases Decidable.em (k=0)with h|h
    ·exact h
    ·exact absurd (.inl h) i
   refine UA d _ (λl m=>he l (by simp[m])) ?_ n r (p j λe=>i (.inr e));split
   ·exact g.1
   ·exact hl
theorem Tt{f:Ev}{h:Bs}{i:List Ex}(p:∀e∈i,Bv f e)(j:bL h (i.map Ex.ty)≠0)(ns:List Bs)(r:Rs)(g:nC f h i ns=some r):VK (bL h (i.map Ex.ty)) r:=by
 by_cases x:h=hAnd
 ·subst x;have e:bL hAnd (i.map Ex.ty)=jV 3 (i.map Ex.ty):=rfl;rw[e]at j ⊢;obtain⟨o,q⟩:=ol j;rw[nC,if_pos rfl]at g;rw[q];exact UA i _ (λe m=>⟨p e m,rE rfl 3 o e m⟩) (nE true) ns r g
 by_cases y:h=hOr
 ·subst y;have e:bL hOr (i.map Ex.ty)=jV 3 (i.map Ex.ty):=rfl;rw[e]at j ⊢;obtain⟨o,q⟩:=ol j;rw[nC,if_neg (by decide),if_pos rfl]at g;rw[q];exact UA i _ (λe m=>⟨p e m,rE rfl 3 o e m⟩) (nE false) ns r g
 by_cases z:h=xH
 ·subst z;have e:bL xH (i.map Ex.ty)=Km (i.map Ex.ty):=rfl;rw[e]at j ⊢;obtain⟨a,b,c,rfl⟩:∃a b c,i= [a,b,c]:=by
   rcases i with _|⟨a,_|⟨b,_|⟨c,_|⟨d,l⟩⟩⟩⟩
   ·exact absurd rfl j
   ·exact absurd rfl j
   ·exact absurd rfl j
   ·exact⟨a,b,c,rfl⟩
   ·exact absurd rfl j
  simp only[List.map,Km]at j ⊢;split at j
  ·next e=>
   rw[if_pos e];rw[nC,if_neg (by decide),if_neg (by decide),if_pos rfl,Tu]at g;split at g
   ·cases g
   next v k n E=>
   split at g
   ·cases g;exact⟨.inl rfl,λ_=>rfl⟩
   split at g
   ·exact p b (by simp) n r g
   ·rw[e.2];exact p c (by simp) n r g
  ·exact absurd rfl j
 rw[nC,if_neg x,if_neg y,if_neg z]at g;split at g
 ·cases g
 next cs k n D=>
 split at g
 ·cases g;exact⟨.inl rfl,λ_=>rfl⟩
 next F=>
 have u:=zD i p ns cs k n D (by omega);split at g
 ·next A=>
  subst A;have e:bL nz (i.map Ex.ty)=yV (i.map Ex.ty):=rfl;rw[e]at j ⊢;obtain⟨t,s⟩:∃t,i.map Ex.ty= [t]:=by
   unfold yV at j;split at j
   ·next t w=>exact⟨t,w⟩
   ·exact absurd rfl j
  rw[s]at u ⊢;obtain⟨c,rfl,C⟩:=CE u;rw[AX]at g;split at g
  ·cases g;exact⟨C,λe=>absurd rfl e⟩
  ·cases g
 ·next A=>
  obtain⟨v,G,o,g1,B⟩:=NK x y z A j u;rw[o]at g
  cases g;exact⟨g1,B⟩
theorem Vk(fns:List Fn)(b:Bs)(B:b.length<=30)(hF:pX fns):∀(N j:Nat) (ps:Sc) (ax args:List aj) (e:Ex),Ty (fns.take j) ps e->BB (ps.1.map Prod.snd) ax->BB ps.2 args->Bv (pg fns b N ax args) e:=by
 intro N
 induction N with
 |zero=>intro j ps ax args e h w u ns r a;cases a
 |succ N ih=>
  intro j ps ax args e h w u ns r a;rcases JH h with⟨k,n,s,rfl,f⟩|rfl|⟨ty,p,rfl,l⟩|⟨c,p,rfl,l⟩|⟨h,z,q,g,A,rfl⟩|⟨h,z,q,i,fn,g,d,y,rfl⟩
  ·have:r=((k,n,s),0,ns):=by simpa[dI,pg]using a.symm
   subst this;exact⟨f,λe=>absurd rfl e⟩
  ·have:r=((2,0,b),0,ns):=by simpa[mK,pg]using a.symm
   subst this;exact⟨.inr (.inr (.inl ⟨rfl,_,rfl,B⟩)),λe=>absurd rfl e⟩
  ·obtain⟨v,o,f⟩:=uI u l;have:r=(v,0,ns):=by simpa[qd,pg,o,lD]using a.symm
   subst this;exact⟨f,λe=>absurd rfl e⟩
  ·obtain⟨v,o,f⟩:=uI w (p:=p) (t:=c.2) (by rw[List.getElem?_map,l];rfl);have:r=(v,0,ns):=by simpa[oC,pg,o,lD]using a.symm
   subst this;exact⟨f,λe=>absurd rfl e⟩
  ·rw[pg]at a;split at a
   ·cases a
   rw[if_neg (by decide),if_neg (by decide),if_neg (by decide),if_pos rfl]at a;exact Tt (λe x=>ih j ps ax args e (g e x) w u) A ns r a
  ·have m:fns[i]? =some fn:=by
    rw[List.getElem?_take]at d;split at d
    ·exact d
    ·cases d
   rw[pg]at a;split at a
   ·cases a
   rw[if_neg (by decide),if_neg (by decide),if_neg (by decide),if_neg (by decide),if_pos rfl,Er,m]at a;simp only at a;split at a
   ·cases a
   next cs k n o=>
   split at a
   ·cases a;exact⟨.inl rfl,λ_=>rfl⟩
   next C=>
   have f:=zD z (λe x=>ih j ps ax args e (g e x) w u) ns cs k n o (by omega);rw[y]at f;exact ih i ([],fn.args) [] cs fn.body (hF i fn m).1 trivial f n r a
end Go.Proofs.YtdifpeaklamhnaaGreatDoor

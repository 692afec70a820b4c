import Derived.Test.YtdifpeaklamhnaaGreatDoorRtEZ
import Derived.Test.YtdifpeaklamhnaaGreatDoorBaBZ
set_option linter.unusedVariables false
set_option linter.unusedSimpArgs false
set_option maxRecDepth 100000
set_option maxHeartbeats 0
namespace Go.Proofs.YtdifpeaklamhnaaGreatDoor
open Go.Proofs.Tryz
open Go.RowKit
open List (mem_of_getElem? mem_cons_of_mem map_cons mem_cons_self any_cons any_nil mem_map getElem?_set_ne)
open Bool (or_eq_true eq_false_iff)
def SE(o:Except Int Ex):Int:=match o with| .error _=>0| .ok x=>mZ x.ty
def Vo(o:Except Int Ex):Int:=match o with| .error n=>n| .ok _=>0
def dW(t:Int):Prop:=t=1\/t=2\/t=3
def ze(t:Int):UInt8:=if t=1 then 110 else if t=2 then 116 else 98
theorem OT{t:Int}(h:dW t):((ze t).toNat:Int)=mZ t/\dz (ze t)=true/\gL (ze t).toNat=t:=by
 rcases h with rfl|rfl|rfl<;>decide
theorem uA{a b:Int}(c:dW a)(hb:dW b)(h:ze a=ze b):a=b:=by
 rcases c with rfl|rfl|rfl<;>rcases hb with rfl|rfl|rfl<;>first|rfl|(exact absurd h (by decide))
theorem CS{a:Int}(b:dW a):mZ a≠0:=by
 rcases b with rfl|rfl|rfl<;>decide
structure ol(ps:Sc)(args:Bs)(rfs:List RF):Prop where
 VR:ps.2=aK args
 lets:args.all dz=true
 ay:∀c∈ps.1,dW c.2
 words:∀c∈ps.1,jO c.1=true
 Ux:∀r∈rfs,dW r.fn.body.ty
 EL:∀r∈rfs,r.fn.args=aK r.args/\r.args.all dz=true
 free:∀r∈rfs,bM r.fn.name=false
 BK:∀r∈rfs,0<=r.fn.body.size/\r.fn.body.size<=300
theorem kV{c:UInt8}(h:dz c=true):dW (gL c.toNat)/\mZ (gL c.toNat)=(c.toNat:Int):=by
 unfold dz at h;simp only[or_eq_true,beq_iff_eq]at h;rcases h with(rfl|rfl)|rfl<;>exact⟨by unfold dW;decide,by decide⟩
theorem Bl(g:Bs->Int){ps:Sc}{args:Bs}{G:List RF}(s:ol ps args G)(fns:List Fn){t:Tr}(J:ny t)(hb:t.br=false):
  SE (aY g ps fns t)=nD ps.1 args t.tx/\((∃x,aY g ps fns t=.ok x/\dW x.ty)\/aY g ps fns t=.error 2):=by
 obtain⟨k,a,I,F⟩:=t;obtain⟨N,u,M⟩:=J hb;have v:I=false:=hb;have y:k=aQ a:=M;subst v y;have b:fU a=true:=u;show SE (aY g ps fns (.mk (aQ a) a false F))=nD ps.1 args a/\_;have p:(a== [40])=false:=by
  rw[eq_false_iff];intro e;rw[beq_iff_eq]at e;subst e;exact absurd b (by decide)
 have q:(a== [41])=false:=by
  rw[eq_false_iff];intro e;rw[beq_iff_eq]at e;subst e;exact absurd b (by decide)
 have E:jG a=false:=by
  rw[eq_false_iff];intro e;rw[(vP e).1]at b;cases b
 rw[aY,if_neg Bool.false_ne_true];have f:aQ a=if dQ a then 3 else if cz a then 4 else if iC a then 7 else if aS a then 5 else if jO a then 6 else 0:=by
  unfold aQ;rw[p,q,E];rfl
 cases h:dQ a with
 |true=>
  have z:aQ a=3:=by rw[f,h];rfl
  rw[z,if_neg (by decide),if_neg (by decide)];exact⟨by rw[nD,h];rfl,.inl ⟨_,rfl,.inl rfl⟩⟩
 |false=>
  rw[h,if_neg Bool.false_ne_true]at f
  cases j:cz a with
  |true=>
   have A:aQ a=4:=by rw[f,j];rfl
   rw[A,if_neg (by decide),if_neg (by decide)];exact⟨by rw[nD,h,j];rfl,.inl ⟨_,rfl,.inr (.inl rfl)⟩⟩
  |false=>
   rw[j,if_neg Bool.false_ne_true]at f
   cases m:iC a with
   |true=>
    have D:aQ a=7:=by rw[f,m];rfl
    rw[D,if_neg (by decide),if_pos rfl];obtain⟨c,rfl,K,L⟩:=uI m;have r:nD ps.1 args [36,c]=qN args [36,c]:=by
     rw[nD,h,j,m];rfl
    rw[r,xO,qN,s.VR,aK,List.getElem?_map]
    cases n:args[(([36,c]:Bs).getD 1 0).toNat- 49]? with
    |none=>exact⟨rfl,.inr rfl⟩
    |some d=>
     have H:dz d=true:=List.all_eq_true.mp s.lets d (mem_of_getElem? n);exact⟨(kV H).2,.inl ⟨_,rfl,(kV H).1⟩⟩
   |false=>
    rw[m,if_neg Bool.false_ne_true]at f
    cases o:aS a with
    |true=>
     have B:aQ a=5:=by rw[f,o];rfl
     have l:jh a=true:=by
      have w:=(kW o).2.2.2.2.1;rw[fU,h,j,m,w]at b;simpa using b
     rw[B,if_neg (by decide),if_neg (by decide)];unfold jh at l;simp only[or_eq_true,beq_iff_eq]at l;rcases l with(rfl|rfl)|rfl
     ·exact⟨by rw[nD,h,j];rfl,.inl ⟨_,rfl,.inr (.inr rfl)⟩⟩
     ·exact⟨by rw[nD,h,j];rfl,.inl ⟨_,rfl,.inr (.inr rfl)⟩⟩
     ·exact⟨by rw[nD,h,j];rfl,.inl ⟨_,rfl,.inr (.inl rfl)⟩⟩
    |false=>
     have l:jh a=false:=by
      rw[eq_false_iff];intro e;rw[uQ e]at o;cases o
     have w:jO a=true:=by
      rw[fU,h,j,m,l]at b;simpa using b
     have C:aQ a=6:=by rw[f,o,w];rfl
     rw[C,if_pos rfl];unfold jh at l;simp only[Bool.or_eq_false_iff]at l;have r:nD ps.1 args a=wR ps.1 (mP ps.1 a):=by
      rw[nD,h,j,m,show(a==xD)=false from l.2,show(a==xC)=false from l.1.1,show(a==qZ)=false from l.1.2];rfl
     rw[r,uk]
     cases O:mP ps.1 a with
     |none=>exact⟨rfl,.inr rfl⟩
     |some i=>
      cases n:ps.1[i]? with
      |none=>exact⟨by simp only[wR,n];rfl,.inr (by simp only[n])⟩
      |some c=>exact⟨by simp only[wR,n];rfl,.inl ⟨wK c.2 i,by simp only[n],s.ay c (mem_of_getElem? n)⟩⟩
def aN(es:List Ex):Bs:=es.map λx=>ze x.ty
theorem Kz{ls:List Int}{a:List Ex}(c:∀z∈ls,dW z)(b:∀x∈a,dW x.ty):(aN a==ls.map ze)=decide (a.map Ex.ty=ls):=by
 rw[Bool.eq_iff_iff,beq_iff_eq,decide_eq_true_eq]
 induction a generalizing ls with
 |nil=>cases ls<;>simp[aN]
 |cons x f ih=>
  cases ls with
  |nil=>simp[aN]
  |cons z e=>
   have:=ih (ls:=e) (λd h=>c d (mem_cons_of_mem _ h)) (λy h=>b y (mem_cons_of_mem _ h));simp only[aN,map_cons,List.cons.injEq]at this ⊢;rw[this];exact⟨λh=>⟨uA (b x (mem_cons_self ..)) (c z (mem_cons_self ..)) h.1,h.2⟩,λh=>⟨by rw[h.1],h.2⟩⟩
theorem Sb{n:Int}(d:dW n){a:List Ex}(b:∀x∈a,dW x.ty):jr (aN a) (ze n)=(decide (0<(a.map Ex.ty).length)&&(a.map Ex.ty).all (· ==n)):=by
 have c:(aN a).all (· ==ze n)=(a.map Ex.ty).all (· ==n):=by
  induction a with
  |nil=>rfl
  |cons x f ih=>
   have e:=ih (λy h=>b y (mem_cons_of_mem _ h));simp only[aN,map_cons,List.all_cons]at e ⊢;rw[e];congr 1;rw[Bool.eq_iff_iff,beq_iff_eq,beq_iff_eq];exact⟨λh=>uA (b x (mem_cons_self ..)) d h,λh=>by rw[h]⟩
 unfold jr;rw[c,Bool.and_comm];congr 1
 cases a<;>simp[aN]
theorem yS{h:Bs}(hb:bM h=true){d:List Ex}(g:∀x∈d,dW x.ty):vG h (aN d)=mZ (bK h (d.map Ex.ty))/\(bK h (d.map Ex.ty)≠0->dW (bK h (d.map Ex.ty))):=by
 have t1:dW 1:=.inl rfl;have t2:dW 2:=.inr (.inl rfl);have t3:dW 3:=.inr (.inr rfl);have L:∀(i:List Int) (n:Int),(∀z∈i,dW z)->dW n->iH (aN d==i.map ze) (mZ n)=mZ (ig i n (d.map Ex.ty))/\(ig i n (d.map Ex.ty)≠0->dW (ig i n (d.map Ex.ty))):=by
  intro i n o k;rw[Kz o g,ig,iH];by_cases h:d.map Ex.ty=i
  ·rw[if_pos h,decide_eq_true h];exact⟨rfl,λ_=>k⟩
  ·rw[if_neg h,decide_eq_false h];exact⟨rfl,λh=>absurd rfl h⟩
 have A:∀n:Int,dW n->iH (jr (aN d) (ze n)) (mZ n)=mZ (kF n (d.map Ex.ty))/\(kF n (d.map Ex.ty)≠0->dW (kF n (d.map Ex.ty))):=by
  intro n k;rw[Sb k g,kF,iH];by_cases h:0<(d.map Ex.ty).length/\(d.map Ex.ty).all (· ==n)=true
  ·rw[if_pos h,decide_eq_true h.1,h.2];exact⟨rfl,λ_=>k⟩
  ·rw[if_neg h];have:(decide (0<(d.map Ex.ty).length)&&(d.map Ex.ty).all (· ==n))=false:=by
    rw[eq_false_iff];intro e;rw[Bool.and_eq_true,decide_eq_true_eq]at e;exact h e
   rw[this];exact⟨rfl,λh=>absurd rfl h⟩
 have C:iH (uZ (aN d)) 98=mZ (nU (d.map Ex.ty))/\(nU (d.map Ex.ty)≠0->dW (nU (d.map Ex.ty))):=by
  match d,g with
  | [],_=>exact⟨rfl,λh=>absurd rfl h⟩
  | [_],_=>exact⟨rfl,λh=>absurd rfl h⟩
  | [a,b],g=>
   have j:=g a (by simp);have hb:=g b (by simp);show iH (ze a.ty==ze b.ty) 98=mZ (if a.ty=b.ty then 3 else 0)/\((if a.ty=b.ty then 3 else 0)≠0->dW (if a.ty=b.ty then 3 else 0));by_cases h:a.ty=b.ty
   ·rw[if_pos h,h];simp[iH,mZ];exact t3
   ·have:(ze a.ty==ze b.ty)=false:=by
     rw[beq_eq_false_iff_ne];intro e;exact h (uA j hb e)
    rw[if_neg h,this];exact⟨rfl,λh=>absurd rfl h⟩
  |_::_::_::_,_=>exact⟨rfl,λh=>absurd rfl h⟩
 simp only[bM,oG,any_cons,any_nil,or_eq_true,beq_iff_eq,Bool.or_false]at hb;rcases hb with rfl|rfl|rfl|rfl|rfl|rfl|rfl|rfl|rfl|rfl|rfl|rfl|rfl|rfl|rfl
 ·exact L [1,1] 1 (by intro z f;simp at f;rw[f];exact t1) t1
 ·exact L [1,1] 1 (by intro z f;simp at f;rw[f];exact t1) t1
 ·exact L [1,1] 1 (by intro z f;simp at f;rw[f];exact t1) t1
 ·exact L [1,1] 1 (by intro z f;simp at f;rw[f];exact t1) t1
 ·exact C
 ·exact C
 ·exact C
 ·exact A 3 t3
 ·exact A 3 t3
 ·exact L [3] 3 (by intro z f;simp at f;rw[f];exact t3) t3
 ·match d,g with
  | [],_=>exact⟨rfl,λh=>absurd rfl h⟩
  | [_],_=>exact⟨rfl,λ_=>t3⟩
  |a::b::l,_=>
   refine⟨?_,λh=>absurd rfl h⟩;show iH (((aN (a::b::l)).length:Int)==1) 98=0;have:(((aN (a::b::l)).length:Int)==1)=false:=by simp[aN];omega
   rw[this];rfl
 ·match d,g with
  | [],_=>exact⟨rfl,λh=>absurd rfl h⟩
  | [_],_=>exact⟨rfl,λh=>absurd rfl h⟩
  | [_,_],_=>exact⟨rfl,λh=>absurd rfl h⟩
  | [c,a,b],g=>
   have m:=g c (by simp);have j:=g a (by simp);have hb:=g b (by simp);show(if ze c.ty=98/\ze a.ty=ze b.ty then((ze a.ty).toNat:Int)else 0)=mZ (if c.ty=3/\a.ty=b.ty then a.ty else 0)/\((if c.ty=3/\a.ty=b.ty then a.ty else 0)≠0->dW (if c.ty=3/\a.ty=b.ty then a.ty else 0));by_cases h:c.ty=3/\a.ty=b.ty
   ·rw[if_pos h,if_pos ⟨by rw[h.1];rfl,by rw[h.2]⟩];exact⟨(OT j).1,λ_=>j⟩
   ·rw[if_neg h,if_neg (λe=>h ⟨uA m t3 e.1,uA j hb e.2⟩)];exact⟨rfl,λh=>absurd rfl h⟩
  |_::_::_::_::_,_=>exact⟨rfl,λh=>absurd rfl h⟩
 ·exact L [2] 1 (by intro z f;simp at f;rw[f];exact t2) t1
 ·exact A 2 t2
 ·match d,g with
  | [],_=>exact⟨rfl,λh=>absurd rfl h⟩
  | [a],g=>exact⟨(OT (g a (by simp))).1,λ_=>g a (by simp)⟩
  |_::_::_,_=>exact⟨rfl,λh=>absurd rfl h⟩
mutual
theorem wm(b:Bs->Int){ps:Sc}{args:Bs}{c:List RF}(g:ol ps args c):∀(t:Tr) (x:Ex),(∀y∈post t,ny y)->aY b ps (RF.list c) t=.ok x->dW x.ty
 | .mk k tx false ops,x,hL,d=>by
  rcases(Bl b g (RF.list c) (hL (.mk k tx false ops) (by rw[post];simp)) rfl).2 with⟨y,l,p⟩|h
  ·rw[d]at l;cases l;exact p
  ·rw[d]at h;cases h
 | .mk k tx true ops,x,hL,d=>by
  rw[aY,if_pos rfl]at d
  cases e:bW b ps (RF.list c) ops with
  |error n=>rw[e]at d;cases d
  |ok j=>
   rw[e]at d;have q:=tV b g ops j (λy v=>hL y (by rw[post];exact List.mem_append_left _ v)) e;have a:pQ (RF.list c) tx j=.ok x:=d;unfold pQ at a
   cases hb:bM tx with
   |true=>
    rw[hb,if_pos rfl]at a;split at a
    ·cases a
    ·next o=>cases a;exact(yS hb q).2 o
   |false=>
    rw[hb,if_neg Bool.false_ne_true]at a;unfold og at a;split at a
    ·cases a
    ·next i w=>
     split at a
     ·cases a
     ·next f s=>
      split at a
      ·cases a;have m:=mem_of_getElem? s;rw[RF.list,mem_map]at m;obtain⟨r,u,rfl⟩:=m;exact g.Ux r u
      ·cases a
theorem tV(a:Bs->Int){ps:Sc}{args:Bs}{c:List RF}(g:ol ps args c):∀(e:List Tr) (d:List Ex),(∀y∈bV e,ny y)->bW a ps (RF.list c) e=.ok d->∀x∈d,dW x.ty
 | [],d,hL,h=>by rw[bW]at h;cases h;simp
 |t::e,d,hL,h=>by
  rw[bV]at hL;rw[bW]at h;split at h
  ·cases h
  ·next x i=>
   split at h
   ·cases h
   ·next j f=>
    cases h;intro y b;rcases List.mem_cons.mp b with rfl|b
    ·exact wm a g t _ (λy b=>hL y (List.mem_append_left _ b)) i
    ·exact tV a g e j (λy b=>hL y (List.mem_append_right _ b)) f y b
end
def yD(rfs:List RF)(tx:Bs)(lets:Bs):Int:=match aV (RF.list rfs) tx with
 |some i=>(match rfs[i]? with|none=>0|some r=>iH (lets==r.args) (mZ r.fn.body.ty))
 |none=>vG tx lets
def jB(rfs:List RF)(tx:Bs)(lets:Bs):Int:=if(aV (RF.list rfs) tx).isNone&& !bM tx then 2 else if yD rfs tx lets=0 then 3 else 0
theorem jE{fns:List Fn}{l:Bs}{i:Nat}(h:aV fns l=some i):∃f,fns[i]? =some f/\f.name=l:=by
 unfold aV at h;obtain⟨a,b,_⟩:=List.findIdx?_eq_some_iff_getElem.mp h;exact⟨fns[i],List.getElem?_eq_getElem a,by simpa using b⟩
theorem QF(d:Bs->Int){ps:Sc}{args:Bs}{a:List RF}(v:ol ps args a){k:Int}{tx:Bs}{j:List Tr}{b:List Ex}(B:bW d ps (RF.list a) j=.ok b)(C:∀x∈b,dW x.ty):
  Vo (aY d ps (RF.list a) (.mk k tx true j))=jB a tx (aN b)/\(jB a tx (aN b)=0->∃x,aY d ps (RF.list a) (.mk k tx true j)=.ok x/\mZ x.ty=yD a tx (aN b))/\(jB a tx (aN b)≠0->aY d ps (RF.list a) (.mk k tx true j)=.error (jB a tx (aN b))):=by
 rw[aY,if_pos rfl,B];show Vo (pQ (RF.list a) tx b)=_/\(_->∃x,pQ (RF.list a) tx b=.ok x/\_)/\(_->pQ (RF.list a) tx b=_);unfold pQ
 cases hb:bM tx with
 |true=>
  rw[if_pos rfl];have E:aV (RF.list a) tx=none:=by
   cases n:aV (RF.list a) tx with
   |none=>rfl
   |some i=>
    obtain⟨f,m,u⟩:=jE n;have s:=mem_of_getElem? m;rw[RF.list,mem_map]at s;obtain⟨r,o,rfl⟩:=s;rw[<-u,v.free r o]at hb;cases hb
  obtain⟨m,u⟩:=yS hb C;have q:yD a tx (aN b)=mZ (bK tx (b.map Ex.ty)):=by rw[yD,E];exact m
  have p:jB a tx (aN b)=if mZ (bK tx (b.map Ex.ty))=0 then 3 else 0:=by rw[jB,E,hb,q];rfl
  rw[p,q];by_cases t:bK tx (b.map Ex.ty)=0
  ·rw[if_pos t,t];exact⟨rfl,λh=>absurd h (by decide),λ_=>rfl⟩
  ·have l:=CS (u t);rw[if_neg t,if_neg l];exact⟨rfl,λ_=>⟨_,rfl,rfl⟩,λh=>absurd rfl h⟩
 |false=>
  rw[if_neg Bool.false_ne_true];unfold og
  cases n:aV (RF.list a) tx with
  |none=>
   have p:jB a tx (aN b)=2:=by rw[jB,n,hb];rfl
   rw[p];exact⟨rfl,λh=>absurd h (by decide),λ_=>rfl⟩
  |some i=>
   obtain⟨f,m,_⟩:=jE n;have e:=m;rw[RF.list,List.getElem?_map]at e
   cases o:a[i]? with
   |none=>rw[o]at e;cases e
   |some r=>
    rw[o]at e;have y:r.fn=f:=Option.some.inj e;subst y;have s:=mem_of_getElem? o;have q:yD a tx (aN b)=iH (aN b==r.args) (mZ r.fn.body.ty):=by simp only[yD,n,o]
    have p:jB a tx (aN b)=if iH (aN b==r.args) (mZ r.fn.body.ty)=0 then 3 else 0:=by rw[jB,n,hb,q];rfl
    have H:(aN b==r.args)=decide (b.map Ex.ty=r.fn.args):=by
     obtain⟨G,D⟩:=v.EL r s;have A:r.args=(aK r.args).map ze:=by
      rw[aK,List.map_map];conv=>lhs;rw[<-List.map_id r.args]
      refine List.map_congr_left λc w=> ?_;have:=List.all_eq_true.mp D c w;unfold dz at this;simp only[or_eq_true,beq_iff_eq]at this;rcases this with(rfl|rfl)|rfl<;>decide
     rw[A,G];refine Kz (λz F=> ?_) C;rw[aK,mem_map]at F;obtain⟨c,w,rfl⟩:=F;exact(kV (List.all_eq_true.mp D c w)).1
    rw[p,q,H];simp only[m];by_cases g:b.map Ex.ty=r.fn.args
    ·have l:=CS (v.Ux r s);rw[if_pos g,decide_eq_true g,iH,if_pos rfl,if_neg l];exact⟨rfl,λ_=>⟨_,rfl,rfl⟩,λh=>absurd rfl h⟩
    ·rw[if_neg g,decide_eq_false g,show iH false (mZ r.fn.body.ty)=0 from rfl,if_pos rfl];exact⟨rfl,λh=>absurd h (by decide),λ_=>rfl⟩
def gy:List Bs:=[[97,110,100],[111,114],[110,111,116],[105,115,110,117,108,108],[105,102],[108,101,110],[99,97,116],[110,111,116,101]]
theorem wF(l:Bs):bM l=(jG l||gN gy l):=by
 rw[<-nW];unfold gN fZ gy bM oG;simp only[List.contains_cons,List.contains_nil,Bool.or_false,any_cons,any_nil];simp only[Bool.or_assoc]
theorem vU(x:World):Calls prog 179 #[] x λe w'=>e=.returned (.slice (some ⟨x.heap.size,0,none⟩) 7 7)/\w'=x.alloc (.cells (fZ.map λt=>Value.string (aa t)).toArray 9):=by
 go_enter Tryz.func179,Tryz.ntmps179
 go_wp2
 go_ret;exact⟨rfl,rfl⟩
theorem uM(x:World):Calls prog 115 #[] x λe w'=>e=.returned (.slice (some ⟨x.heap.size,0,none⟩) 8 8)/\w'=x.alloc (.cells (gy.map λt=>Value.string (aa t)).toArray 9):=by
 go_enter Tryz.func115,Tryz.ntmps115
 go_wp2
 go_ret;exact⟨rfl,rfl⟩
theorem uh(L:List Bs)(n:Nat)(c:L.length=n)(a:n<=100000)(x:World)(b:Nat)(hb:x.heap[b]? =some (.cells (L.map λt=>Value.string (aa t)).toArray 9 (0,0)))(l:Bs):
  Calls prog 114 #[.slice (some ⟨b,0,none⟩) n n,.string (aa l)] x λe w'=>e=.returned (.bool (gN L l))/\w'=x:=by
 subst c;have:=AQ L (aa l) x b 0 L.length (Nat.le_refl _) a (λi h=>by simp[World.cell?,hb,h]);rw[aj]at this;exact this
theorem II{w:World}{v:Value}{n m g cap q:Nat}{k cs:List Value}(h:w.ownsRow 0 3 1 v n k)(j:w.ownsRow 0 183 4 (.slice (some ⟨g,0,none⟩) m cap) m cs)(f:v.ownBlock=some q):q≠g:=by
 intro e;subst e;rcases h.2 with⟨rfl,_⟩|⟨g1,l,b,rfl,_,i,_⟩
 ·cases f
 ·have:g1=q:=Option.some.inj f;subst this;rcases j.2 with⟨a,_⟩|⟨p,o,c,a,_,d,_⟩
  ·cases a
  ·cases a;rw[i]at d;cases d
theorem iV.stored{w:World}{S:Nat->Prop}{cs:List Value}{l:List Tr}{ty:Nat->Int}{g cap i:Nat}{n:Int}(s:iV w S cs 0 l ty)(h:w.ownsRow 0 183 4 (.slice (some ⟨g,0,none⟩) l.length cap) l.length cs)(y:i<l.length):
  iV (w.setCell ⟨g,i*4+3,none⟩ (.int .u8 n)) S (cs.set (i*4+3) (.int .u8 n)) 0 l (λj=>if j=i then n else ty j):=by
 have k:cs.length=l.length*4:=h.1;intro j t u;obtain⟨v,is,a,b,c,d,f,m,o,p,r⟩:=s j t u;rw[Nat.zero_add]at a b c d;refine⟨v,is, ?_, ?_, ?_, ?_,aA f λq x=>Below.heap_setCell _ _ _ _ (II f h x),m,o,p,r⟩
 ·rw[Nat.zero_add,getElem?_set_ne (by omega)];exact a
 ·rw[Nat.zero_add,getElem?_set_ne (by omega)];exact b
 ·rw[Nat.zero_add,getElem?_set_ne (by omega)];exact c
 ·rw[Nat.zero_add];by_cases e:j=i
  ·subst e;rw[show 4*j+3=j*4+3 by omega,List.getElem?_set_self (by omega)];simp only[if_true]
  ·rw[getElem?_set_ne (by omega)];simp only[if_neg e];exact d
theorem iV.grown{w x:World}{S:Nat->Prop}{cs:List Value}{lo:Nat}{l:List Tr}{ty:Nat->Int}(h:iV w S cs lo l ty)(m:∀g,g<w.heap.size->x.heap[g]? =w.heap[g]?):iV x S cs lo l ty:=by
 intro j t k;obtain⟨v,is,b,c,d,e,a,f⟩:=h j t k;exact⟨v,is,b,c,d,e,aA a λg i=>m g (a.lt g i).2,f⟩
theorem iV.congr{w:World}{S:Nat->Prop}{cs:List Value}{lo:Nat}{l:List Tr}{ty a:Nat->Int}(h:iV w S cs lo l ty)(e:∀j,j<l.length->ty j=a j):iV w S cs lo l a:=by
 intro j t b;obtain⟨v,is,c,d,f,g,i⟩:=h j t b;exact⟨v,is,c,d,f,by rw[<-e j (List.getElem?_eq_some_iff.mp b).1];exact g,i⟩
def lK(atoi:Bs->Int)(ps:Sc)(fns:List Fn)(l:List Tr)(i j:Nat):Int:=if j<i then(match l[j]? with|none=>0|some t=>SE (aY atoi ps fns t))else 0
theorem Jy{atoi:Bs->Int}{ps:Sc}{fns:List Fn}{l:List Tr}{i:Nat}(a:i<l.length)(j:Nat):(if j=i then SE (aY atoi ps fns l[i])else lK atoi ps fns l i j)=lK atoi ps fns l (i+1) j:=by
 unfold lK;by_cases e:j=i
 ·subst e;rw[if_pos rfl,if_pos (by omega),List.getElem?_eq_getElem a]
 ·rw[if_neg e];by_cases h:j<i
  ·rw[if_pos h,if_pos (by omega)]
  ·rw[if_neg h,if_neg (by omega)]
theorem Mo{atoi:Bs->Int}{ps:Sc}{fns:List Fn}{ops:List Tr}(h:∀t∈ops,∃x,aY atoi ps fns t=.ok x):∃a,bW atoi ps fns ops=.ok a/\a.length=ops.length/\∀(m:Nat) (t:Tr),ops[m]? =some t->∃x,a[m]? =some x/\aY atoi ps fns t=.ok x:=by
 induction ops with
 |nil=>exact⟨[],rfl,rfl,λm t h=>by simp at h⟩
 |cons t g ih=>
  obtain⟨x,c⟩:=h t (mem_cons_self ..);obtain⟨a,d,e,f⟩:=ih λy b=>h y (mem_cons_of_mem _ b);refine⟨x::a,by rw[bW,c,d],by simp[e],λm y b=> ?_⟩
  cases m with
  |zero=>simp at b;subst b;exact⟨x,rfl,c⟩
  |succ m=>simpa using f m y (by simpa using b)
end Go.Proofs.YtdifpeaklamhnaaGreatDoor

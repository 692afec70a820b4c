import Derived.Test.YtdifpeaklamhnaaGreatDoorRefVZ
import Derived.Test.YtdifpeaklamhnaaGreatDoorTyMZ
set_option linter.unusedVariables false
set_option linter.unusedSimpArgs false
set_option maxRecDepth 100000
set_option maxHeartbeats 0
namespace Go.Proofs.YtdifpeaklamhnaaGreatDoor
open Go.Proofs.Tryz
open Go.RowKit
open List (getElem?_append_left length_append mem_append_left mem_append_right findIdx?_cons getElem?_eq_getElem)
open Below (refl)
def Tr.kd:Tr->Int
 | .mk k _ _ _=>k
def Tr.tx:Tr->Bs
 | .mk _ t _ _=>t
def Tr.br:Tr->Bool
 | .mk _ _ b _=>b
def Tr.ops:Tr->List Tr
 | .mk _ _ _ o=>o
mutual
def post:Tr->List Tr
 | .mk k tx br ops=>bV ops++ [.mk k tx br ops]
def bV:List Tr->List Tr
 | []=>[]
 |t::ts=>post t++bV ts
end
def ny(t:Tr):Prop:=t.br=false->t.ops= []/\fU t.tx=true/\t.kd=aQ t.tx
theorem dE:∀t:Tr,(post t)[(post t).length- 1]? =some t
 | .mk k c b a=>by rw[post];simp
def BZ(w:World)(S:Nat->Prop)(cs:List Value)(lo:Nat)(l:List Tr)(ty:Nat->Int)(j:Nat)(t:Tr):Prop:=∃(v:Value) (is:List Nat),
 cs[4*(lo+j)]? =some (.string (aa t.tx))/\cs[4*(lo+j)+1]? =some (.bool t.br)/\cs[4*(lo+j)+2]? =some v/\cs[4*(lo+j)+3]? =some (.int .u8 (ty j))/\
 w.ownsRow 0 3 1 v t.ops.length (is.map λj:Nat=>Value.int .i64 (j:Int))/\(∀g,v.ownBlock=some g->S g)/\is.length=t.ops.length/\ny t/\
 ∀(m q:Nat),is[m]? =some q->∃q',q=lo+q'/\q'<j/\l[q']? =t.ops[m]?
def iV(w:World)(S:Nat->Prop)(cs:List Value)(lo:Nat)(l:List Tr)(ty:Nat->Int):Prop:=∀(j:Nat) (t:Tr),l[j]? =some t->BZ w S cs lo l ty j t
theorem Mg{w:World}{S:Nat->Prop}{cs:List Value}{lo:Nat}{a b:List Tr}(y:iV w S cs lo a (λ_=>0))(hb:iV w S cs (lo+a.length) b (λ_=>0)):iV w S cs lo (a++b) (λ_=>0):=by
 intro j t k;rcases Nat.lt_or_ge j a.length with h|h
 ·rw[getElem?_append_left h]at k;obtain⟨v,is,d,f,g,i,l,n,o,p,r⟩:=y j t k;refine⟨v,is,d,f,g,i,l,n,o,p,λm q u=> ?_⟩;obtain⟨c,e,x,s⟩:=r m q u;exact⟨c,e,x,by rw[getElem?_append_left (by omega)];exact s⟩
 ·rw[List.getElem?_append_right h]at k;obtain⟨v,is,d,f,g,i,l,n,o,p,r⟩:=hb _ t k;have e:lo+a.length+(j- a.length)=lo+j:=by omega
  rw[e]at d f g i;refine⟨v,is,d,f,g,i,l,n,o,p,λm q u=> ?_⟩;obtain⟨c,e,x,s⟩:=r m q u;exact⟨a.length+c,by omega,by omega,by rw[List.getElem?_append_right (by omega),show a.length+c- a.length=c by omega];exact s⟩
mutual
theorem Ad.nodes{w:World}{S:Nat->Prop}{cs:List Value} :∀ {lo i:Nat} {t:Tr},Ad w S cs lo i t->iV w S cs lo (post t) (λ_=>0)/\lo+(post t).length=i+1
 |lo,i,.mk k tx br ops,.mk (v:=v) (is:=is) a b c c3 d e f l _=>by
  obtain⟨y,K,z,A⟩:=jl.nodes f;rw[post];refine⟨λj t g=> ?_,by rw[length_append,List.length_singleton];omega⟩;rcases Nat.lt_or_ge j (bV ops).length with h|h
  ·rw[getElem?_append_left h]at g;obtain⟨v,is,B,C,D,E,F,G,H,I,J⟩:=y j t g;refine⟨v,is,B,C,D,E,F,G,H,I,λm q r=> ?_⟩;obtain⟨s,e,p,o⟩:=J m q r;exact⟨s,e,p,by rw[getElem?_append_left (by omega)];exact o⟩
  ·rw[List.getElem?_append_right h]at g;have x:j- (bV ops).length=0:=by have:=(List.getElem?_eq_some_iff.mp g).1;simp at this;omega
   rw[x]at g;simp at g;subst g;have n:4*(lo+j)=4*i:=by omega
   refine⟨v,is,by rw[n];exact a,by rw[n];exact b,by rw[n];exact c,by rw[n];exact c3,d,e,z,l,λm q r=> ?_⟩;obtain⟨s,u,p,o⟩:=A m q r;exact⟨s,u,by omega,by rw[getElem?_append_left p];exact o⟩
theorem jl.nodes{w:World}{S:Nat->Prop}{cs:List Value} :∀ {lo f:Nat} {is:List Nat} {c:List Tr},jl w S cs lo f is c->iV w S cs lo (bV c) (λ_=>0)/\lo+(bV c).length=f/\is.length=c.length/\∀(m q:Nat),is[m]? =some q->∃d,q=lo+d/\d<(bV c).length/\(bV c)[d]? =c[m]?
 |lo,_,_,_,.nil=>⟨λj t h=>by simp[bV]at h,by simp[bV],rfl,λm q h=>by simp at h⟩
 |lo,f,_,_,.cons (i:=i) (t:=t) (ts:=c) a b=>by
  obtain⟨l,n⟩:=Ad.nodes a;obtain⟨o,x,p,r⟩:=jl.nodes b;rw[bV];have e:lo+(post t).length=i+1:=n;refine⟨Mg l (by rw[e];exact o),by rw[length_append];omega,by simp[p],λm q g=> ?_⟩
  cases m with
  |zero=>
   simp at g;subst g;have k:=dE t;have u:0<(post t).length:=List.length_pos_of_mem (List.mem_of_getElem? k);exact⟨(post t).length- 1,by omega,by rw[length_append];omega,by rw[getElem?_append_left (by omega),k];rfl⟩
  |succ m=>
   obtain⟨d,v,y,s⟩:=r m q (by simpa using g);refine⟨(post t).length+d,by omega,by rw[length_append];omega, ?_⟩;rw[List.getElem?_append_right (by omega),show(post t).length+d- (post t).length=d by omega,s];simp
end
mutual
theorem Ad.texts{w:World}{S:Nat->Prop}{cs:List Value} :∀ {lo i:Nat} {t:Tr},Ad w S cs lo i t->∀y∈post t,y.tx.length<=maxLen
 |lo,i,.mk k tx br ops,.mk a b c c3 d e f l z,y,hy=>by
  rw[post]at hy;rcases List.mem_append.mp hy with h|h
  ·exact jl.texts f y h
  ·rw[List.mem_singleton.mp h];exact z
theorem jl.texts{w:World}{S:Nat->Prop}{cs:List Value} :∀ {lo d:Nat} {is:List Nat} {c:List Tr},jl w S cs lo d is c->∀y∈bV c,y.tx.length<=maxLen
 |_,_,_,_,.nil,y,hy=>by simp[bV]at hy
 |_,_,_,_,.cons a b,y,hy=>by
  rw[bV]at hy;rcases List.mem_append.mp hy with h|h
  ·exact Ad.texts a y h
  ·exact jl.texts b y h
end
mutual
theorem FV(a:Bs->Int)(ps:Sc)(fns:List Fn):∀(t:Tr) (b:List Tr) (s:Tr) (d:List Tr) (n:Int),(∀x∈post t,ny x)->post t=b++s::d->(∀p∈b,∃x,aY a ps fns p=.ok x)->aY a ps fns s=.error n->aY a ps fns t=.error n
 | .mk k tx h ops,b,s,d,n,hL,he,hp,hs=>by
  rw[post]at he;by_cases f:d= []
  ·subst f;have:=(List.append_inj' he rfl).2;simp at this;rw[this];exact hs
  ·obtain⟨c,e⟩:∃c,bV ops=b++s::c:=by
    refine⟨d.dropLast, ?_⟩;have g:=congrArg List.dropLast he;rw[List.dropLast_concat,List.dropLast_append_of_ne_nil (by simp),List.dropLast_cons_of_ne_nil f]at g;exact g
   have i:=vT a ps fns ops b s c n (λx j=>hL x (by rw[post];exact mem_append_left _ j)) e hp hs
   cases h with
   |false=>
    have:=(hL (.mk k tx false ops) (by rw[post];simp) rfl).1;rw[show(Tr.mk k tx false ops).ops=ops from rfl]at this;subst this;simp[bV]at e
   |true=>rw[aY,if_pos rfl,i];rfl
theorem vT(c:Bs->Int)(ps:Sc)(fns:List Fn):∀(k:List Tr) (d:List Tr) (s:Tr) (e:List Tr) (n:Int),(∀x∈bV k,ny x)->bV k=d++s::e->(∀p∈d,∃x,aY c ps fns p=.ok x)->aY c ps fns s=.error n->bW c ps fns k=.error n
 | [],d,s,e,n,hL,he,hp,hs=>by simp[bV]at he
 |t::k,d,s,e,n,hL,he,hp,hs=>by
  rw[bV]at he hL;rcases List.append_eq_append_iff.mp he with⟨a,i,j⟩|⟨a,i,j⟩
  ·have g:∃x,aY c ps fns t=.ok x:=hp t (by rw[i];exact mem_append_left _ (List.mem_of_getElem? (dE t)));obtain⟨x,f⟩:=g;have:=vT c ps fns k a s e n (λx f=>hL x (mem_append_right _ f)) j (λp h=>hp p (by rw[i];exact mem_append_right _ h)) hs;rw[bW,f,this]
  ·cases a with
   |nil=>
    rw[List.append_nil]at i;rw[List.nil_append]at j;have g:∃x,aY c ps fns t=.ok x:=hp t (by rw[<-i];exact List.mem_of_getElem? (dE t));obtain⟨x,f⟩:=g;have:=vT c ps fns k [] s e n (λx f=>hL x (mem_append_right _ f)) j.symm (λp h=>by simp at h) hs;rw[bW,f,this]
   |cons b a=>
    rw[List.cons_append,List.cons.injEq]at j;have:=FV c ps fns t d s a n (λx f=>hL x (mem_append_left _ f)) (by rw[i,j.1]) hp hs;rw[bW,this]
end
def IC(fns:List Fn)(t:Tr):Int:=if t.br&& !bM t.tx then(match aV fns t.tx with|none=>0|some i=>match fns[i]? with|none=>0|some f=>f.body.size)else 0
def lV:List Int->Int
 | []=>0
 |x::xs=>x+lV xs
theorem zP(a b:List Int):lV (a++b)=lV a+lV b:=by
 induction a with
 |nil=>simp[lV]
 |cons x c ih=>simp[lV,ih];omega
theorem GD(a:Bs->Int)(k:Int)(b:Bs):(dx a k b).size=1:=by
 unfold dx;repeat' split
 all_goals rfl
mutual
theorem vS(c:Bs->Int)(ps:Sc)(fns:List Fn):∀(t:Tr) (x:Ex),(∀y∈post t,ny y)->aY c ps fns t=.ok x->x.size=(post t).length+lV ((post t).map (IC fns))
 | .mk k tx h ops,x,hL,b=>by
  rw[post]at hL ⊢;rw[List.map_append,zP,length_append]
  cases h with
  |false=>
   have g:=(hL (.mk k tx false ops) (by simp) rfl).1;rw[show(Tr.mk k tx false ops).ops=ops from rfl]at g;subst g;rw[aY,if_neg Bool.false_ne_true]at b;have m:x.size=1:=by
    split at b
    ·unfold uk at b;split at b
     ·cases b
     ·split at b
      ·cases b
      ·cases b;rfl
    ·split at b
     ·unfold xO at b;split at b
      ·cases b
      ·cases b;rfl
     ·cases b;exact GD _ _ _
   rw[m];simp[bV,lV,IC,Tr.br]
  |true=>
   rw[aY,if_pos rfl]at b
   cases d:bW c ps fns ops with
   |error n=>rw[d]at b;cases b
   |ok e=>
    rw[d]at b;have p:=zw c ps fns ops e (λy o=>hL y (mem_append_left _ o)) d;have a:pQ fns tx e=.ok x:=b;unfold pQ at a
    cases hb:bM tx with
    |true=>
     rw[hb,if_pos rfl]at a;split at a
     ·cases a
     ·cases a;simp[Ex.size,lV,IC,Tr.br,Tr.tx,hb];omega
    |false=>
     rw[hb,if_neg Bool.false_ne_true]at a;unfold og at a;split at a
     ·cases a
     ·next i l=>
      split at a
      ·cases a
      ·next f j=>
       split at a
       ·cases a;simp[Ex.size,lV,IC,Tr.br,Tr.tx,hb,l,j];omega
       ·cases a
theorem zw(a:Bs->Int)(ps:Sc)(fns:List Fn):∀(b:List Tr) (c:List Ex),(∀y∈bV b,ny y)->bW a ps fns b=.ok c->aH c=(bV b).length+lV ((bV b).map (IC fns))
 | [],c,hL,h=>by
  rw[bW]at h;cases h;simp[bV,aH,lV]
 |t::b,c,hL,h=>by
  rw[bV]at hL ⊢;rw[bW]at h;split at h
  ·cases h
  ·next x f=>
   split at h
   ·cases h
   ·next g d=>
    cases h;have i:=vS a ps fns t x (λy e=>hL y (mem_append_left _ e)) f;have j:=zw a ps fns b g (λy e=>hL y (mem_append_right _ e)) d;rw[List.map_append,zP,length_append,aH];omega
end
def dz(c:UInt8):Bool:=c==110||c==116||c==98
theorem uL(s:ByteArray)(w:World)(r:s.size<=maxLen):
  Calls prog 116 #[.string s] w λe w'=>e=.returned (.bool (s.toList.all dz))/\w'=w:=by
 unfold maxLen at r;go_enter Tryz.func116,Tryz.ntmps116
 go_wp2_with fail
 go_loop [3] (λi=>∃k:Nat,k<=s.size/\i=.int .i64 k/\Hid (s.toList.all dz=(s.toList.drop k).all dz)) (λi=>s.size- (intOf i).toNat)
 case atStart=>exact⟨0,Nat.zero_le _,rfl,rfl⟩
 case round=>
  obtain⟨k,t,rfl,b⟩:=hrel;by_cases j:k<s.size
  ·have f:Hid ((s.toList.drop k).all dz=(dz s[k]&&(s.toList.drop (k+1)).all dz)):=ug dz s k j;have d:Hid (dz s[k]=(decide ((s[k].toNat:Int)=110)||decide ((s[k].toNat:Int)=116)||decide ((s[k].toNat:Int)=98))):=by
    unfold dz;have e:∀n:Nat,n<256->(s[k]==UInt8.ofNat n)=decide ((s[k].toNat:Int)=n):=by
     intro n u;rw[Bool.eq_iff_iff];simp only[beq_iff_eq,decide_eq_true_eq];constructor
     ·intro h;rw[h];simp;omega
     ·intro h;apply UInt8.toNat_inj.mp;simp;omega
    have o:=e 110 (by omega);have p:=e 116 (by omega);have q:=e 98 (by omega);rw[Hid];show(s[k]==UInt8.ofNat 110||s[k]==UInt8.ofNat 116||s[k]==UInt8.ofNat 98)=_;rw[o,p,q];rfl
   by_cases a:(s[k].toNat:Int)=110
   ·go_wp2_with fail
    go_round
    case rel=>exact⟨k+1,by omega,by go_num,by rw[Hid,b.out,f.out,d.out,decide_eq_true a];rfl⟩
    case measure=>simp[intOf];omega
   ·by_cases c:(s[k].toNat:Int)=116
    ·go_wp2_with fail
     go_round
     case rel=>exact⟨k+1,by omega,by go_num,by rw[Hid,b.out,f.out,d.out,decide_eq_false a,decide_eq_true c];rfl⟩
     case measure=>simp[intOf];omega
    ·by_cases g:(s[k].toNat:Int)=98
     ·go_wp2_with fail
      go_round
      case rel=>exact⟨k+1,by omega,by go_num,by rw[Hid,b.out,f.out,d.out,decide_eq_false a,decide_eq_false c,decide_eq_true g];rfl⟩
      case measure=>simp[intOf];omega
     ·have m:Hid (dz s[k]=false):=by rw[Hid,d.out,decide_eq_false a,decide_eq_false c,decide_eq_false g];rfl
      have b1:((s[k].toNat:Int) != 110)=true:=by simpa using a
      have b2:((s[k].toNat:Int) != 116)=true:=by simpa using c
      have b3:((s[k].toNat:Int) != 98)=true:=by simpa using g
      clear a c g
      go_wp2_with fail
      go_ret;exact⟨ax (by rw[b.out,f.out,m.out];rfl),rfl⟩
  ·have l:Hid ((s.toList.drop k).all dz=true):=xW dz s k (by omega)
   go_wp2_with fail
   go_ret;exact⟨ax (by rw[b.out,l.out]),rfl⟩
def jr(l:Bs)(c:UInt8):Bool:=l.all (· ==c)&& !l.isEmpty
theorem uJ(s:ByteArray)(c:UInt8)(w:World)(l:s.size<=maxLen):
  Calls prog 296 #[.string s,.int .u8 c.toNat] w λe w'=>e=.returned (.bool (jr s.toList c))/\w'=w:=by
 unfold maxLen at l;have h:Hid (jr s.toList c=(s.toList.all (· ==c)&& !s.toList.isEmpty)):=rfl;go_enter Tryz.func296,Tryz.ntmps296
 go_wp2_with fail
 go_loop [5] (λi=>∃k:Nat,k<=s.size/\i=.int .i64 k/\Hid (s.toList.all (· ==c)=(s.toList.drop k).all (· ==c))) (λi=>s.size- (intOf i).toNat)
 case atStart=>exact⟨0,Nat.zero_le _,rfl,rfl⟩
 case round=>
  obtain⟨k,o,rfl,b⟩:=hrel;by_cases f:k<s.size
  ·have g:Hid ((s.toList.drop k).all (· ==c)=((s[k]==c)&&(s.toList.drop (k+1)).all (· ==c))):=ug (· ==c) s k f;have n:Hid (s.toList.isEmpty=false):=oN s (by omega);by_cases a:(s[k].toNat:Int)=c.toNat
   ·have d:Hid ((s[k]==c)=true):=by rw[Hid,beq_iff_eq];apply UInt8.toNat_inj.mp;omega
    go_wp2_with fail
    go_round
    case rel=>exact⟨k+1,by omega,by go_num,by rw[Hid,b.out,g.out,d.out];rfl⟩
    case measure=>simp[intOf];omega
   ·have d:Hid ((s[k]==c)=false):=by
     rw[Hid,beq_eq_false_iff_ne];intro e;rw[e]at a;exact a rfl
    have m:((s[k].toNat:Int) != (c.toNat:Int))=true:=by simpa using a
    clear a
    go_wp2_with fail
    go_ret;exact⟨ax (by rw[h.out,b.out,g.out,d.out];rfl),rfl⟩
  ·have j:Hid ((s.toList.drop k).all (· ==c)=true):=xW (· ==c) s k (by omega)
   go_wp2_with fail
   go_ret;exact⟨ax (by rw[h.out,b.out,j.out];rfl),rfl⟩
def uZ(l:Bs):Bool:=match l with| [a,b]=>a==b|_=>false
def VN(l:Bs):Int:=match l with| [c,a,b]=>if c=98/\a=b then(a.toNat:Int)else 0|_=>0
def SB(l:Bs):Int:=match l with| [a]=>(a.toNat:Int)|_=>0
def iH(b:Bool)(n:Int):Int:=if b then n else 0
def VH(l:Bs)(n:Int):Bool:=if n=98 then jr l 98 else jr l 116
def vG(h l:Bs):Int:=
 if h= [43]\/h= [45]\/h= [42]\/h= [47]then iH (l== [110,110]) 110
 else if h= [61]\/h= [60]\/h= [60,61]then iH (uZ l) 98
 else if h= [97,110,100]\/h= [111,114]then iH (jr l 98) 98
 else if h= [110,111,116]then iH (l== [98]) 98
 else if h= [105,115,110,117,108,108]then iH ((l.length:Int)==1) 98
 else if h= [105,102]then VN l
 else if h= [108,101,110]then iH (l== [116]) 110
 else if h= [99,97,116]then iH (jr l 116) 116
 else if h= [110,111,116,101]then SB l else 0
theorem dh(w:World)(n:Nat):Below w.heap.size w (w.drewN n):=⟨rfl,rfl,rfl,Nat.le_refl _,λ_ _=>rfl⟩
theorem ed{a b:Int}(h:a=b):Ending.returned (.int .u8 a)=.returned (.int .u8 b):=by rw[h]
theorem ql{s:ByteArray}(h:s.size=2):∃a b,s.toList= [a,b]:=by
 have c:s.toList.length=2:=by rw[ai];exact h
 match s.toList,c with
 | [a,b],_=>exact⟨a,b,rfl⟩
theorem Vt{s:ByteArray}(h:s.size=3):∃a b c,s.toList= [a,b,c]:=by
 have d:s.toList.length=3:=by rw[ai];exact h
 match s.toList,d with
 | [a,b,c],_=>exact⟨a,b,c,rfl⟩
theorem xS(h:Bs)(hb:bM h=true)(s:ByteArray)(w:World)(F:s.size<=maxLen):
  Calls prog 247 #[.string ⟨h.toArray⟩,.string s] w λe w'=>e=.returned (.int .u8 (vG h s.toList))/\Below w.heap.size w w':=by
 have k:∀(n:Int) (x:World),(n=98\/n=116)->Calls prog 296 #[.string s,.int .u8 n] x λe w'=>e=.returned (.bool (VH s.toList n))/\w'=x:=by
  rintro n x (rfl|rfl)
  ·exact uJ s 98 x F
  ·exact uJ s 116 x F
 have E:VH s.toList 98=jr s.toList 98:=rfl;have G:VH s.toList 116=jr s.toList 116:=rfl;obtain⟨K,u⟩:∃b,b=jr s.toList 98:=⟨_,rfl⟩;obtain⟨P,v⟩:∃b,b=jr s.toList 116:=⟨_,rfl⟩;rw[<-u]at E;rw[<-v]at G;have g:Hid (K=jr s.toList 98):=u;have i:Hid (P=jr s.toList 116):=v;clear u v;unfold maxLen at F;go_enter Tryz.func247,Tryz.ntmps247;go_upto_region 1 with fail
 go_cut [5] (λO Q=>∃C:Bool,O=.bool C/\Hid (C=uZ s.toList)/\Below w.heap.size w Q)
 case first=>
  by_cases J:s.size=2
  ·have B:Hid (((s[0].toNat:Int)==(s[1].toNat:Int))=uZ s.toList):=by
    obtain⟨a,b,q⟩:=ql J;have H:s[0]=a:=by have:=dM s 0 (by omega);simp only[q]at this;exact this.symm
    have g1:s[1]=b:=by have:=dM s 1 (by omega);simp only[q]at this;exact this.symm
    rw[Hid,q,H,g1,uZ,Bool.eq_iff_iff];simp only[beq_iff_eq];exact⟨λe=>UInt8.toNat_inj.mp (by omega),λe=>by rw[e]⟩
   go_region;all_goals(go_wp2_with fail;go_meet)
   all_goals exact⟨_,rfl,B,by first|exact dh _ _|exact refl _ _|exact(refl _ _).drew⟩
  ·have B:Hid (false=uZ s.toList):=by
    have r:s.toList.length≠2:=by rw[ai];exact J
    rw[Hid]
    match s.toList,r with
    | [],_=>rfl
    | [_],_=>rfl
    | [_,_],r=>exact absurd rfl r
    |_::_::_::_,_=>rfl
   have A:((s.size:Int)==2)=false:=by simp;omega
   go_region;all_goals(go_wp2_with fail;go_meet)
   all_goals exact⟨_,rfl,B,by first|exact dh _ _|exact refl _ _|exact(refl _ _).drew⟩
 case rest=>
  obtain⟨C,rfl,f,d⟩:=hcut;simp only[bM,oG,List.any_cons,List.any_nil,Bool.or_eq_true,beq_iff_eq,Bool.or_false]at hb;rcases hb with rfl|rfl|rfl|rfl|rfl|rfl|rfl|rfl|rfl|rfl|rfl|rfl|rfl|rfl|rfl
  ·go_wp2_with(go_at_call 296;refine(k _ _ (by decide)).mono ?_;rintro e w2 ⟨rfl,rfl⟩)
   all_goals(try(go_region;all_goals(try go_wp2_with fail)))
   all_goals go_ret
   all_goals(refine⟨ed ?_,by first|exact d|exact d.drew|exact d.trans (dh _ _)⟩;have m:=g.out;have o:=i.out;have p:=f.out;simp_all[vG,iH])
  ·go_wp2_with(go_at_call 296;refine(k _ _ (by decide)).mono ?_;rintro e w2 ⟨rfl,rfl⟩)
   all_goals(try(go_region;all_goals(try go_wp2_with fail)))
   all_goals go_ret
   all_goals(refine⟨ed ?_,by first|exact d|exact d.drew|exact d.trans (dh _ _)⟩;have m:=g.out;have o:=i.out;have p:=f.out;simp_all[vG,iH])
  ·go_wp2_with(go_at_call 296;refine(k _ _ (by decide)).mono ?_;rintro e w2 ⟨rfl,rfl⟩)
   all_goals(try(go_region;all_goals(try go_wp2_with fail)))
   all_goals go_ret
   all_goals(refine⟨ed ?_,by first|exact d|exact d.drew|exact d.trans (dh _ _)⟩;have m:=g.out;have o:=i.out;have p:=f.out;simp_all[vG,iH])
  ·go_wp2_with(go_at_call 296;refine(k _ _ (by decide)).mono ?_;rintro e w2 ⟨rfl,rfl⟩)
   all_goals(try(go_region;all_goals(try go_wp2_with fail)))
   all_goals go_ret
   all_goals(refine⟨ed ?_,by first|exact d|exact d.drew|exact d.trans (dh _ _)⟩;have m:=g.out;have o:=i.out;have p:=f.out;simp_all[vG,iH])
  ·go_wp2_with(go_at_call 296;refine(k _ _ (by decide)).mono ?_;rintro e w2 ⟨rfl,rfl⟩)
   all_goals(try(go_region;all_goals(try go_wp2_with fail)))
   all_goals go_ret
   all_goals(refine⟨ed ?_,by first|exact d|exact d.drew|exact d.trans (dh _ _)⟩;have m:=g.out;have o:=i.out;have p:=f.out;simp_all[vG,iH])
  ·go_wp2_with(go_at_call 296;refine(k _ _ (by decide)).mono ?_;rintro e w2 ⟨rfl,rfl⟩)
   all_goals(try(go_region;all_goals(try go_wp2_with fail)))
   all_goals go_ret
   all_goals(refine⟨ed ?_,by first|exact d|exact d.drew|exact d.trans (dh _ _)⟩;have m:=g.out;have o:=i.out;have p:=f.out;simp_all[vG,iH])
  ·go_wp2_with(go_at_call 296;refine(k _ _ (by decide)).mono ?_;rintro e w2 ⟨rfl,rfl⟩)
   all_goals(try(go_region;all_goals(try go_wp2_with fail)))
   all_goals go_ret
   all_goals(refine⟨ed ?_,by first|exact d|exact d.drew|exact d.trans (dh _ _)⟩;have m:=g.out;have o:=i.out;have p:=f.out;simp_all[vG,iH])
  ·go_wp2_with(go_at_call 296;refine(k _ _ (by decide)).mono ?_;rintro e w2 ⟨rfl,rfl⟩)
   all_goals(try(go_region;all_goals(try go_wp2_with fail)))
   all_goals go_ret
   all_goals(refine⟨ed ?_,by first|exact d|exact d.drew|exact d.trans (dh _ _)⟩;have m:=g.out;have o:=i.out;have p:=f.out;simp_all[vG,iH])
  ·go_wp2_with(go_at_call 296;refine(k _ _ (by decide)).mono ?_;rintro e w2 ⟨rfl,rfl⟩)
   all_goals(try(go_region;all_goals(try go_wp2_with fail)))
   all_goals go_ret
   all_goals(refine⟨ed ?_,by first|exact d|exact d.drew|exact d.trans (dh _ _)⟩;have m:=g.out;have o:=i.out;have p:=f.out;simp_all[vG,iH])
  ·go_wp2_with(go_at_call 296;refine(k _ _ (by decide)).mono ?_;rintro e w2 ⟨rfl,rfl⟩)
   all_goals(try(go_region;all_goals(try go_wp2_with fail)))
   all_goals go_ret
   all_goals(refine⟨ed ?_,by first|exact d|exact d.drew|exact d.trans (dh _ _)⟩;have m:=g.out;have o:=i.out;have p:=f.out;simp_all[vG,iH])
  ·have N:s.toList.length=s.size:=ai s
   go_wp2_with(go_at_call 296;refine(k _ _ (by decide)).mono ?_;rintro e w2 ⟨rfl,rfl⟩)
   all_goals(try(go_region;all_goals(try go_wp2_with fail)))
   all_goals go_ret
   all_goals(refine⟨ed ?_,by first|exact d|exact d.drew|exact d.trans (dh _ _)⟩;have m:=g.out;have o:=i.out;have p:=f.out;simp_all[vG,iH])
  ·by_cases A:s.size=3
   ·obtain⟨a,b,c,q⟩:=Vt A;have H:s[0]=a:=by have:=dM s 0 (by omega);simp only[q]at this;exact this.symm
    have g1:s[1]=b:=by have:=dM s 1 (by omega);simp only[q]at this;exact this.symm
    have R:s[2]=c:=by have:=dM s 2 (by omega);simp only[q]at this;exact this.symm
    have y:Hid (vG [105,102] s.toList=if a=98/\b=c then(b.toNat:Int)else 0):=by rw[Hid,q];rfl
    clear q;by_cases t:a=98
    ·have D:((a.toNat:Int)==98)=true:=by rw[t];rfl
     by_cases l:b=c
     ·have z:((b.toNat:Int)==(c.toNat:Int))=true:=by rw[l];simp
      have j:Hid (vG [105,102] s.toList=(b.toNat:Int)):=by rw[Hid,y.out,if_pos ⟨t,l⟩]
      clear y t l
      go_wp2_with(go_at_call 296;refine(k _ _ (by decide)).mono ?_;rintro e w2 ⟨rfl,rfl⟩)
      all_goals(try(go_region;all_goals(try go_wp2_with fail)))
      all_goals go_ret
      all_goals exact⟨ed j.out.symm,by first|exact d|exact d.drew|exact d.trans (dh _ _)⟩
     ·have z:((b.toNat:Int)==(c.toNat:Int))=false:=by
       rw[beq_eq_false_iff_ne];intro e;exact l (UInt8.toNat_inj.mp (by omega))
      have j:Hid (vG [105,102] s.toList=0):=by rw[Hid,y.out,if_neg (λh=>l h.2)]
      clear y t l
      go_wp2_with(go_at_call 296;refine(k _ _ (by decide)).mono ?_;rintro e w2 ⟨rfl,rfl⟩)
      all_goals(try(go_region;all_goals(try go_wp2_with fail)))
      all_goals go_ret
      all_goals exact⟨ed j.out.symm,by first|exact d|exact d.drew|exact d.trans (dh _ _)⟩
    ·have D:((a.toNat:Int)==98)=false:=by
      rw[beq_eq_false_iff_ne];intro e;exact t (UInt8.toNat_inj.mp (by simpa using Int.ofNat.inj e))
     have j:Hid (vG [105,102] s.toList=0):=by rw[Hid,y.out,if_neg (λh=>t h.1)]
     clear y t
     go_wp2_with(go_at_call 296;refine(k _ _ (by decide)).mono ?_;rintro e w2 ⟨rfl,rfl⟩)
     all_goals(try(go_region;all_goals(try go_wp2_with fail)))
     all_goals go_ret
     all_goals exact⟨ed j.out.symm,by first|exact d|exact d.drew|exact d.trans (dh _ _)⟩
   ·have M:((s.size:Int)==3)=false:=by simp;omega
    have j:Hid (vG [105,102] s.toList=0):=by
     rw[Hid];show VN s.toList=0;have r:s.toList.length≠3:=by rw[ai];exact A
     match s.toList,r with
     | [],_=>rfl
     | [_],_=>rfl
     | [_,_],_=>rfl
     | [_,_,_],r=>exact absurd rfl r
     |_::_::_::_::_,_=>rfl
    clear A
    go_wp2_with(go_at_call 296;refine(k _ _ (by decide)).mono ?_;rintro e w2 ⟨rfl,rfl⟩)
    all_goals(try(go_region;all_goals(try go_wp2_with fail)))
    all_goals go_ret
    all_goals exact⟨ed j.out.symm,by first|exact d|exact d.drew|exact d.trans (dh _ _)⟩
  ·go_wp2_with(go_at_call 296;refine(k _ _ (by decide)).mono ?_;rintro e w2 ⟨rfl,rfl⟩)
   all_goals(try(go_region;all_goals(try go_wp2_with fail)))
   all_goals go_ret
   all_goals(refine⟨ed ?_,by first|exact d|exact d.drew|exact d.trans (dh _ _)⟩;have m:=g.out;have o:=i.out;have p:=f.out;simp_all[vG,iH])
  ·go_wp2_with(go_at_call 296;refine(k _ _ (by decide)).mono ?_;rintro e w2 ⟨rfl,rfl⟩)
   all_goals(try(go_region;all_goals(try go_wp2_with fail)))
   all_goals go_ret
   all_goals(refine⟨ed ?_,by first|exact d|exact d.drew|exact d.trans (dh _ _)⟩;have m:=g.out;have o:=i.out;have p:=f.out;simp_all[vG,iH])
  ·by_cases I:s.size=1
   ·have j:Hid (vG [110,111,116,101] s.toList=(s[0].toNat:Int)):=by
     have q:s.toList= [s[0]]:=by
      have:=drop_cons s 0 (by omega);rw[List.drop_zero]at this;rw[this,List.drop_of_length_le (by rw[ai];omega)]
     rw[Hid,q];rfl
    go_wp2_with(go_at_call 296;refine(k _ _ (by decide)).mono ?_;rintro e w2 ⟨rfl,rfl⟩)
    all_goals(try(go_region;all_goals(try go_wp2_with fail)))
    all_goals go_ret
    all_goals exact⟨ed j.out.symm,by first|exact d|exact d.drew|exact d.trans (dh _ _)⟩
   ·have L:((s.size:Int)==1)=false:=by simp;omega
    have j:Hid (vG [110,111,116,101] s.toList=0):=by
     rw[Hid];show SB s.toList=0;have r:s.toList.length≠1:=by rw[ai];exact I
     match s.toList,r with
     | [],_=>rfl
     | [_],r=>exact absurd rfl r
     |_::_::_,_=>rfl
    clear I
    go_wp2_with(go_at_call 296;refine(k _ _ (by decide)).mono ?_;rintro e w2 ⟨rfl,rfl⟩)
    all_goals(try(go_region;all_goals(try go_wp2_with fail)))
    all_goals go_ret
    all_goals exact⟨ed j.out.symm,by first|exact d|exact d.drew|exact d.trans (dh _ _)⟩
def mZ(t:Int):Int:=if t=1 then 110 else if t=2 then 116 else if t=3 then 98 else 0
structure RF where
 fn:Fn
 args:Bs
 t:Tr
def wC(w:World)(b i:Nat)(rf:RF):Prop:=∃(g cap:Nat) (cs:List Value) (uT:Nat->Int),
 w.cell? ⟨b,i*5,none⟩=some (.string (aa rf.fn.name))/\w.cell? ⟨b,i*5+1,none⟩=some (.string (aa rf.args))/\w.cell? ⟨b,i*5+2,none⟩=some (.slice (some ⟨g,0,none⟩) (post rf.t).length cap)/\
 w.cell? ⟨b,i*5+3,none⟩=some (.int .i64 rf.fn.body.size)/\w.cell? ⟨b,i*5+4,none⟩=some (.bool rf.fn.body.quiet)/\(post rf.t).length<=1000/\
 w.ownsRow 0 183 4 (.slice (some ⟨g,0,none⟩) (post rf.t).length cap) (post rf.t).length cs/\iV w (λ_=>True) cs 0 (post rf.t) uT/\uT ((post rf.t).length- 1)=mZ rf.fn.body.ty
def lN(w:World)(v:Value)(rfs:List RF):Prop:=∃ao cap,v=.slice ao rfs.length cap/\rfs.length<=8/\(rfs= []\/∃b,ao=some ⟨b,0,none⟩/\b<w.heap.size/\∀(i:Nat) (rf:RF),rfs[i]? =some rf->wC w b i rf)
theorem BZ.ah{w x:World}{S:Nat->Prop}{cs:List Value}{lo:Nat}{l:List Tr}{ty:Nat->Int}{j:Nat}{t:Tr}(h:BZ w S cs lo l ty j t)(hb:Below w.heap.size w x):BZ x S cs lo l ty j t:=by
 obtain⟨v,is,b,c,d,e,a,f⟩:=h;exact⟨v,is,b,c,d,e,aA a λg i=>hb.block g (a.lt g i).2,f⟩
theorem iV.ah{w x:World}{S:Nat->Prop}{cs:List Value}{lo:Nat}{l:List Tr}{ty:Nat->Int}(h:iV w S cs lo l ty)(hb:Below w.heap.size w x):iV x S cs lo l ty:=λj t a=>(h j t a).ah hb
theorem wC.ah{w x:World}{b i:Nat}{d:RF}(h:wC w b i d)(a:b<w.heap.size)(hb:Below w.heap.size w x):wC x b i d:=by
 obtain⟨g,cap,cs,uT,e,f,j,k,l,m,c,n,o⟩:=h;exact⟨g,cap,cs,uT,(hb.cell (p:=⟨b,_,none⟩) a).trans e,(hb.cell (p:=⟨b,_,none⟩) a).trans f,(hb.cell (p:=⟨b,_,none⟩) a).trans j,(hb.cell (p:=⟨b,_,none⟩) a).trans k,(hb.cell (p:=⟨b,_,none⟩) a).trans l,m,aA c λg q=>hb.block g (c.lt g q).2,n.ah hb,o⟩
theorem lN.ah{w x:World}{v:Value}{a:List RF}(h:lN w v a)(hb:Below w.heap.size w x):lN x v a:=by
 obtain⟨c,cap,d,f,g⟩:=h;refine⟨c,cap,d,f, ?_⟩;rcases g with h|⟨b,e,hl,hc⟩
 ·exact .inl h
 ·exact .inr ⟨b,e,by have:=hb.size;omega,λi k j=>(hc i k j).ah hl hb⟩
structure nR(w:World)(co:Option Addr)(cn:Nat)(cc:Nat)(to':Option Addr)(tn:Nat)(tc:Nat)(fv:Value)(ay:List (Bs × Int))(rfs:List RF):Prop where
 Vj:cn=ay.length
 Vu:tn=ay.length
 small:ay.length<=1000
 Sv:ay= []\/∃b,co=some ⟨b,0,none⟩/\b<w.heap.size/\∀(i:Nat) (c:Bs × Int),ay[i]? =some c->w.cell? ⟨b,i,none⟩=some (.string (aa c.1))
 Oz:ay= []\/∃b,to'=some ⟨b,0,none⟩/\b<w.heap.size/\∀(i:Nat) (c:Bs × Int),ay[i]? =some c->w.cell? ⟨b,i,none⟩=some (.int .u8 (mZ c.2))
 Vi:ay.length<=cc
 GJ:ay.length<=tc
 fns:lN w fv rfs
theorem nR.ah{w x:World}{co:Option Addr}{cn cc:Nat}{d:Option Addr}{k j:Nat}{g:Value}{ay:List (Bs × Int)}{a:List RF}(h:nR w co cn cc d k j g ay a)(hb:Below w.heap.size w x):nR x co cn cc d k j g ay a:=by
 refine⟨h.Vj,h.Vu,h.small, ?_, ?_,h.Vi,h.GJ,h.fns.ah hb⟩
 ·rcases h.Sv with h|⟨b,e,hl,hc⟩
  ·exact .inl h
  ·exact .inr ⟨b,e,by have:=hb.size;omega,λi c f=>(hb.cell (p:=⟨b,_,none⟩) hl).trans (hc i c f)⟩
 ·rcases h.Oz with h|⟨b,e,hl,hc⟩
  ·exact .inl h
  ·exact .inr ⟨b,e,by have:=hb.size;omega,λi c f=>(hb.cell (p:=⟨b,_,none⟩) hl).trans (hc i c f)⟩
def RF.list(rfs:List RF):List Fn:=rfs.map RF.fn
def Aa(o:Option Nat):Int:=match o with|none=> -1|some i=>(i:Int)
def kJ(rfs:List RF)(l:Bs)(i:Nat):Option Nat:=((rfs.drop i).findIdx? (λr=>r.fn.name==l)).map (· +i)
theorem Fe(a:List RF)(l:Bs):kJ a l 0=aV (RF.list a) l:=by
 unfold kJ aV RF.list;rw[List.drop_zero,List.findIdx?_map];simp[Function.comp_def]
theorem IM{a:List RF}{l:Bs}{i:Nat}(b:i<a.length)(h:(a[i].fn.name==l)=true):kJ a l i=some i:=by
 unfold kJ;rw[List.drop_eq_getElem_cons b,findIdx?_cons,h];simp
theorem Fb{a:List RF}{l:Bs}{i:Nat}(b:i<a.length)(h:(a[i].fn.name==l)=false):kJ a l i=kJ a l (i+1):=by
 unfold kJ;rw[List.drop_eq_getElem_cons b,findIdx?_cons,h];simp only[Bool.false_eq_true,if_false,Option.map_map];congr 1;funext x;simp;omega
theorem IL{a:List RF}{l:Bs}{i:Nat}(b:a.length<=i):kJ a l i=none:=by
 unfold kJ;rw[List.drop_of_length_le b];rfl
theorem eT(w:World)(r s:Value)(a:ByteArray)(j:Option Addr)(t m:Nat)(c:List RF)(h:lN w (.slice j t m) c)(l:Bs):
  Calls prog 67 #[.agg #[r,s,.string a,.slice j t m],.string (aa l)] w λe w'=>e=.returned (.int .i64 (Aa (aV (RF.list c) l)))/\Below w.heap.size w w':=by
 obtain⟨H,cap,u,I,x⟩:=h
 cases u;have o:=Fe c l;have f:=ae w (.cells #[r,s,.string a,.slice j c.length m] 214);have A:(w.alloc (.cells #[r,s,.string a,.slice j c.length m] 214)).cell? ⟨w.heap.size,3,none⟩=some (.slice j c.length m):=(ag (heap_alloc_new w _)).trans rfl;clear A;obtain⟨W,v⟩:∃W,W=w.alloc (.cells #[r,s,.string a,.slice j c.length m] 214):=⟨_,rfl⟩;have d:w.alloc (.cells #[r,s,.string a,.slice j c.length m] 214)=W:=v.symm;rw[d]at f;have A:W.cell? ⟨w.heap.size,3,none⟩=some (.slice j c.length m):=by rw[v];exact(ag (heap_alloc_new w _)).trans rfl
 clear v;go_enter Tryz.func67,Tryz.ntmps67
 go_wp2_with fail
 try rw[d]
 clear d;go_loop [5] (λF=>∃i:Nat,i<=c.length/\F=.int .i64 i/\Hid (kJ c l 0=kJ c l i)) (λi=>c.length- (intOf i).toNat)
 case atStart=>exact⟨0,Nat.zero_le _,rfl,rfl⟩
 case round=>
  obtain⟨i,J,rfl,n⟩:=hrel;by_cases k:i<c.length
  ·obtain⟨b,rfl,hb,z⟩:∃b,j=some ⟨b,0,none⟩/\b<w.heap.size/\∀(i:Nat) (C:RF),c[i]? =some C->wC w b i C:=by
    rcases x with h|h
    ·subst h;simp at k
    ·exact h
   obtain⟨g,y,cs,uT,B,_⟩:=z i c[i] (getElem?_eq_getElem k);have G:=(f.cell (p:=⟨b,i*5,none⟩) hb).trans B;have D:b<W.heap.size:=by have:=f.size;omega
   have K:(aa c[i].fn.name).toList=c[i].fn.name:=aj _;have E:(aa l).toList=l:=aj _;clear z x B
   cases u:(c[i].fn.name==l)with
   |true=>
    have q:Hid (aV (RF.list c) l=some i):=by rw[Hid,<-o,n.out,IM k u]
    clear o n
    go_wp2_with fail
    go_ret;exact⟨by rw[q.out];rfl,f⟩
   |false=>
    have q:Hid (kJ c l 0=kJ c l (i+1)):=by rw[Hid,n.out,Fb k u]
    clear o n
    go_wp2_with fail
    go_round
    case rel=>exact⟨i+1,by omega,by go_num,q⟩
    case measure=>simp[intOf];omega
  ·have q:Hid (aV (RF.list c) l=none):=by rw[Hid,<-o,n.out,IL (by omega)]
   clear o n x
   go_wp2_with fail
   go_ret;exact⟨by rw[q.out];rfl,f⟩
def xD:Bs:=[117,115,101,114]
def xC:Bs:=[116,114,117,101]
def qZ:Bs:=[102,97,108,115,101]
def qN(args t:Bs):Int:=match args[(t.getD 1 0).toNat- 49]? with|none=>0|some c=>(c.toNat:Int)
def wR(ay:List (Bs × Int))(o:Option Nat):Int:=match o with|none=>0|some i=>match ay[i]? with|none=>0|some c=>mZ c.2
def nD(ay:List (Bs × Int))(args t:Bs):Int:=
 if dQ t then 110 else if cz t||t==xD then 116 else if t==xC||t==qZ then 98 else if iC t then qN args t else wR ay (mP ay t)
def gQ(ay:List (Bs × Int))(l:Bs)(i:Nat):Option Nat:=((ay.drop i).findIdx? (λc=>c.1==l)).map (· +i)
theorem Cy(ay:List (Bs × Int))(l:Bs):mP ay l=gQ ay l 0:=by
 unfold gQ mP;simp
theorem EA{ay:List (Bs × Int)}{l:Bs}{i:Nat}(a:i<ay.length)(h:(ay[i].1==l)=true):gQ ay l i=some i:=by
 unfold gQ;rw[List.drop_eq_getElem_cons a,findIdx?_cons,h];simp
theorem Cx{ay:List (Bs × Int)}{l:Bs}{i:Nat}(a:i<ay.length)(h:(ay[i].1==l)=false):gQ ay l i=gQ ay l (i+1):=by
 unfold gQ;rw[List.drop_eq_getElem_cons a,findIdx?_cons,h];simp only[Bool.false_eq_true,if_false,Option.map_map];congr 1;funext x;simp;omega
theorem Ez{ay:List (Bs × Int)}{l:Bs}{i:Nat}(a:ay.length<=i):gQ ay l i=none:=by
 unfold gQ;rw[List.drop_of_length_le a];rfl
theorem xR(w:World)(co:Option Addr)(cn cc:Nat)(g:Option Addr)(C B:Nat)(args:Bs)(F:Option Addr)(j E:Nat)(ay:List (Bs × Int))(S:List RF)(h:nR w co cn cc g C B (.slice F j E) ay S)(L:args.length<=maxLen)(l:Bs)(Z:l.length<=maxLen):
  Calls prog 246 #[.agg #[.slice co cn cc,.slice g C B,.string (aa args),.slice F j E],.string (aa l)] w λe w'=>e=.returned (.int .u8 (nD ay args l))/\Below w.heap.size w w':=by
 have q:∀x:World,Calls prog 180 #[.string (aa l)] x λe w'=>e=.returned (.tuple #[.int .i64 (oP l),.bool (dQ l)])/\w'=x:=by
  intro x;have:=fA (aa l) x (by rw[aF];exact Z);rw[aj]at this;exact this
 have s:∀x:World,Calls prog 182 #[.string (aa l)] x λe w'=>e=.returned (.bool (cz l))/\w'=x:=by
  intro x;have:=iN (aa l) x (by rw[aF];exact Z);rw[aj]at this;exact this
 have r:∀x:World,Calls prog 183 #[.string (aa l)] x λe w'=>e=.returned (.int .i64 (jS l))/\w'=x:=by
  intro x;have:=dZ (aa l) x;rw[aj]at this;exact this
 have a:=ae w (.cells #[.slice co cn cc,.slice g C B,.string (aa args),.slice F j E] 214);obtain⟨W,Q⟩:∃W,W=w.alloc (.cells #[.slice co cn cc,.slice g C B,.string (aa args),.slice F j E] 214):=⟨_,rfl⟩;have o:w.alloc (.cells #[.slice co cn cc,.slice g C B,.string (aa args),.slice F j E] 214)=W:=Q.symm;rw[o]at a;have v:W.heap[w.heap.size]? =some (.cells #[.slice co cn cc,.slice g C B,.string (aa args),.slice F j E] 214 (0,0)):=by rw[Q];exact heap_alloc_new w _
 have k0:W.cell? ⟨w.heap.size,0,none⟩=some (.slice co cn cc):=(ag v).trans rfl;have k1:W.cell? ⟨w.heap.size,1,none⟩=some (.slice g C B):=(ag v).trans rfl;have k2:W.cell? ⟨w.heap.size,2,none⟩=some (.string (aa args)):=(ag v).trans rfl;obtain⟨rfl,rfl,a5,O,P,a3,a6,_⟩:=h;have f:Hid (nD ay args l=if dQ l then 110 else if cz l||l==xD then 116 else if l==xC||l==qZ then 98 else if iC l then qN args l else wR ay (mP ay l)):=rfl;obtain⟨nv,K⟩:∃n,n=oP l:=⟨_,rfl⟩;have ho:(aa l).toList=l:=aj _;have R:(aa args).size=args.length:=aF _;rw[<-K]at q;clear Q v K
 cases T:dQ l with
 |true=>
  rw[T]at q f;go_enter Tryz.func246,Tryz.ntmps246
  go_wp2_with(first
   |(go_at_call 180;refine(q _).mono ?_;rintro e w2 ⟨rfl,rfl⟩)
   |(go_at_call 182;refine(s _).mono ?_;rintro e w2 ⟨rfl,rfl⟩)
   |(go_at_call 183;refine(r _).mono ?_;rintro e w2 ⟨rfl,rfl⟩))
  go_ret;exact⟨ed f.out.symm,a⟩
 |false=>
  rw[T]at q f;rw[if_neg Bool.false_ne_true]at f
  cases u:(cz l||l==xD)with
  |true=>
   rw[u]at f
   cases G:cz l with
   |true=>
    rw[G]at s;clear u;go_enter Tryz.func246,Tryz.ntmps246
    go_wp2_with(first
     |(go_at_call 180;refine(q _).mono ?_;rintro e w2 ⟨rfl,rfl⟩)
     |(go_at_call 182;refine(s _).mono ?_;rintro e w2 ⟨rfl,rfl⟩)
     |(go_at_call 183;refine(r _).mono ?_;rintro e w2 ⟨rfl,rfl⟩))
    go_ret;exact⟨ed f.out.symm,a⟩
   |false=>
    rw[G]at s u;have hu:(l== [117,115,101,114])=true:=by rw[Bool.false_or]at u;exact u
    clear u;go_enter Tryz.func246,Tryz.ntmps246
    go_wp2_with(first
     |(go_at_call 180;refine(q _).mono ?_;rintro e w2 ⟨rfl,rfl⟩)
     |(go_at_call 182;refine(s _).mono ?_;rintro e w2 ⟨rfl,rfl⟩)
     |(go_at_call 183;refine(r _).mono ?_;rintro e w2 ⟨rfl,rfl⟩))
    go_ret;exact⟨ed f.out.symm,a⟩
  |false=>
   rw[u,if_neg Bool.false_ne_true]at f;rw[Bool.or_eq_false_iff]at u;obtain⟨G,U⟩:=u;have hu:(l== [117,115,101,114])=false:=U;rw[G]at s;clear G U
   cases y:(l==xC||l==qZ)with
   |true=>
    rw[y]at f;have hd:((l== [116,114,117,101])||(l== [102,97,108,115,101]))=true:=y;clear y;go_enter Tryz.func246,Tryz.ntmps246
    go_wp2_with(first
     |(go_at_call 180;refine(q _).mono ?_;rintro e w2 ⟨rfl,rfl⟩)
     |(go_at_call 182;refine(s _).mono ?_;rintro e w2 ⟨rfl,rfl⟩)
     |(go_at_call 183;refine(r _).mono ?_;rintro e w2 ⟨rfl,rfl⟩))
    all_goals go_ret
    all_goals exact⟨ed f.out.symm,a⟩
   |false=>
    rw[y,if_neg Bool.false_ne_true]at f;rw[Bool.or_eq_false_iff]at y;have ht:(l== [116,114,117,101])=false:=y.1;have hf:(l== [102,97,108,115,101])=false:=y.2;clear y
    cases z:iC l with
    |true=>
     rw[z,if_pos rfl]at f;obtain⟨c,rfl,a1,a2⟩:=uI z;have m:jS [36,c]=(c.toNat:Int)- 49:=by rw[jS,z];rfl
     rw[m]at r;obtain⟨k,M⟩:∃k,k=c.toNat- 49:=⟨_,rfl⟩;have A:(c.toNat:Int)- 49=(k:Int):=by omega
     rw[A]at r;by_cases d:k<args.length
     ·have J:k<(aa args).size:=by rw[R];exact d
      have t:Hid (qN args [36,c]=((aa args)[k].toNat:Int)):=by
       have e:=dM (aa args) k J;simp only[aj]at e;rw[Hid,qN,show([36,c]:Bs).getD 1 0=c from rfl,<-M,getElem?_eq_getElem d,<-e]
      clear z A M m;go_enter Tryz.func246,Tryz.ntmps246
      go_wp2_with(first
       |(go_at_call 180;refine(q _).mono ?_;rintro e w2 ⟨rfl,rfl⟩)
       |(go_at_call 182;refine(s _).mono ?_;rintro e w2 ⟨rfl,rfl⟩)
       |(go_at_call 183;refine(r _).mono ?_;rintro e w2 ⟨rfl,rfl⟩))
      all_goals go_ret
      all_goals exact⟨ed (by rw[f.out,t.out]),a⟩
     ·have t:Hid (qN args [36,c]=0):=by
       rw[Hid,qN,show([36,c]:Bs).getD 1 0=c from rfl,<-M,List.getElem?_eq_none (by omega)]
      clear z A M m;go_enter Tryz.func246,Tryz.ntmps246
      go_wp2_with(first
       |(go_at_call 180;refine(q _).mono ?_;rintro e w2 ⟨rfl,rfl⟩)
       |(go_at_call 182;refine(s _).mono ?_;rintro e w2 ⟨rfl,rfl⟩)
       |(go_at_call 183;refine(r _).mono ?_;rintro e w2 ⟨rfl,rfl⟩))
      all_goals go_ret
      all_goals exact⟨ed (by rw[f.out,t.out]),a⟩
    |false=>
     rw[z,if_neg Bool.false_ne_true,Cy]at f;have m:jS l= -1:=by rw[jS,z];rfl
     rw[m]at r;clear z m;go_enter Tryz.func246,Tryz.ntmps246
     go_wp2_with(first
      |(go_at_call 180;refine(q _).mono ?_;rintro e w2 ⟨rfl,rfl⟩)
      |(go_at_call 182;refine(s _).mono ?_;rintro e w2 ⟨rfl,rfl⟩)
      |(go_at_call 183;refine(r _).mono ?_;rintro e w2 ⟨rfl,rfl⟩))
     try rw[o]
     clear o q s r;go_loop [9] (λiv=>∃i:Nat,i<=ay.length/\iv=.int .i64 i/\Hid (gQ ay l 0=gQ ay l i)) (λi=>ay.length- (intOf i).toNat)
     case atStart=>exact⟨0,Nat.zero_le _,rfl,rfl⟩
     case round=>
      obtain⟨i,hi,rfl,D⟩:=hrel;by_cases d:i<ay.length
      ·obtain⟨b,rfl,hb,X⟩:∃b,co=some ⟨b,0,none⟩/\b<w.heap.size/\∀(i:Nat) (c:Bs × Int),ay[i]? =some c->w.cell? ⟨b,i,none⟩=some (.string (aa c.1)):=by
        rcases O with h|h
        ·subst h;simp at d
        ·exact h
       obtain⟨b',rfl,H,I⟩:∃b,g=some ⟨b,0,none⟩/\b<w.heap.size/\∀(i:Nat) (c:Bs × Int),ay[i]? =some c->w.cell? ⟨b,i,none⟩=some (.int .u8 (mZ c.2)):=by
        rcases P with h|h
        ·subst h;simp at d
        ·exact h
       have q0:=(a.cell (p:=⟨b,i,none⟩) hb).trans (X i ay[i] (getElem?_eq_getElem d));have q1:=(a.cell (p:=⟨b',i,none⟩) H).trans (I i ay[i] (getElem?_eq_getElem d));have a0:=Nat.lt_of_lt_of_le hb a.size;have V:=Nat.lt_of_lt_of_le H a.size;have a4:(aa ay[i].1).toList=ay[i].1:=aj _;have N:Hid (ay[i]? =some ay[i]):=getElem?_eq_getElem d;clear X I O P
       cases Y:(ay[i].1==l)with
       |true=>
        have t:Hid (wR ay (gQ ay l 0)=mZ ay[i].2):=by rw[Hid,D.out,EA d Y,wR,N.out]
        clear D N
        go_wp2_with fail
        go_ret;exact⟨ed (by rw[f.out,t.out]),a⟩
       |false=>
        have t:Hid (gQ ay l 0=gQ ay l (i+1)):=by rw[Hid,D.out,Cx d Y]
        clear D N
        go_wp2_with fail
        go_round
        case rel=>exact⟨i+1,by omega,by go_num,t⟩
        case measure=>simp[intOf];omega
      ·have t:Hid (wR ay (gQ ay l 0)=0):=by rw[Hid,D.out,Ez (by omega)];rfl
       clear D O P
       go_wp2_with fail
       go_ret;exact⟨ed (by rw[f.out,t.out]),a⟩
end Go.Proofs.YtdifpeaklamhnaaGreatDoor

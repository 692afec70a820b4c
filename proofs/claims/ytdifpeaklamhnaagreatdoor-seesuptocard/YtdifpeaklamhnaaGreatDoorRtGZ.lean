import Derived.Test.YtdifpeaklamhnaaGreatDoorRefVZ
import Derived.Test.YtdifpeaklamhnaaGreatDoorBaA
set_option linter.unusedVariables false
set_option linter.unusedSimpArgs false
set_option maxRecDepth 100000
set_option maxHeartbeats 0
namespace Go.Proofs.YtdifpeaklamhnaaGreatDoor
open Go.Proofs.Tryz
open Go.RowKit
open List (getElem?_append_left length_append mem_of_getElem? mem_append_left mem_append_right any_cons any_nil findIdx?_cons getElem?_eq_getElem mem_cons_of_mem map_cons mem_cons_self mem_map getElem?_set_ne)
open Bool (or_eq_true eq_false_iff)
open Nat (zero_le zero_add)
open Below (refl)
def Tr.kd:Tr->Int
 | .mk k _ _ _=>k
def Tr.tx:Tr->Bs
 | .mk _ t _ _=>t
def Tr.br:Tr->Bool
 | .mk _ _ b _=>b
def Tr.ops:Tr->List Tr
 | .mk _ _ _ o=>o
mutual
def post:Tr->List Tr
 | .mk k tx br ops=>bX ops++ [.mk k tx br ops]
def bX:List Tr->List Tr
 | []=>[]
 |t::ts=>post t++bX ts
end
def mQ(t:Tr):Prop:=t.br=false->t.ops= []/\gm t.tx=true/\t.kd=aT t.tx
theorem dF:∀t:Tr,(post t)[(post t).length- 1]? =some t
 | .mk k c b a=>by rw[post];simp
def BA(w:World)(S:Nat->Prop)(cs:List Value)(lo:Nat)(l:List Tr)(ty:Nat->Int)(j:Nat)(t:Tr):Prop:=∃(v:Value) (is:List Nat),
 cs[4*(lo+j)]? =some (.string (aa t.tx))/\cs[4*(lo+j)+1]? =some (.bool t.br)/\cs[4*(lo+j)+2]? =some v/\cs[4*(lo+j)+3]? =some (.int .u8 (ty j))/\
 w.ownsRow 0 3 1 v t.ops.length (is.map λj:Nat=>Value.int .i64 (j:Int))/\(∀g,v.ownBlock=some g->S g)/\is.length=t.ops.length/\mQ t/\
 ∀(m q:Nat),is[m]? =some q->∃q',q=lo+q'/\q'<j/\l[q']? =t.ops[m]?
def iR(w:World)(S:Nat->Prop)(cs:List Value)(lo:Nat)(l:List Tr)(ty:Nat->Int):Prop:=∀(j:Nat) (t:Tr),l[j]? =some t->BA w S cs lo l ty j t
theorem Mr{w:World}{S:Nat->Prop}{cs:List Value}{lo:Nat}{a b:List Tr}(y:iR w S cs lo a (λ_=>0))(hb:iR w S cs (lo+a.length) b (λ_=>0)):iR w S cs lo (a++b) (λ_=>0):=by
 intro j t k;rcases Nat.lt_or_ge j a.length with h|h
 ·rw[getElem?_append_left h]at k;obtain⟨v,is,d,f,g,i,l,n,o,p,r⟩:=y j t k;refine⟨v,is,d,f,g,i,l,n,o,p,λm q u=> ?_⟩;obtain⟨c,e,x,s⟩:=r m q u;exact⟨c,e,x,by rw[getElem?_append_left (by omega)];exact s⟩
 ·rw[List.getElem?_append_right h]at k;obtain⟨v,is,d,f,g,i,l,n,o,p,r⟩:=hb _ t k;have e:lo+a.length+(j- a.length)=lo+j:=by omega
  rw[e]at d f g i;refine⟨v,is,d,f,g,i,l,n,o,p,λm q u=> ?_⟩;obtain⟨c,e,x,s⟩:=r m q u;exact⟨a.length+c,by omega,by omega,by rw[List.getElem?_append_right (by omega),show a.length+c- a.length=c by omega];exact s⟩
mutual
theorem zN.nodes{w:World}{S:Nat->Prop}{cs:List Value} :∀ {lo i:Nat} {t:Tr},zN w S cs lo i t->iR w S cs lo (post t) (λ_=>0)/\lo+(post t).length=i+1
 |lo,i,.mk k tx br ops,.mk (v:=v) (is:=is) a b c c3 d e f l _=>by
  obtain⟨y,K,z,A⟩:=jl.nodes f;rw[post];refine⟨λj t g=> ?_,by rw[length_append,List.length_singleton];omega⟩;rcases Nat.lt_or_ge j (bX ops).length with h|h
  ·rw[getElem?_append_left h]at g;obtain⟨v,is,B,C,D,E,F,G,H,I,J⟩:=y j t g;refine⟨v,is,B,C,D,E,F,G,H,I,λm q r=> ?_⟩;obtain⟨s,e,p,o⟩:=J m q r;exact⟨s,e,p,by rw[getElem?_append_left (by omega)];exact o⟩
  ·rw[List.getElem?_append_right h]at g;have x:j- (bX ops).length=0:=by have:=(List.getElem?_eq_some_iff.mp g).1;simp at this;omega
   rw[x]at g;simp at g;subst g;have n:4*(lo+j)=4*i:=by omega
   refine⟨v,is,by rw[n];exact a,by rw[n];exact b,by rw[n];exact c,by rw[n];exact c3,d,e,z,l,λm q r=> ?_⟩;obtain⟨s,u,p,o⟩:=A m q r;exact⟨s,u,by omega,by rw[getElem?_append_left p];exact o⟩
theorem jl.nodes{w:World}{S:Nat->Prop}{cs:List Value} :∀ {lo f:Nat} {is:List Nat} {c:List Tr},jl w S cs lo f is c->iR w S cs lo (bX c) (λ_=>0)/\lo+(bX c).length=f/\is.length=c.length/\∀(m q:Nat),is[m]? =some q->∃d,q=lo+d/\d<(bX c).length/\(bX c)[d]? =c[m]?
 |lo,_,_,_,.nil=>⟨λj t h=>by simp[bX]at h,by simp[bX],rfl,λm q h=>by simp at h⟩
 |lo,f,_,_,.cons (i:=i) (t:=t) (ts:=c) a b=>by
  obtain⟨l,n⟩:=zN.nodes a;obtain⟨o,x,p,r⟩:=jl.nodes b;rw[bX];have e:lo+(post t).length=i+1:=n;refine⟨Mr l (by rw[e];exact o),by rw[length_append];omega,by simp[p],λm q g=> ?_⟩
  cases m with
  |zero=>
   simp at g;subst g;have k:=dF t;have u:0<(post t).length:=List.length_pos_of_mem (mem_of_getElem? k);exact⟨(post t).length- 1,by omega,by rw[length_append];omega,by rw[getElem?_append_left (by omega),k];rfl⟩
  |succ m=>
   obtain⟨d,v,y,s⟩:=r m q (by simpa using g);refine⟨(post t).length+d,by omega,by rw[length_append];omega, ?_⟩;rw[List.getElem?_append_right (by omega),show(post t).length+d- (post t).length=d by omega,s];simp
end
mutual
theorem zN.texts{w:World}{S:Nat->Prop}{cs:List Value} :∀ {lo i:Nat} {t:Tr},zN w S cs lo i t->∀y∈post t,y.tx.length<=maxLen
 |lo,i,.mk k tx br ops,.mk a b c c3 d e f l z,y,hy=>by
  rw[post]at hy;rcases List.mem_append.mp hy with h|h
  ·exact jl.texts f y h
  ·rw[List.mem_singleton.mp h];exact z
theorem jl.texts{w:World}{S:Nat->Prop}{cs:List Value} :∀ {lo d:Nat} {is:List Nat} {c:List Tr},jl w S cs lo d is c->∀y∈bX c,y.tx.length<=maxLen
 |_,_,_,_,.nil,y,hy=>by simp[bX]at hy
 |_,_,_,_,.cons a b,y,hy=>by
  rw[bX]at hy;rcases List.mem_append.mp hy with h|h
  ·exact zN.texts a y h
  ·exact jl.texts b y h
end
mutual
theorem FT(a:Bs->Int)(ps:Sc)(fns:List Fn):∀(t:Tr) (b:List Tr) (s:Tr) (d:List Tr) (n:Int),(∀x∈post t,mQ x)->post t=b++s::d->(∀p∈b,∃x,bg a ps fns p=.ok x)->bg a ps fns s=.error n->bg a ps fns t=.error n
 | .mk k tx h ops,b,s,d,n,hL,he,hp,hs=>by
  rw[post]at he;by_cases f:d= []
  ·subst f;have:=(List.append_inj' he rfl).2;simp at this;rw[this];exact hs
  ·obtain⟨c,e⟩:∃c,bX ops=b++s::c:=by
    refine⟨d.dropLast, ?_⟩;have g:=congrArg List.dropLast he;rw[List.dropLast_concat,List.dropLast_append_of_ne_nil (by simp),List.dropLast_cons_of_ne_nil f]at g;exact g
   have i:=vS a ps fns ops b s c n (λx j=>hL x (by rw[post];exact mem_append_left _ j)) e hp hs
   cases h with
   |false=>
    have:=(hL (.mk k tx false ops) (by rw[post];simp) rfl).1;rw[show(Tr.mk k tx false ops).ops=ops from rfl]at this;subst this;simp[bX]at e
   |true=>rw[bg,if_pos rfl,i];rfl
theorem vS(c:Bs->Int)(ps:Sc)(fns:List Fn):∀(k:List Tr) (d:List Tr) (s:Tr) (e:List Tr) (n:Int),(∀x∈bX k,mQ x)->bX k=d++s::e->(∀p∈d,∃x,bg c ps fns p=.ok x)->bg c ps fns s=.error n->bY c ps fns k=.error n
 | [],d,s,e,n,hL,he,hp,hs=>by simp[bX]at he
 |t::k,d,s,e,n,hL,he,hp,hs=>by
  rw[bX]at he hL;rcases List.append_eq_append_iff.mp he with⟨a,i,j⟩|⟨a,i,j⟩
  ·have g:∃x,bg c ps fns t=.ok x:=hp t (by rw[i];exact mem_append_left _ (mem_of_getElem? (dF t)));obtain⟨x,f⟩:=g;have:=vS c ps fns k a s e n (λx f=>hL x (mem_append_right _ f)) j (λp h=>hp p (by rw[i];exact mem_append_right _ h)) hs;rw[bY,f,this]
  ·cases a with
   |nil=>
    rw[List.append_nil]at i;rw[List.nil_append]at j;have g:∃x,bg c ps fns t=.ok x:=hp t (by rw[<-i];exact mem_of_getElem? (dF t));obtain⟨x,f⟩:=g;have:=vS c ps fns k [] s e n (λx f=>hL x (mem_append_right _ f)) j.symm (λp h=>by simp at h) hs;rw[bY,f,this]
   |cons b a=>
    rw[List.cons_append,List.cons.injEq]at j;have:=FT c ps fns t d s a n (λx f=>hL x (mem_append_left _ f)) (by rw[i,j.1]) hp hs;rw[bY,this]
end
def II(fns:List Fn)(t:Tr):Int:=if t.br&& !bM t.tx then(match bB fns t.tx with|none=>0|some i=>match fns[i]? with|none=>0|some f=>f.body.size)else 0
def lG:List Int->Int
 | []=>0
 |x::xs=>x+lG xs
theorem zy(a b:List Int):lG (a++b)=lG a+lG b:=by
 induction a with
 |nil=>simp[lG]
 |cons x c ih=>simp[lG,ih];omega
theorem GA(a:Bs->Int)(k:Int)(b:Bs):(cK a k b).size=1:=by
 unfold cK;repeat' split
 all_goals rfl
mutual
theorem vR(c:Bs->Int)(ps:Sc)(fns:List Fn):∀(t:Tr) (x:Ex),(∀y∈post t,mQ y)->bg c ps fns t=.ok x->x.size=(post t).length+lG ((post t).map (II fns))
 | .mk k tx h ops,x,hL,b=>by
  rw[post]at hL ⊢;rw[List.map_append,zy,length_append]
  cases h with
  |false=>
   have g:=(hL (.mk k tx false ops) (by simp) rfl).1;rw[show(Tr.mk k tx false ops).ops=ops from rfl]at g;subst g;rw[bg,if_neg Bool.false_ne_true]at b;have m:x.size=1:=by
    split at b
    ·unfold qH at b;split at b
     ·cases b
     ·split at b
      ·cases b
      ·cases b;rfl
    ·split at b
     ·unfold uN at b;split at b
      ·cases b
      ·cases b;rfl
     ·cases b;exact GA _ _ _
   rw[m];simp[bX,lG,II,Tr.br]
  |true=>
   rw[bg,if_pos rfl]at b
   cases d:bY c ps fns ops with
   |error n=>rw[d]at b;cases b
   |ok e=>
    rw[d]at b;have p:=yZ c ps fns ops e (λy o=>hL y (mem_append_left _ o)) d;have a:nR fns tx e=.ok x:=b;unfold nR at a
    cases hb:bM tx with
    |true=>
     rw[hb,if_pos rfl]at a;split at a
     ·cases a
     ·cases a;simp[Ex.size,lG,II,Tr.br,Tr.tx,hb];omega
    |false=>
     rw[hb,if_neg Bool.false_ne_true]at a;unfold lY at a;split at a
     ·cases a
     ·next i l=>
      split at a
      ·cases a
      ·next f j=>
       split at a
       ·cases a;simp[Ex.size,lG,II,Tr.br,Tr.tx,hb,l,j];omega
       ·cases a
theorem yZ(a:Bs->Int)(ps:Sc)(fns:List Fn):∀(b:List Tr) (c:List Ex),(∀y∈bX b,mQ y)->bY a ps fns b=.ok c->aG c=(bX b).length+lG ((bX b).map (II fns))
 | [],c,hL,h=>by
  rw[bY]at h;cases h;simp[bX,aG,lG]
 |t::b,c,hL,h=>by
  rw[bX]at hL ⊢;rw[bY]at h;split at h
  ·cases h
  ·next x f=>
   split at h
   ·cases h
   ·next g d=>
    cases h;have i:=vR a ps fns t x (λy e=>hL y (mem_append_left _ e)) f;have j:=yZ a ps fns b g (λy e=>hL y (mem_append_right _ e)) d;rw[List.map_append,zy,length_append,aG];omega
end
def dP(c:UInt8):Bool:=c==110||c==116||c==98
theorem uR(s:ByteArray)(w:World)(r:s.size<=maxLen):
  Calls prog 116 #[.string s] w λe w'=>e=.returned (.bool (s.toList.all dP))/\w'=w:=by
 unfold maxLen at r;go_enter Tryz.func116,Tryz.ntmps116
 go_wp2_with fail
 go_loop [3] (λi=>∃k:Nat,k<=s.size/\i=.int .i64 k/\Hid (s.toList.all dP=(s.toList.drop k).all dP)) (λi=>s.size- (intOf i).toNat)
 case atStart=>exact⟨0,zero_le _,rfl,rfl⟩
 case round=>
  obtain⟨k,t,rfl,b⟩:=hrel;by_cases j:k<s.size
  ·have f:Hid ((s.toList.drop k).all dP=(dP s[k]&&(s.toList.drop (k+1)).all dP)):=uj dP s k j;have d:Hid (dP s[k]=(decide ((s[k].toNat:Int)=110)||decide ((s[k].toNat:Int)=116)||decide ((s[k].toNat:Int)=98))):=by
    unfold dP;have e:∀n:Nat,n<256->(s[k]==UInt8.ofNat n)=decide ((s[k].toNat:Int)=n):=by
     intro n u;rw[Bool.eq_iff_iff];simp only[beq_iff_eq,decide_eq_true_eq];constructor
     ·intro h;rw[h];simp;omega
     ·intro h;apply UInt8.toNat_inj.mp;simp;omega
    have o:=e 110 (by omega);have p:=e 116 (by omega);have q:=e 98 (by omega);rw[Hid];show(s[k]==UInt8.ofNat 110||s[k]==UInt8.ofNat 116||s[k]==UInt8.ofNat 98)=_;rw[o,p,q];rfl
   by_cases a:(s[k].toNat:Int)=110
   ·go_wp2_with fail
    go_round
    case rel=>exact⟨k+1,by omega,by go_num,by rw[Hid,b.out,f.out,d.out,decide_eq_true a];rfl⟩
    case measure=>simp[intOf];omega
   ·by_cases c:(s[k].toNat:Int)=116
    ·go_wp2_with fail
     go_round
     case rel=>exact⟨k+1,by omega,by go_num,by rw[Hid,b.out,f.out,d.out,decide_eq_false a,decide_eq_true c];rfl⟩
     case measure=>simp[intOf];omega
    ·by_cases g:(s[k].toNat:Int)=98
     ·go_wp2_with fail
      go_round
      case rel=>exact⟨k+1,by omega,by go_num,by rw[Hid,b.out,f.out,d.out,decide_eq_false a,decide_eq_false c,decide_eq_true g];rfl⟩
      case measure=>simp[intOf];omega
     ·have m:Hid (dP s[k]=false):=by rw[Hid,d.out,decide_eq_false a,decide_eq_false c,decide_eq_false g];rfl
      have b1:((s[k].toNat:Int) != 110)=true:=by simpa using a
      have b2:((s[k].toNat:Int) != 116)=true:=by simpa using c
      have b3:((s[k].toNat:Int) != 98)=true:=by simpa using g
      clear a c g
      go_wp2_with fail
      go_ret;exact⟨ay (by rw[b.out,f.out,m.out];rfl),rfl⟩
  ·have l:Hid ((s.toList.drop k).all dP=true):=xV dP s k (by omega)
   go_wp2_with fail
   go_ret;exact⟨ay (by rw[b.out,l.out]),rfl⟩
def jq(l:Bs)(c:UInt8):Bool:=l.all (· ==c)&& !l.isEmpty
theorem uO(s:ByteArray)(c:UInt8)(w:World)(l:s.size<=maxLen):
  Calls prog 296 #[.string s,.int .u8 c.toNat] w λe w'=>e=.returned (.bool (jq s.toList c))/\w'=w:=by
 unfold maxLen at l;have h:Hid (jq s.toList c=(s.toList.all (· ==c)&& !s.toList.isEmpty)):=rfl;go_enter Tryz.func296,Tryz.ntmps296
 go_wp2_with fail
 go_loop [5] (λi=>∃k:Nat,k<=s.size/\i=.int .i64 k/\Hid (s.toList.all (· ==c)=(s.toList.drop k).all (· ==c))) (λi=>s.size- (intOf i).toNat)
 case atStart=>exact⟨0,zero_le _,rfl,rfl⟩
 case round=>
  obtain⟨k,o,rfl,b⟩:=hrel;by_cases f:k<s.size
  ·have g:Hid ((s.toList.drop k).all (· ==c)=((s[k]==c)&&(s.toList.drop (k+1)).all (· ==c))):=uj (· ==c) s k f;have n:Hid (s.toList.isEmpty=false):=oJ s (by omega);by_cases a:(s[k].toNat:Int)=c.toNat
   ·have d:Hid ((s[k]==c)=true):=by rw[Hid,beq_iff_eq];apply UInt8.toNat_inj.mp;omega
    go_wp2_with fail
    go_round
    case rel=>exact⟨k+1,by omega,by go_num,by rw[Hid,b.out,g.out,d.out];rfl⟩
    case measure=>simp[intOf];omega
   ·have d:Hid ((s[k]==c)=false):=by
     rw[Hid,beq_eq_false_iff_ne];intro e;rw[e]at a;exact a rfl
    have m:((s[k].toNat:Int) != (c.toNat:Int))=true:=by simpa using a
    clear a
    go_wp2_with fail
    go_ret;exact⟨ay (by rw[h.out,b.out,g.out,d.out];rfl),rfl⟩
  ·have j:Hid ((s.toList.drop k).all (· ==c)=true):=xV (· ==c) s k (by omega)
   go_wp2_with fail
   go_ret;exact⟨ay (by rw[h.out,b.out,j.out];rfl),rfl⟩
def ve(l:Bs):Bool:=match l with| [a,b]=>a==b|_=>false
def VW(l:Bs):Int:=match l with| [c,a,b]=>if c=98/\a=b then(a.toNat:Int)else 0|_=>0
def SE(l:Bs):Int:=match l with| [a]=>(a.toNat:Int)|_=>0
def iF(b:Bool)(n:Int):Int:=if b then n else 0
def VQ(l:Bs)(n:Int):Bool:=if n=98 then jq l 98 else jq l 116
def vE(h l:Bs):Int:=
 if h= [43]\/h= [45]\/h= [42]\/h= [47]then iF (l== [110,110]) 110
 else if h= [61]\/h= [60]\/h= [60,61]then iF (ve l) 98
 else if h= [97,110,100]\/h= [111,114]then iF (jq l 98) 98
 else if h= [110,111,116]then iF (l== [98]) 98
 else if h= [105,115,110,117,108,108]then iF ((l.length:Int)==1) 98
 else if h= [105,102]then VW l
 else if h= [108,101,110]then iF (l== [116]) 110
 else if h= [99,97,116]then iF (jq l 116) 116
 else if h= [110,111,116,101]then SE l else 0
theorem di(w:World)(n:Nat):Below w.heap.size w (w.drewN n):=⟨rfl,rfl,rfl,Nat.le_refl _,λ_ _=>rfl⟩
theorem dZ{a b:Int}(h:a=b):Ending.returned (.int .u8 a)=.returned (.int .u8 b):=by rw[h]
theorem nI{s:ByteArray}(h:s.size=2):∃a b,s.toList= [a,b]:=by
 have c:s.toList.length=2:=by rw[ah];exact h
 match s.toList,c with
 | [a,b],_=>exact⟨a,b,rfl⟩
theorem Vn{s:ByteArray}(h:s.size=3):∃a b c,s.toList= [a,b,c]:=by
 have d:s.toList.length=3:=by rw[ah];exact h
 match s.toList,d with
 | [a,b,c],_=>exact⟨a,b,c,rfl⟩
theorem xP(h:Bs)(hb:bM h=true)(s:ByteArray)(w:World)(F:s.size<=maxLen):
  Calls prog 247 #[.string ⟨h.toArray⟩,.string s] w λe w'=>e=.returned (.int .u8 (vE h s.toList))/\Below w.heap.size w w':=by
 have k:∀(n:Int) (x:World),(n=98\/n=116)->Calls prog 296 #[.string s,.int .u8 n] x λe w'=>e=.returned (.bool (VQ s.toList n))/\w'=x:=by
  rintro n x (rfl|rfl)
  ·exact uO s 98 x F
  ·exact uO s 116 x F
 have E:VQ s.toList 98=jq s.toList 98:=rfl;have G:VQ s.toList 116=jq s.toList 116:=rfl;obtain⟨K,u⟩:∃b,b=jq s.toList 98:=⟨_,rfl⟩;obtain⟨P,v⟩:∃b,b=jq s.toList 116:=⟨_,rfl⟩;rw[<-u]at E;rw[<-v]at G;have g:Hid (K=jq s.toList 98):=u;have i:Hid (P=jq s.toList 116):=v;clear u v;unfold maxLen at F;go_enter Tryz.func247,Tryz.ntmps247;go_upto_region 1 with fail
 go_cut [5] (λO Q=>∃C:Bool,O=.bool C/\Hid (C=ve s.toList)/\Below w.heap.size w Q)
 case first=>
  by_cases J:s.size=2
  ·have B:Hid (((s[0].toNat:Int)==(s[1].toNat:Int))=ve s.toList):=by
    obtain⟨a,b,q⟩:=nI J;have H:s[0]=a:=by have:=ed s 0 (by omega);simp only[q]at this;exact this.symm
    have g1:s[1]=b:=by have:=ed s 1 (by omega);simp only[q]at this;exact this.symm
    rw[Hid,q,H,g1,ve,Bool.eq_iff_iff];simp only[beq_iff_eq];exact⟨λe=>UInt8.toNat_inj.mp (by omega),λe=>by rw[e]⟩
   go_region;all_goals(go_wp2_with fail;go_meet)
   all_goals exact⟨_,rfl,B,by first|exact di _ _|exact refl _ _|exact(refl _ _).drew⟩
  ·have B:Hid (false=ve s.toList):=by
    have r:s.toList.length≠2:=by rw[ah];exact J
    rw[Hid]
    match s.toList,r with
    | [],_=>rfl
    | [_],_=>rfl
    | [_,_],r=>exact absurd rfl r
    |_::_::_::_,_=>rfl
   have A:((s.size:Int)==2)=false:=by simp;omega
   go_region;all_goals(go_wp2_with fail;go_meet)
   all_goals exact⟨_,rfl,B,by first|exact di _ _|exact refl _ _|exact(refl _ _).drew⟩
 case rest=>
  obtain⟨C,rfl,f,d⟩:=hcut;simp only[bM,ou,any_cons,any_nil,or_eq_true,beq_iff_eq,Bool.or_false]at hb;rcases hb with rfl|rfl|rfl|rfl|rfl|rfl|rfl|rfl|rfl|rfl|rfl|rfl|rfl|rfl|rfl
  ·go_wp2_with(go_at_call 296;refine(k _ _ (by decide)).mono ?_;rintro e w2 ⟨rfl,rfl⟩)
   all_goals(try(go_region;all_goals(try go_wp2_with fail)))
   all_goals go_ret
   all_goals(refine⟨dZ ?_,by first|exact d|exact d.drew|exact d.trans (di _ _)⟩;have m:=g.out;have o:=i.out;have p:=f.out;simp_all[vE,iF])
  ·go_wp2_with(go_at_call 296;refine(k _ _ (by decide)).mono ?_;rintro e w2 ⟨rfl,rfl⟩)
   all_goals(try(go_region;all_goals(try go_wp2_with fail)))
   all_goals go_ret
   all_goals(refine⟨dZ ?_,by first|exact d|exact d.drew|exact d.trans (di _ _)⟩;have m:=g.out;have o:=i.out;have p:=f.out;simp_all[vE,iF])
  ·go_wp2_with(go_at_call 296;refine(k _ _ (by decide)).mono ?_;rintro e w2 ⟨rfl,rfl⟩)
   all_goals(try(go_region;all_goals(try go_wp2_with fail)))
   all_goals go_ret
   all_goals(refine⟨dZ ?_,by first|exact d|exact d.drew|exact d.trans (di _ _)⟩;have m:=g.out;have o:=i.out;have p:=f.out;simp_all[vE,iF])
  ·go_wp2_with(go_at_call 296;refine(k _ _ (by decide)).mono ?_;rintro e w2 ⟨rfl,rfl⟩)
   all_goals(try(go_region;all_goals(try go_wp2_with fail)))
   all_goals go_ret
   all_goals(refine⟨dZ ?_,by first|exact d|exact d.drew|exact d.trans (di _ _)⟩;have m:=g.out;have o:=i.out;have p:=f.out;simp_all[vE,iF])
  ·go_wp2_with(go_at_call 296;refine(k _ _ (by decide)).mono ?_;rintro e w2 ⟨rfl,rfl⟩)
   all_goals(try(go_region;all_goals(try go_wp2_with fail)))
   all_goals go_ret
   all_goals(refine⟨dZ ?_,by first|exact d|exact d.drew|exact d.trans (di _ _)⟩;have m:=g.out;have o:=i.out;have p:=f.out;simp_all[vE,iF])
  ·go_wp2_with(go_at_call 296;refine(k _ _ (by decide)).mono ?_;rintro e w2 ⟨rfl,rfl⟩)
   all_goals(try(go_region;all_goals(try go_wp2_with fail)))
   all_goals go_ret
   all_goals(refine⟨dZ ?_,by first|exact d|exact d.drew|exact d.trans (di _ _)⟩;have m:=g.out;have o:=i.out;have p:=f.out;simp_all[vE,iF])
  ·go_wp2_with(go_at_call 296;refine(k _ _ (by decide)).mono ?_;rintro e w2 ⟨rfl,rfl⟩)
   all_goals(try(go_region;all_goals(try go_wp2_with fail)))
   all_goals go_ret
   all_goals(refine⟨dZ ?_,by first|exact d|exact d.drew|exact d.trans (di _ _)⟩;have m:=g.out;have o:=i.out;have p:=f.out;simp_all[vE,iF])
  ·go_wp2_with(go_at_call 296;refine(k _ _ (by decide)).mono ?_;rintro e w2 ⟨rfl,rfl⟩)
   all_goals(try(go_region;all_goals(try go_wp2_with fail)))
   all_goals go_ret
   all_goals(refine⟨dZ ?_,by first|exact d|exact d.drew|exact d.trans (di _ _)⟩;have m:=g.out;have o:=i.out;have p:=f.out;simp_all[vE,iF])
  ·go_wp2_with(go_at_call 296;refine(k _ _ (by decide)).mono ?_;rintro e w2 ⟨rfl,rfl⟩)
   all_goals(try(go_region;all_goals(try go_wp2_with fail)))
   all_goals go_ret
   all_goals(refine⟨dZ ?_,by first|exact d|exact d.drew|exact d.trans (di _ _)⟩;have m:=g.out;have o:=i.out;have p:=f.out;simp_all[vE,iF])
  ·go_wp2_with(go_at_call 296;refine(k _ _ (by decide)).mono ?_;rintro e w2 ⟨rfl,rfl⟩)
   all_goals(try(go_region;all_goals(try go_wp2_with fail)))
   all_goals go_ret
   all_goals(refine⟨dZ ?_,by first|exact d|exact d.drew|exact d.trans (di _ _)⟩;have m:=g.out;have o:=i.out;have p:=f.out;simp_all[vE,iF])
  ·have N:s.toList.length=s.size:=ah s
   go_wp2_with(go_at_call 296;refine(k _ _ (by decide)).mono ?_;rintro e w2 ⟨rfl,rfl⟩)
   all_goals(try(go_region;all_goals(try go_wp2_with fail)))
   all_goals go_ret
   all_goals(refine⟨dZ ?_,by first|exact d|exact d.drew|exact d.trans (di _ _)⟩;have m:=g.out;have o:=i.out;have p:=f.out;simp_all[vE,iF])
  ·by_cases A:s.size=3
   ·obtain⟨a,b,c,q⟩:=Vn A;have H:s[0]=a:=by have:=ed s 0 (by omega);simp only[q]at this;exact this.symm
    have g1:s[1]=b:=by have:=ed s 1 (by omega);simp only[q]at this;exact this.symm
    have R:s[2]=c:=by have:=ed s 2 (by omega);simp only[q]at this;exact this.symm
    have y:Hid (vE [105,102] s.toList=if a=98/\b=c then(b.toNat:Int)else 0):=by rw[Hid,q];rfl
    clear q;by_cases t:a=98
    ·have D:((a.toNat:Int)==98)=true:=by rw[t];rfl
     by_cases l:b=c
     ·have z:((b.toNat:Int)==(c.toNat:Int))=true:=by rw[l];simp
      have j:Hid (vE [105,102] s.toList=(b.toNat:Int)):=by rw[Hid,y.out,if_pos ⟨t,l⟩]
      clear y t l
      go_wp2_with(go_at_call 296;refine(k _ _ (by decide)).mono ?_;rintro e w2 ⟨rfl,rfl⟩)
      all_goals(try(go_region;all_goals(try go_wp2_with fail)))
      all_goals go_ret
      all_goals exact⟨dZ j.out.symm,by first|exact d|exact d.drew|exact d.trans (di _ _)⟩
     ·have z:((b.toNat:Int)==(c.toNat:Int))=false:=by
       rw[beq_eq_false_iff_ne];intro e;exact l (UInt8.toNat_inj.mp (by omega))
      have j:Hid (vE [105,102] s.toList=0):=by rw[Hid,y.out,if_neg (λh=>l h.2)]
      clear y t l
      go_wp2_with(go_at_call 296;refine(k _ _ (by decide)).mono ?_;rintro e w2 ⟨rfl,rfl⟩)
      all_goals(try(go_region;all_goals(try go_wp2_with fail)))
      all_goals go_ret
      all_goals exact⟨dZ j.out.symm,by first|exact d|exact d.drew|exact d.trans (di _ _)⟩
    ·have D:((a.toNat:Int)==98)=false:=by
      rw[beq_eq_false_iff_ne];intro e;exact t (UInt8.toNat_inj.mp (by simpa using Int.ofNat.inj e))
     have j:Hid (vE [105,102] s.toList=0):=by rw[Hid,y.out,if_neg (λh=>t h.1)]
     clear y t
     go_wp2_with(go_at_call 296;refine(k _ _ (by decide)).mono ?_;rintro e w2 ⟨rfl,rfl⟩)
     all_goals(try(go_region;all_goals(try go_wp2_with fail)))
     all_goals go_ret
     all_goals exact⟨dZ j.out.symm,by first|exact d|exact d.drew|exact d.trans (di _ _)⟩
   ·have M:((s.size:Int)==3)=false:=by simp;omega
    have j:Hid (vE [105,102] s.toList=0):=by
     rw[Hid];show VW s.toList=0;have r:s.toList.length≠3:=by rw[ah];exact A
     match s.toList,r with
     | [],_=>rfl
     | [_],_=>rfl
     | [_,_],_=>rfl
     | [_,_,_],r=>exact absurd rfl r
     |_::_::_::_::_,_=>rfl
    clear A
    go_wp2_with(go_at_call 296;refine(k _ _ (by decide)).mono ?_;rintro e w2 ⟨rfl,rfl⟩)
    all_goals(try(go_region;all_goals(try go_wp2_with fail)))
    all_goals go_ret
    all_goals exact⟨dZ j.out.symm,by first|exact d|exact d.drew|exact d.trans (di _ _)⟩
  ·go_wp2_with(go_at_call 296;refine(k _ _ (by decide)).mono ?_;rintro e w2 ⟨rfl,rfl⟩)
   all_goals(try(go_region;all_goals(try go_wp2_with fail)))
   all_goals go_ret
   all_goals(refine⟨dZ ?_,by first|exact d|exact d.drew|exact d.trans (di _ _)⟩;have m:=g.out;have o:=i.out;have p:=f.out;simp_all[vE,iF])
  ·go_wp2_with(go_at_call 296;refine(k _ _ (by decide)).mono ?_;rintro e w2 ⟨rfl,rfl⟩)
   all_goals(try(go_region;all_goals(try go_wp2_with fail)))
   all_goals go_ret
   all_goals(refine⟨dZ ?_,by first|exact d|exact d.drew|exact d.trans (di _ _)⟩;have m:=g.out;have o:=i.out;have p:=f.out;simp_all[vE,iF])
  ·by_cases I:s.size=1
   ·have j:Hid (vE [110,111,116,101] s.toList=(s[0].toNat:Int)):=by
     have q:s.toList= [s[0]]:=by
      have:=drop_cons s 0 (by omega);rw[List.drop_zero]at this;rw[this,List.drop_of_length_le (by rw[ah];omega)]
     rw[Hid,q];rfl
    go_wp2_with(go_at_call 296;refine(k _ _ (by decide)).mono ?_;rintro e w2 ⟨rfl,rfl⟩)
    all_goals(try(go_region;all_goals(try go_wp2_with fail)))
    all_goals go_ret
    all_goals exact⟨dZ j.out.symm,by first|exact d|exact d.drew|exact d.trans (di _ _)⟩
   ·have L:((s.size:Int)==1)=false:=by simp;omega
    have j:Hid (vE [110,111,116,101] s.toList=0):=by
     rw[Hid];show SE s.toList=0;have r:s.toList.length≠1:=by rw[ah];exact I
     match s.toList,r with
     | [],_=>rfl
     | [_],r=>exact absurd rfl r
     |_::_::_,_=>rfl
    clear I
    go_wp2_with(go_at_call 296;refine(k _ _ (by decide)).mono ?_;rintro e w2 ⟨rfl,rfl⟩)
    all_goals(try(go_region;all_goals(try go_wp2_with fail)))
    all_goals go_ret
    all_goals exact⟨dZ j.out.symm,by first|exact d|exact d.drew|exact d.trans (di _ _)⟩
def mO(t:Int):Int:=if t=1 then 110 else if t=2 then 116 else if t=3 then 98 else 0
structure RF where
 fn:Fn
 args:Bs
 t:Tr
def wC(w:World)(b i:Nat)(rf:RF):Prop:=∃(g cap:Nat) (cs:List Value) (tX:Nat->Int),
 w.cell? ⟨b,i*5,none⟩=some (.string (aa rf.fn.name))/\w.cell? ⟨b,i*5+1,none⟩=some (.string (aa rf.args))/\w.cell? ⟨b,i*5+2,none⟩=some (.slice (some ⟨g,0,none⟩) (post rf.t).length cap)/\
 w.cell? ⟨b,i*5+3,none⟩=some (.int .i64 rf.fn.body.size)/\w.cell? ⟨b,i*5+4,none⟩=some (.bool rf.fn.body.quiet)/\(post rf.t).length<=1000/\
 w.ownsRow 0 183 4 (.slice (some ⟨g,0,none⟩) (post rf.t).length cap) (post rf.t).length cs/\iR w (λ_=>True) cs 0 (post rf.t) tX/\tX ((post rf.t).length- 1)=mO rf.fn.body.ty
def jk(w:World)(v:Value)(rfs:List RF):Prop:=∃ao cap,v=.slice ao rfs.length cap/\rfs.length<=8/\(rfs= []\/∃b,ao=some ⟨b,0,none⟩/\b<w.heap.size/\∀(i:Nat) (rf:RF),rfs[i]? =some rf->wC w b i rf)
theorem BA.ag{w x:World}{S:Nat->Prop}{cs:List Value}{lo:Nat}{l:List Tr}{ty:Nat->Int}{j:Nat}{t:Tr}(h:BA w S cs lo l ty j t)(hb:Below w.heap.size w x):BA x S cs lo l ty j t:=by
 obtain⟨v,is,b,c,d,e,a,f⟩:=h;exact⟨v,is,b,c,d,e,aA a λg i=>hb.block g (a.lt g i).2,f⟩
theorem iR.ag{w x:World}{S:Nat->Prop}{cs:List Value}{lo:Nat}{l:List Tr}{ty:Nat->Int}(h:iR w S cs lo l ty)(hb:Below w.heap.size w x):iR x S cs lo l ty:=λj t a=>(h j t a).ag hb
theorem wC.ag{w x:World}{b i:Nat}{d:RF}(h:wC w b i d)(a:b<w.heap.size)(hb:Below w.heap.size w x):wC x b i d:=by
 obtain⟨g,cap,cs,tX,e,f,j,k,l,m,c,n,o⟩:=h;exact⟨g,cap,cs,tX,(hb.cell (p:=⟨b,_,none⟩) a).trans e,(hb.cell (p:=⟨b,_,none⟩) a).trans f,(hb.cell (p:=⟨b,_,none⟩) a).trans j,(hb.cell (p:=⟨b,_,none⟩) a).trans k,(hb.cell (p:=⟨b,_,none⟩) a).trans l,m,aA c λg q=>hb.block g (c.lt g q).2,n.ag hb,o⟩
theorem jk.ag{w x:World}{v:Value}{a:List RF}(h:jk w v a)(hb:Below w.heap.size w x):jk x v a:=by
 obtain⟨c,cap,d,f,g⟩:=h;refine⟨c,cap,d,f, ?_⟩;rcases g with h|⟨b,e,hl,hc⟩
 ·exact .inl h
 ·exact .inr ⟨b,e,by have:=hb.size;omega,λi k j=>(hc i k j).ag hl hb⟩
structure nN(w:World)(co:Option Addr)(cn:Nat)(cc:Nat)(to':Option Addr)(tn:Nat)(tc:Nat)(fv:Value)(ax:List (Bs × Int))(rfs:List RF):Prop where
 Vg:cn=ax.length
 VC:tn=ax.length
 small:ax.length<=1000
 SA:ax= []\/∃b,co=some ⟨b,0,none⟩/\b<w.heap.size/\∀(i:Nat) (c:Bs × Int),ax[i]? =some c->w.cell? ⟨b,i,none⟩=some (.string (aa c.1))
 OE:ax= []\/∃b,to'=some ⟨b,0,none⟩/\b<w.heap.size/\∀(i:Nat) (c:Bs × Int),ax[i]? =some c->w.cell? ⟨b,i,none⟩=some (.int .u8 (mO c.2))
 Vf:ax.length<=cc
 GK:ax.length<=tc
 fns:jk w fv rfs
theorem nN.ag{w x:World}{co:Option Addr}{cn cc:Nat}{d:Option Addr}{j g:Nat}{fv:Value}{ax:List (Bs × Int)}{a:List RF}(h:nN w co cn cc d j g fv ax a)(hb:Below w.heap.size w x):nN x co cn cc d j g fv ax a:=by
 refine⟨h.Vg,h.VC,h.small, ?_, ?_,h.Vf,h.GK,h.fns.ag hb⟩
 ·rcases h.SA with h|⟨b,e,hl,hc⟩
  ·exact .inl h
  ·exact .inr ⟨b,e,by have:=hb.size;omega,λi c f=>(hb.cell (p:=⟨b,_,none⟩) hl).trans (hc i c f)⟩
 ·rcases h.OE with h|⟨b,e,hl,hc⟩
  ·exact .inl h
  ·exact .inr ⟨b,e,by have:=hb.size;omega,λi c f=>(hb.cell (p:=⟨b,_,none⟩) hl).trans (hc i c f)⟩
def RF.list(rfs:List RF):List Fn:=rfs.map RF.fn
def zJ(o:Option Nat):Int:=match o with|none=> -1|some i=>(i:Int)
def jZ(rfs:List RF)(l:Bs)(i:Nat):Option Nat:=((rfs.drop i).findIdx? (λr=>r.fn.name==l)).map (· +i)
theorem Fa(a:List RF)(l:Bs):jZ a l 0=bB (RF.list a) l:=by
 unfold jZ bB RF.list;rw[List.drop_zero,List.findIdx?_map];simp[Function.comp_def]
theorem IV{a:List RF}{l:Bs}{i:Nat}(b:i<a.length)(h:(a[i].fn.name==l)=true):jZ a l i=some i:=by
 unfold jZ;rw[List.drop_eq_getElem_cons b,findIdx?_cons,h];simp
theorem EZ{a:List RF}{l:Bs}{i:Nat}(b:i<a.length)(h:(a[i].fn.name==l)=false):jZ a l i=jZ a l (i+1):=by
 unfold jZ;rw[List.drop_eq_getElem_cons b,findIdx?_cons,h];simp only[Bool.false_eq_true,if_false,Option.map_map];congr 1;funext x;simp;omega
theorem IU{a:List RF}{l:Bs}{i:Nat}(b:a.length<=i):jZ a l i=none:=by
 unfold jZ;rw[List.drop_of_length_le b];rfl
theorem fI(w:World)(r s:Value)(a:ByteArray)(j:Option Addr)(t m:Nat)(c:List RF)(h:jk w (.slice j t m) c)(l:Bs):
  Calls prog 67 #[.agg #[r,s,.string a,.slice j t m],.string (aa l)] w λe w'=>e=.returned (.int .i64 (zJ (bB (RF.list c) l)))/\Below w.heap.size w w':=by
 obtain⟨H,cap,u,I,x⟩:=h
 cases u;have o:=Fa c l;have f:=ae w (.cells #[r,s,.string a,.slice j c.length m] 214);have A:(w.alloc (.cells #[r,s,.string a,.slice j c.length m] 214)).cell? ⟨w.heap.size,3,none⟩=some (.slice j c.length m):=(af (heap_alloc_new w _)).trans rfl;clear A;obtain⟨W,v⟩:∃W,W=w.alloc (.cells #[r,s,.string a,.slice j c.length m] 214):=⟨_,rfl⟩;have d:w.alloc (.cells #[r,s,.string a,.slice j c.length m] 214)=W:=v.symm;rw[d]at f;have A:W.cell? ⟨w.heap.size,3,none⟩=some (.slice j c.length m):=by rw[v];exact(af (heap_alloc_new w _)).trans rfl
 clear v;go_enter Tryz.func67,Tryz.ntmps67
 go_wp2_with fail
 try rw[d]
 clear d;go_loop [5] (λF=>∃i:Nat,i<=c.length/\F=.int .i64 i/\Hid (jZ c l 0=jZ c l i)) (λi=>c.length- (intOf i).toNat)
 case atStart=>exact⟨0,zero_le _,rfl,rfl⟩
 case round=>
  obtain⟨i,J,rfl,n⟩:=hrel;by_cases k:i<c.length
  ·obtain⟨b,rfl,hb,z⟩:∃b,j=some ⟨b,0,none⟩/\b<w.heap.size/\∀(i:Nat) (C:RF),c[i]? =some C->wC w b i C:=by
    rcases x with h|h
    ·subst h;simp at k
    ·exact h
   obtain⟨g,y,cs,tX,B,_⟩:=z i c[i] (getElem?_eq_getElem k);have G:=(f.cell (p:=⟨b,i*5,none⟩) hb).trans B;have D:b<W.heap.size:=by have:=f.size;omega
   have K:(aa c[i].fn.name).toList=c[i].fn.name:=au _;have E:(aa l).toList=l:=au _;clear z x B
   cases u:(c[i].fn.name==l)with
   |true=>
    have q:Hid (bB (RF.list c) l=some i):=by rw[Hid,<-o,n.out,IV k u]
    clear o n
    go_wp2_with fail
    go_ret;exact⟨by rw[q.out];rfl,f⟩
   |false=>
    have q:Hid (jZ c l 0=jZ c l (i+1)):=by rw[Hid,n.out,EZ k u]
    clear o n
    go_wp2_with fail
    go_round
    case rel=>exact⟨i+1,by omega,by go_num,q⟩
    case measure=>simp[intOf];omega
  ·have q:Hid (bB (RF.list c) l=none):=by rw[Hid,<-o,n.out,IU (by omega)]
   clear o n x
   go_wp2_with fail
   go_ret;exact⟨by rw[q.out];rfl,f⟩
def sH:Bs:=[117,115,101,114]
def sG:Bs:=[116,114,117,101]
def nW:Bs:=[102,97,108,115,101]
def qQ(args t:Bs):Int:=match args[(t.getD 1 0).toNat- 49]? with|none=>0|some c=>(c.toNat:Int)
def wR(ax:List (Bs × Int))(o:Option Nat):Int:=match o with|none=>0|some i=>match ax[i]? with|none=>0|some c=>mO c.2
def mY(ax:List (Bs × Int))(args t:Bs):Int:=
 if dK t then 110 else if cB t||t==sH then 116 else if t==sG||t==nW then 98 else if iC t then qQ args t else wR ax (mo ax t)
def gL(ax:List (Bs × Int))(l:Bs)(i:Nat):Option Nat:=((ax.drop i).findIdx? (λc=>c.1==l)).map (· +i)
theorem Cg(ax:List (Bs × Int))(l:Bs):mo ax l=gL ax l 0:=by
 unfold gL mo;simp
theorem EB{ax:List (Bs × Int)}{l:Bs}{i:Nat}(a:i<ax.length)(h:(ax[i].1==l)=true):gL ax l i=some i:=by
 unfold gL;rw[List.drop_eq_getElem_cons a,findIdx?_cons,h];simp
theorem Cf{ax:List (Bs × Int)}{l:Bs}{i:Nat}(a:i<ax.length)(h:(ax[i].1==l)=false):gL ax l i=gL ax l (i+1):=by
 unfold gL;rw[List.drop_eq_getElem_cons a,findIdx?_cons,h];simp only[Bool.false_eq_true,if_false,Option.map_map];congr 1;funext x;simp;omega
theorem EA{ax:List (Bs × Int)}{l:Bs}{i:Nat}(a:ax.length<=i):gL ax l i=none:=by
 unfold gL;rw[List.drop_of_length_le a];rfl
theorem xO(w:World)(co:Option Addr)(cn cc:Nat)(g:Option Addr)(C B:Nat)(args:Bs)(F:Option Addr)(j E:Nat)(ax:List (Bs × Int))(S:List RF)(h:nN w co cn cc g C B (.slice F j E) ax S)(L:args.length<=maxLen)(l:Bs)(Z:l.length<=maxLen):
  Calls prog 246 #[.agg #[.slice co cn cc,.slice g C B,.string (aa args),.slice F j E],.string (aa l)] w λe w'=>e=.returned (.int .u8 (mY ax args l))/\Below w.heap.size w w':=by
 have q:∀x:World,Calls prog 180 #[.string (aa l)] x λe w'=>e=.returned (.tuple #[.int .i64 (mU l),.bool (dK l)])/\w'=x:=by
  intro x;have:=eO (aa l) x (by rw[aF];exact Z);rw[au]at this;exact this
 have s:∀x:World,Calls prog 182 #[.string (aa l)] x λe w'=>e=.returned (.bool (cB l))/\w'=x:=by
  intro x;have:=iK (aa l) x (by rw[aF];exact Z);rw[au]at this;exact this
 have r:∀x:World,Calls prog 183 #[.string (aa l)] x λe w'=>e=.returned (.int .i64 (iJ l))/\w'=x:=by
  intro x;have:=dG (aa l) x;rw[au]at this;exact this
 have a:=ae w (.cells #[.slice co cn cc,.slice g C B,.string (aa args),.slice F j E] 214);obtain⟨W,Q⟩:∃W,W=w.alloc (.cells #[.slice co cn cc,.slice g C B,.string (aa args),.slice F j E] 214):=⟨_,rfl⟩;have o:w.alloc (.cells #[.slice co cn cc,.slice g C B,.string (aa args),.slice F j E] 214)=W:=Q.symm;rw[o]at a;have v:W.heap[w.heap.size]? =some (.cells #[.slice co cn cc,.slice g C B,.string (aa args),.slice F j E] 214 (0,0)):=by rw[Q];exact heap_alloc_new w _
 have k0:W.cell? ⟨w.heap.size,0,none⟩=some (.slice co cn cc):=(af v).trans rfl;have k1:W.cell? ⟨w.heap.size,1,none⟩=some (.slice g C B):=(af v).trans rfl;have k2:W.cell? ⟨w.heap.size,2,none⟩=some (.string (aa args)):=(af v).trans rfl;obtain⟨rfl,rfl,a5,O,P,a3,a6,_⟩:=h;have f:Hid (mY ax args l=if dK l then 110 else if cB l||l==sH then 116 else if l==sG||l==nW then 98 else if iC l then qQ args l else wR ax (mo ax l)):=rfl;obtain⟨nv,K⟩:∃n,n=mU l:=⟨_,rfl⟩;have ho:(aa l).toList=l:=au _;have R:(aa args).size=args.length:=aF _;rw[<-K]at q;clear Q v K
 cases T:dK l with
 |true=>
  rw[T]at q f;go_enter Tryz.func246,Tryz.ntmps246
  go_wp2_with(first
   |(go_at_call 180;refine(q _).mono ?_;rintro e w2 ⟨rfl,rfl⟩)
   |(go_at_call 182;refine(s _).mono ?_;rintro e w2 ⟨rfl,rfl⟩)
   |(go_at_call 183;refine(r _).mono ?_;rintro e w2 ⟨rfl,rfl⟩))
  go_ret;exact⟨dZ f.out.symm,a⟩
 |false=>
  rw[T]at q f;rw[if_neg Bool.false_ne_true]at f
  cases u:(cB l||l==sH)with
  |true=>
   rw[u]at f
   cases G:cB l with
   |true=>
    rw[G]at s;clear u;go_enter Tryz.func246,Tryz.ntmps246
    go_wp2_with(first
     |(go_at_call 180;refine(q _).mono ?_;rintro e w2 ⟨rfl,rfl⟩)
     |(go_at_call 182;refine(s _).mono ?_;rintro e w2 ⟨rfl,rfl⟩)
     |(go_at_call 183;refine(r _).mono ?_;rintro e w2 ⟨rfl,rfl⟩))
    go_ret;exact⟨dZ f.out.symm,a⟩
   |false=>
    rw[G]at s u;have hu:(l== [117,115,101,114])=true:=by rw[Bool.false_or]at u;exact u
    clear u;go_enter Tryz.func246,Tryz.ntmps246
    go_wp2_with(first
     |(go_at_call 180;refine(q _).mono ?_;rintro e w2 ⟨rfl,rfl⟩)
     |(go_at_call 182;refine(s _).mono ?_;rintro e w2 ⟨rfl,rfl⟩)
     |(go_at_call 183;refine(r _).mono ?_;rintro e w2 ⟨rfl,rfl⟩))
    go_ret;exact⟨dZ f.out.symm,a⟩
  |false=>
   rw[u,if_neg Bool.false_ne_true]at f;rw[Bool.or_eq_false_iff]at u;obtain⟨G,U⟩:=u;have hu:(l== [117,115,101,114])=false:=U;rw[G]at s;clear G U
   cases y:(l==sG||l==nW)with
   |true=>
    rw[y]at f;have hd:((l== [116,114,117,101])||(l== [102,97,108,115,101]))=true:=y;clear y;go_enter Tryz.func246,Tryz.ntmps246
    go_wp2_with(first
     |(go_at_call 180;refine(q _).mono ?_;rintro e w2 ⟨rfl,rfl⟩)
     |(go_at_call 182;refine(s _).mono ?_;rintro e w2 ⟨rfl,rfl⟩)
     |(go_at_call 183;refine(r _).mono ?_;rintro e w2 ⟨rfl,rfl⟩))
    all_goals go_ret
    all_goals exact⟨dZ f.out.symm,a⟩
   |false=>
    rw[y,if_neg Bool.false_ne_true]at f;rw[Bool.or_eq_false_iff]at y;have ht:(l== [116,114,117,101])=false:=y.1;have hf:(l== [102,97,108,115,101])=false:=y.2;clear y
    cases z:iC l with
    |true=>
     rw[z,if_pos rfl]at f;obtain⟨c,rfl,a1,a2⟩:=uM z;have m:iJ [36,c]=(c.toNat:Int)- 49:=by rw[iJ,z];rfl
     rw[m]at r;obtain⟨k,M⟩:∃k,k=c.toNat- 49:=⟨_,rfl⟩;have A:(c.toNat:Int)- 49=(k:Int):=by omega
     rw[A]at r;by_cases d:k<args.length
     ·have J:k<(aa args).size:=by rw[R];exact d
      have t:Hid (qQ args [36,c]=((aa args)[k].toNat:Int)):=by
       have e:=ed (aa args) k J;simp only[au]at e;rw[Hid,qQ,show([36,c]:Bs).getD 1 0=c from rfl,<-M,getElem?_eq_getElem d,<-e]
      clear z A M m;go_enter Tryz.func246,Tryz.ntmps246
      go_wp2_with(first
       |(go_at_call 180;refine(q _).mono ?_;rintro e w2 ⟨rfl,rfl⟩)
       |(go_at_call 182;refine(s _).mono ?_;rintro e w2 ⟨rfl,rfl⟩)
       |(go_at_call 183;refine(r _).mono ?_;rintro e w2 ⟨rfl,rfl⟩))
      all_goals go_ret
      all_goals exact⟨dZ (by rw[f.out,t.out]),a⟩
     ·have t:Hid (qQ args [36,c]=0):=by
       rw[Hid,qQ,show([36,c]:Bs).getD 1 0=c from rfl,<-M,List.getElem?_eq_none (by omega)]
      clear z A M m;go_enter Tryz.func246,Tryz.ntmps246
      go_wp2_with(first
       |(go_at_call 180;refine(q _).mono ?_;rintro e w2 ⟨rfl,rfl⟩)
       |(go_at_call 182;refine(s _).mono ?_;rintro e w2 ⟨rfl,rfl⟩)
       |(go_at_call 183;refine(r _).mono ?_;rintro e w2 ⟨rfl,rfl⟩))
      all_goals go_ret
      all_goals exact⟨dZ (by rw[f.out,t.out]),a⟩
    |false=>
     rw[z,if_neg Bool.false_ne_true,Cg]at f;have m:iJ l= -1:=by rw[iJ,z];rfl
     rw[m]at r;clear z m;go_enter Tryz.func246,Tryz.ntmps246
     go_wp2_with(first
      |(go_at_call 180;refine(q _).mono ?_;rintro e w2 ⟨rfl,rfl⟩)
      |(go_at_call 182;refine(s _).mono ?_;rintro e w2 ⟨rfl,rfl⟩)
      |(go_at_call 183;refine(r _).mono ?_;rintro e w2 ⟨rfl,rfl⟩))
     try rw[o]
     clear o q s r;go_loop [9] (λiv=>∃i:Nat,i<=ax.length/\iv=.int .i64 i/\Hid (gL ax l 0=gL ax l i)) (λi=>ax.length- (intOf i).toNat)
     case atStart=>exact⟨0,zero_le _,rfl,rfl⟩
     case round=>
      obtain⟨i,hi,rfl,D⟩:=hrel;by_cases d:i<ax.length
      ·obtain⟨b,rfl,hb,X⟩:∃b,co=some ⟨b,0,none⟩/\b<w.heap.size/\∀(i:Nat) (c:Bs × Int),ax[i]? =some c->w.cell? ⟨b,i,none⟩=some (.string (aa c.1)):=by
        rcases O with h|h
        ·subst h;simp at d
        ·exact h
       obtain⟨b',rfl,H,I⟩:∃b,g=some ⟨b,0,none⟩/\b<w.heap.size/\∀(i:Nat) (c:Bs × Int),ax[i]? =some c->w.cell? ⟨b,i,none⟩=some (.int .u8 (mO c.2)):=by
        rcases P with h|h
        ·subst h;simp at d
        ·exact h
       have q0:=(a.cell (p:=⟨b,i,none⟩) hb).trans (X i ax[i] (getElem?_eq_getElem d));have q1:=(a.cell (p:=⟨b',i,none⟩) H).trans (I i ax[i] (getElem?_eq_getElem d));have a0:=Nat.lt_of_lt_of_le hb a.size;have V:=Nat.lt_of_lt_of_le H a.size;have a4:(aa ax[i].1).toList=ax[i].1:=au _;have N:Hid (ax[i]? =some ax[i]):=getElem?_eq_getElem d;clear X I O P
       cases Y:(ax[i].1==l)with
       |true=>
        have t:Hid (wR ax (gL ax l 0)=mO ax[i].2):=by rw[Hid,D.out,EB d Y,wR,N.out]
        clear D N
        go_wp2_with fail
        go_ret;exact⟨dZ (by rw[f.out,t.out]),a⟩
       |false=>
        have t:Hid (gL ax l 0=gL ax l (i+1)):=by rw[Hid,D.out,Cf d Y]
        clear D N
        go_wp2_with fail
        go_round
        case rel=>exact⟨i+1,by omega,by go_num,t⟩
        case measure=>simp[intOf];omega
      ·have t:Hid (wR ax (gL ax l 0)=0):=by rw[Hid,D.out,EA (by omega)];rfl
       clear D O P
       go_wp2_with fail
       go_ret;exact⟨dZ (by rw[f.out,t.out]),a⟩
def SI(o:Except Int Ex):Int:=match o with| .error _=>0| .ok x=>mO x.ty
def Vi(o:Except Int Ex):Int:=match o with| .error n=>n| .ok _=>0
def dW(t:Int):Prop:=t=1\/t=2\/t=3
def yS(t:Int):UInt8:=if t=1 then 110 else if t=2 then 116 else 98
theorem OW{t:Int}(h:dW t):((yS t).toNat:Int)=mO t/\dP (yS t)=true/\iT (yS t).toNat=t:=by
 rcases h with rfl|rfl|rfl<;>decide
theorem uG{a b:Int}(c:dW a)(hb:dW b)(h:yS a=yS b):a=b:=by
 rcases c with rfl|rfl|rfl<;>rcases hb with rfl|rfl|rfl<;>first|rfl|(exact absurd h (by decide))
theorem Cx{a:Int}(b:dW a):mO a≠0:=by
 rcases b with rfl|rfl|rfl<;>decide
structure nZ(ps:Sc)(args:Bs)(rfs:List RF):Prop where
 Wh:ps.2=aP args
 lets:args.all dP=true
 ax:∀c∈ps.1,dW c.2
 words:∀c∈ps.1,iV c.1=true
 UG:∀r∈rfs,dW r.fn.body.ty
 Kk:∀r∈rfs,r.fn.args=aP r.args/\r.args.all dP=true
 free:∀r∈rfs,bM r.fn.name=false
 Bn:∀r∈rfs,0<=r.fn.body.size/\r.fn.body.size<=300
theorem kH{c:UInt8}(h:dP c=true):dW (iT c.toNat)/\mO (iT c.toNat)=(c.toNat:Int):=by
 unfold dP at h;simp only[or_eq_true,beq_iff_eq]at h;rcases h with(rfl|rfl)|rfl<;>exact⟨by unfold dW;decide,by decide⟩
theorem AV(g:Bs->Int){ps:Sc}{args:Bs}{G:List RF}(s:nZ ps args G)(fns:List Fn){t:Tr}(J:mQ t)(hb:t.br=false):
  SI (bg g ps fns t)=mY ps.1 args t.tx/\((∃x,bg g ps fns t=.ok x/\dW x.ty)\/bg g ps fns t=.error 2):=by
 obtain⟨k,a,I,F⟩:=t;obtain⟨N,u,M⟩:=J hb;have v:I=false:=hb;have y:k=aT a:=M;subst v y;have b:gm a=true:=u;show SI (bg g ps fns (.mk (aT a) a false F))=mY ps.1 args a/\_;have p:(a== [40])=false:=by
  rw[eq_false_iff];intro e;rw[beq_iff_eq]at e;subst e;exact absurd b (by decide)
 have q:(a== [41])=false:=by
  rw[eq_false_iff];intro e;rw[beq_iff_eq]at e;subst e;exact absurd b (by decide)
 have E:jD a=false:=by
  rw[eq_false_iff];intro e;rw[(vN e).1]at b;cases b
 rw[bg,if_neg Bool.false_ne_true];have f:aT a=if dK a then 3 else if cB a then 4 else if iC a then 7 else if aU a then 5 else if iV a then 6 else 0:=by
  unfold aT;rw[p,q,E];rfl
 cases h:dK a with
 |true=>
  have z:aT a=3:=by rw[f,h];rfl
  rw[z,if_neg (by decide),if_neg (by decide)];exact⟨by rw[mY,h];rfl,.inl ⟨_,rfl,.inl rfl⟩⟩
 |false=>
  rw[h,if_neg Bool.false_ne_true]at f
  cases j:cB a with
  |true=>
   have A:aT a=4:=by rw[f,j];rfl
   rw[A,if_neg (by decide),if_neg (by decide)];exact⟨by rw[mY,h,j];rfl,.inl ⟨_,rfl,.inr (.inl rfl)⟩⟩
  |false=>
   rw[j,if_neg Bool.false_ne_true]at f
   cases m:iC a with
   |true=>
    have D:aT a=7:=by rw[f,m];rfl
    rw[D,if_neg (by decide),if_pos rfl];obtain⟨c,rfl,K,L⟩:=uM m;have r:mY ps.1 args [36,c]=qQ args [36,c]:=by
     rw[mY,h,j,m];rfl
    rw[r,uN,qQ,s.Wh,aP,List.getElem?_map]
    cases n:args[(([36,c]:Bs).getD 1 0).toNat- 49]? with
    |none=>exact⟨rfl,.inr rfl⟩
    |some d=>
     have H:dP d=true:=List.all_eq_true.mp s.lets d (mem_of_getElem? n);exact⟨(kH H).2,.inl ⟨_,rfl,(kH H).1⟩⟩
   |false=>
    rw[m,if_neg Bool.false_ne_true]at f
    cases o:aU a with
    |true=>
     have B:aT a=5:=by rw[f,o];rfl
     have l:iX a=true:=by
      have w:=(kI o).2.2.2.2.1;rw[gm,h,j,m,w]at b;simpa using b
     rw[B,if_neg (by decide),if_neg (by decide)];unfold iX at l;simp only[or_eq_true,beq_iff_eq]at l;rcases l with(rfl|rfl)|rfl
     ·exact⟨by rw[mY,h,j];rfl,.inl ⟨_,rfl,.inr (.inr rfl)⟩⟩
     ·exact⟨by rw[mY,h,j];rfl,.inl ⟨_,rfl,.inr (.inr rfl)⟩⟩
     ·exact⟨by rw[mY,h,j];rfl,.inl ⟨_,rfl,.inr (.inl rfl)⟩⟩
    |false=>
     have l:iX a=false:=by
      rw[eq_false_iff];intro e;rw[uW e]at o;cases o
     have w:iV a=true:=by
      rw[gm,h,j,m,l]at b;simpa using b
     have C:aT a=6:=by rw[f,o,w];rfl
     rw[C,if_pos rfl];unfold iX at l;simp only[Bool.or_eq_false_iff]at l;have r:mY ps.1 args a=wR ps.1 (mo ps.1 a):=by
      rw[mY,h,j,m,show(a==sH)=false from l.2,show(a==sG)=false from l.1.1,show(a==nW)=false from l.1.2];rfl
     rw[r,qH]
     cases O:mo ps.1 a with
     |none=>exact⟨rfl,.inr rfl⟩
     |some i=>
      cases n:ps.1[i]? with
      |none=>exact⟨by simp only[wR,n];rfl,.inr (by simp only[n])⟩
      |some c=>exact⟨by simp only[wR,n];rfl,.inl ⟨oC c.2 i,by simp only[n],s.ax c (mem_of_getElem? n)⟩⟩
def aR(es:List Ex):Bs:=es.map λx=>yS x.ty
theorem KS{ls:List Int}{a:List Ex}(c:∀z∈ls,dW z)(b:∀x∈a,dW x.ty):(aR a==ls.map yS)=decide (a.map Ex.ty=ls):=by
 rw[Bool.eq_iff_iff,beq_iff_eq,decide_eq_true_eq]
 induction a generalizing ls with
 |nil=>cases ls<;>simp[aR]
 |cons x f ih=>
  cases ls with
  |nil=>simp[aR]
  |cons z e=>
   have:=ih (ls:=e) (λd h=>c d (mem_cons_of_mem _ h)) (λy h=>b y (mem_cons_of_mem _ h));simp only[aR,map_cons,List.cons.injEq]at this ⊢;rw[this];exact⟨λh=>⟨uG (b x (mem_cons_self ..)) (c z (mem_cons_self ..)) h.1,h.2⟩,λh=>⟨by rw[h.1],h.2⟩⟩
theorem Sk{n:Int}(d:dW n){a:List Ex}(b:∀x∈a,dW x.ty):jq (aR a) (yS n)=(decide (0<(a.map Ex.ty).length)&&(a.map Ex.ty).all (· ==n)):=by
 have c:(aR a).all (· ==yS n)=(a.map Ex.ty).all (· ==n):=by
  induction a with
  |nil=>rfl
  |cons x f ih=>
   have e:=ih (λy h=>b y (mem_cons_of_mem _ h));simp only[aR,map_cons,List.all_cons]at e ⊢;rw[e];congr 1;rw[Bool.eq_iff_iff,beq_iff_eq,beq_iff_eq];exact⟨λh=>uG (b x (mem_cons_self ..)) d h,λh=>by rw[h]⟩
 unfold jq;rw[c,Bool.and_comm];congr 1
 cases a<;>simp[aR]
theorem yL{h:Bs}(hb:bM h=true){d:List Ex}(g:∀x∈d,dW x.ty):vE h (aR d)=mO (bL h (d.map Ex.ty))/\(bL h (d.map Ex.ty)≠0->dW (bL h (d.map Ex.ty))):=by
 have t1:dW 1:=.inl rfl;have t2:dW 2:=.inr (.inl rfl);have t3:dW 3:=.inr (.inr rfl);have L:∀(i:List Int) (n:Int),(∀z∈i,dW z)->dW n->iF (aR d==i.map yS) (mO n)=mO (ik i n (d.map Ex.ty))/\(ik i n (d.map Ex.ty)≠0->dW (ik i n (d.map Ex.ty))):=by
  intro i n o k;rw[KS o g,ik,iF];by_cases h:d.map Ex.ty=i
  ·rw[if_pos h,decide_eq_true h];exact⟨rfl,λ_=>k⟩
  ·rw[if_neg h,decide_eq_false h];exact⟨rfl,λh=>absurd rfl h⟩
 have A:∀n:Int,dW n->iF (jq (aR d) (yS n)) (mO n)=mO (jV n (d.map Ex.ty))/\(jV n (d.map Ex.ty)≠0->dW (jV n (d.map Ex.ty))):=by
  intro n k;rw[Sk k g,jV,iF];by_cases h:0<(d.map Ex.ty).length/\(d.map Ex.ty).all (· ==n)=true
  ·rw[if_pos h,decide_eq_true h.1,h.2];exact⟨rfl,λ_=>k⟩
  ·rw[if_neg h];have:(decide (0<(d.map Ex.ty).length)&&(d.map Ex.ty).all (· ==n))=false:=by
    rw[eq_false_iff];intro e;rw[Bool.and_eq_true,decide_eq_true_eq]at e;exact h e
   rw[this];exact⟨rfl,λh=>absurd rfl h⟩
 have C:iF (ve (aR d)) 98=mO (nQ (d.map Ex.ty))/\(nQ (d.map Ex.ty)≠0->dW (nQ (d.map Ex.ty))):=by
  match d,g with
  | [],_=>exact⟨rfl,λh=>absurd rfl h⟩
  | [_],_=>exact⟨rfl,λh=>absurd rfl h⟩
  | [a,b],g=>
   have j:=g a (by simp);have hb:=g b (by simp);show iF (yS a.ty==yS b.ty) 98=mO (if a.ty=b.ty then 3 else 0)/\((if a.ty=b.ty then 3 else 0)≠0->dW (if a.ty=b.ty then 3 else 0));by_cases h:a.ty=b.ty
   ·rw[if_pos h,h];simp[iF,mO];exact t3
   ·have:(yS a.ty==yS b.ty)=false:=by
     rw[beq_eq_false_iff_ne];intro e;exact h (uG j hb e)
    rw[if_neg h,this];exact⟨rfl,λh=>absurd rfl h⟩
  |_::_::_::_,_=>exact⟨rfl,λh=>absurd rfl h⟩
 simp only[bM,ou,any_cons,any_nil,or_eq_true,beq_iff_eq,Bool.or_false]at hb;rcases hb with rfl|rfl|rfl|rfl|rfl|rfl|rfl|rfl|rfl|rfl|rfl|rfl|rfl|rfl|rfl
 ·exact L [1,1] 1 (by intro z f;simp at f;rw[f];exact t1) t1
 ·exact L [1,1] 1 (by intro z f;simp at f;rw[f];exact t1) t1
 ·exact L [1,1] 1 (by intro z f;simp at f;rw[f];exact t1) t1
 ·exact L [1,1] 1 (by intro z f;simp at f;rw[f];exact t1) t1
 ·exact C
 ·exact C
 ·exact C
 ·exact A 3 t3
 ·exact A 3 t3
 ·exact L [3] 3 (by intro z f;simp at f;rw[f];exact t3) t3
 ·match d,g with
  | [],_=>exact⟨rfl,λh=>absurd rfl h⟩
  | [_],_=>exact⟨rfl,λ_=>t3⟩
  |a::b::l,_=>
   refine⟨?_,λh=>absurd rfl h⟩;show iF (((aR (a::b::l)).length:Int)==1) 98=0;have:(((aR (a::b::l)).length:Int)==1)=false:=by simp[aR];omega
   rw[this];rfl
 ·match d,g with
  | [],_=>exact⟨rfl,λh=>absurd rfl h⟩
  | [_],_=>exact⟨rfl,λh=>absurd rfl h⟩
  | [_,_],_=>exact⟨rfl,λh=>absurd rfl h⟩
  | [c,a,b],g=>
   have m:=g c (by simp);have j:=g a (by simp);have hb:=g b (by simp);show(if yS c.ty=98/\yS a.ty=yS b.ty then((yS a.ty).toNat:Int)else 0)=mO (if c.ty=3/\a.ty=b.ty then a.ty else 0)/\((if c.ty=3/\a.ty=b.ty then a.ty else 0)≠0->dW (if c.ty=3/\a.ty=b.ty then a.ty else 0));by_cases h:c.ty=3/\a.ty=b.ty
   ·rw[if_pos h,if_pos ⟨by rw[h.1];rfl,by rw[h.2]⟩];exact⟨(OW j).1,λ_=>j⟩
   ·rw[if_neg h,if_neg (λe=>h ⟨uG m t3 e.1,uG j hb e.2⟩)];exact⟨rfl,λh=>absurd rfl h⟩
  |_::_::_::_::_,_=>exact⟨rfl,λh=>absurd rfl h⟩
 ·exact L [2] 1 (by intro z f;simp at f;rw[f];exact t2) t1
 ·exact A 2 t2
 ·match d,g with
  | [],_=>exact⟨rfl,λh=>absurd rfl h⟩
  | [a],g=>exact⟨(OW (g a (by simp))).1,λ_=>g a (by simp)⟩
  |_::_::_,_=>exact⟨rfl,λh=>absurd rfl h⟩
mutual
theorem wm(b:Bs->Int){ps:Sc}{args:Bs}{c:List RF}(g:nZ ps args c):∀(t:Tr) (x:Ex),(∀y∈post t,mQ y)->bg b ps (RF.list c) t=.ok x->dW x.ty
 | .mk k tx false ops,x,hL,d=>by
  rcases(AV b g (RF.list c) (hL (.mk k tx false ops) (by rw[post];simp)) rfl).2 with⟨y,l,p⟩|h
  ·rw[d]at l;cases l;exact p
  ·rw[d]at h;cases h
 | .mk k tx true ops,x,hL,d=>by
  rw[bg,if_pos rfl]at d
  cases e:bY b ps (RF.list c) ops with
  |error n=>rw[e]at d;cases d
  |ok j=>
   rw[e]at d;have q:=tV b g ops j (λy v=>hL y (by rw[post];exact mem_append_left _ v)) e;have a:nR (RF.list c) tx j=.ok x:=d;unfold nR at a
   cases hb:bM tx with
   |true=>
    rw[hb,if_pos rfl]at a;split at a
    ·cases a
    ·next o=>cases a;exact(yL hb q).2 o
   |false=>
    rw[hb,if_neg Bool.false_ne_true]at a;unfold lY at a;split at a
    ·cases a
    ·next i w=>
     split at a
     ·cases a
     ·next f s=>
      split at a
      ·cases a;have m:=mem_of_getElem? s;rw[RF.list,mem_map]at m;obtain⟨r,u,rfl⟩:=m;exact g.UG r u
      ·cases a
theorem tV(a:Bs->Int){ps:Sc}{args:Bs}{c:List RF}(g:nZ ps args c):∀(e:List Tr) (d:List Ex),(∀y∈bX e,mQ y)->bY a ps (RF.list c) e=.ok d->∀x∈d,dW x.ty
 | [],d,hL,h=>by rw[bY]at h;cases h;simp
 |t::e,d,hL,h=>by
  rw[bX]at hL;rw[bY]at h;split at h
  ·cases h
  ·next x i=>
   split at h
   ·cases h
   ·next j f=>
    cases h;intro y b;rcases List.mem_cons.mp b with rfl|b
    ·exact wm a g t _ (λy b=>hL y (mem_append_left _ b)) i
    ·exact tV a g e j (λy b=>hL y (mem_append_right _ b)) f y b
end
def yC(rfs:List RF)(tx:Bs)(lets:Bs):Int:=match bB (RF.list rfs) tx with
 |some i=>(match rfs[i]? with|none=>0|some r=>iF (lets==r.args) (mO r.fn.body.ty))
 |none=>vE tx lets
def jy(rfs:List RF)(tx:Bs)(lets:Bs):Int:=if(bB (RF.list rfs) tx).isNone&& !bM tx then 2 else if yC rfs tx lets=0 then 3 else 0
theorem jB{fns:List Fn}{l:Bs}{i:Nat}(h:bB fns l=some i):∃f,fns[i]? =some f/\f.name=l:=by
 unfold bB at h;obtain⟨a,b,_⟩:=List.findIdx?_eq_some_iff_getElem.mp h;exact⟨fns[i],getElem?_eq_getElem a,by simpa using b⟩
theorem QL(d:Bs->Int){ps:Sc}{args:Bs}{a:List RF}(v:nZ ps args a){k:Int}{tx:Bs}{j:List Tr}{b:List Ex}(B:bY d ps (RF.list a) j=.ok b)(C:∀x∈b,dW x.ty):
  Vi (bg d ps (RF.list a) (.mk k tx true j))=jy a tx (aR b)/\(jy a tx (aR b)=0->∃x,bg d ps (RF.list a) (.mk k tx true j)=.ok x/\mO x.ty=yC a tx (aR b))/\(jy a tx (aR b)≠0->bg d ps (RF.list a) (.mk k tx true j)=.error (jy a tx (aR b))):=by
 rw[bg,if_pos rfl,B];show Vi (nR (RF.list a) tx b)=_/\(_->∃x,nR (RF.list a) tx b=.ok x/\_)/\(_->nR (RF.list a) tx b=_);unfold nR
 cases hb:bM tx with
 |true=>
  rw[if_pos rfl];have E:bB (RF.list a) tx=none:=by
   cases n:bB (RF.list a) tx with
   |none=>rfl
   |some i=>
    obtain⟨f,m,u⟩:=jB n;have s:=mem_of_getElem? m;rw[RF.list,mem_map]at s;obtain⟨r,o,rfl⟩:=s;rw[<-u,v.free r o]at hb;cases hb
  obtain⟨m,u⟩:=yL hb C;have q:yC a tx (aR b)=mO (bL tx (b.map Ex.ty)):=by rw[yC,E];exact m
  have p:jy a tx (aR b)=if mO (bL tx (b.map Ex.ty))=0 then 3 else 0:=by rw[jy,E,hb,q];rfl
  rw[p,q];by_cases t:bL tx (b.map Ex.ty)=0
  ·rw[if_pos t,t];exact⟨rfl,λh=>absurd h (by decide),λ_=>rfl⟩
  ·have l:=Cx (u t);rw[if_neg t,if_neg l];exact⟨rfl,λ_=>⟨_,rfl,rfl⟩,λh=>absurd rfl h⟩
 |false=>
  rw[if_neg Bool.false_ne_true];unfold lY
  cases n:bB (RF.list a) tx with
  |none=>
   have p:jy a tx (aR b)=2:=by rw[jy,n,hb];rfl
   rw[p];exact⟨rfl,λh=>absurd h (by decide),λ_=>rfl⟩
  |some i=>
   obtain⟨f,m,_⟩:=jB n;have e:=m;rw[RF.list,List.getElem?_map]at e
   cases o:a[i]? with
   |none=>rw[o]at e;cases e
   |some r=>
    rw[o]at e;have y:r.fn=f:=Option.some.inj e;subst y;have s:=mem_of_getElem? o;have q:yC a tx (aR b)=iF (aR b==r.args) (mO r.fn.body.ty):=by simp only[yC,n,o]
    have p:jy a tx (aR b)=if iF (aR b==r.args) (mO r.fn.body.ty)=0 then 3 else 0:=by rw[jy,n,hb,q];rfl
    have H:(aR b==r.args)=decide (b.map Ex.ty=r.fn.args):=by
     obtain⟨G,D⟩:=v.Kk r s;have A:r.args=(aP r.args).map yS:=by
      rw[aP,List.map_map];conv=>lhs;rw[<-List.map_id r.args]
      refine List.map_congr_left λc w=> ?_;have:=List.all_eq_true.mp D c w;unfold dP at this;simp only[or_eq_true,beq_iff_eq]at this;rcases this with(rfl|rfl)|rfl<;>decide
     rw[A,G];refine KS (λz F=> ?_) C;rw[aP,mem_map]at F;obtain⟨c,w,rfl⟩:=F;exact(kH (List.all_eq_true.mp D c w)).1
    rw[p,q,H];simp only[m];by_cases g:b.map Ex.ty=r.fn.args
    ·have l:=Cx (v.UG r s);rw[if_pos g,decide_eq_true g,iF,if_pos rfl,if_neg l];exact⟨rfl,λ_=>⟨_,rfl,rfl⟩,λh=>absurd rfl h⟩
    ·rw[if_neg g,decide_eq_false g,show iF false (mO r.fn.body.ty)=0 from rfl,if_pos rfl];exact⟨rfl,λh=>absurd h (by decide),λ_=>rfl⟩
def gy:List Bs:=[[97,110,100],[111,114],[110,111,116],[105,115,110,117,108,108],[105,102],[108,101,110],[99,97,116],[110,111,116,101]]
theorem wJ(l:Bs):bM l=(jD l||aW gy l):=by
 rw[<-nS];unfold aW gp gy bM ou;simp only[List.contains_cons,List.contains_nil,Bool.or_false,any_cons,any_nil];simp only[Bool.or_assoc]
theorem vV(x:World):Calls prog 179 #[] x λe w'=>e=.returned (.slice (some ⟨x.heap.size,0,none⟩) 7 7)/\w'=x.alloc (.cells (gp.map λt=>Value.string (aa t)).toArray 9):=by
 go_enter Tryz.func179,Tryz.ntmps179
 go_wp2
 go_ret;exact⟨rfl,rfl⟩
theorem uS(x:World):Calls prog 115 #[] x λe w'=>e=.returned (.slice (some ⟨x.heap.size,0,none⟩) 8 8)/\w'=x.alloc (.cells (gy.map λt=>Value.string (aa t)).toArray 9):=by
 go_enter Tryz.func115,Tryz.ntmps115
 go_wp2
 go_ret;exact⟨rfl,rfl⟩
theorem uk(L:List Bs)(n:Nat)(c:L.length=n)(a:n<=100000)(x:World)(b:Nat)(hb:x.heap[b]? =some (.cells (L.map λt=>Value.string (aa t)).toArray 9 (0,0)))(l:Bs):
  Calls prog 114 #[.slice (some ⟨b,0,none⟩) n n,.string (aa l)] x λe w'=>e=.returned (.bool (aW L l))/\w'=x:=by
 subst c;have:=Au L (aa l) x b 0 L.length (Nat.le_refl _) a (λi h=>by simp[World.cell?,hb,h]);rw[au]at this;exact this
theorem IL{w:World}{v:Value}{n m g cap q:Nat}{k cs:List Value}(h:w.ownsRow 0 3 1 v n k)(j:w.ownsRow 0 183 4 (.slice (some ⟨g,0,none⟩) m cap) m cs)(f:v.ownBlock=some q):q≠g:=by
 intro e;subst e;rcases h.2 with⟨rfl,_⟩|⟨g1,l,b,rfl,_,i,_⟩
 ·cases f
 ·have:g1=q:=Option.some.inj f;subst this;rcases j.2 with⟨a,_⟩|⟨p,o,c,a,_,d,_⟩
  ·cases a
  ·cases a;rw[i]at d;cases d
theorem iR.stored{w:World}{S:Nat->Prop}{cs:List Value}{l:List Tr}{ty:Nat->Int}{g cap i:Nat}{n:Int}(s:iR w S cs 0 l ty)(h:w.ownsRow 0 183 4 (.slice (some ⟨g,0,none⟩) l.length cap) l.length cs)(y:i<l.length):
  iR (w.setCell ⟨g,i*4+3,none⟩ (.int .u8 n)) S (cs.set (i*4+3) (.int .u8 n)) 0 l (λj=>if j=i then n else ty j):=by
 have k:cs.length=l.length*4:=h.1;intro j t u;obtain⟨v,is,a,b,c,d,f,m,o,p,r⟩:=s j t u;rw[zero_add]at a b c d;refine⟨v,is, ?_, ?_, ?_, ?_,aA f λq x=>Below.heap_setCell _ _ _ _ (IL f h x),m,o,p,r⟩
 ·rw[zero_add,getElem?_set_ne (by omega)];exact a
 ·rw[zero_add,getElem?_set_ne (by omega)];exact b
 ·rw[zero_add,getElem?_set_ne (by omega)];exact c
 ·rw[zero_add];by_cases e:j=i
  ·subst e;rw[show 4*j+3=j*4+3 by omega,List.getElem?_set_self (by omega)];simp only[if_true]
  ·rw[getElem?_set_ne (by omega)];simp only[if_neg e];exact d
theorem iR.grown{w x:World}{S:Nat->Prop}{cs:List Value}{lo:Nat}{l:List Tr}{ty:Nat->Int}(h:iR w S cs lo l ty)(m:∀g,g<w.heap.size->x.heap[g]? =w.heap[g]?):iR x S cs lo l ty:=by
 intro j t k;obtain⟨v,is,b,c,d,e,a,f⟩:=h j t k;exact⟨v,is,b,c,d,e,aA a λg i=>m g (a.lt g i).2,f⟩
theorem iR.congr{w:World}{S:Nat->Prop}{cs:List Value}{lo:Nat}{l:List Tr}{ty a:Nat->Int}(h:iR w S cs lo l ty)(e:∀j,j<l.length->ty j=a j):iR w S cs lo l a:=by
 intro j t b;obtain⟨v,is,c,d,f,g,i⟩:=h j t b;exact⟨v,is,c,d,f,by rw[<-e j (List.getElem?_eq_some_iff.mp b).1];exact g,i⟩
def lm(atoi:Bs->Int)(ps:Sc)(fns:List Fn)(l:List Tr)(i j:Nat):Int:=if j<i then(match l[j]? with|none=>0|some t=>SI (bg atoi ps fns t))else 0
theorem JN{atoi:Bs->Int}{ps:Sc}{fns:List Fn}{l:List Tr}{i:Nat}(a:i<l.length)(j:Nat):(if j=i then SI (bg atoi ps fns l[i])else lm atoi ps fns l i j)=lm atoi ps fns l (i+1) j:=by
 unfold lm;by_cases e:j=i
 ·subst e;rw[if_pos rfl,if_pos (by omega),getElem?_eq_getElem a]
 ·rw[if_neg e];by_cases h:j<i
  ·rw[if_pos h,if_pos (by omega)]
  ·rw[if_neg h,if_neg (by omega)]
theorem MB{atoi:Bs->Int}{ps:Sc}{fns:List Fn}{ops:List Tr}(h:∀t∈ops,∃x,bg atoi ps fns t=.ok x):∃a,bY atoi ps fns ops=.ok a/\a.length=ops.length/\∀(m:Nat) (t:Tr),ops[m]? =some t->∃x,a[m]? =some x/\bg atoi ps fns t=.ok x:=by
 induction ops with
 |nil=>exact⟨[],rfl,rfl,λm t h=>by simp at h⟩
 |cons t g ih=>
  obtain⟨x,c⟩:=h t (mem_cons_self ..);obtain⟨a,d,e,f⟩:=ih λy b=>h y (mem_cons_of_mem _ b);refine⟨x::a,by rw[bY,c,d],by simp[e],λm y b=> ?_⟩
  cases m with
  |zero=>simp at b;subst b;exact⟨x,rfl,c⟩
  |succ m=>simpa using f m y (by simpa using b)
end Go.Proofs.YtdifpeaklamhnaaGreatDoor

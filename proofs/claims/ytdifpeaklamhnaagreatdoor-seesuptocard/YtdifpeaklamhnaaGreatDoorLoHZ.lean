import Derived.Deep.OwnRows
import Derived.Test.YtdifpeaklamhnaaGreatDoorTyEZ
import Derived.Deep.AppendLies
set_option linter.unusedVariables false
set_option linter.unusedSimpArgs false
set_option maxRecDepth 100000
set_option maxHeartbeats 0
namespace Go.Proofs.YtdifpeaklamhnaaGreatDoor
open Go.Proofs.Tryz
open Go.RowKit
open Below (heap_setCell refl)
open Nat (le_refl)
open World (setRow size_alloc news_of_block frozen?)
open List (getElem?_append_left getElem?_append_right append_nil mem_append_left mem_append_right)
open Value (slice)
def vO(z:Nat)(ov:Nat->Value)(orig:Nat->Value)(K0 K j:Nat):Value:=if K0<=j/\j<K then ov (j % z)else orig j
theorem oM(z:Nat)(c a:Nat->Value)(b j:Nat):vO z c a b b j=a j:=by
 unfold vO;rw[if_neg (by omega)]
theorem FP{w:World}{g N:Nat}{T:TypeId}{c a:Nat->Value}{b i:Nat}(h:w.rowIs g T N (vO 1 c a b i))(f:b<=i):(w.setCell ⟨g,i,none⟩ (c 0)).rowIs g T N (vO 1 c a b (i+1)):=by
 refine(h.set i (c 0)).congr λj k=> ?_;unfold vO;by_cases e:j=i
 ·subst e;rw[if_pos rfl,if_pos (by omega),Nat.mod_one]
 ·rw[if_neg e];by_cases d:b<=j/\j<i
  ·rw[if_pos d,if_pos (by omega)]
  ·rw[if_neg d,if_neg (by omega)]
theorem uL{w:World}{g N:Nat}{T:TypeId}{b a:Nat->Value}{K0 i:Nat}{a0 a1 a2:Value}(h:w.rowIs g T N (vO 3 b a (K0*3) (i*3)))(n:K0<=i)(k:a0=b 0)(l:a1=b 1)(m:a2=b 2):(((w.setCell ⟨g,i*3,none⟩ a0).setCell ⟨g,i*3+1,none⟩ a1).setCell ⟨g,i*3+2,none⟩ a2).rowIs g T N (vO 3 b a (K0*3) ((i+1)*3)):=by
 subst k l m;refine(((h.set (i*3) _).set (i*3+1) _).set (i*3+2) _).congr λj o=> ?_;unfold vO;by_cases e:j=i*3+2
 ·rw[if_pos e,if_pos (by omega),show j % 3=2 by omega]
 ·rw[if_neg e];by_cases d:j=i*3+1
  ·rw[if_pos d,if_pos (by omega),show j % 3=1 by omega]
  ·rw[if_neg d];by_cases c:j=i*3
   ·rw[if_pos c,if_pos (by omega),show j % 3=0 by omega]
   ·rw[if_neg c];by_cases f:K0*3<=j/\j<i*3
    ·rw[if_pos f,if_pos (by omega)]
    ·rw[if_neg f,if_neg (by omega)]
theorem Po{w:World}{g N:Nat}{T:TypeId}{ov a:Nat->Value}{K0 i:Nat}{a0 a1 a2 a3 a4 a5:Value}(h:w.rowIs g T N (vO 6 ov a (K0*6) (i*6)))(s:K0<=i)(m:a0=ov 0)(n:a1=ov 1)(o:a2=ov 2)(p:a3=ov 3)(q:a4=ov 4)(r:a5=ov 5):
  ((((((w.setCell ⟨g,i*6,none⟩ a0).setCell ⟨g,i*6+1,none⟩ a1).setCell ⟨g,i*6+2,none⟩ a2).setCell ⟨g,i*6+3,none⟩ a3).setCell ⟨g,i*6+4,none⟩ a4).setCell ⟨g,i*6+5,none⟩ a5).rowIs g T N (vO 6 ov a (K0*6) ((i+1)*6)):=by
 subst m n o p q r;refine((((((h.set (i*6) _).set (i*6+1) _).set (i*6+2) _).set (i*6+3) _).set (i*6+4) _).set (i*6+5) _).congr λj t=> ?_;unfold vO;by_cases k:j=i*6+5
 ·rw[if_pos k,if_pos (by omega),show j % 6=5 by omega]
 rw[if_neg k];by_cases f:j=i*6+4
 ·rw[if_pos f,if_pos (by omega),show j % 6=4 by omega]
 rw[if_neg f];by_cases e:j=i*6+3
 ·rw[if_pos e,if_pos (by omega),show j % 6=3 by omega]
 rw[if_neg e];by_cases d:j=i*6+2
 ·rw[if_pos d,if_pos (by omega),show j % 6=2 by omega]
 rw[if_neg d];by_cases c:j=i*6+1
 ·rw[if_pos c,if_pos (by omega),show j % 6=1 by omega]
 rw[if_neg c];by_cases b:j=i*6
 ·rw[if_pos b,if_pos (by omega),show j % 6=0 by omega]
 rw[if_neg b];by_cases l:K0*6<=j/\j<i*6
 ·rw[if_pos l,if_pos (by omega)]
 ·rw[if_neg l,if_neg (by omega)]
theorem Lh{w0 w:World}{B g:Nat}(hb:Below B w0 w)(a:B<=g)(cs:Array Value):Below B w0 (w.setRow g cs):=
 hb.trans ⟨rfl,rfl,rfl,by simp[setRow],λk b=>setRow_other w g k cs (by omega)⟩
theorem aC{w:World}{k:Nat}{o:Obj}(h:w.heap[k]? =some o):k<w.heap.size:=(Array.getElem?_eq_some_iff.1 h).1
theorem rD{w x:World}{b n size:Nat}{e:TypeId}{v:Value}{a:List Value}(h:w.ownsRow b e size v n a)(hb:∀g,v.ownBlock=some g->x.heap[g]? =w.heap[g]?):x.ownsRow b e size v n a:=by
 refine⟨h.1, ?_⟩;rcases h.2 with h|⟨g,cap,cur,rfl,h1,h2,h⟩
 ·exact .inl h
 ·exact .inr ⟨g,cap,cur,rfl,h1,by rw[hb g rfl];exact h2,h⟩
theorem xX{wo G w7:World}{O k J c n z B:Nat}{a:Option Addr}{t s:Nat}{T i:TypeId}{F d:List Value}{cs:Array Value}(y:wo.heap[O]? =some (.cells cs i (0,0)))(own:wo.ownsRow (O+1) T z (.slice a t s) n F)
  (m:Below wo.heap.size wo G) (b:G.grownBy w7 (slice a t s).ownBlock) (f:w7.ownsRow (O+1) T z (.slice (some ⟨J,0,none⟩) (n+1) c) (n+1) (F++d)) (v:Value) (x:B<=O):
  w7.heap[O]? =some (.cells cs i (0,0))/\(w7.setCell ⟨O,k,none⟩ v).heap[O]? =some (.cells (cs.setIfInBounds k v) i (0,0))/\
  (w7.setCell ⟨O,k,none⟩ v).ownsRow (O+1) T z (.slice (some ⟨J,0,none⟩) (n+1) c) (n+1) (F++d)/\Below B wo (w7.setCell ⟨O,k,none⟩ v)/\
  ∀(q:Nat) (j:Array Value) (r:TypeId) (I:Nat × Nat),wo.heap[q]? =some (.cells j r I)->r≠T->r≠i->(w7.setCell ⟨O,k,none⟩ v).heap[q]? =wo.heap[q]? :=by
 have A:=aC y;have L:=b.size;have K:=m.size;have E:(slice a t s).ownBlock≠some O:=λe=>by have:=(own.lt _ e).1;omega
 have ag:∀g,g<wo.heap.size->(slice a t s).ownBlock≠some g->w7.heap[g]? =wo.heap[g]? :=λg u w=>
  (b.block g (by omega) (λe=>w e.symm)).trans (m.block g u)
 have l:w7.heap[O]? =some (.cells cs i (0,0)):=(ag O A E).trans y;refine⟨l,by simp[World.setCell,Array.getElem?_modify,l],ownsRow_setCell_below f (by show O<O+1;omega) _, ?_,λq j r I o u w=> ?_⟩
 ·suffices h:Below B wo w7 from h.setCell (p:=⟨O,k,none⟩) x _
  refine⟨b.os.trans m.os,b.tape.trans m.tape,b.output.trans m.output,by omega,λg N=> ?_⟩;exact ag g (by omega) (λe=>by have:=(own.lt _ e).1;omega)
 ·have C:q≠O:=λe=>by subst e;rw[y]at o;cases o;exact w rfl
  rw[heap_setCell _ _ _ _ C];refine ag q (aC o) λe=> ?_;rcases own.2 with⟨h,_⟩|⟨g1,M,H,h,_,D,_⟩
  ·rw[h]at e;cases e
  ·rw[h]at e;cases e;rw[D]at o;cases o;exact u rfl
theorem gN{w x:World}{b z n:Nat}{T:TypeId}{v:Value}{g:List Value}(h:w.ownsRow b T z v n g)(j:∀(q:Nat) (c:Array Value) (i:Nat × Nat),w.heap[q]? =some (.cells c T i)->x.heap[q]? =w.heap[q]?):x.ownsRow b T z v n g:=
 rD h λq a=>by
  rcases h.2 with⟨d,_⟩|⟨l,k,f,d,_,e,_⟩
  ·rw[d]at a;cases a
  ·rw[d]at a;cases a;exact j _ _ _ e
section
variable {P : Program}
theorem ig(w:World){g:Array Oper}{rest:List Oper}{o:Oper}{a:Act}{Q:Exit->Act->World->Prop}
  (C:o.guard=none) (l c:Operand) (t:TypeId) (r:o.op=Op.makeSlice t l c) (e:TypeId) (i:TypeInfo) (b:Value) (F:P.underlying t=some (.slice e)) (D:P.info? e=some i) (G:i.zero=some b)
  (x v:IntKind) (n:Nat) (L:Int) (E:a.eval l=.int x L) (B:a.eval c=.int v L) (p:L=(n:Int)) (k:i.bytes*n<=281474976710656) (y:n<=9223372036854775807)
  (z:Nat) (s:i.size=z) (A:∀w' f,w'.heap.size=w.heap.size+1->Below w.heap.size w w'->w'.rowIs w.heap.size e (n*z) f->Hid (∀j,f j=b.cells[j % b.cells.size]!)->wpList P g Q rest (a.put o.dst (.slice (some ⟨w.heap.size,0,none⟩) n n)) w'):
  wpList P g Q (o::rest) a w:=by
 subst s p;refine wpList_plain C λK m=> ?_;have q:(i.bytes:Int)*(n:Int)<=281474976710656:=by
  have h:((i.bytes*n:Nat):Int)<=281474976710656:=by omega
  rwa[Int.natCast_mul]at h
 have d:=run_make (P:=P) w t e i b F D G x v n n (by omega) (Int.le_refl _) q (by omega);simp only[Int.toNat_natCast]at d;unfold Oper.wp;simp[execOp,r,E,B,d,Result.andThen];refine m _ _ (A _ (λj=>b.cells[j % b.cells.size]!) (by simp[size_alloc]) ((refl _ w).alloc (le_refl _) _) ?_ (λ_=>rfl));have:=World.rowIs_alloc w (madeCells b.cells (n*i.size)) e (λj=>b.cells[j % b.cells.size]!) (λj u=>by
  rw[size_madeCells]at u;simp[madeCells,u])
 rwa[size_madeCells]at this
def rZ(cs:List Value)(f:Nat->Value)(j:Nat):Value:=if h:j<cs.length then cs[j]else f j
theorem Jr(w:World)(L sT ty e:TypeId)(g d q:Nat)(F:Option Addr)(a D z N:Nat)(f:Nat->Value)(t:TypeId)(cs:List Value)
  (S:P.underlying L=some (.slice e)) (R:(P.info? e).map (·.size)=some z) (O:w.rowIs g t N f) (A:a<=d) (Y:cs.length=a*z)
  (C:a=0\/∃b c,F=some ⟨b,c,none⟩/\∀j v,cs[j]? =some v->w.cell? ⟨b,c+j,none⟩=some v) (u:cs.length<=N) (T:∀v∈cs,v.oneCell'=true):
  ∃w',(Builtin.copy_ #[L,sT] ty #[.slice (some ⟨g,0,none⟩) d q,.slice F a D]).run P w=.ok (goInt a) w'/\w'.heap.size=w.heap.size/\w'.rowIs g t N (rZ cs f)/\(∀(B:Nat) (y:World),B<=g->Below B y w->Below B y w')/\∀k,k≠g->w'.heap[k]? =w.heap[k]? :=by
 cases E:P.info? e with
 |none=>simp[E]at R
 |some i=>
  have V:i.size=z:=by simpa[E]using R
  have Q:Nat.min a d=a:=Nat.min_eq_left A;by_cases M:a=0
  ·subst M;have G:cs= []:=List.eq_nil_of_length_eq_zero (by omega);subst G;have H:∀(x:Addr),(loadCells x 0).run P w=.ok #[] w:=λx=>by simpa using run_loadCells_list (P:=P) w x [] (by simp)
   refine⟨w, ?_,rfl,O.congr (λj _=>by simp[rZ]),λB y _ h=>h,λk _=>rfl⟩
   cases F<;>simp[Builtin.copy_,run_underlying S,Builtin.lenOf,Builtin.firstCells,sizeOf,typeInfo,E,storeCells,H]
  ·obtain⟨b,c,rfl,p⟩:∃b c,F=some ⟨b,c,none⟩/\∀j v,cs[j]? =some v->w.cell? ⟨b,c+j,none⟩=some v:=by
    rcases C with h|h
    ·exact absurd h M
    ·exact h
   obtain⟨l,n,K,s⟩:=O;have H:=run_loadCells_list (P:=P) w ⟨b,c,none⟩ cs (λj v Z=>by
    have:=p j v Z;have r:(⟨b,c,none⟩:Addr).add j=⟨b,c+j,none⟩:=by unfold Addr.add;split<;>simp_all
    rw[r];exact this)
   have J:=run_storeCells_at P g 0 t cs 0 l w n (by simpa[K]using u) T;have o:=setRow_heap w g l ((l.toList.take (0+0)++cs++l.toList.drop (0+0+cs.length)).toArray) t (0,0) n;refine⟨_, ?_, ?_,⟨_,o, ?_, ?_⟩, ?_,λk X=>setRow_other w g k _ X⟩
   ·have I:a*z=cs.length:=Y.symm;simp[Builtin.copy_,run_underlying S,Builtin.lenOf,Builtin.firstCells,sizeOf,typeInfo,E,V,Nat.min_eq_left A,I,H,J]
   ·simp[setRow]
   ·simp;omega
   ·intro j W;simp only[List.getElem?_toArray,Nat.add_zero,List.take_zero,List.nil_append,Nat.zero_add];unfold rZ;by_cases m:j<cs.length
    ·rw[getElem?_append_left m,dif_pos m,List.getElem?_eq_getElem m]
    ·rw[getElem?_append_right (by omega),dif_neg m,List.getElem?_drop,show cs.length+(j- cs.length)=j by omega];have:=s j W;simpa using this
   ·intro B y U h;exact Lh h U _
theorem kP{w:World}{C:Array Oper}{rest:List Oper}{o:Oper}{a:Act}{Q:Exit->Act->World->Prop}(E:o.guard=none)(d s:Operand)(D J:TypeId)
  (T:o.op=.call {callee:=.builtin .copy,args:= #[d,s],argTypes:= #[D,J]}) (i:TypeId) (z:Nat) (V:P.underlying D=some (.slice i)) (U:(P.info? i).map (·.size)=some z)
  (g e l:Nat) (I:Option Addr) (c m:Nat) (O:a.eval d=.slice (some ⟨g,0,none⟩) e l) (G:a.eval s=.slice I c m)
  (N:Nat) (f:Nat->Value) (t:TypeId) (R:w.rowIs g t N f) (cs:List Value) (F:c<=e) (S:cs.length=c*z)
  (x:c=0\/∃b A,I=some ⟨b,A,none⟩/\∀j v,cs[j]? =some v->w.cell? ⟨b,A+j,none⟩=some v) (p:cs.length<=N) (L:∀v∈cs,v.oneCell'=true)
  (h:∀w',w'.heap.size=w.heap.size->w'.rowIs g t N (rZ cs f)->(∀(B:Nat) (y:World),B<=g->Below B y w->Below B y w')->(∀k,k≠g->w'.heap[k]? =w.heap[k]?)->wpList P C Q rest (a.put o.dst (goInt c)) w'):
  wpList P C Q (o::rest) a w:=by
 refine wpList_plain E λK M=> ?_;obtain⟨w',u,H,r,n,q⟩:=Jr (P:=P) w D J o.type i g e l I c m z N f t cs V U R F S x p L;unfold Oper.wp;simp[execOp,T,resolve,invoke,builtin,O,G,u,Result.andThen];exact M _ _ (h w' H r n q)
end
theorem jh{P:Program}(w:World)(t e:TypeId)(a:Option Addr)(l c:Nat)(h:P.underlying t=some (.slice e)):(binOp .eql t (.slice a l c) (.slice none 0 0)).run P w=.ok (.bool a.isNone) w:=by
 simp only[binOp];simp[run_equal_slice_nil w t e a l c h]
structure Ln where
 g:Nat
 n:Nat
 wo:Option Addr
 wc:Nat
 cs:List Value
def sV(l:Ln):List Value:=[.slice (some ⟨l.g,0,none⟩) (l.n+3) (l.n+3),.slice l.wo l.n l.wc]
def gM(ls:List Ln):List Value:=ls.flatMap sV
theorem Fz(a b:List Ln):gM (a++b)=gM a++gM b:=by simp[gM]
theorem qN:∀(c:List Ln) (i:Nat) (l:Ln) (j:Nat),c[i]? =some l->j<2->(gM c)[i*2+j]? =(sV l)[j]?
 | [],i,r,j,h,_=>by simp at h
 |a::rs,0,r,j,h,hj=>by
  simp at h;subst h;rw[Nat.zero_mul,Nat.zero_add,gM,List.flatMap_cons,getElem?_append_left (by simp[sV];omega)]
 |a::rs,i+1,r,j,h,hj=>by
  have:=qN rs i r j (by simpa using h) hj;have b:(sV a).length=2:=by simp[sV]
  rw[gM,List.flatMap_cons,getElem?_append_right (by rw[b];omega),b,show(i+1)*2+j- 2=i*2+j by omega];exact this
def jd(z:Nat)(cs:List Value)(far:Nat->Value)(j:Nat):Value:=if h:j<cs.length then cs[j]else far (j % z)
def iU(w:World)(z:Nat)(wo:Option Addr)(n:Nat)(cs:List Value):Prop:=cs.length=n*z/\(n=0\/∃b off,wo=some ⟨b,off,none⟩/\b<w.heap.size/\∀j v,cs[j]? =some v->w.cell? ⟨b,off+j,none⟩=some v)
theorem iU.ag{w x:World}{z n:Nat}{wo:Option Addr}{cs:List Value}(h:iU w z wo n cs)(hb:Below w.heap.size w x):iU x z wo n cs:=by
 refine⟨h.1, ?_⟩;rcases h.2 with h|⟨b,off,e,hl,hc⟩
 ·exact .inl h
 ·exact .inr ⟨b,off,e,by have:=hb.size;omega,λj v a=>(hb.cell (p:=⟨b,off+j,none⟩) hl).trans (hc j v a)⟩
theorem iU.src{w:World}{z n:Nat}{wo:Option Addr}{cs:List Value}(h:iU w z wo n cs):n=0\/∃b a,wo=some ⟨b,a,none⟩/\∀j v,cs[j]? =some v->w.cell? ⟨b,a+j,none⟩=some v:=by
 rcases h.2 with h|⟨b,a,e,_,hc⟩
 ·exact .inl h
 ·exact .inr ⟨b,a,e,hc⟩
def rV(Ty:List Value->Nat->Prop)(w0:World)(z:Nat)(l:Ln):Prop:=iU w0 z l.wo l.n l.cs/\Ty l.cs l.n
def Hu(cs:List Value)(n:Nat):Prop:=∀i,i<n->∃(k m:Int) (s:ByteArray),cs[i*3]? =some (.int .i64 k)/\cs[i*3+1]? =some (.int .i64 m)/\cs[i*3+2]? =some (.string s)
def KZ(cs:List Value)(n:Nat):Prop:=∀i,i<n->∃(s t:ByteArray) (m:Int),cs[i*3]? =some (.string s)/\cs[i*3+1]? =some (.string t)/\cs[i*3+2]? =some (.int .i64 m)
def Sw(cs:List Value)(n:Nat):Prop:=∀i,i<n->∃(s t u:ByteArray),cs[i*3]? =some (.string s)/\cs[i*3+1]? =some (.string t)/\cs[i*3+2]? =some (.string u)
def La(cs:List Value)(n:Nat):Prop:=∀i,i<n->∃(s:ByteArray),cs[i]? =some (.string s)
structure qf(Wt:Ln->Prop)(w:World)(T:TypeId)(z:Nat)(far:Nat->Value)(lo:Nat)(l:Ln):Prop where
 row:w.rowIs l.g T ((l.n+3)*z) (jd z l.cs far)
 len:l.cs.length=l.n*z
 lo:lo<=l.g
 small:l.n<=1048576
 want:Wt l
structure bP(Wt:Ln->Prop)(w:World)(T TL:TypeId)(z:Nat)(far:Nat->Value)(mb:Nat)(v:Value)(ls:List Ln):Prop where
 own:w.ownsRow (mb+1) TL 2 v ls.length (gM ls)
 each:∀l∈ls,qf Wt w T z far (mb+1) l
 apart:ls.Pairwise λa b=>a.g<b.g
theorem xZ{z n:Nat}{cs:List Value}{far f:Nat->Value}(b:cs.length=n*z)(j:Nat)(a:j<(n+3)*z):vO z far (rZ cs f) (n*z) ((n+3)*z) j=jd z cs far j:=by
 unfold vO rZ jd;by_cases h:j<cs.length
 ·rw[if_neg (by omega),dif_pos h,dif_pos h]
 ·rw[if_pos (by omega),dif_neg h]
def iQ(w x:World)(A B:TypeId):Prop:=∀(q:Nat) (cur:Array Value) (T:TypeId) (fz:Nat × Nat),w.heap[q]? =some (.cells cur T fz)->T≠A->T≠B->x.heap[q]? =w.heap[q]?
theorem xm{w x:World}{g n:Nat}{T A B:TypeId}{f:Nat->Value}(h:w.rowIs g T n f)(e:iQ w x A B)(b:T≠A)(d:T≠B):x.rowIs g T n f:=by
 have a:=h;obtain⟨c,hb,_,_⟩:=a;exact h.of_block (e _ _ _ _ hb b d)
theorem qf.typed{b:Ln->Prop}{w x:World}{T A B:TypeId}{z lo:Nat}{a:Nat->Value}{l:Ln}(h:qf b w T z a lo l)(e:iQ w x A B)(c:T≠A)(d:T≠B):qf b x T z a lo l:=
 ⟨xm h.row e c d,h.len,h.lo,h.small,h.want⟩
theorem bP.typed{d:Ln->Prop}{w x:World}{T a A B:TypeId}{z g:Nat}{b:Nat->Value}{v:Value}{f:List Ln}(h:bP d w T a z b g v f)(e:iQ w x A B)(j:T≠A)(k:T≠B)(m:a≠A)(n:a≠B):bP d x T a z b g v f:=
 ⟨gN h.own λq c i p=>e q c a i p m n,λl o=>(h.each l o).typed e j k,h.apart⟩
theorem bP.ag{d:Ln->Prop}{w x:World}{T c:TypeId}{z f:Nat}{b:Nat->Value}{v:Value}{e:List Ln}(h:bP d w T c z b f v e)(hb:Below w.heap.size w x):bP d x T c z b f v e:=
 ⟨rD h.own λq g=>hb.block q (h.own.lt q g).2,λl a=>⟨(h.each l a).row.of_block (hb.block _ (h.each l a).row.lt),(h.each l a).len,(h.each l a).lo,(h.each l a).small,(h.each l a).want⟩,h.apart⟩
theorem bP.mono{f b:Ln->Prop}{w:World}{T e:TypeId}{z g:Nat}{c:Nat->Value}{v:Value}{d:List Ln}(h:bP f w T e z c g v d)(i:∀l∈d,f l->b l):bP b w T e z c g v d:=
 ⟨h.own,λl a=>⟨(h.each l a).row,(h.each l a).len,(h.each l a).lo,(h.each l a).small,i l a (h.each l a).want⟩,h.apart⟩
theorem jc{A:Ln->Prop}{w wo G w7:World}{c k J f:Nat}{T j i:TypeId}{z:Nat}{m:Nat->Value}{a:Option Addr}{I H:Nat}{p:List Ln}{l:Ln}{cs:Array Value}
  (R:wo.heap[c]? =some (.cells cs i (0,0))) (C:bP A wo T j z m c (.slice a I H) p) (U:qf A wo T z m (c+1) l) (s:∀x∈p,x.g<l.g) (K:T≠j) (r:T≠i)
  (Q:Below c w wo) (E:iQ w wo j i) (S:Below wo.heap.size wo G) (n:G.grownBy w7 (slice a I H).ownBlock) (o:w7.ownsRow (c+1) j 2 (.slice (some ⟨J,0,none⟩) (p.length+1) f) (p.length+1) (gM p++sV l)) (v:Value):
  w7.heap[c]? =some (.cells cs i (0,0))/\(w7.setCell ⟨c,k,none⟩ v).heap[c]? =some (.cells (cs.setIfInBounds k v) i (0,0))/\
  bP A (w7.setCell ⟨c,k,none⟩ v) T j z m c (.slice (some ⟨J,0,none⟩) (p.length+1) f) (p++ [l])/\Below c w (w7.setCell ⟨c,k,none⟩ v)/\iQ w (w7.setCell ⟨c,k,none⟩ v) j i:=by
 obtain⟨L,M,N,O,P⟩:=xX (B:=c) (k:=k) R C.own S n o v (le_refl _);have D:iQ wo (w7.setCell ⟨c,k,none⟩ v) j i:=λq d T t u a b=>P q d T t u a b;refine⟨L,M,⟨?_,λx F=> ?_, ?_⟩,Q.trans O,λq d T t u a b=> ?_⟩
 ·rw[Fz,List.length_append];have:gM [l]=sV l:=by simp[gM]
  rw[this];exact N
 ·rcases List.mem_append.mp F with h|h
  ·exact(C.each x h).typed D K r
  ·rw[List.mem_singleton.mp h];exact U.typed D K r
 ·rw[List.pairwise_append];exact⟨C.apart,by simp,λx F y V=>by rw[List.mem_singleton.mp V];exact s x F⟩
 ·have e:=E q d T t u a b;exact(D q d T t (e.trans u) a b).trans e
theorem gF{w x:World}(hb:Below w.heap.size w x)(A B:TypeId):iQ w x A B:=λq _ _ _ a _ _=>hb.block q (aC a)
def oF(j:Nat):Value:=if j=0 then .int .i64 9 else if j=1 then .int .i64 77 else .string ⟨#[]⟩
theorem wN(w:World):Calls prog 72 #[] w λe w'=>e=.returned (.agg #[.int .i64 9,.int .i64 77,.string ⟨#[]⟩])/\Below w.heap.size w w':=by
 go_enter Tryz.func72,Tryz.ntmps72
 go_wp2_with fail
 exact bodyPost_ret (v:=.agg #[.int .i64 9,.int .i64 77,.string ⟨#[]⟩]) (by simp[results,Tryz.results72,go_sem]) rfl ⟨rfl,(refl _ w).alloc (le_refl _) _⟩
theorem pO(w:World):Calls prog 139 #[] w λe w'=>e=.returned (.agg #[.int .i64 8,.int .i64 0,.string ⟨#[]⟩])/\Below w.heap.size w w':=by
 go_enter Tryz.func139,Tryz.ntmps139
 go_wp2_with fail
 exact bodyPost_ret (v:=.agg #[.int .i64 8,.int .i64 0,.string ⟨#[]⟩]) (by simp[results,Tryz.results139,go_sem]) rfl ⟨rfl,(refl _ w).alloc (le_refl _) _⟩
theorem LV:(Tryz.prog.info? 56).map (λi=>(i.zero,i.size,i.bytes))=some (some (.agg #[.int .i64 0,.int .i64 0,.string ⟨#[]⟩]),3,32):=by kernel_rfl
theorem Cm:(Tryz.prog.info? 227).map (λi=>(i.zero,i.size,i.bytes))=some (some (.agg #[.slice none 0 0,.slice none 0 0]),2,48):=by kernel_rfl
def Bz(Wt:Ln->Prop)(w:World)(T TL TB:TypeId)(z:Nat)(far:Nat->Value)(mb k:Nat)(arr:Array Value)(ls:List Ln)(wo:Option Addr)(n wc:Nat)(cs:List Value)(e:Ending)(w':World):Prop:=
 ∃(g:Nat) (v:Value),e=.returned (.slice (some ⟨g,0,none⟩) n (n+3))/\w'.heap[mb]? =some (.cells (arr.setIfInBounds k v) TB (0,0))/\bP Wt w' T TL z far mb v (ls++ [⟨g,n,wo,wc,cs⟩])/\(∃a b c,v=.slice a b c)/\Below mb w w'/\iQ w w' TL TB
theorem Ew(w:World)(b:Nat):
  Calls prog 31 #[.pointer (some ⟨b,0,none⟩),.slice none 0 0] w λe w'=>e=.returned (.slice none 0 0)/\w'=w:=by
 have a:∀W,(binOp .eql 57 (.slice none 0 0) (.slice none 0 0)).run prog W=.ok (.bool true) W:=λW=>jh W _ _ _ _ _ Tryz.underlying57;go_enter Tryz.func31,Tryz.ntmps31
 go_wp2_with fail
 go_ret;exact⟨rfl,rfl⟩
theorem Eu(w0 w:World)(h:Nat)(a:Option Addr)(E D:Nat)(z:Array Value)(t:List Ln)(U:w.heap[h]? =some (.cells z 118 (0,0)))(ha:z[0]? =some (.slice a E D))(T:bP (rV Hu w0 3) w 56 227 3 oF h (.slice a E D) t)(b2:t.length<=1099520000000)
  (h0:Below w0.heap.size w0 w) (q:Addr) (n wc:Nat) (cs:List Value) (hn:n<=1048576) (P:iU w0 3 (some q) n cs) (h1:∀v∈cs,v.oneCell'=true) (a4:Hu cs n):
  Calls prog 31 #[.pointer (some ⟨h,0,none⟩),.slice (some q) n wc] w λe w'=>Bz (rV Hu w0 3) w 56 227 118 3 oF h 0 z t (some q) n wc cs e w':=by
 obtain⟨i0,hi,a5,R,a6⟩:=info_parts LV;obtain⟨i1,V,X,Y,Z⟩:=info_parts Cm;have L:=aC U;have a3:(Tryz.prog.info? 56).map (·.size)=some 3:=by rw[hi];simp[R]
 have o:=P.ag h0;have M:∀W,(binOp .eql 57 (.slice (some q) n wc) (.slice none 0 0)).run prog W=.ok (.bool false) W:=λW=>jh W _ _ _ _ _ Tryz.underlying57;go_enter Tryz.func31,Tryz.ntmps31;have b5:h≠w.heap.size:=by omega
 go_wp2_with(first
  |(at_make;refine ig _ rfl _ _ 57 rfl 56 i0 _ Tryz.underlying57 hi a5 .i64 .i64 (n+3) _ rfl rfl (by omega) (by rw[a6];omega) (by omega) 3 R ?_;intro w2 f2 a2 A N b0)
  |(refine kP rfl (.tmp 15) (.tmp 16) 57 57 rfl 56 3 Tryz.underlying57 a3 w.heap.size (n+3) (n+3) (some q) n wc rfl rfl ((n+3)*3) f2 56 N cs (by omega) o.1 (o.ag A).src (by have:=o.1;omega) h1 ?_;intro w3 Q O H a1))
 have B3:Below w.heap.size w w3:=H _ _ (le_refl _) A;have I:w3.rowIs w.heap.size 56 ((n+3)*3) (vO 3 oF (rZ cs f2) (n*3) ((n+0)*3)):=O.congr λj _=>(oM _ _ _ _ _).symm;clear N O H a1 A a2 Q M;go_loopw [7] (λiv wr=>∃m:Nat,m<=3/\iv=.int .i64 ((n+m:Nat):Int)/\wr.rowIs w.heap.size 56 ((n+3)*3) (vO 3 oF (rZ cs f2) (n*3) ((n+m)*3))/\Below w.heap.size w wr) (λiv _=>(n+3)- (intOf iv).toNat)
 case atStart=>exact⟨0,by omega,by go_num,I,B3⟩
 case round=>
  obtain⟨m,hm,rfl,S,r⟩:=hrel;clear I B3;by_cases b3:m<3
  ·have J:=S.lt
   go_wp2_with(go_at_call 72;refine(wN _).mono ?_;rintro e w5 ⟨rfl,hb5⟩;have b:=S.of_block (hb5.block _ J);have a8:=b.lt;have c0:=b.cell (i:=(n+m)*3) (by omega);have c1:=b.cell (i:=(n+m)*3+1) (by omega);have c2:=b.cell (i:=(n+m)*3+2) (by omega);have f0:=b.frozen ((n+m)*3);have f1:=b.frozen ((n+m)*3+1);have f3:=b.frozen ((n+m)*3+2))
   go_roundw
   case rel=>exact⟨m+1,by omega,by go_num,uL b (by omega) rfl rfl rfl,(((r.trans (hb5.mono r.size)).setCell (p:=⟨w.heap.size,_,none⟩) (le_refl _) _).setCell (p:=⟨w.heap.size,_,none⟩) (le_refl _) _).setCell (p:=⟨w.heap.size,_,none⟩) (le_refl _) _⟩
   case measure=>simp[intOf];omega
  ·obtain rfl:m=3:=by omega
   have f:wr.rowIs w.heap.size 56 ((n+3)*3) (jd 3 cs oF):=S.congr λj V=>xZ P.1 j V;have hOr:=(r.block h L).trans U;have b4:=aC hOr;have a0:wr.cell? ⟨h,0,none⟩=some (.slice a E D):=(af hOr).trans ha;have J:=f.lt;have G:bP (rV Hu w0 3) wr 56 227 3 oF h (.slice a E D) t:=T.ag r;have s:qf (rV Hu w0 3) wr 56 3 oF (h+1) ⟨w.heap.size,n,some q,wc,cs⟩:=⟨f,P.1,L,hn,P,a4⟩;have K:∀x∈t,x.g<w.heap.size:=λx hx=>(T.each x hx).row.lt;have C:Hid _:=hOr;have y:Hid _:=G;have B:Hid _:=s;clear S P o T f U hOr G s
   go_wp2_with(at_builtin;refine wpList_append_lies _ rfl (.tmp 33) (.tmp 37) 108 rfl (h+1) 227 i1 _ 2 48 Tryz.underlying108 V X Y Z rfl (by decide) (.slice a E D) t.length (gM t) rfl (y.out.own.alloc _) ⟨wr.heap.size,0,none⟩ 1 1 [.slice (some ⟨w.heap.size,0,none⟩) (n+3) (n+3),.slice (some q) n wc] rfl rfl (news_of_block (heap_alloc_new wr _)) (by intro u hu;simp at hu;rcases hu with rfl|rfl<;>rfl) (by decide) (by unfold maxLen;omega) (by omega) (by simp[size_alloc];omega) (wr.heap.size+1) (by simp[size_alloc]) ?_;intro g7 F w7 d c a7 a9;have kO:=(jc (k:=0) (l:=⟨w.heap.size,n,some q,wc,cs⟩) C.out y.out B.out K (by decide) (by decide) (r.mono (by omega)) (gF r _ _) ((refl _ wr).alloc (le_refl _) _) c d (.slice none 0 0)).1;have b1:=aC kO;have r0:=(af kO).trans ha;have b6:w7.frozen? ⟨h,0,none⟩=false:=by simp[frozen?,kO])
   go_ret;obtain⟨_,A1,A2,A3,A4⟩:=jc (k:=0) (l:=⟨w.heap.size,n,some q,wc,cs⟩) C.out y.out B.out K (by decide) (by decide) (r.mono (by omega)) (gF r _ _) ((refl _ wr).alloc (le_refl _) _) c d (.slice (some ⟨g7,0,none⟩) (t.length+1) F);exact⟨w.heap.size,_,rfl,A1,A2,⟨_,_,_,rfl⟩,A3,A4⟩
def rQ(j:Nat):Value:=if j=0 then .string ⟨#[98,101,121,111,110,100]⟩else if j=1 then .string ⟨#[]⟩else .int .i64 0
def rR(_:Nat):Value:=.string ⟨#[98,101,121,111,110,100]⟩
theorem LY:(Tryz.prog.info? 50).map (λi=>(i.zero,i.size,i.bytes))=some (some (.agg #[.string ⟨#[]⟩,.string ⟨#[]⟩,.int .i64 0]),3,40):=by kernel_rfl
theorem Co:(Tryz.prog.info? 290).map (λi=>(i.zero,i.size,i.bytes))=some (some (.agg #[.slice none 0 0,.slice none 0 0]),2,48):=by kernel_rfl
theorem LZ:(Tryz.prog.info? 9).map (λi=>(i.zero,i.size,i.bytes))=some (some (.string ⟨#[]⟩),1,16):=by kernel_rfl
theorem Cq:(Tryz.prog.info? 294).map (λi=>(i.zero,i.size,i.bytes))=some (some (.agg #[.slice none 0 0,.slice none 0 0]),2,48):=by kernel_rfl
theorem Pn{n:Nat}{cs:List Value}{a f:Nat->Value}(c:cs.length=n*1)(j:Nat)(b:j<(n+3)*1):vO 1 a (rZ cs f) n (n+3) j=jd 1 cs a j:=by
 have:=xZ (z:=1) (far:=a) (f:=f) c j b;simpa using this
theorem Iq(w:World)(b:Nat):
  Calls prog 59 #[.pointer (some ⟨b,0,none⟩),.slice none 0 0] w λe w'=>e=.returned (.slice none 0 0)/\w'=w:=by
 have a:∀W,(binOp .eql 51 (.slice none 0 0) (.slice none 0 0)).run prog W=.ok (.bool true) W:=λW=>jh W _ _ _ _ _ Tryz.underlying51;go_enter Tryz.func59,Tryz.ntmps59
 go_wp2_with fail
 go_ret;exact⟨rfl,rfl⟩
theorem Ip(w0 w:World)(f:Nat)(a:Option Addr)(E D:Nat)(y:Array Value)(s:List Ln)(S:w.heap[f]? =some (.cells y 118 (0,0)))(ha:y[4]? =some (.slice a E D))(R:bP (rV KZ w0 3) w 50 290 3 rQ f (.slice a E D) s)(b0:s.length<=1099511627776)
  (h0:Below w0.heap.size w0 w) (q:Addr) (n wc:Nat) (cs:List Value) (hn:n<=1048576) (O:iU w0 3 (some q) n cs) (h1:∀v∈cs,v.oneCell'=true) (a3:KZ cs n):
  Calls prog 59 #[.pointer (some ⟨f,0,none⟩),.slice (some q) n wc] w λe w'=>Bz (rV KZ w0 3) w 50 290 118 3 rQ f 4 y s (some q) n wc cs e w':=by
 obtain⟨i0,hi,a4,Q,a5⟩:=info_parts LY;obtain⟨i1,U,V,X,Y⟩:=info_parts Co;have K:=aC S;have a2:(Tryz.prog.info? 50).map (·.size)=some 3:=by rw[hi];simp[Q]
 have o:=O.ag h0;have L:∀W,(binOp .eql 51 (.slice (some q) n wc) (.slice none 0 0)).run prog W=.ok (.bool false) W:=λW=>jh W _ _ _ _ _ Tryz.underlying51;go_enter Tryz.func59,Tryz.ntmps59;have b3:f≠w.heap.size:=by omega
 go_wp2_with(first
  |(at_make;refine ig _ rfl _ _ 51 rfl 50 i0 _ Tryz.underlying51 hi a4 .i64 .i64 (n+3) _ rfl rfl (by omega) (by rw[a5];omega) (by omega) 3 Q ?_;intro w2 f2 a1 A M a8)
  |(refine kP rfl (.tmp 15) (.tmp 16) 51 51 rfl 50 3 Tryz.underlying51 a2 w.heap.size (n+3) (n+3) (some q) n wc rfl rfl ((n+3)*3) f2 50 M cs (by omega) o.1 (o.ag A).src (by have:=o.1;omega) h1 ?_;intro w3 P N H Z))
 have B3:Below w.heap.size w w3:=H _ _ (le_refl _) A;have I:w3.rowIs w.heap.size 50 ((n+3)*3) (vO 3 rQ (rZ cs f2) (n*3) ((n+0)*3)):=N.congr λj _=>(oM _ _ _ _ _).symm;clear M N H Z A a1 P L;go_loopw [7] (λiv wr=>∃m:Nat,m<=3/\iv=.int .i64 ((n+m:Nat):Int)/\wr.rowIs w.heap.size 50 ((n+3)*3) (vO 3 rQ (rZ cs f2) (n*3) ((n+m)*3))/\Below w.heap.size w wr) (λiv _=>(n+3)- (intOf iv).toNat)
 case atStart=>exact⟨0,by omega,by go_num,I,B3⟩
 case round=>
  obtain⟨m,hm,rfl,h,z⟩:=hrel;clear I B3;by_cases b1:m<3
  ·have T:=h.lt;have c0:=h.cell (i:=(n+m)*3) (by omega);have c1:=h.cell (i:=(n+m)*3+1) (by omega);have c2:=h.cell (i:=(n+m)*3+2) (by omega);have f0:=h.frozen ((n+m)*3);have f1:=h.frozen ((n+m)*3+1);have f3:=h.frozen ((n+m)*3+2)
   go_wp2_with fail
   go_roundw
   case rel=>exact⟨m+1,by omega,by go_num,uL h (by omega) rfl rfl rfl,((z.setCell (p:=⟨w.heap.size,_,none⟩) (le_refl _) _).setCell (p:=⟨w.heap.size,_,none⟩) (le_refl _) _).setCell (p:=⟨w.heap.size,_,none⟩) (le_refl _) _⟩
   case measure=>simp[intOf];omega
  ·obtain rfl:m=3:=by omega
   have d:wr.rowIs w.heap.size 50 ((n+3)*3) (jd 3 cs rQ):=h.congr λj U=>xZ O.1 j U;have hOr:=(z.block f K).trans S;have b2:=aC hOr;have a0:wr.cell? ⟨f,4,none⟩=some (.slice a E D):=(af hOr).trans ha;have T:=d.lt;have G:bP (rV KZ w0 3) wr 50 290 3 rQ f (.slice a E D) s:=R.ag z;have r:qf (rV KZ w0 3) wr 50 3 rQ (f+1) ⟨w.heap.size,n,some q,wc,cs⟩:=⟨d,O.1,K,hn,O,a3⟩;have J:∀x∈s,x.g<w.heap.size:=λx hx=>(R.each x hx).row.lt;have C:Hid _:=hOr;have t:Hid _:=G;have B:Hid _:=r;clear h O o R d S hOr G r
   go_wp2_with(at_builtin;refine wpList_append_lies _ rfl (.tmp 33) (.tmp 37) 112 rfl (f+1) 290 i1 _ 2 48 Tryz.underlying112 U V X Y rfl (by decide) (.slice a E D) s.length (gM s) rfl (t.out.own.alloc _) ⟨wr.heap.size,0,none⟩ 1 1 [.slice (some ⟨w.heap.size,0,none⟩) (n+3) (n+3),.slice (some q) n wc] rfl rfl (news_of_block (heap_alloc_new wr _)) (by intro u hu;simp at hu;rcases hu with rfl|rfl<;>rfl) (by decide) (by unfold maxLen;omega) (by omega) (by simp[size_alloc];omega) (wr.heap.size+1) (by simp[size_alloc]) ?_;intro g7 F w7 c b a6 a7;have kO:=(jc (k:=4) (l:=⟨w.heap.size,n,some q,wc,cs⟩) C.out t.out B.out J (by decide) (by decide) (z.mono (by omega)) (gF z _ _) ((refl _ wr).alloc (le_refl _) _) b c (.slice none 0 0)).1;have a9:=aC kO;have r0:=(af kO).trans ha;have b4:w7.frozen? ⟨f,4,none⟩=false:=by simp[frozen?,kO])
   go_ret;obtain⟨_,A1,A2,A3,A4⟩:=jc (k:=4) (l:=⟨w.heap.size,n,some q,wc,cs⟩) C.out t.out B.out J (by decide) (by decide) (z.mono (by omega)) (gF z _ _) ((refl _ wr).alloc (le_refl _) _) b c (.slice (some ⟨g7,0,none⟩) (s.length+1) F);exact⟨w.heap.size,_,rfl,A1,A2,⟨_,_,_,rfl⟩,A3,A4⟩
theorem GN(w:World)(b:Nat):
  Calls prog 61 #[.pointer (some ⟨b,0,none⟩),.slice none 0 0] w λe w'=>e=.returned (.slice none 0 0)/\w'=w:=by
 have a:∀W,(binOp .eql 52 (.slice none 0 0) (.slice none 0 0)).run prog W=.ok (.bool true) W:=λW=>jh W _ _ _ _ _ Tryz.underlying52;go_enter Tryz.func61,Tryz.ntmps61
 go_wp2_with fail
 go_ret;exact⟨rfl,rfl⟩
theorem GM(w0 w:World)(f:Nat)(a:Option Addr)(E D:Nat)(t:Array Value)(r:List Ln)(S:w.heap[f]? =some (.cells t 118 (0,0)))(ha:t[2]? =some (.slice a E D))(R:bP (rV La w0 1) w 9 294 1 rR f (.slice a E D) r)(b0:r.length<=1099511627776)
  (h0:Below w0.heap.size w0 w) (o:Addr) (n wc:Nat) (cs:List Value) (hn:n<=1048576) (O:iU w0 1 (some o) n cs) (h1:∀v∈cs,v.oneCell'=true) (a3:La cs n):
  Calls prog 61 #[.pointer (some ⟨f,0,none⟩),.slice (some o) n wc] w λe w'=>Bz (rV La w0 1) w 9 294 118 1 rR f 2 t r (some o) n wc cs e w':=by
 obtain⟨i0,hi,a4,Q,a5⟩:=info_parts LZ;obtain⟨i1,U,V,X,Y⟩:=info_parts Cq;have K:=aC S;have a2:(Tryz.prog.info? 9).map (·.size)=some 1:=by rw[hi];simp[Q]
 have h:=O.ag h0;have L:∀W,(binOp .eql 52 (.slice (some o) n wc) (.slice none 0 0)).run prog W=.ok (.bool false) W:=λW=>jh W _ _ _ _ _ Tryz.underlying52;go_enter Tryz.func61,Tryz.ntmps61;have b3:f≠w.heap.size:=by omega
 go_wp2_with(first
  |(at_make;refine ig _ rfl _ _ 52 rfl 9 i0 _ Tryz.underlying52 hi a4 .i64 .i64 (n+3) _ rfl rfl (by omega) (by rw[a5];omega) (by omega) 1 Q ?_;intro w2 f2 a1 z M a8)
  |(refine kP rfl (.tmp 15) (.tmp 16) 52 52 rfl 9 1 Tryz.underlying52 a2 w.heap.size (n+3) (n+3) (some o) n wc rfl rfl _ f2 9 M cs (by omega) h.1 (h.ag z).src (by have:=h.1;omega) h1 ?_;intro w3 P N H Z))
 have B3:Below w.heap.size w w3:=H _ _ (le_refl _) z;have I:w3.rowIs w.heap.size 9 ((n+3)*1) (vO 1 rR (rZ cs f2) n (n+0)):=N.congr λj _=>(oM _ _ _ _ _).symm;clear M N H Z z a1 P L;go_loopw [7] (λiv wr=>∃m:Nat,m<=3/\iv=.int .i64 ((n+m:Nat):Int)/\wr.rowIs w.heap.size 9 ((n+3)*1) (vO 1 rR (rZ cs f2) n (n+m))/\Below w.heap.size w wr) (λiv _=>(n+3)- (intOf iv).toNat)
 case atStart=>exact⟨0,by omega,by go_num,I,B3⟩
 case round=>
  obtain⟨m,hm,rfl,A,y⟩:=hrel;clear I B3;by_cases b1:m<3
  ·have T:=A.lt;have c0:=A.cell (i:=n+m) (by omega);have f0:=A.frozen (n+m)
   go_wp2_with fail
   go_roundw
   case rel=>exact⟨m+1,by omega,by go_num,FP A (by omega),y.setCell (p:=⟨w.heap.size,_,none⟩) (le_refl _) _⟩
   case measure=>simp[intOf];omega
  ·obtain rfl:m=3:=by omega
   have d:wr.rowIs w.heap.size 9 ((n+3)*1) (jd 1 cs rR):=A.congr λj U=>Pn O.1 j U;have hOr:=(y.block f K).trans S;have b2:=aC hOr;have a0:wr.cell? ⟨f,2,none⟩=some (.slice a E D):=(af hOr).trans ha;have T:=d.lt;have G:bP (rV La w0 1) wr 9 294 1 rR f (.slice a E D) r:=R.ag y;have q:qf (rV La w0 1) wr 9 1 rR (f+1) ⟨w.heap.size,n,some o,wc,cs⟩:=⟨d,O.1,K,hn,O,a3⟩;have J:∀x∈r,x.g<w.heap.size:=λx hx=>(R.each x hx).row.lt;have C:Hid _:=hOr;have s:Hid _:=G;have B:Hid _:=q;clear A O h R d S hOr G q
   go_wp2_with(at_builtin;refine wpList_append_lies _ rfl (.tmp 32) (.tmp 36) 110 rfl (f+1) 294 i1 _ 2 48 Tryz.underlying110 U V X Y rfl (by decide) (.slice a E D) r.length (gM r) rfl (s.out.own.alloc _) ⟨wr.heap.size,0,none⟩ 1 1 [.slice (some ⟨w.heap.size,0,none⟩) (n+3) (n+3),.slice (some o) n wc] rfl rfl (news_of_block (heap_alloc_new wr _)) (by intro u hu;simp at hu;rcases hu with rfl|rfl<;>rfl) (by decide) (by unfold maxLen;omega) (by omega) (by simp[size_alloc];omega) (wr.heap.size+1) (by simp[size_alloc]) ?_;intro g7 F w7 c b a6 a7;have kO:=(jc (k:=2) (l:=⟨w.heap.size,n,some o,wc,cs⟩) C.out s.out B.out J (by decide) (by decide) (y.mono (by omega)) (gF y _ _) ((refl _ wr).alloc (le_refl _) _) b c (.slice none 0 0)).1;have a9:=aC kO;have r0:=(af kO).trans ha;have b4:w7.frozen? ⟨f,2,none⟩=false:=by simp[frozen?,kO])
   go_ret;obtain⟨_,A1,A2,A3,A4⟩:=jc (k:=2) (l:=⟨w.heap.size,n,some o,wc,cs⟩) C.out s.out B.out J (by decide) (by decide) (y.mono (by omega)) (gF y _ _) ((refl _ wr).alloc (le_refl _) _) b c (.slice (some ⟨g7,0,none⟩) (r.length+1) F);exact⟨w.heap.size,_,rfl,A1,A2,⟨_,_,_,rfl⟩,A3,A4⟩
def dU(w x:World)(S:List TypeId):Prop:=∀(q:Nat) (cur:Array Value) (T:TypeId) (fz:Nat × Nat),w.heap[q]? =some (.cells cur T fz)->T∉S->x.heap[q]? =w.heap[q]?
theorem iQ.l{w x:World}{A B:TypeId}(h:iQ w x A B){S:List TypeId}(d:A∈S)(f:B∈S):dU w x S:=λq a T c g b=>h q a T c g (λe=>b (e▸d)) (λe=>b (e▸f))
theorem dU.trans{w x y:World}{S:List TypeId}(f:dU w x S)(g:dU x y S):dU w y S:=λq a T b d c=>by
 have e:=f q a T b d c;exact(g q a T b (e.trans d) c).trans e
theorem dU.mono{w x:World}{S b:List TypeId}(h:dU w x S)(g:∀T∈S,T∈b):dU w x b:=λq a T c f d=>h q a T c f λe=>d (g T e)
theorem dU.refl(w:World)(S:List TypeId):dU w w S:=λ_ _ _ _ _ _=>rfl
theorem iQ.trans{w x y:World}{A B:TypeId}(g:iQ w x A B)(h:iQ x y A B):iQ w y A B:=λq c T d f a b=>by
 have e:=g q c T d f a b;exact(h q c T d (e.trans f) a b).trans e
theorem iQ.refl(w:World)(A B:TypeId):iQ w w A B:=λ_ _ _ _ _ _ _=>rfl
theorem iM{w x:World}{g n:Nat}{T:TypeId}{S:List TypeId}{f:Nat->Value}(h:w.rowIs g T n f)(d:dU w x S)(b:T∉S):x.rowIs g T n f:=by
 have a:=h;obtain⟨c,hb,_,_⟩:=a;exact h.of_block (d _ _ _ _ hb b)
theorem bP.eQ{e:Ln->Prop}{w x:World}{T c:TypeId}{S:List TypeId}{z i:Nat}{a:Nat->Value}{v:Value}{g:List Ln}(h:bP e w T c z a i v g)(f:dU w x S)(k:T∉S)(m:c∉S):bP e x T c z a i v g:=
 ⟨gN h.own λq d j n=>f q d c j n m,λl b=>⟨iM (h.each l b).row f k,(h.each l b).len,(h.each l b).lo,(h.each l b).small,(h.each l b).want⟩,h.apart⟩
theorem bP.other{d:Ln->Prop}{w x:World}{T b T':TypeId}{z j g:Nat}{a:Nat->Value}{v:Value}{i:List Ln}(h:bP d w T b z a j v i)(r:∀q,q≠g->x.heap[q]? =w.heap[q]?)(p:∃c,w.heap[g]? =some (.cells c T' (0,0)))(l:T≠T')(m:b≠T'):bP d x T b z a j v i:=
 h.eQ (S:=[T']) (λq k s t f n=>r q λe=>by
  subst e;obtain⟨c,o⟩:=p;rw[o]at f;cases f;simp at n) (by simpa using l) (by simpa using m)
structure fD where
 ro:Option Addr
 rn:Nat
 rc:Nat
 cs:List Value
structure mW(Ty:List Value->Nat->Prop)(w0:World)(z:Nat)(r:fD):Prop where
 small:r.rn<=1048576
 nil:r.ro=none->r.rn=0/\r.rc=0
 want:iU w0 z r.ro r.rn r.cs
 one:∀v∈r.cs,v.oneCell'=true
 ty:Ty r.cs r.rn
abbrev wE(w0:World)(r:fD):Prop:=mW Hu w0 3 r
def lI(w0:World)(wo:Option Addr)(n:Nat)(rows:List fD):Prop:=rows.length=n/\(n=0\/∃b off,wo=some ⟨b,off,none⟩/\b<w0.heap.size/\∀(i:Nat) (r:fD),rows[i]? =some r->w0.cell? ⟨b,off+i,none⟩=some (.slice r.ro r.rn r.rc))
def dV(C:List Ln)(r:fD)(v:Value):Prop:=(r.rn=0/\v=.slice none 0 0)\/∃g,v=.slice (some ⟨g,0,none⟩) r.rn (r.rn+3)/\(⟨g,r.rn,r.ro,r.rc,r.cs⟩:Ln)∈C
theorem dV.mono{C a:List Ln}{r:fD}{v:Value}(h:dV C r v)(b:∀l∈C,l∈a):dV a r v:=by
 rcases h with h|⟨g,h1,h2⟩
 ·exact .inl h
 ·exact .inr ⟨g,h1,b _ h2⟩
def jH(C:List Ln)(rows:List fD)(es:List Value):Prop:=es.length=rows.length/\∀(i:Nat) (r:fD) (v:Value),rows[i]? =some r->es[i]? =some v->dV C r v
theorem jH.mono{C c:List Ln}{rows:List fD}{d:List Value}(h:jH C rows d)(e:∀l∈C,l∈c):jH c rows d:=⟨h.1,λi r v a b=>(h.2 i r v a b).mono e⟩
theorem jH.snoc{C:List Ln}{rows:List fD}{c:List Value}{r:fD}{v:Value}(h:jH C rows c)(e:dV C r v):jH C (rows++ [r]) (c++ [v]):=by
 refine⟨by simp[h.1],λi g v' a b=> ?_⟩;by_cases d:i<rows.length
 ·rw[getElem?_append_left d]at a;rw[getElem?_append_left (by rw[h.1];exact d)]at b;exact h.2 i g v' a b
 ·rw[getElem?_append_right (by omega)]at a;rw[getElem?_append_right (by rw[h.1];omega),h.1]at b;have f:i- rows.length=0:=by
   have:=(List.getElem?_eq_some_iff.mp a).1;simp at this;omega
  rw[f]at a b
  cases a;cases b;exact e
def SQ(w0:World)(C:List Ln)(l:Ln):Prop:=∃rows,lI w0 l.wo l.n rows/\jH C rows l.cs
def uB(_:Nat):Value:=.slice none 0 0
theorem OH:(Tryz.prog.info? 57).map (λi=>(i.zero,i.size,i.bytes))=some (some (.slice none 0 0),1,24):=by kernel_rfl
theorem EQ:(Tryz.prog.info? 292).map (λi=>(i.zero,i.size,i.bytes))=some (some (.agg #[.slice none 0 0,.slice none 0 0]),2,48):=by kernel_rfl
theorem ng{w:World}{g N:Nat}{T:TypeId}{a:List Value}{f:Nat->Value}{i:Nat}(h:w.rowIs g T N (rZ a f))(c:a.length=i)(v:Value):(w.setCell ⟨g,i,none⟩ v).rowIs g T N (rZ (a++ [v]) f):=by
 subst c;refine(h.set a.length v).congr λj d=> ?_;unfold rZ;by_cases e:j=a.length
 ·subst e;rw[if_pos rfl,dif_pos (by simp)];simp
 ·rw[if_neg e];by_cases b:j<a.length
  ·rw[dif_pos b,dif_pos (by simp;omega),List.getElem_append_left b]
  ·rw[dif_neg b,dif_neg (by simp;omega)]
def Nz(w0 w:World)(mb:Nat)(arr:Array Value)(C R:List Ln)(wo:Option Addr)(n wc:Nat)(rows:List fD)(e:Ending)(w':World):Prop:=
 ∃(g:Nat) (a:Option Addr) (an ac:Nat) (b:Option Addr) (bn bc:Nat) (C2:List Ln) (es:List Value),e=.returned (.slice (some ⟨g,0,none⟩) n (n+3))/\w'.heap[mb]? =some (.cells ((arr.setIfInBounds 0 (.slice a an ac)).setIfInBounds 1 (.slice b bn bc)) 118 (0,0))/\
  bP (rV Hu w0 3) w' 56 227 3 oF mb (.slice a an ac) (C++C2)/\C2.length<=n/\bP (SQ w0 (C++C2)) w' 57 292 1 uB mb (.slice b bn bc) (R++ [⟨g,n,wo,wc,es⟩])/\jH (C++C2) rows es/\Below mb w w'/\dU w w' [227,292,118]
theorem Jq(w:World)(b:Nat):
  Calls prog 60 #[.pointer (some ⟨b,0,none⟩),.slice none 0 0] w λe w'=>e=.returned (.slice none 0 0)/\w'=w:=by
 have a:∀W,(binOp .eql 24 (.slice none 0 0) (.slice none 0 0)).run prog W=.ok (.bool true) W:=λW=>jh W _ _ _ _ _ Tryz.underlying24;go_enter Tryz.func60,Tryz.ntmps60
 go_wp2_with fail
 go_ret;exact⟨rfl,rfl⟩
theorem QJ{a:Array Value}{i:Nat}{v:Value}(h:i<a.size):(a.setIfInBounds i v)[i]? =some v:=by
 rw[Array.getElem?_setIfInBounds];simp[h]
def NC(w0 w:World)(mb:Nat)(arr:Array Value)(C:List Ln)(n:Nat)(rows:List fD)(f2:Nat->Value)(i:Nat)(wr:World):Prop:=
 ∃(C2:List Ln) (es:List Value) (a:Option Addr) (an ac:Nat),(C2.length<=i/\es.length=i)/\wr.heap[mb]? =some (.cells (arr.setIfInBounds 0 (.slice a an ac)) 118 (0,0))/\bP (rV Hu w0 3) wr 56 227 3 oF mb (.slice a an ac) (C++C2)/\
  jH (C++C2) (rows.take i) es/\wr.rowIs w.heap.size 57 ((n+3)*1) (rZ es f2)/\Below mb w wr/\iQ w wr 227 118
theorem Jp(w0 w:World)(t:Nat)(a:Option Addr)(an ac:Nat)(b:Option Addr)(bn bc:Nat)(m:Array Value)(C R:List Ln)(hO:w.heap[t]? =some (.cells m 118 (0,0)))(ha:m[0]? =some (.slice a an ac))(hb:m[1]? =some (.slice b bn bc))
  (hC:bP (rV Hu w0 3) w 56 227 3 oF t (.slice a an ac) C) (hR:bP (SQ w0 C) w 57 292 1 uB t (.slice b bn bc) R) (n:Nat) (e6:C.length+n<=1099511627776) (e7:R.length<=1099511627776)
  (h0:Below w0.heap.size w0 w) (b8:w0.heap.size<=t) (O:Addr) (wc:Nat) (rows:List fD) (hn:n<=1048576) (hs:lI w0 (some O) n rows) (b1:∀r∈rows,wE w0 r):
  Calls prog 60 #[.pointer (some ⟨t,0,none⟩),.slice (some O) n wc] w λe w'=>Nz w0 w t m C R (some O) n wc rows e w':=by
 obtain⟨i0,hi,c9,e0,e1⟩:=info_parts OH;obtain⟨i1,hj,c4,c5,c6⟩:=info_parts EQ;have a8:=aC hO;have a9:∀W,(binOp .eql 24 (.slice (some O) n wc) (.slice none 0 0)).run prog W=.ok (.bool false) W:=λW=>jh W _ _ _ _ _ Tryz.underlying24;have e2:1<m.size:=(Array.getElem?_eq_some_iff.1 hb).1;go_enter Tryz.func60,Tryz.ntmps60
 go_wp2_with(at_make;refine ig _ rfl _ _ 24 rfl 57 i0 _ Tryz.underlying24 hi c9 .i64 .i64 (n+3) _ rfl rfl (by omega) (by rw[e1];omega) (by omega) 1 e0 ?_;intro w2 f2 c8 D b2 b5)
 have I0:NC w0 w t m C n rows f2 0 w2:=⟨[],[],a,an,ac,⟨le_refl _,rfl⟩,by
   rw[show m.setIfInBounds 0 (.slice a an ac)=m from by
    apply Array.ext
    ·simp
    ·intro k S U;rw[Array.getElem_setIfInBounds];split
     ·subst_vars;have:=Array.getElem?_eq_getElem (by omega:0<m.size);rw[ha]at this;exact Option.some.inj this
     ·rfl]
   exact(D.block t a8).trans hO,by rw[append_nil];exact hC.ag D,⟨by simp,λi r v h=>by simp at h⟩,b2.congr λj _=>by simp[rZ],D.mono (by omega),gF D _ _⟩
 have HS:Hid _:=hs;have b7:Hid _:=b1;clear b2 D c8 a9 hC hs b1;go_loopw [7] (λiv wr=>∃i:Nat,i<=n/\iv=.int .i64 (i:Int)/\NC w0 w t m C n rows f2 i wr) (λiv _=>n- (intOf iv).toNat)
 case atStart=>exact⟨0,Nat.zero_le _,rfl,I0⟩
 case round=>
  clear I0;obtain⟨i,g1,rfl,C2,Q,a2,J,I,⟨b9,F⟩,hOr,L,d,f,hB,hK⟩:=hrel;have g2:=aC hOr;have g0:=hB.size;by_cases c7:i<n
  ·obtain⟨K,B,rfl,c1,E⟩:∃K B,O=⟨K,B,none⟩/\K<w0.heap.size/\∀(i:Nat) (r:fD),rows[i]? =some r->w0.cell? ⟨K,B+i,none⟩=some (.slice r.ro r.rn r.rc):=by
    rcases HS.out.2 with h|⟨x,y,S,U,h3⟩
    ·omega
    ·exact⟨x,y,Option.some.inj S,U,h3⟩
   have c3:i<rows.length:=by rw[HS.out.1];exact c7
   obtain⟨⟨ro,rn,rc,a0⟩,N⟩:∃r:fD,rows[i]? =some r:=⟨_,List.getElem?_eq_getElem c3⟩;have z:=b7.out _ (List.mem_of_getElem? N);have q0:wr.cell? ⟨K,B+i,none⟩=some (.slice ro rn rc):=(hB.cell (p:=⟨K,B+i,none⟩) (by show K<t;omega)).trans ((h0.cell (p:=⟨K,B+i,none⟩) c1).trans (E i _ N));have e9:K<wr.heap.size:=by have:=h0.size;omega
   have a4:Hid (rows.take (i+1)=rows.take i++ [⟨ro,rn,rc,a0⟩]):=by
    rw[Hid,List.take_add_one,N];rfl
   have c2:=f.lt;clear E N
   cases ro with
   |none=>
    obtain⟨rfl,rfl⟩:rn=0/\rc=0:=z.nil rfl;have c0:=f.cell (i:=i) (by omega);have f0:=f.frozen i
    go_wp2_with(go_at_call 31;refine(Ew _ t).mono ?_;rintro e w5 ⟨rfl,rfl⟩)
    go_roundw
    case rel=>
     refine⟨i+1,by omega,by go_num,C2,Q++ [.slice none 0 0],a2,J,I,⟨by omega,by simp[F]⟩, ?_, ?_, ?_,ng f F _,hB.setCell (p:=⟨w.heap.size,i,none⟩) (by show t<=w.heap.size;omega) _, ?_⟩
     ·exact(heap_setCell _ _ _ _ (by show t≠w.heap.size;omega)).trans hOr
     ·exact L.other (λq M=>heap_setCell _ _ _ _ M) (by obtain⟨c,Z,_,_⟩:=f;exact⟨c,Z⟩) (by decide) (by decide)
     ·rw[a4.out];exact d.snoc (.inl ⟨rfl,rfl⟩)
     ·intro q Y T fz M S U;exact(heap_setCell _ _ _ _ (by have:=aC M;show q≠w.heap.size;omega)).trans (hK q Y T fz M S U)
    case measure=>simp[intOf];omega
   |some s=>
    have b3:=Eu w0 wr t a2 J I (m.setIfInBounds 0 (.slice a2 J I)) (C++C2) hOr (QJ (by omega)) L (by rw[List.length_append];omega) (h0.trans (hB.mono b8)) s rn rc a0 z.small z.want z.one z.ty
    go_wp2_with(go_at_call 31;refine b3.mono ?_;rintro e w5 ⟨g5,v5,rfl,hO5,hC5,⟨a5,an5,ac5,rfl⟩,hB5,hK5⟩;have o:=xm f hK5 (by decide) (by decide);have c0:=o.cell (i:=i) (by omega);have f0:=o.frozen i;have e4:=o.lt)
    go_roundw
    case rel=>
     refine⟨i+1,by omega,by go_num,C2++ [⟨g5,rn,some s,rc,a0⟩],Q++ [.slice (some ⟨g5,0,none⟩) rn (rn+3)],a5,an5,ac5,⟨by simp;omega,by simp[F]⟩, ?_, ?_, ?_,ng o F _,(hB.trans hB5).setCell (p:=⟨w.heap.size,i,none⟩) (by show t<=w.heap.size;omega) _, ?_⟩
     ·rw[Array.setIfInBounds_setIfInBounds]at hO5;exact(heap_setCell _ _ _ _ (by show t≠w.heap.size;omega)).trans hO5
     ·rw[<-List.append_assoc];exact hC5.other (λq M=>heap_setCell _ _ _ _ M) (by obtain⟨c,Z,_,_⟩:=o;exact⟨c,Z⟩) (by decide) (by decide)
     ·rw[a4.out,<-List.append_assoc];exact(d.mono λl hl=>mem_append_left _ hl).snoc (.inr ⟨g5,rfl,mem_append_right _ (by simp)⟩)
     ·intro q Y T fz M S U;exact(heap_setCell _ _ _ _ (by have:=aC M;show q≠w.heap.size;omega)).trans ((hK.trans hK5) q Y T fz M S U)
    case measure=>simp[intOf];omega
  ·obtain rfl:i=n:=by omega
   have H:wr.rowIs w.heap.size 57 ((i+3)*1) (jd 1 Q uB):=f.congr λj hj=>by
    unfold rZ jd;by_cases h:j<Q.length
    ·rw[dif_pos h,dif_pos h]
    ·rw[dif_neg h,dif_neg h,b5.out];simp[Value.cells,uB,Nat.mod_one]
   rw[List.take_of_length_le (by rw[HS.out.1];exact le_refl _)]at d;have b0:wr.cell? ⟨t,1,none⟩=some (.slice b bn bc):=(af hOr).trans (by rw[Array.getElem?_setIfInBounds];simp[hb]);have c2:=H.lt;have a6:bP (SQ w0 (C++C2)) wr 57 292 1 uB t (.slice b bn bc) R:=(hR.typed hK (by decide) (by decide) (by decide) (by decide)).mono λl _ ⟨rs,S,U⟩=>⟨rs,S,U.mono λx hx=>mem_append_left _ hx⟩;have V:qf (SQ w0 (C++C2)) wr 57 1 uB (t+1) ⟨w.heap.size,i,some O,wc,Q⟩:=⟨H,by simp[F],a8,hn,rows,HS.out,d⟩;have a7:∀x∈R,x.g<w.heap.size:=λx hx=>(hR.each x hx).row.lt;have a3:Hid _:=hOr;have X:Hid _:=a6;have a1:Hid _:=V;have b6:Hid _:=d;have b4:Hid _:=L;clear hO hOr a6 V H f d L hR
   go_wp2_with(at_builtin;refine wpList_append_lies _ rfl (.tmp 33) (.tmp 37) 109 rfl (t+1) 292 i1 _ 2 48 Tryz.underlying109 hj c4 c5 c6 rfl (by decide) (.slice b bn bc) R.length (gM R) rfl (X.out.own.alloc _) ⟨wr.heap.size,0,none⟩ 1 1 [.slice (some ⟨w.heap.size,0,none⟩) (i+3) (i+3),.slice (some O) i wc] rfl rfl (news_of_block (heap_alloc_new wr _)) (by intro u hu;simp at hu;rcases hu with rfl|rfl<;>rfl) (by decide) (by unfold maxLen;omega) (by omega) (by simp[size_alloc];omega) (wr.heap.size+1) (by simp[size_alloc]) ?_;intro g7 P w7 G A e3 e5;have kO:=(jc (w:=wr) (k:=1) (l:=⟨w.heap.size,i,some O,wc,Q⟩) a3.out X.out a1.out a7 (by decide) (by decide) (refl _ _) (iQ.refl _ _ _) ((refl _ wr).alloc (le_refl _) _) A G (.slice none 0 0)).1;have e8:=aC kO;have r0:w7.cell? ⟨t,1,none⟩=some (.slice b bn bc):=(af kO).trans (by rw[Array.getElem?_setIfInBounds];simp[hb]);have g3:w7.frozen? ⟨t,1,none⟩=false:=by simp[frozen?,kO])
   go_ret;obtain⟨_,A1,A2,A3,A4⟩:=jc (w:=wr) (k:=1) (l:=⟨w.heap.size,i,some O,wc,Q⟩) a3.out X.out a1.out a7 (by decide) (by decide) (refl _ _) (iQ.refl _ _ _) ((refl _ wr).alloc (le_refl _) _) A G (.slice (some ⟨g7,0,none⟩) (R.length+1) P);exact⟨w.heap.size,a2,J,I,some ⟨g7,0,none⟩,R.length+1,P,C2,Q,rfl,A1,b4.out.typed A4 (by decide) (by decide) (by decide) (by decide),b9,A2,b6.out,hB.trans A3,(hK.l (by simp) (by simp)).trans (A4.l (by simp) (by simp))⟩
theorem ny{wo i w7:World}{b z n:Nat}{T:TypeId}{v:Value}{p:List Value}(own:wo.ownsRow b T z v n p)(l:Below wo.heap.size wo i)(a:i.grownBy w7 v.ownBlock){q:Nat}{c:Array Value}{f:TypeId}{k:Nat × Nat}(d:wo.heap[q]? =some (.cells c f k))(m:f≠T):w7.heap[q]? =some (.cells c f k):=by
 have o:=aC d;refine((a.block q (by have:=l.size;omega) (λe=> ?_)).trans (l.block q o)).trans d;rcases own.2 with⟨h,_⟩|⟨g1,r,j,h,_,g,_⟩
 ·rw[h]at e;cases e
 ·rw[h]at e;cases e;rw[g]at d;cases d;exact m rfl
structure kU where
 name:ByteArray
 k:fD
 ro:Option Addr
 rn:Nat
 rc:Nat
 rows:List fD
 count:Int
 aD:ByteArray
 u:fD
structure yl(w0:World)(s:kU):Prop where
 k:mW KZ w0 3 s.k
 u:mW La w0 1 s.u
 small:s.rn<=1048576
 nil:s.ro=none->s.rn=0/\s.rc=0
 rows:lI w0 s.ro s.rn s.rows
 each:∀r∈s.rows,wE w0 r
def pz(w0:World)(wo:Option Addr)(n:Nat)(dS:List kU):Prop:=dS.length=n/\(n=0\/∃b off,wo=some ⟨b,off,none⟩/\b<w0.heap.size/\∀(i:Nat) (s:kU),dS[i]? =some s->
 w0.cell? ⟨b,off+i*6,none⟩=some (.string s.name)/\w0.cell? ⟨b,off+i*6+1,none⟩=some (.slice s.k.ro s.k.rn s.k.rc)/\w0.cell? ⟨b,off+i*6+2,none⟩=some (.slice s.ro s.rn s.rc)/\w0.cell? ⟨b,off+i*6+3,none⟩=some (.int .i64 s.count)/\
 w0.cell? ⟨b,off+i*6+4,none⟩=some (.string s.aD)/\w0.cell? ⟨b,off+i*6+5,none⟩=some (.slice s.u.ro s.u.rn s.u.rc))
def qa(R:List Ln)(ro:Option Addr)(rn rc:Nat)(v:Value):Prop:=(rn=0/\v=.slice none 0 0)\/∃g es,v=.slice (some ⟨g,0,none⟩) rn (rn+3)/\(⟨g,rn,ro,rc,es⟩:Ln)∈R
theorem qa.mono{R a:List Ln}{ro:Option Addr}{rn rc:Nat}{v:Value}(h:qa R ro rn rc v)(b:∀l∈R,l∈a):qa a ro rn rc v:=by
 rcases h with h|⟨g,es,h1,h2⟩
 ·exact .inl h
 ·exact .inr ⟨g,es,h1,b _ h2⟩
def qV(s:kU)(kv rv xv:Value):List Value:=[.string s.name,kv,rv,.int .i64 s.count,.string s.aD,xv]
def kV(K R X:List Ln)(dS:List kU)(es:List Value):Prop:=es.length=dS.length*6/\∀(i:Nat) (s:kU),dS[i]? =some s->∃kv rv xv,(∀j,j<6->es[i*6+j]? =(qV s kv rv xv)[j]?)/\dV K s.k kv/\qa R s.ro s.rn s.rc rv/\dV X s.u xv
theorem kV.mono{K R X a b c:List Ln}{dS:List kU}{d:List Value}(h:kV K R X dS d)(k:∀l∈K,l∈a)(m:∀l∈R,l∈b)(n:∀l∈X,l∈c):kV a b c dS d:=
 ⟨h.1,λi s o=>by
  obtain⟨p,q,r,e,f,g,j⟩:=h.2 i s o;exact⟨p,q,r,e,f.mono k,g.mono m,j.mono n⟩⟩
theorem kV.snoc{K R X:List Ln}{dS:List kU}{q:List Value}{s:kU}{g m o:Value}(h:kV K R X dS q)(v:dV K s.k g)(w:qa R s.ro s.rn s.rc m)(x:dV X s.u o):kV K R X (dS++ [s]) (q++qV s g m o):=by
 have t:=h.1;refine⟨by simp[t,qV];omega,λi z e=> ?_⟩;by_cases f:i<dS.length
 ·rw[getElem?_append_left f]at e;obtain⟨l,n,p,a,b,c,d⟩:=h.2 i z e;exact⟨l,n,p,λj r=>by rw[getElem?_append_left (by omega)];exact a j r,b,c,d⟩
 ·rw[getElem?_append_right (by omega)]at e;have y:i- dS.length=0:=by
   have:=(List.getElem?_eq_some_iff.mp e).1;simp at this;omega
  rw[y]at e;cases e;obtain rfl:i=dS.length:=by omega
  exact⟨g,m,o,λj r=>by rw[getElem?_append_right (by omega),t,Nat.add_sub_cancel_left],v,w,x⟩
def SS(w0:World)(K R X:List Ln)(l:Ln):Prop:=∃dS,pz w0 l.wo l.n dS/\kV K R X dS l.cs
def KX(j:Nat):Value:=if j=0 then .string ⟨#[]⟩else if j=3 then .int .i64 0 else if j=4 then .string ⟨#[]⟩else .slice none 0 0
def yJ(j:Nat):Value:=if j=0 then .string ⟨#[98,101,121,111,110,100]⟩else KX j
def yI(j:Nat):Value:=if j=0 then .string ⟨#[98,101,121,111,110,100]⟩else .string ⟨#[]⟩
def DL(v:Value):Prop:=∃a n c,v=.slice a n c
def UM(C R X K B F:List Ln):Prop:=C.length<=2199023255552/\R.length<=2199023255552/\X.length<=2199023255552/\K.length<=2199023255552/\B.length<=2199023255552/\F.length<=2199023255552
def bZ(w0 w:World)(mb:Nat)(C R X K B F:List Ln):Prop:=∃vc vr vx vk vb vf:Value,(DL vc/\DL vr/\DL vx/\DL vk/\DL vb/\DL vf)/\
 w.heap[mb]? =some (.cells #[vc,vr,vx,.slice none 0 0,vk,vb,vf,.slice none 0 0,.slice none 0 0] 118 (0,0))/\
 bP (rV Hu w0 3) w 56 227 3 oF mb vc C/\bP (SQ w0 C) w 57 292 1 uB mb vr R/\bP (rV La w0 1) w 9 294 1 rR mb vx X/\
 bP (rV KZ w0 3) w 50 290 3 rQ mb vk K/\bP (SS w0 K R X) w 54 190 6 yJ mb vb B/\bP (rV Sw w0 3) w 48 185 3 yI mb vf F
theorem bZ.ag{w0 w x:World}{a:Nat}{C R X K B F:List Ln}(h:bZ w0 w a C R X K B F)(hb:Below w.heap.size w x):bZ w0 x a C R X K B F:=by
 obtain⟨k,m,n,vk,vb,l,c,b,d,e,f,g,i,j⟩:=h;exact⟨k,m,n,vk,vb,l,c,(hb.block a (aC b)).trans b,d.ag hb,e.ag hb,f.ag hb,g.ag hb,i.ag hb,j.ag hb⟩
theorem bZ.other{w0 w x:World}{f g:Nat}{T':TypeId}{C R X K B F:List Ln}(h:bZ w0 w f C R X K B F)(b:∀q,q≠g->x.heap[q]? =w.heap[q]?)(a:∃c,w.heap[g]? =some (.cells c T' (0,0)))(i:T'∉ [56,227,57,292,9,294,50,290,54,190,48,185,118]):bZ w0 x f C R X K B F:=by
 obtain⟨s,u,v,vk,vb,t,j,d,k,l,m,n,o,p⟩:=h;simp only[List.mem_cons,List.not_mem_nil,or_false,not_or]at i;obtain⟨t0,t1,t2,t3,t4,t5,t6,t7,t8,t9,t10,t11,t12⟩:=i;refine⟨s,u,v,vk,vb,t,j,(b f λe=> ?_).trans d,k.other b a (Ne.symm t0) (Ne.symm t1),l.other b a (Ne.symm t2) (Ne.symm t3),m.other b a (Ne.symm t4) (Ne.symm t5),n.other b a (Ne.symm t6) (Ne.symm t7),o.other b a (Ne.symm t8) (Ne.symm t9),p.other b a (Ne.symm t10) (Ne.symm t11)⟩;subst e;obtain⟨c,r⟩:=a;rw[r]at d;cases d;exact t12 rfl
theorem bZ.CG{w0 w x:World}{i g:Nat}{C R X K F:List Ln}(h:bZ w0 w i C R X K [] F)(b:∀q,q≠g->x.heap[q]? =w.heap[q]?)(a:∃c,w.heap[g]? =some (.cells c 54 (0,0))):bZ w0 x i C R X K [] F:=by
 obtain⟨v,z,A,vk,vb,y,m,d,n,o,p,r,s,t⟩:=h;refine⟨v,z,A,vk,vb,y,m,(b i λe=> ?_).trans d,n.other b a (by decide) (by decide),o.other b a (by decide) (by decide),p.other b a (by decide) (by decide),r.other b a (by decide) (by decide),⟨gN s.own λq k B j=>b q λe=> ?_,λl u=>by simp at u,List.Pairwise.nil⟩,t.other b a (by decide) (by decide)⟩
 ·subst e;obtain⟨c,f⟩:=a;rw[f]at d;cases d
 ·subst e;obtain⟨c,f⟩:=a;rw[f]at j;cases j
theorem Ja{w0 w:World}{d:Nat}(h:w.heap[d]? =some (.cells #[.slice none 0 0,.slice none 0 0,.slice none 0 0,.slice none 0 0,.slice none 0 0,.slice none 0 0,.slice none 0 0,.slice none 0 0,.slice none 0 0] 118 (0,0))):bZ w0 w d [] [] [] [] [] []:=by
 have b:DL (.slice none 0 0):=⟨_,_,_,rfl⟩;have a:∀(f:Ln->Prop) (T e:TypeId) (z:Nat) (c:Nat->Value),bP f w T e z c d (.slice none 0 0) []:=λf T e z c=>⟨World.ownsRow_nil _ _ _ _,λl a=>by simp at a,List.Pairwise.nil⟩;exact⟨_,_,_,_,_,_,⟨b,b,b,b,b,b⟩,h,a _ _ _ _ _,a _ _ _ _ _,a _ _ _ _ _,a _ _ _ _ _,a _ _ _ _ _,a _ _ _ _ _⟩
theorem LX:(Tryz.prog.info? 48).map (λi=>(i.zero,i.size,i.bytes))=some (some (.agg #[.string ⟨#[]⟩,.string ⟨#[]⟩,.string ⟨#[]⟩]),3,48):=by kernel_rfl
theorem Cn:(Tryz.prog.info? 185).map (λi=>(i.zero,i.size,i.bytes))=some (some (.agg #[.slice none 0 0,.slice none 0 0]),2,48):=by kernel_rfl
theorem OI:(Tryz.prog.info? 54).map (λi=>(i.zero,i.size,i.bytes))=some (some (.agg #[.string ⟨#[]⟩,.slice none 0 0,.slice none 0 0,.int .i64 0,.string ⟨#[]⟩,.slice none 0 0]),6,112):=by kernel_rfl
theorem ES:(Tryz.prog.info? 190).map (λi=>(i.zero,i.size,i.bytes))=some (some (.agg #[.slice none 0 0,.slice none 0 0]),2,48):=by kernel_rfl
abbrev Cw:List TypeId:=[227,292,294,290,118]
theorem SS.mono{w0:World}{K R X a b c:List Ln}{l:Ln}(h:SS w0 K R X l)(f:∀l∈K,l∈a)(g:∀l∈R,l∈b)(i:∀l∈X,l∈c):SS w0 a b c l:=by
 obtain⟨dS,d,e⟩:=h;exact⟨dS,d,e.mono f g i⟩
theorem OT(w0 w:World)(b:Nat)(C R X K B F:List Ln)(m:bZ w0 w b C R X K B F)(q:Below w0.heap.size w0 w)(k:fD)(c:mW KZ w0 3 k)(A:K.length<=1099511627776):
  Calls prog 59 #[.pointer (some ⟨b,0,none⟩),.slice k.ro k.rn k.rc] w λe w'=>∃(xo:Option Addr) (xn xc:Nat) (f:List Ln),e=.returned (.slice xo xn xc)/\f.length<=1/\bZ w0 w' b C R X (K++f) B F/\dV (K++f) k (.slice xo xn xc)/\Below b w w'/\dU w w' Cw:=by
 obtain⟨ro,rn,rc,cs⟩:=k
 cases ro with
 |none=>
  obtain⟨i,j⟩:=c.nil rfl;dsimp only at i j;subst i j;refine(Iq w b).mono ?_;rintro e w' ⟨rfl,rfl⟩;exact⟨none,0,0,[],rfl,by simp,by rw[append_nil];exact m,.inl ⟨rfl,rfl⟩,refl _ _,dU.refl _ _⟩
 |some n=>
  obtain⟨H,J,L,vk,vb,I,⟨s1,s2,s3,D,E,G⟩,u,s,y,z,t,r,hF⟩:=m;obtain⟨a,p,o,rfl⟩:=D;refine(Ip w0 w b a p o _ K u rfl t A q n rn rc cs c.small c.want c.one c.ty).mono ?_;rintro e w' ⟨g,v,rfl,hO',hK',hv,hBl,hKp⟩;refine⟨some ⟨g,0,none⟩,rn,rn+3,[⟨g,rn,some n,rc,cs⟩],rfl,by simp,⟨H,J,L,v,vb,I,⟨s1,s2,s3,hv,E,G⟩,hO',s.typed hKp (by decide) (by decide) (by decide) (by decide),y.typed hKp (by decide) (by decide) (by decide) (by decide),z.typed hKp (by decide) (by decide) (by decide) (by decide),hK',(r.typed hKp (by decide) (by decide) (by decide) (by decide)).mono λl _ h=>h.mono (λx d=>mem_append_left _ d) (λx d=>d) (λx d=>d),hF.typed hKp (by decide) (by decide) (by decide) (by decide)⟩,.inr ⟨g,rfl,mem_append_right _ (by simp)⟩,hBl,hKp.l (by decide) (by decide)⟩
theorem Mg(w0 w:World)(b:Nat)(C R X K B F:List Ln)(m:bZ w0 w b C R X K B F)(q:Below w0.heap.size w0 w)(k:fD)(c:mW La w0 1 k)(A:X.length<=1099511627776):
  Calls prog 61 #[.pointer (some ⟨b,0,none⟩),.slice k.ro k.rn k.rc] w λe w'=>∃(xo:Option Addr) (xn xc:Nat) (f:List Ln),e=.returned (.slice xo xn xc)/\f.length<=1/\bZ w0 w' b C R (X++f) K B F/\dV (X++f) k (.slice xo xn xc)/\Below b w w'/\dU w w' Cw:=by
 obtain⟨ro,rn,rc,cs⟩:=k
 cases ro with
 |none=>
  obtain⟨i,j⟩:=c.nil rfl;dsimp only at i j;subst i j;refine(GN w b).mono ?_;rintro e w' ⟨rfl,rfl⟩;exact⟨none,0,0,[],rfl,by simp,by rw[append_nil];exact m,.inl ⟨rfl,rfl⟩,refl _ _,dU.refl _ _⟩
 |some n=>
  obtain⟨H,J,L,vk,vb,I,⟨s1,s2,s3,D,E,G⟩,u,s,y,z,t,r,hF⟩:=m;obtain⟨a,p,o,rfl⟩:=s3;refine(GM w0 w b a p o _ X u rfl z A q n rn rc cs c.small c.want c.one c.ty).mono ?_;rintro e w' ⟨g,v,rfl,hO',hX',hv,hBl,hKp⟩;refine⟨some ⟨g,0,none⟩,rn,rn+3,[⟨g,rn,some n,rc,cs⟩],rfl,by simp,⟨H,J,v,vk,vb,I,⟨s1,s2,hv,D,E,G⟩,hO',s.typed hKp (by decide) (by decide) (by decide) (by decide),y.typed hKp (by decide) (by decide) (by decide) (by decide),hX',t.typed hKp (by decide) (by decide) (by decide) (by decide),(r.typed hKp (by decide) (by decide) (by decide) (by decide)).mono λl _ h=>h.mono (λx d=>d) (λx d=>d) (λx d=>mem_append_left _ d),hF.typed hKp (by decide) (by decide) (by decide) (by decide)⟩,.inr ⟨g,rfl,mem_append_right _ (by simp)⟩,hBl,hKp.l (by decide) (by decide)⟩
theorem OU(w0 w:World)(c:Nat)(C R X K B F:List Ln)(p:bZ w0 w c C R X K B F)(y:Below w0.heap.size w0 w)(k:w0.heap.size<=c)(ro:Option Addr)(rn rc:Nat)(rows:List fD)(o:rn<=1048576)(d:ro=none->rn=0/\rc=0)(J:lI w0 ro rn rows)(n:∀r∈rows,wE w0 r)(I:C.length+rn<=1099511627776)(m:R.length<=1099511627776):
  Calls prog 60 #[.pointer (some ⟨c,0,none⟩),.slice ro rn rc] w λe w'=>∃(xo:Option Addr) (xn xc:Nat) (i j:List Ln),e=.returned (.slice xo xn xc)/\i.length<=rn/\j.length<=1/\bZ w0 w' c (C++i) (R++j) X K B F/\qa (R++j) ro rn rc (.slice xo xn xc)/\Below c w w'/\dU w w' Cw:=by
 cases ro with
 |none=>
  obtain⟨rfl,rfl⟩:=d rfl;refine(Jq w c).mono ?_;rintro e w' ⟨rfl,rfl⟩;exact⟨none,0,0,[],[],rfl,by simp,by simp,by rw[append_nil,append_nil];exact p,.inl ⟨rfl,rfl⟩,refl _ _,dU.refl _ _⟩
 |some q=>
  obtain⟨Q,S,P,vk,vb,O,⟨s1,s2,s3,L,M,N⟩,E,A,G,H,D,z,hF⟩:=p;obtain⟨a,t,s,rfl⟩:=s1;obtain⟨b,v,u,rfl⟩:=s2;refine(Jp w0 w c a t s b v u _ C R E rfl rfl A G rn I m y k q rc rows o J n).mono ?_;rintro e w' ⟨g,a',an',ac',b',bn',bc',i,es,rfl,hO',hC',hC2,hR',hlent,hBl,hKp⟩;refine⟨some ⟨g,0,none⟩,rn,rn+3,i,[⟨g,rn,some q,rc,es⟩],rfl,hC2,by simp,⟨.slice a' an' ac',.slice b' bn' bc',P,vk,vb,O,⟨⟨_,_,_,rfl⟩,⟨_,_,_,rfl⟩,s3,L,M,N⟩,hO',hC',hR',H.eQ hKp (by decide) (by decide),D.eQ hKp (by decide) (by decide),(z.eQ hKp (by decide) (by decide)).mono λl _ h=>h.mono (λx f=>f) (λx f=>mem_append_left _ f) (λx f=>f),hF.eQ hKp (by decide) (by decide)⟩,.inr ⟨g,es,rfl,mem_append_right _ (by simp)⟩,hBl,hKp.mono (by decide)⟩
end Go.Proofs.YtdifpeaklamhnaaGreatDoor

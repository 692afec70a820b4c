import Derived.Deep.OwnRows
import Derived.Test.YtdifpeaklamhnaaGreatDoorTyBZ
import Derived.Deep.AppendLies
set_option linter.unusedVariables false
set_option linter.unusedSimpArgs false
set_option maxRecDepth 100000
set_option maxHeartbeats 0
namespace Go.Proofs.YtdifpeaklamhnaaGreatDoor
open Go.Proofs.Tryz
open Go.RowKit
open Below (heap_setCell refl)
open Nat (le_refl)
open World (setRow size_alloc news_of_block frozen?)
open Value (slice)
def vQ(z:Nat)(ov:Nat->Value)(orig:Nat->Value)(K0 K j:Nat):Value:=if K0<=j/\j<K then ov (j % z)else orig j
theorem oU(z:Nat)(c a:Nat->Value)(b j:Nat):vQ z c a b b j=a j:=by
 unfold vQ;rw[if_neg (by omega)]
theorem FQ{w:World}{g N:Nat}{T:TypeId}{c a:Nat->Value}{b i:Nat}(h:w.rowIs g T N (vQ 1 c a b i))(f:b<=i):(w.setCell ⟨g,i,none⟩ (c 0)).rowIs g T N (vQ 1 c a b (i+1)):=by
 refine(h.set i (c 0)).congr λj k=> ?_;unfold vQ;by_cases e:j=i
 ·subst e;rw[if_pos rfl,if_pos (by omega),Nat.mod_one]
 ·rw[if_neg e];by_cases d:b<=j/\j<i
  ·rw[if_pos d,if_pos (by omega)]
  ·rw[if_neg d,if_neg (by omega)]
theorem uH{w:World}{g N:Nat}{T:TypeId}{b a:Nat->Value}{K0 i:Nat}{a0 a1 a2:Value}(h:w.rowIs g T N (vQ 3 b a (K0*3) (i*3)))(n:K0<=i)(k:a0=b 0)(l:a1=b 1)(m:a2=b 2):(((w.setCell ⟨g,i*3,none⟩ a0).setCell ⟨g,i*3+1,none⟩ a1).setCell ⟨g,i*3+2,none⟩ a2).rowIs g T N (vQ 3 b a (K0*3) ((i+1)*3)):=by
 subst k l m;refine(((h.set (i*3) _).set (i*3+1) _).set (i*3+2) _).congr λj o=> ?_;unfold vQ;by_cases e:j=i*3+2
 ·rw[if_pos e,if_pos (by omega),show j % 3=2 by omega]
 ·rw[if_neg e];by_cases d:j=i*3+1
  ·rw[if_pos d,if_pos (by omega),show j % 3=1 by omega]
  ·rw[if_neg d];by_cases c:j=i*3
   ·rw[if_pos c,if_pos (by omega),show j % 3=0 by omega]
   ·rw[if_neg c];by_cases f:K0*3<=j/\j<i*3
    ·rw[if_pos f,if_pos (by omega)]
    ·rw[if_neg f,if_neg (by omega)]
theorem Po{w:World}{g N:Nat}{T:TypeId}{ov a:Nat->Value}{K0 i:Nat}{a0 a1 a2 a3 a4 a5:Value}(h:w.rowIs g T N (vQ 6 ov a (K0*6) (i*6)))(s:K0<=i)(m:a0=ov 0)(n:a1=ov 1)(o:a2=ov 2)(p:a3=ov 3)(q:a4=ov 4)(r:a5=ov 5):
  ((((((w.setCell ⟨g,i*6,none⟩ a0).setCell ⟨g,i*6+1,none⟩ a1).setCell ⟨g,i*6+2,none⟩ a2).setCell ⟨g,i*6+3,none⟩ a3).setCell ⟨g,i*6+4,none⟩ a4).setCell ⟨g,i*6+5,none⟩ a5).rowIs g T N (vQ 6 ov a (K0*6) ((i+1)*6)):=by
 subst m n o p q r;refine((((((h.set (i*6) _).set (i*6+1) _).set (i*6+2) _).set (i*6+3) _).set (i*6+4) _).set (i*6+5) _).congr λj t=> ?_;unfold vQ;by_cases k:j=i*6+5
 ·rw[if_pos k,if_pos (by omega),show j % 6=5 by omega]
 rw[if_neg k];by_cases f:j=i*6+4
 ·rw[if_pos f,if_pos (by omega),show j % 6=4 by omega]
 rw[if_neg f];by_cases e:j=i*6+3
 ·rw[if_pos e,if_pos (by omega),show j % 6=3 by omega]
 rw[if_neg e];by_cases d:j=i*6+2
 ·rw[if_pos d,if_pos (by omega),show j % 6=2 by omega]
 rw[if_neg d];by_cases c:j=i*6+1
 ·rw[if_pos c,if_pos (by omega),show j % 6=1 by omega]
 rw[if_neg c];by_cases b:j=i*6
 ·rw[if_pos b,if_pos (by omega),show j % 6=0 by omega]
 rw[if_neg b];by_cases l:K0*6<=j/\j<i*6
 ·rw[if_pos l,if_pos (by omega)]
 ·rw[if_neg l,if_neg (by omega)]
theorem KV{w0 w:World}{B g:Nat}(hb:Below B w0 w)(a:B<=g)(cs:Array Value):Below B w0 (w.setRow g cs):=
 hb.trans ⟨rfl,rfl,rfl,by simp[setRow],λk b=>setRow_other w g k cs (by omega)⟩
theorem aB{w:World}{k:Nat}{o:Obj}(h:w.heap[k]? =some o):k<w.heap.size:=(Array.getElem?_eq_some_iff.1 h).1
theorem rC{w x:World}{b n size:Nat}{e:TypeId}{v:Value}{a:List Value}(h:w.ownsRow b e size v n a)(hb:∀g,v.ownBlock=some g->x.heap[g]? =w.heap[g]?):x.ownsRow b e size v n a:=by
 refine⟨h.1, ?_⟩;rcases h.2 with h|⟨g,cap,cur,rfl,h1,h2,h⟩
 ·exact .inl h
 ·exact .inr ⟨g,cap,cur,rfl,h1,by rw[hb g rfl];exact h2,h⟩
theorem xY{wo G w7:World}{O k J c n z B:Nat}{a:Option Addr}{t s:Nat}{T i:TypeId}{F d:List Value}{cs:Array Value}(y:wo.heap[O]? =some (.cells cs i (0,0)))(own:wo.ownsRow (O+1) T z (.slice a t s) n F)
  (m:Below wo.heap.size wo G) (b:G.grownBy w7 (slice a t s).ownBlock) (f:w7.ownsRow (O+1) T z (.slice (some ⟨J,0,none⟩) (n+1) c) (n+1) (F++d)) (v:Value) (x:B<=O):
  w7.heap[O]? =some (.cells cs i (0,0))/\(w7.setCell ⟨O,k,none⟩ v).heap[O]? =some (.cells (cs.setIfInBounds k v) i (0,0))/\
  (w7.setCell ⟨O,k,none⟩ v).ownsRow (O+1) T z (.slice (some ⟨J,0,none⟩) (n+1) c) (n+1) (F++d)/\Below B wo (w7.setCell ⟨O,k,none⟩ v)/\
  ∀(q:Nat) (j:Array Value) (r:TypeId) (I:Nat × Nat),wo.heap[q]? =some (.cells j r I)->r≠T->r≠i->(w7.setCell ⟨O,k,none⟩ v).heap[q]? =wo.heap[q]? :=by
 have A:=aB y;have L:=b.size;have K:=m.size;have E:(slice a t s).ownBlock≠some O:=λe=>by have:=(own.lt _ e).1;omega
 have ah:∀g,g<wo.heap.size->(slice a t s).ownBlock≠some g->w7.heap[g]? =wo.heap[g]? :=λg u w=>
  (b.block g (by omega) (λe=>w e.symm)).trans (m.block g u)
 have l:w7.heap[O]? =some (.cells cs i (0,0)):=(ah O A E).trans y;refine⟨l,by simp[World.setCell,Array.getElem?_modify,l],ownsRow_setCell_below f (by show O<O+1;omega) _, ?_,λq j r I o u w=> ?_⟩
 ·suffices h:Below B wo w7 from h.setCell (p:=⟨O,k,none⟩) x _
  refine⟨b.os.trans m.os,b.tape.trans m.tape,b.output.trans m.output,by omega,λg N=> ?_⟩;exact ah g (by omega) (λe=>by have:=(own.lt _ e).1;omega)
 ·have C:q≠O:=λe=>by subst e;rw[y]at o;cases o;exact w rfl
  rw[heap_setCell _ _ _ _ C];refine ah q (aB o) λe=> ?_;rcases own.2 with⟨h,_⟩|⟨g1,M,H,h,_,D,_⟩
  ·rw[h]at e;cases e
  ·rw[h]at e;cases e;rw[D]at o;cases o;exact u rfl
theorem dK{w x:World}{b z n:Nat}{T:TypeId}{v:Value}{g:List Value}(h:w.ownsRow b T z v n g)(j:∀(q:Nat) (c:Array Value) (i:Nat × Nat),w.heap[q]? =some (.cells c T i)->x.heap[q]? =w.heap[q]?):x.ownsRow b T z v n g:=
 rC h λq a=>by
  rcases h.2 with⟨d,_⟩|⟨l,k,f,d,_,e,_⟩
  ·rw[d]at a;cases a
  ·rw[d]at a;cases a;exact j _ _ _ e
section
variable {P : Program}
theorem ic(w:World){g:Array Oper}{rest:List Oper}{o:Oper}{a:Act}{Q:Exit->Act->World->Prop}
  (C:o.guard=none) (l c:Operand) (t:TypeId) (r:o.op=Op.makeSlice t l c) (e:TypeId) (i:TypeInfo) (b:Value) (F:P.underlying t=some (.slice e)) (D:P.info? e=some i) (G:i.zero=some b)
  (x v:IntKind) (n:Nat) (L:Int) (E:a.eval l=.int x L) (B:a.eval c=.int v L) (p:L=(n:Int)) (k:i.bytes*n<=281474976710656) (y:n<=9223372036854775807)
  (z:Nat) (s:i.size=z) (A:∀w' f,w'.heap.size=w.heap.size+1->Below w.heap.size w w'->w'.rowIs w.heap.size e (n*z) f->Hid (∀j,f j=b.cells[j % b.cells.size]!)->wpList P g Q rest (a.put o.dst (.slice (some ⟨w.heap.size,0,none⟩) n n)) w'):
  wpList P g Q (o::rest) a w:=by
 subst s p;refine wpList_plain C λK m=> ?_;have q:(i.bytes:Int)*(n:Int)<=281474976710656:=by
  have h:((i.bytes*n:Nat):Int)<=281474976710656:=by omega
  rwa[Int.natCast_mul]at h
 have d:=run_make (P:=P) w t e i b F D G x v n n (by omega) (Int.le_refl _) q (by omega);simp only[Int.toNat_natCast]at d;unfold Oper.wp;simp[execOp,r,E,B,d,Result.andThen];refine m _ _ (A _ (λj=>b.cells[j % b.cells.size]!) (by simp[size_alloc]) ((refl _ w).alloc (le_refl _) _) ?_ (λ_=>rfl));have:=World.rowIs_alloc w (madeCells b.cells (n*i.size)) e (λj=>b.cells[j % b.cells.size]!) (λj u=>by
  rw[size_madeCells]at u;simp[madeCells,u])
 rwa[size_madeCells]at this
def rX(cs:List Value)(f:Nat->Value)(j:Nat):Value:=if h:j<cs.length then cs[j]else f j
theorem Jg(w:World)(L sT ty e:TypeId)(g d q:Nat)(F:Option Addr)(a D z N:Nat)(f:Nat->Value)(t:TypeId)(cs:List Value)
  (S:P.underlying L=some (.slice e)) (R:(P.info? e).map (·.size)=some z) (O:w.rowIs g t N f) (A:a<=d) (Y:cs.length=a*z)
  (C:a=0\/∃b c,F=some ⟨b,c,none⟩/\∀j v,cs[j]? =some v->w.cell? ⟨b,c+j,none⟩=some v) (u:cs.length<=N) (T:∀v∈cs,v.oneCell'=true):
  ∃w',(Builtin.copy_ #[L,sT] ty #[.slice (some ⟨g,0,none⟩) d q,.slice F a D]).run P w=.ok (goInt a) w'/\w'.heap.size=w.heap.size/\w'.rowIs g t N (rX cs f)/\(∀(B:Nat) (y:World),B<=g->Below B y w->Below B y w')/\∀k,k≠g->w'.heap[k]? =w.heap[k]? :=by
 cases E:P.info? e with
 |none=>simp[E]at R
 |some i=>
  have V:i.size=z:=by simpa[E]using R
  have Q:Nat.min a d=a:=Nat.min_eq_left A;by_cases M:a=0
  ·subst M;have G:cs= []:=List.eq_nil_of_length_eq_zero (by omega);subst G;have H:∀(x:Addr),(loadCells x 0).run P w=.ok #[] w:=λx=>by simpa using run_loadCells_list (P:=P) w x [] (by simp)
   refine⟨w, ?_,rfl,O.congr (λj _=>by simp[rX]),λB y _ h=>h,λk _=>rfl⟩
   cases F<;>simp[Builtin.copy_,run_underlying S,Builtin.lenOf,Builtin.firstCells,sizeOf,typeInfo,E,storeCells,H]
  ·obtain⟨b,c,rfl,p⟩:∃b c,F=some ⟨b,c,none⟩/\∀j v,cs[j]? =some v->w.cell? ⟨b,c+j,none⟩=some v:=by
    rcases C with h|h
    ·exact absurd h M
    ·exact h
   obtain⟨l,n,K,s⟩:=O;have H:=run_loadCells_list (P:=P) w ⟨b,c,none⟩ cs (λj v Z=>by
    have:=p j v Z;have r:(⟨b,c,none⟩:Addr).add j=⟨b,c+j,none⟩:=by unfold Addr.add;split<;>simp_all
    rw[r];exact this)
   have J:=run_storeCells_at P g 0 t cs 0 l w n (by simpa[K]using u) T;have o:=setRow_heap w g l ((l.toList.take (0+0)++cs++l.toList.drop (0+0+cs.length)).toArray) t (0,0) n;refine⟨_, ?_, ?_,⟨_,o, ?_, ?_⟩, ?_,λk X=>setRow_other w g k _ X⟩
   ·have I:a*z=cs.length:=Y.symm;simp[Builtin.copy_,run_underlying S,Builtin.lenOf,Builtin.firstCells,sizeOf,typeInfo,E,V,Nat.min_eq_left A,I,H,J]
   ·simp[setRow]
   ·simp;omega
   ·intro j W;simp only[List.getElem?_toArray,Nat.add_zero,List.take_zero,List.nil_append,Nat.zero_add];unfold rX;by_cases m:j<cs.length
    ·rw[List.getElem?_append_left m,dif_pos m,List.getElem?_eq_getElem m]
    ·rw[List.getElem?_append_right (by omega),dif_neg m,List.getElem?_drop,show cs.length+(j- cs.length)=j by omega];have:=s j W;simpa using this
   ·intro B y U h;exact KV h U _
theorem lg{w:World}{C:Array Oper}{rest:List Oper}{o:Oper}{a:Act}{Q:Exit->Act->World->Prop}(E:o.guard=none)(d s:Operand)(D J:TypeId)
  (T:o.op=.call {callee:=.builtin .copy,args:= #[d,s],argTypes:= #[D,J]}) (i:TypeId) (z:Nat) (V:P.underlying D=some (.slice i)) (U:(P.info? i).map (·.size)=some z)
  (g e l:Nat) (I:Option Addr) (c m:Nat) (O:a.eval d=.slice (some ⟨g,0,none⟩) e l) (G:a.eval s=.slice I c m)
  (N:Nat) (f:Nat->Value) (t:TypeId) (R:w.rowIs g t N f) (cs:List Value) (F:c<=e) (S:cs.length=c*z)
  (x:c=0\/∃b A,I=some ⟨b,A,none⟩/\∀j v,cs[j]? =some v->w.cell? ⟨b,A+j,none⟩=some v) (p:cs.length<=N) (L:∀v∈cs,v.oneCell'=true)
  (h:∀w',w'.heap.size=w.heap.size->w'.rowIs g t N (rX cs f)->(∀(B:Nat) (y:World),B<=g->Below B y w->Below B y w')->(∀k,k≠g->w'.heap[k]? =w.heap[k]?)->wpList P C Q rest (a.put o.dst (goInt c)) w'):
  wpList P C Q (o::rest) a w:=by
 refine wpList_plain E λK M=> ?_;obtain⟨w',u,H,r,n,q⟩:=Jg (P:=P) w D J o.type i g e l I c m z N f t cs V U R F S x p L;unfold Oper.wp;simp[execOp,T,resolve,invoke,builtin,O,G,u,Result.andThen];exact M _ _ (h w' H r n q)
end
theorem ji{P:Program}(w:World)(t e:TypeId)(a:Option Addr)(l c:Nat)(h:P.underlying t=some (.slice e)):(binOp .eql t (.slice a l c) (.slice none 0 0)).run P w=.ok (.bool a.isNone) w:=by
 simp only[binOp];simp[run_equal_slice_nil w t e a l c h]
structure Ln where
 g:Nat
 n:Nat
 wo:Option Addr
 wc:Nat
 cs:List Value
def tq(l:Ln):List Value:=[.slice (some ⟨l.g,0,none⟩) (l.n+3) (l.n+3),.slice l.wo l.n l.wc]
def gT(ls:List Ln):List Value:=ls.flatMap tq
theorem FC(a b:List Ln):gT (a++b)=gT a++gT b:=by simp[gT]
theorem qL:∀(c:List Ln) (i:Nat) (l:Ln) (j:Nat),c[i]? =some l->j<2->(gT c)[i*2+j]? =(tq l)[j]?
 | [],i,r,j,h,_=>by simp at h
 |a::rs,0,r,j,h,hj=>by
  simp at h;subst h;rw[Nat.zero_mul,Nat.zero_add,gT,List.flatMap_cons,List.getElem?_append_left (by simp[tq];omega)]
 |a::rs,i+1,r,j,h,hj=>by
  have:=qL rs i r j (by simpa using h) hj;have b:(tq a).length=2:=by simp[tq]
  rw[gT,List.flatMap_cons,List.getElem?_append_right (by rw[b];omega),b,show(i+1)*2+j- 2=i*2+j by omega];exact this
def jf(z:Nat)(cs:List Value)(far:Nat->Value)(j:Nat):Value:=if h:j<cs.length then cs[j]else far (j % z)
def iY(w:World)(z:Nat)(wo:Option Addr)(n:Nat)(cs:List Value):Prop:=cs.length=n*z/\(n=0\/∃b off,wo=some ⟨b,off,none⟩/\b<w.heap.size/\∀j v,cs[j]? =some v->w.cell? ⟨b,off+j,none⟩=some v)
theorem iY.ah{w x:World}{z n:Nat}{wo:Option Addr}{cs:List Value}(h:iY w z wo n cs)(hb:Below w.heap.size w x):iY x z wo n cs:=by
 refine⟨h.1, ?_⟩;rcases h.2 with h|⟨b,off,e,hl,hc⟩
 ·exact .inl h
 ·exact .inr ⟨b,off,e,by have:=hb.size;omega,λj v a=>(hb.cell (p:=⟨b,off+j,none⟩) hl).trans (hc j v a)⟩
theorem iY.src{w:World}{z n:Nat}{wo:Option Addr}{cs:List Value}(h:iY w z wo n cs):n=0\/∃b a,wo=some ⟨b,a,none⟩/\∀j v,cs[j]? =some v->w.cell? ⟨b,a+j,none⟩=some v:=by
 rcases h.2 with h|⟨b,a,e,_,hc⟩
 ·exact .inl h
 ·exact .inr ⟨b,a,e,hc⟩
def rO(Ty:List Value->Nat->Prop)(w0:World)(z:Nat)(l:Ln):Prop:=iY w0 z l.wo l.n l.cs/\Ty l.cs l.n
def Hq(cs:List Value)(n:Nat):Prop:=∀i,i<n->∃(k m:Int) (s:ByteArray),cs[i*3]? =some (.int .i64 k)/\cs[i*3+1]? =some (.int .i64 m)/\cs[i*3+2]? =some (.string s)
def KJ(cs:List Value)(n:Nat):Prop:=∀i,i<n->∃(s t:ByteArray) (m:Int),cs[i*3]? =some (.string s)/\cs[i*3+1]? =some (.string t)/\cs[i*3+2]? =some (.int .i64 m)
def Sl(cs:List Value)(n:Nat):Prop:=∀i,i<n->∃(s t u:ByteArray),cs[i*3]? =some (.string s)/\cs[i*3+1]? =some (.string t)/\cs[i*3+2]? =some (.string u)
def KL(cs:List Value)(n:Nat):Prop:=∀i,i<n->∃(s:ByteArray),cs[i]? =some (.string s)
structure pF(Wt:Ln->Prop)(w:World)(T:TypeId)(z:Nat)(far:Nat->Value)(lo:Nat)(l:Ln):Prop where
 row:w.rowIs l.g T ((l.n+3)*z) (jf z l.cs far)
 len:l.cs.length=l.n*z
 lo:lo<=l.g
 small:l.n<=1048576
 want:Wt l
structure bC(Wt:Ln->Prop)(w:World)(T TL:TypeId)(z:Nat)(far:Nat->Value)(mb:Nat)(v:Value)(ls:List Ln):Prop where
 own:w.ownsRow (mb+1) TL 2 v ls.length (gT ls)
 each:∀l∈ls,pF Wt w T z far (mb+1) l
 apart:ls.Pairwise λa b=>a.g<b.g
theorem xZ{z n:Nat}{cs:List Value}{far f:Nat->Value}(b:cs.length=n*z)(j:Nat)(a:j<(n+3)*z):vQ z far (rX cs f) (n*z) ((n+3)*z) j=jf z cs far j:=by
 unfold vQ rX jf;by_cases h:j<cs.length
 ·rw[if_neg (by omega),dif_pos h,dif_pos h]
 ·rw[if_pos (by omega),dif_neg h]
def iU(w x:World)(A B:TypeId):Prop:=∀(q:Nat) (cur:Array Value) (T:TypeId) (fz:Nat × Nat),w.heap[q]? =some (.cells cur T fz)->T≠A->T≠B->x.heap[q]? =w.heap[q]?
theorem xm{w x:World}{g n:Nat}{T A B:TypeId}{f:Nat->Value}(h:w.rowIs g T n f)(e:iU w x A B)(b:T≠A)(d:T≠B):x.rowIs g T n f:=by
 have a:=h;obtain⟨c,hb,_,_⟩:=a;exact h.of_block (e _ _ _ _ hb b d)
theorem pF.typed{b:Ln->Prop}{w x:World}{T A B:TypeId}{z lo:Nat}{a:Nat->Value}{l:Ln}(h:pF b w T z a lo l)(e:iU w x A B)(c:T≠A)(d:T≠B):pF b x T z a lo l:=
 ⟨xm h.row e c d,h.len,h.lo,h.small,h.want⟩
theorem bC.typed{d:Ln->Prop}{w x:World}{T a A B:TypeId}{z g:Nat}{b:Nat->Value}{v:Value}{f:List Ln}(h:bC d w T a z b g v f)(e:iU w x A B)(j:T≠A)(k:T≠B)(m:a≠A)(n:a≠B):bC d x T a z b g v f:=
 ⟨dK h.own λq c i p=>e q c a i p m n,λl o=>(h.each l o).typed e j k,h.apart⟩
theorem bC.ah{d:Ln->Prop}{w x:World}{T c:TypeId}{z f:Nat}{b:Nat->Value}{v:Value}{e:List Ln}(h:bC d w T c z b f v e)(hb:Below w.heap.size w x):bC d x T c z b f v e:=
 ⟨rC h.own λq g=>hb.block q (h.own.lt q g).2,λl a=>⟨(h.each l a).row.of_block (hb.block _ (h.each l a).row.lt),(h.each l a).len,(h.each l a).lo,(h.each l a).small,(h.each l a).want⟩,h.apart⟩
theorem bC.mono{f b:Ln->Prop}{w:World}{T e:TypeId}{z g:Nat}{c:Nat->Value}{v:Value}{d:List Ln}(h:bC f w T e z c g v d)(i:∀l∈d,f l->b l):bC b w T e z c g v d:=
 ⟨h.own,λl a=>⟨(h.each l a).row,(h.each l a).len,(h.each l a).lo,(h.each l a).small,i l a (h.each l a).want⟩,h.apart⟩
theorem je{A:Ln->Prop}{w wo G w7:World}{c k J f:Nat}{T j i:TypeId}{z:Nat}{m:Nat->Value}{a:Option Addr}{I H:Nat}{p:List Ln}{l:Ln}{cs:Array Value}
  (R:wo.heap[c]? =some (.cells cs i (0,0))) (C:bC A wo T j z m c (.slice a I H) p) (U:pF A wo T z m (c+1) l) (s:∀x∈p,x.g<l.g) (K:T≠j) (r:T≠i)
  (Q:Below c w wo) (E:iU w wo j i) (S:Below wo.heap.size wo G) (n:G.grownBy w7 (slice a I H).ownBlock) (o:w7.ownsRow (c+1) j 2 (.slice (some ⟨J,0,none⟩) (p.length+1) f) (p.length+1) (gT p++tq l)) (v:Value):
  w7.heap[c]? =some (.cells cs i (0,0))/\(w7.setCell ⟨c,k,none⟩ v).heap[c]? =some (.cells (cs.setIfInBounds k v) i (0,0))/\
  bC A (w7.setCell ⟨c,k,none⟩ v) T j z m c (.slice (some ⟨J,0,none⟩) (p.length+1) f) (p++ [l])/\Below c w (w7.setCell ⟨c,k,none⟩ v)/\iU w (w7.setCell ⟨c,k,none⟩ v) j i:=by
 obtain⟨L,M,N,O,P⟩:=xY (B:=c) (k:=k) R C.own S n o v (le_refl _);have D:iU wo (w7.setCell ⟨c,k,none⟩ v) j i:=λq d T t u a b=>P q d T t u a b;refine⟨L,M,⟨?_,λx F=> ?_, ?_⟩,Q.trans O,λq d T t u a b=> ?_⟩
 ·rw[FC,List.length_append];have:gT [l]=tq l:=by simp[gT]
  rw[this];exact N
 ·rcases List.mem_append.mp F with h|h
  ·exact(C.each x h).typed D K r
  ·rw[List.mem_singleton.mp h];exact U.typed D K r
 ·rw[List.pairwise_append];exact⟨C.apart,by simp,λx F y V=>by rw[List.mem_singleton.mp V];exact s x F⟩
 ·have e:=E q d T t u a b;exact(D q d T t (e.trans u) a b).trans e
theorem gH{w x:World}(hb:Below w.heap.size w x)(A B:TypeId):iU w x A B:=λq _ _ _ a _ _=>hb.block q (aB a)
def nV(j:Nat):Value:=if j=0 then .int .i64 9 else if j=1 then .int .i64 77 else .string ⟨#[]⟩
theorem wM(w:World):Calls prog 72 #[] w λe w'=>e=.returned (.agg #[.int .i64 9,.int .i64 77,.string ⟨#[]⟩])/\Below w.heap.size w w':=by
 go_enter Tryz.func72,Tryz.ntmps72
 go_wp2_with fail
 exact bodyPost_ret (v:=.agg #[.int .i64 9,.int .i64 77,.string ⟨#[]⟩]) (by simp[results,Tryz.results72,go_sem]) rfl ⟨rfl,(refl _ w).alloc (le_refl _) _⟩
theorem pY(w:World):Calls prog 139 #[] w λe w'=>e=.returned (.agg #[.int .i64 8,.int .i64 0,.string ⟨#[]⟩])/\Below w.heap.size w w':=by
 go_enter Tryz.func139,Tryz.ntmps139
 go_wp2_with fail
 exact bodyPost_ret (v:=.agg #[.int .i64 8,.int .i64 0,.string ⟨#[]⟩]) (by simp[results,Tryz.results139,go_sem]) rfl ⟨rfl,(refl _ w).alloc (le_refl _) _⟩
theorem LG:(Tryz.prog.info? 56).map (λi=>(i.zero,i.size,i.bytes))=some (some (.agg #[.int .i64 0,.int .i64 0,.string ⟨#[]⟩]),3,32):=by kernel_rfl
theorem CF:(Tryz.prog.info? 227).map (λi=>(i.zero,i.size,i.bytes))=some (some (.agg #[.slice none 0 0,.slice none 0 0]),2,48):=by kernel_rfl
def BV(Wt:Ln->Prop)(w:World)(T TL TB:TypeId)(z:Nat)(far:Nat->Value)(mb k:Nat)(arr:Array Value)(ls:List Ln)(wo:Option Addr)(n wc:Nat)(cs:List Value)(e:Ending)(w':World):Prop:=
 ∃(g:Nat) (v:Value),e=.returned (.slice (some ⟨g,0,none⟩) n (n+3))/\w'.heap[mb]? =some (.cells (arr.setIfInBounds k v) TB (0,0))/\bC Wt w' T TL z far mb v (ls++ [⟨g,n,wo,wc,cs⟩])/\(∃a b c,v=.slice a b c)/\Below mb w w'/\iU w w' TL TB
theorem wI(w:World)(b:Nat):
  Calls prog 31 #[.pointer (some ⟨b,0,none⟩),.slice none 0 0] w λe w'=>e=.returned (.slice none 0 0)/\w'=w:=by
 have a:∀W,(binOp .eql 57 (.slice none 0 0) (.slice none 0 0)).run prog W=.ok (.bool true) W:=λW=>ji W _ _ _ _ _ Tryz.underlying57;go_enter Tryz.func31,Tryz.ntmps31
 go_wp2_with fail
 go_ret;exact⟨rfl,rfl⟩
theorem wH(w0 w:World)(h:Nat)(a:Option Addr)(E D:Nat)(z:Array Value)(t:List Ln)(U:w.heap[h]? =some (.cells z 118 (0,0)))(ha:z[0]? =some (.slice a E D))(T:bC (rO Hq w0 3) w 56 227 3 nV h (.slice a E D) t)(b2:t.length<=1099520000000)
  (h0:Below w0.heap.size w0 w) (q:Addr) (n wc:Nat) (cs:List Value) (hn:n<=1048576) (P:iY w0 3 (some q) n cs) (h1:∀v∈cs,v.oneCell'=true) (a4:Hq cs n):
  Calls prog 31 #[.pointer (some ⟨h,0,none⟩),.slice (some q) n wc] w λe w'=>BV (rO Hq w0 3) w 56 227 118 3 nV h 0 z t (some q) n wc cs e w':=by
 obtain⟨i0,hi,a5,R,a6⟩:=info_parts LG;obtain⟨i1,V,X,Y,Z⟩:=info_parts CF;have L:=aB U;have a3:(Tryz.prog.info? 56).map (·.size)=some 3:=by rw[hi];simp[R]
 have o:=P.ah h0;have M:∀W,(binOp .eql 57 (.slice (some q) n wc) (.slice none 0 0)).run prog W=.ok (.bool false) W:=λW=>ji W _ _ _ _ _ Tryz.underlying57;go_enter Tryz.func31,Tryz.ntmps31;have b5:h≠w.heap.size:=by omega
 go_wp2_with(first
  |(at_make;refine ic _ rfl _ _ 57 rfl 56 i0 _ Tryz.underlying57 hi a5 .i64 .i64 (n+3) _ rfl rfl (by omega) (by rw[a6];omega) (by omega) 3 R ?_;intro w2 f2 a2 A N b0)
  |(refine lg rfl (.tmp 15) (.tmp 16) 57 57 rfl 56 3 Tryz.underlying57 a3 w.heap.size (n+3) (n+3) (some q) n wc rfl rfl ((n+3)*3) f2 56 N cs (by omega) o.1 (o.ah A).src (by have:=o.1;omega) h1 ?_;intro w3 Q O H a1))
 have B3:Below w.heap.size w w3:=H _ _ (le_refl _) A;have I:w3.rowIs w.heap.size 56 ((n+3)*3) (vQ 3 nV (rX cs f2) (n*3) ((n+0)*3)):=O.congr λj _=>(oU _ _ _ _ _).symm;clear N O H a1 A a2 Q M;go_loopw [7] (λiv wr=>∃m:Nat,m<=3/\iv=.int .i64 ((n+m:Nat):Int)/\wr.rowIs w.heap.size 56 ((n+3)*3) (vQ 3 nV (rX cs f2) (n*3) ((n+m)*3))/\Below w.heap.size w wr) (λiv _=>(n+3)- (intOf iv).toNat)
 case atStart=>exact⟨0,by omega,by go_num,I,B3⟩
 case round=>
  obtain⟨m,hm,rfl,S,r⟩:=hrel;clear I B3;by_cases b3:m<3
  ·have J:=S.lt
   go_wp2_with(go_at_call 72;refine(wM _).mono ?_;rintro e w5 ⟨rfl,hb5⟩;have b:=S.of_block (hb5.block _ J);have a8:=b.lt;have c0:=b.cell (i:=(n+m)*3) (by omega);have c1:=b.cell (i:=(n+m)*3+1) (by omega);have c2:=b.cell (i:=(n+m)*3+2) (by omega);have f0:=b.frozen ((n+m)*3);have f1:=b.frozen ((n+m)*3+1);have f3:=b.frozen ((n+m)*3+2))
   go_roundw
   case rel=>exact⟨m+1,by omega,by go_num,uH b (by omega) rfl rfl rfl,(((r.trans (hb5.mono r.size)).setCell (p:=⟨w.heap.size,_,none⟩) (le_refl _) _).setCell (p:=⟨w.heap.size,_,none⟩) (le_refl _) _).setCell (p:=⟨w.heap.size,_,none⟩) (le_refl _) _⟩
   case measure=>simp[intOf];omega
  ·obtain rfl:m=3:=by omega
   have f:wr.rowIs w.heap.size 56 ((n+3)*3) (jf 3 cs nV):=S.congr λj V=>xZ P.1 j V;have hOr:=(r.block h L).trans U;have b4:=aB hOr;have a0:wr.cell? ⟨h,0,none⟩=some (.slice a E D):=(ag hOr).trans ha;have J:=f.lt;have G:bC (rO Hq w0 3) wr 56 227 3 nV h (.slice a E D) t:=T.ah r;have s:pF (rO Hq w0 3) wr 56 3 nV (h+1) ⟨w.heap.size,n,some q,wc,cs⟩:=⟨f,P.1,L,hn,P,a4⟩;have K:∀x∈t,x.g<w.heap.size:=λx hx=>(T.each x hx).row.lt;have C:Hid _:=hOr;have y:Hid _:=G;have B:Hid _:=s;clear S P o T f U hOr G s
   go_wp2_with(at_builtin;refine wpList_append_lies _ rfl (.tmp 33) (.tmp 37) 108 rfl (h+1) 227 i1 _ 2 48 Tryz.underlying108 V X Y Z rfl (by decide) (.slice a E D) t.length (gT t) rfl (y.out.own.alloc _) ⟨wr.heap.size,0,none⟩ 1 1 [.slice (some ⟨w.heap.size,0,none⟩) (n+3) (n+3),.slice (some q) n wc] rfl rfl (news_of_block (heap_alloc_new wr _)) (by intro u hu;simp at hu;rcases hu with rfl|rfl<;>rfl) (by decide) (by unfold maxLen;omega) (by omega) (by simp[size_alloc];omega) (wr.heap.size+1) (by simp[size_alloc]) ?_;intro g7 F w7 d c a7 a9;have kO:=(je (k:=0) (l:=⟨w.heap.size,n,some q,wc,cs⟩) C.out y.out B.out K (by decide) (by decide) (r.mono (by omega)) (gH r _ _) ((refl _ wr).alloc (le_refl _) _) c d (.slice none 0 0)).1;have b1:=aB kO;have r0:=(ag kO).trans ha;have b6:w7.frozen? ⟨h,0,none⟩=false:=by simp[frozen?,kO])
   go_ret;obtain⟨_,A1,A2,A3,A4⟩:=je (k:=0) (l:=⟨w.heap.size,n,some q,wc,cs⟩) C.out y.out B.out K (by decide) (by decide) (r.mono (by omega)) (gH r _ _) ((refl _ wr).alloc (le_refl _) _) c d (.slice (some ⟨g7,0,none⟩) (t.length+1) F);exact⟨w.heap.size,_,rfl,A1,A2,⟨_,_,_,rfl⟩,A3,A4⟩
def rP(j:Nat):Value:=if j=0 then .string ⟨#[98,101,121,111,110,100]⟩else if j=1 then .string ⟨#[]⟩else .int .i64 0
def rQ(_:Nat):Value:=.string ⟨#[98,101,121,111,110,100]⟩
theorem LK:(Tryz.prog.info? 50).map (λi=>(i.zero,i.size,i.bytes))=some (some (.agg #[.string ⟨#[]⟩,.string ⟨#[]⟩,.int .i64 0]),3,40):=by kernel_rfl
theorem CK:(Tryz.prog.info? 290).map (λi=>(i.zero,i.size,i.bytes))=some (some (.agg #[.slice none 0 0,.slice none 0 0]),2,48):=by kernel_rfl
theorem LM:(Tryz.prog.info? 9).map (λi=>(i.zero,i.size,i.bytes))=some (some (.string ⟨#[]⟩),1,16):=by kernel_rfl
theorem CL:(Tryz.prog.info? 294).map (λi=>(i.zero,i.size,i.bytes))=some (some (.agg #[.slice none 0 0,.slice none 0 0]),2,48):=by kernel_rfl
theorem Pn{n:Nat}{cs:List Value}{a f:Nat->Value}(c:cs.length=n*1)(j:Nat)(b:j<(n+3)*1):vQ 1 a (rX cs f) n (n+3) j=jf 1 cs a j:=by
 have:=xZ (z:=1) (far:=a) (f:=f) c j b;simpa using this
theorem Io(w:World)(b:Nat):
  Calls prog 59 #[.pointer (some ⟨b,0,none⟩),.slice none 0 0] w λe w'=>e=.returned (.slice none 0 0)/\w'=w:=by
 have a:∀W,(binOp .eql 51 (.slice none 0 0) (.slice none 0 0)).run prog W=.ok (.bool true) W:=λW=>ji W _ _ _ _ _ Tryz.underlying51;go_enter Tryz.func59,Tryz.ntmps59
 go_wp2_with fail
 go_ret;exact⟨rfl,rfl⟩
theorem Im(w0 w:World)(f:Nat)(a:Option Addr)(E D:Nat)(y:Array Value)(s:List Ln)(S:w.heap[f]? =some (.cells y 118 (0,0)))(ha:y[4]? =some (.slice a E D))(R:bC (rO KJ w0 3) w 50 290 3 rP f (.slice a E D) s)(b0:s.length<=1099511627776)
  (h0:Below w0.heap.size w0 w) (q:Addr) (n wc:Nat) (cs:List Value) (hn:n<=1048576) (O:iY w0 3 (some q) n cs) (h1:∀v∈cs,v.oneCell'=true) (a3:KJ cs n):
  Calls prog 59 #[.pointer (some ⟨f,0,none⟩),.slice (some q) n wc] w λe w'=>BV (rO KJ w0 3) w 50 290 118 3 rP f 4 y s (some q) n wc cs e w':=by
 obtain⟨i0,hi,a4,Q,a5⟩:=info_parts LK;obtain⟨i1,U,V,X,Y⟩:=info_parts CK;have K:=aB S;have a2:(Tryz.prog.info? 50).map (·.size)=some 3:=by rw[hi];simp[Q]
 have o:=O.ah h0;have L:∀W,(binOp .eql 51 (.slice (some q) n wc) (.slice none 0 0)).run prog W=.ok (.bool false) W:=λW=>ji W _ _ _ _ _ Tryz.underlying51;go_enter Tryz.func59,Tryz.ntmps59;have b3:f≠w.heap.size:=by omega
 go_wp2_with(first
  |(at_make;refine ic _ rfl _ _ 51 rfl 50 i0 _ Tryz.underlying51 hi a4 .i64 .i64 (n+3) _ rfl rfl (by omega) (by rw[a5];omega) (by omega) 3 Q ?_;intro w2 f2 a1 A M a8)
  |(refine lg rfl (.tmp 15) (.tmp 16) 51 51 rfl 50 3 Tryz.underlying51 a2 w.heap.size (n+3) (n+3) (some q) n wc rfl rfl ((n+3)*3) f2 50 M cs (by omega) o.1 (o.ah A).src (by have:=o.1;omega) h1 ?_;intro w3 P N H Z))
 have B3:Below w.heap.size w w3:=H _ _ (le_refl _) A;have I:w3.rowIs w.heap.size 50 ((n+3)*3) (vQ 3 rP (rX cs f2) (n*3) ((n+0)*3)):=N.congr λj _=>(oU _ _ _ _ _).symm;clear M N H Z A a1 P L;go_loopw [7] (λiv wr=>∃m:Nat,m<=3/\iv=.int .i64 ((n+m:Nat):Int)/\wr.rowIs w.heap.size 50 ((n+3)*3) (vQ 3 rP (rX cs f2) (n*3) ((n+m)*3))/\Below w.heap.size w wr) (λiv _=>(n+3)- (intOf iv).toNat)
 case atStart=>exact⟨0,by omega,by go_num,I,B3⟩
 case round=>
  obtain⟨m,hm,rfl,h,z⟩:=hrel;clear I B3;by_cases b1:m<3
  ·have T:=h.lt;have c0:=h.cell (i:=(n+m)*3) (by omega);have c1:=h.cell (i:=(n+m)*3+1) (by omega);have c2:=h.cell (i:=(n+m)*3+2) (by omega);have f0:=h.frozen ((n+m)*3);have f1:=h.frozen ((n+m)*3+1);have f3:=h.frozen ((n+m)*3+2)
   go_wp2_with fail
   go_roundw
   case rel=>exact⟨m+1,by omega,by go_num,uH h (by omega) rfl rfl rfl,((z.setCell (p:=⟨w.heap.size,_,none⟩) (le_refl _) _).setCell (p:=⟨w.heap.size,_,none⟩) (le_refl _) _).setCell (p:=⟨w.heap.size,_,none⟩) (le_refl _) _⟩
   case measure=>simp[intOf];omega
  ·obtain rfl:m=3:=by omega
   have d:wr.rowIs w.heap.size 50 ((n+3)*3) (jf 3 cs rP):=h.congr λj U=>xZ O.1 j U;have hOr:=(z.block f K).trans S;have b2:=aB hOr;have a0:wr.cell? ⟨f,4,none⟩=some (.slice a E D):=(ag hOr).trans ha;have T:=d.lt;have G:bC (rO KJ w0 3) wr 50 290 3 rP f (.slice a E D) s:=R.ah z;have r:pF (rO KJ w0 3) wr 50 3 rP (f+1) ⟨w.heap.size,n,some q,wc,cs⟩:=⟨d,O.1,K,hn,O,a3⟩;have J:∀x∈s,x.g<w.heap.size:=λx hx=>(R.each x hx).row.lt;have C:Hid _:=hOr;have t:Hid _:=G;have B:Hid _:=r;clear h O o R d S hOr G r
   go_wp2_with(at_builtin;refine wpList_append_lies _ rfl (.tmp 33) (.tmp 37) 112 rfl (f+1) 290 i1 _ 2 48 Tryz.underlying112 U V X Y rfl (by decide) (.slice a E D) s.length (gT s) rfl (t.out.own.alloc _) ⟨wr.heap.size,0,none⟩ 1 1 [.slice (some ⟨w.heap.size,0,none⟩) (n+3) (n+3),.slice (some q) n wc] rfl rfl (news_of_block (heap_alloc_new wr _)) (by intro u hu;simp at hu;rcases hu with rfl|rfl<;>rfl) (by decide) (by unfold maxLen;omega) (by omega) (by simp[size_alloc];omega) (wr.heap.size+1) (by simp[size_alloc]) ?_;intro g7 F w7 c b a6 a7;have kO:=(je (k:=4) (l:=⟨w.heap.size,n,some q,wc,cs⟩) C.out t.out B.out J (by decide) (by decide) (z.mono (by omega)) (gH z _ _) ((refl _ wr).alloc (le_refl _) _) b c (.slice none 0 0)).1;have a9:=aB kO;have r0:=(ag kO).trans ha;have b4:w7.frozen? ⟨f,4,none⟩=false:=by simp[frozen?,kO])
   go_ret;obtain⟨_,A1,A2,A3,A4⟩:=je (k:=4) (l:=⟨w.heap.size,n,some q,wc,cs⟩) C.out t.out B.out J (by decide) (by decide) (z.mono (by omega)) (gH z _ _) ((refl _ wr).alloc (le_refl _) _) b c (.slice (some ⟨g7,0,none⟩) (s.length+1) F);exact⟨w.heap.size,_,rfl,A1,A2,⟨_,_,_,rfl⟩,A3,A4⟩
theorem GM(w:World)(b:Nat):
  Calls prog 61 #[.pointer (some ⟨b,0,none⟩),.slice none 0 0] w λe w'=>e=.returned (.slice none 0 0)/\w'=w:=by
 have a:∀W,(binOp .eql 52 (.slice none 0 0) (.slice none 0 0)).run prog W=.ok (.bool true) W:=λW=>ji W _ _ _ _ _ Tryz.underlying52;go_enter Tryz.func61,Tryz.ntmps61
 go_wp2_with fail
 go_ret;exact⟨rfl,rfl⟩
theorem GL(w0 w:World)(f:Nat)(a:Option Addr)(E D:Nat)(t:Array Value)(r:List Ln)(S:w.heap[f]? =some (.cells t 118 (0,0)))(ha:t[2]? =some (.slice a E D))(R:bC (rO KL w0 1) w 9 294 1 rQ f (.slice a E D) r)(b0:r.length<=1099511627776)
  (h0:Below w0.heap.size w0 w) (o:Addr) (n wc:Nat) (cs:List Value) (hn:n<=1048576) (O:iY w0 1 (some o) n cs) (h1:∀v∈cs,v.oneCell'=true) (a3:KL cs n):
  Calls prog 61 #[.pointer (some ⟨f,0,none⟩),.slice (some o) n wc] w λe w'=>BV (rO KL w0 1) w 9 294 118 1 rQ f 2 t r (some o) n wc cs e w':=by
 obtain⟨i0,hi,a4,Q,a5⟩:=info_parts LM;obtain⟨i1,U,V,X,Y⟩:=info_parts CL;have K:=aB S;have a2:(Tryz.prog.info? 9).map (·.size)=some 1:=by rw[hi];simp[Q]
 have h:=O.ah h0;have L:∀W,(binOp .eql 52 (.slice (some o) n wc) (.slice none 0 0)).run prog W=.ok (.bool false) W:=λW=>ji W _ _ _ _ _ Tryz.underlying52;go_enter Tryz.func61,Tryz.ntmps61;have b3:f≠w.heap.size:=by omega
 go_wp2_with(first
  |(at_make;refine ic _ rfl _ _ 52 rfl 9 i0 _ Tryz.underlying52 hi a4 .i64 .i64 (n+3) _ rfl rfl (by omega) (by rw[a5];omega) (by omega) 1 Q ?_;intro w2 f2 a1 z M a8)
  |(refine lg rfl (.tmp 15) (.tmp 16) 52 52 rfl 9 1 Tryz.underlying52 a2 w.heap.size (n+3) (n+3) (some o) n wc rfl rfl _ f2 9 M cs (by omega) h.1 (h.ah z).src (by have:=h.1;omega) h1 ?_;intro w3 P N H Z))
 have B3:Below w.heap.size w w3:=H _ _ (le_refl _) z;have I:w3.rowIs w.heap.size 9 ((n+3)*1) (vQ 1 rQ (rX cs f2) n (n+0)):=N.congr λj _=>(oU _ _ _ _ _).symm;clear M N H Z z a1 P L;go_loopw [7] (λiv wr=>∃m:Nat,m<=3/\iv=.int .i64 ((n+m:Nat):Int)/\wr.rowIs w.heap.size 9 ((n+3)*1) (vQ 1 rQ (rX cs f2) n (n+m))/\Below w.heap.size w wr) (λiv _=>(n+3)- (intOf iv).toNat)
 case atStart=>exact⟨0,by omega,by go_num,I,B3⟩
 case round=>
  obtain⟨m,hm,rfl,A,y⟩:=hrel;clear I B3;by_cases b1:m<3
  ·have T:=A.lt;have c0:=A.cell (i:=n+m) (by omega);have f0:=A.frozen (n+m)
   go_wp2_with fail
   go_roundw
   case rel=>exact⟨m+1,by omega,by go_num,FQ A (by omega),y.setCell (p:=⟨w.heap.size,_,none⟩) (le_refl _) _⟩
   case measure=>simp[intOf];omega
  ·obtain rfl:m=3:=by omega
   have d:wr.rowIs w.heap.size 9 ((n+3)*1) (jf 1 cs rQ):=A.congr λj U=>Pn O.1 j U;have hOr:=(y.block f K).trans S;have b2:=aB hOr;have a0:wr.cell? ⟨f,2,none⟩=some (.slice a E D):=(ag hOr).trans ha;have T:=d.lt;have G:bC (rO KL w0 1) wr 9 294 1 rQ f (.slice a E D) r:=R.ah y;have q:pF (rO KL w0 1) wr 9 1 rQ (f+1) ⟨w.heap.size,n,some o,wc,cs⟩:=⟨d,O.1,K,hn,O,a3⟩;have J:∀x∈r,x.g<w.heap.size:=λx hx=>(R.each x hx).row.lt;have C:Hid _:=hOr;have s:Hid _:=G;have B:Hid _:=q;clear A O h R d S hOr G q
   go_wp2_with(at_builtin;refine wpList_append_lies _ rfl (.tmp 32) (.tmp 36) 110 rfl (f+1) 294 i1 _ 2 48 Tryz.underlying110 U V X Y rfl (by decide) (.slice a E D) r.length (gT r) rfl (s.out.own.alloc _) ⟨wr.heap.size,0,none⟩ 1 1 [.slice (some ⟨w.heap.size,0,none⟩) (n+3) (n+3),.slice (some o) n wc] rfl rfl (news_of_block (heap_alloc_new wr _)) (by intro u hu;simp at hu;rcases hu with rfl|rfl<;>rfl) (by decide) (by unfold maxLen;omega) (by omega) (by simp[size_alloc];omega) (wr.heap.size+1) (by simp[size_alloc]) ?_;intro g7 F w7 c b a6 a7;have kO:=(je (k:=2) (l:=⟨w.heap.size,n,some o,wc,cs⟩) C.out s.out B.out J (by decide) (by decide) (y.mono (by omega)) (gH y _ _) ((refl _ wr).alloc (le_refl _) _) b c (.slice none 0 0)).1;have a9:=aB kO;have r0:=(ag kO).trans ha;have b4:w7.frozen? ⟨f,2,none⟩=false:=by simp[frozen?,kO])
   go_ret;obtain⟨_,A1,A2,A3,A4⟩:=je (k:=2) (l:=⟨w.heap.size,n,some o,wc,cs⟩) C.out s.out B.out J (by decide) (by decide) (y.mono (by omega)) (gH y _ _) ((refl _ wr).alloc (le_refl _) _) b c (.slice (some ⟨g7,0,none⟩) (r.length+1) F);exact⟨w.heap.size,_,rfl,A1,A2,⟨_,_,_,rfl⟩,A3,A4⟩
def bR(w x:World)(S:List TypeId):Prop:=∀(q:Nat) (cur:Array Value) (T:TypeId) (fz:Nat × Nat),w.heap[q]? =some (.cells cur T fz)->T∉S->x.heap[q]? =w.heap[q]?
theorem iU.l{w x:World}{A B:TypeId}(h:iU w x A B){S:List TypeId}(d:A∈S)(f:B∈S):bR w x S:=λq a T c g b=>h q a T c g (λe=>b (e▸d)) (λe=>b (e▸f))
theorem bR.trans{w x y:World}{S:List TypeId}(f:bR w x S)(g:bR x y S):bR w y S:=λq a T b d c=>by
 have e:=f q a T b d c;exact(g q a T b (e.trans d) c).trans e
theorem bR.mono{w x:World}{S b:List TypeId}(h:bR w x S)(g:∀T∈S,T∈b):bR w x b:=λq a T c f d=>h q a T c f λe=>d (g T e)
theorem bR.refl(w:World)(S:List TypeId):bR w w S:=λ_ _ _ _ _ _=>rfl
theorem iU.trans{w x y:World}{A B:TypeId}(g:iU w x A B)(h:iU x y A B):iU w y A B:=λq c T d f a b=>by
 have e:=g q c T d f a b;exact(h q c T d (e.trans f) a b).trans e
theorem iU.refl(w:World)(A B:TypeId):iU w w A B:=λ_ _ _ _ _ _ _=>rfl
theorem iP{w x:World}{g n:Nat}{T:TypeId}{S:List TypeId}{f:Nat->Value}(h:w.rowIs g T n f)(d:bR w x S)(b:T∉S):x.rowIs g T n f:=by
 have a:=h;obtain⟨c,hb,_,_⟩:=a;exact h.of_block (d _ _ _ _ hb b)
theorem bC.eU{e:Ln->Prop}{w x:World}{T c:TypeId}{S:List TypeId}{z i:Nat}{a:Nat->Value}{v:Value}{g:List Ln}(h:bC e w T c z a i v g)(f:bR w x S)(k:T∉S)(m:c∉S):bC e x T c z a i v g:=
 ⟨dK h.own λq d j n=>f q d c j n m,λl b=>⟨iP (h.each l b).row f k,(h.each l b).len,(h.each l b).lo,(h.each l b).small,(h.each l b).want⟩,h.apart⟩
theorem bC.other{d:Ln->Prop}{w x:World}{T b T':TypeId}{z j g:Nat}{a:Nat->Value}{v:Value}{i:List Ln}(h:bC d w T b z a j v i)(r:∀q,q≠g->x.heap[q]? =w.heap[q]?)(p:∃c,w.heap[g]? =some (.cells c T' (0,0)))(l:T≠T')(m:b≠T'):bC d x T b z a j v i:=
 h.eU (S:=[T']) (λq k s t f n=>r q λe=>by
  subst e;obtain⟨c,o⟩:=p;rw[o]at f;cases f;simp at n) (by simpa using l) (by simpa using m)
structure eX where
 ro:Option Addr
 rn:Nat
 rc:Nat
 cs:List Value
structure nC(Ty:List Value->Nat->Prop)(w0:World)(z:Nat)(r:eX):Prop where
 small:r.rn<=1048576
 nil:r.ro=none->r.rn=0/\r.rc=0
 want:iY w0 z r.ro r.rn r.cs
 one:∀v∈r.cs,v.oneCell'=true
 ty:Ty r.cs r.rn
abbrev qC(w0:World)(r:eX):Prop:=nC Hq w0 3 r
def lY(w0:World)(wo:Option Addr)(n:Nat)(rows:List eX):Prop:=rows.length=n/\(n=0\/∃b off,wo=some ⟨b,off,none⟩/\b<w0.heap.size/\∀(i:Nat) (r:eX),rows[i]? =some r->w0.cell? ⟨b,off+i,none⟩=some (.slice r.ro r.rn r.rc))
def dF(C:List Ln)(r:eX)(v:Value):Prop:=(r.rn=0/\v=.slice none 0 0)\/∃g,v=.slice (some ⟨g,0,none⟩) r.rn (r.rn+3)/\(⟨g,r.rn,r.ro,r.rc,r.cs⟩:Ln)∈C
theorem dF.mono{C a:List Ln}{r:eX}{v:Value}(h:dF C r v)(b:∀l∈C,l∈a):dF a r v:=by
 rcases h with h|⟨g,h1,h2⟩
 ·exact .inl h
 ·exact .inr ⟨g,h1,b _ h2⟩
def jL(C:List Ln)(rows:List eX)(es:List Value):Prop:=es.length=rows.length/\∀(i:Nat) (r:eX) (v:Value),rows[i]? =some r->es[i]? =some v->dF C r v
theorem jL.mono{C c:List Ln}{rows:List eX}{d:List Value}(h:jL C rows d)(e:∀l∈C,l∈c):jL c rows d:=⟨h.1,λi r v a b=>(h.2 i r v a b).mono e⟩
theorem jL.snoc{C:List Ln}{rows:List eX}{c:List Value}{r:eX}{v:Value}(h:jL C rows c)(e:dF C r v):jL C (rows++ [r]) (c++ [v]):=by
 refine⟨by simp[h.1],λi g v' a b=> ?_⟩;by_cases d:i<rows.length
 ·rw[List.getElem?_append_left d]at a;rw[List.getElem?_append_left (by rw[h.1];exact d)]at b;exact h.2 i g v' a b
 ·rw[List.getElem?_append_right (by omega)]at a;rw[List.getElem?_append_right (by rw[h.1];omega),h.1]at b;have f:i- rows.length=0:=by
   have:=(List.getElem?_eq_some_iff.mp a).1;simp at this;omega
  rw[f]at a b
  cases a;cases b;exact e
def Qm(w0:World)(C:List Ln)(l:Ln):Prop:=∃rows,lY w0 l.wo l.n rows/\jL C rows l.cs
def uw(_:Nat):Value:=.slice none 0 0
theorem OB:(Tryz.prog.info? 57).map (λi=>(i.zero,i.size,i.bytes))=some (some (.slice none 0 0),1,24):=by kernel_rfl
theorem ES:(Tryz.prog.info? 292).map (λi=>(i.zero,i.size,i.bytes))=some (some (.agg #[.slice none 0 0,.slice none 0 0]),2,48):=by kernel_rfl
theorem nI{w:World}{g N:Nat}{T:TypeId}{a:List Value}{f:Nat->Value}{i:Nat}(h:w.rowIs g T N (rX a f))(c:a.length=i)(v:Value):(w.setCell ⟨g,i,none⟩ v).rowIs g T N (rX (a++ [v]) f):=by
 subst c;refine(h.set a.length v).congr λj d=> ?_;unfold rX;by_cases e:j=a.length
 ·subst e;rw[if_pos rfl,dif_pos (by simp)];simp
 ·rw[if_neg e];by_cases b:j<a.length
  ·rw[dif_pos b,dif_pos (by simp;omega),List.getElem_append_left b]
  ·rw[dif_neg b,dif_neg (by simp;omega)]
def Nn(w0 w:World)(mb:Nat)(arr:Array Value)(C R:List Ln)(wo:Option Addr)(n wc:Nat)(rows:List eX)(e:Ending)(w':World):Prop:=
 ∃(g:Nat) (a:Option Addr) (an ac:Nat) (b:Option Addr) (bn bc:Nat) (C2:List Ln) (es:List Value),e=.returned (.slice (some ⟨g,0,none⟩) n (n+3))/\w'.heap[mb]? =some (.cells ((arr.setIfInBounds 0 (.slice a an ac)).setIfInBounds 1 (.slice b bn bc)) 118 (0,0))/\
  bC (rO Hq w0 3) w' 56 227 3 nV mb (.slice a an ac) (C++C2)/\C2.length<=n/\bC (Qm w0 (C++C2)) w' 57 292 1 uw mb (.slice b bn bc) (R++ [⟨g,n,wo,wc,es⟩])/\jL (C++C2) rows es/\Below mb w w'/\bR w w' [227,292,118]
theorem Jf(w:World)(b:Nat):
  Calls prog 60 #[.pointer (some ⟨b,0,none⟩),.slice none 0 0] w λe w'=>e=.returned (.slice none 0 0)/\w'=w:=by
 have a:∀W,(binOp .eql 24 (.slice none 0 0) (.slice none 0 0)).run prog W=.ok (.bool true) W:=λW=>ji W _ _ _ _ _ Tryz.underlying24;go_enter Tryz.func60,Tryz.ntmps60
 go_wp2_with fail
 go_ret;exact⟨rfl,rfl⟩
theorem QC{a:Array Value}{i:Nat}{v:Value}(h:i<a.size):(a.setIfInBounds i v)[i]? =some v:=by
 rw[Array.getElem?_setIfInBounds];simp[h]
def Nu(w0 w:World)(mb:Nat)(arr:Array Value)(C:List Ln)(n:Nat)(rows:List eX)(f2:Nat->Value)(i:Nat)(wr:World):Prop:=
 ∃(C2:List Ln) (es:List Value) (a:Option Addr) (an ac:Nat),(C2.length<=i/\es.length=i)/\wr.heap[mb]? =some (.cells (arr.setIfInBounds 0 (.slice a an ac)) 118 (0,0))/\bC (rO Hq w0 3) wr 56 227 3 nV mb (.slice a an ac) (C++C2)/\
  jL (C++C2) (rows.take i) es/\wr.rowIs w.heap.size 57 ((n+3)*1) (rX es f2)/\Below mb w wr/\iU w wr 227 118
theorem Je(w0 w:World)(t:Nat)(a:Option Addr)(an ac:Nat)(b:Option Addr)(bn bc:Nat)(m:Array Value)(C R:List Ln)(hO:w.heap[t]? =some (.cells m 118 (0,0)))(ha:m[0]? =some (.slice a an ac))(hb:m[1]? =some (.slice b bn bc))
  (hC:bC (rO Hq w0 3) w 56 227 3 nV t (.slice a an ac) C) (hR:bC (Qm w0 C) w 57 292 1 uw t (.slice b bn bc) R) (n:Nat) (e6:C.length+n<=1099511627776) (e7:R.length<=1099511627776)
  (h0:Below w0.heap.size w0 w) (b8:w0.heap.size<=t) (O:Addr) (wc:Nat) (rows:List eX) (hn:n<=1048576) (hs:lY w0 (some O) n rows) (b1:∀r∈rows,qC w0 r):
  Calls prog 60 #[.pointer (some ⟨t,0,none⟩),.slice (some O) n wc] w λe w'=>Nn w0 w t m C R (some O) n wc rows e w':=by
 obtain⟨i0,hi,c9,e0,e1⟩:=info_parts OB;obtain⟨i1,hj,c4,c5,c6⟩:=info_parts ES;have a8:=aB hO;have a9:∀W,(binOp .eql 24 (.slice (some O) n wc) (.slice none 0 0)).run prog W=.ok (.bool false) W:=λW=>ji W _ _ _ _ _ Tryz.underlying24;have e2:1<m.size:=(Array.getElem?_eq_some_iff.1 hb).1;go_enter Tryz.func60,Tryz.ntmps60
 go_wp2_with(at_make;refine ic _ rfl _ _ 24 rfl 57 i0 _ Tryz.underlying24 hi c9 .i64 .i64 (n+3) _ rfl rfl (by omega) (by rw[e1];omega) (by omega) 1 e0 ?_;intro w2 f2 c8 D b2 b5)
 have I0:Nu w0 w t m C n rows f2 0 w2:=⟨[],[],a,an,ac,⟨le_refl _,rfl⟩,by
   rw[show m.setIfInBounds 0 (.slice a an ac)=m from by
    apply Array.ext
    ·simp
    ·intro k S U;rw[Array.getElem_setIfInBounds];split
     ·subst_vars;have:=Array.getElem?_eq_getElem (by omega:0<m.size);rw[ha]at this;exact Option.some.inj this
     ·rfl]
   exact(D.block t a8).trans hO,by rw[List.append_nil];exact hC.ah D,⟨by simp,λi r v h=>by simp at h⟩,b2.congr λj _=>by simp[rX],D.mono (by omega),gH D _ _⟩
 have HS:Hid _:=hs;have b7:Hid _:=b1;clear b2 D c8 a9 hC hs b1;go_loopw [7] (λiv wr=>∃i:Nat,i<=n/\iv=.int .i64 (i:Int)/\Nu w0 w t m C n rows f2 i wr) (λiv _=>n- (intOf iv).toNat)
 case atStart=>exact⟨0,Nat.zero_le _,rfl,I0⟩
 case round=>
  clear I0;obtain⟨i,g1,rfl,C2,Q,a2,J,I,⟨b9,F⟩,hOr,L,d,f,hB,hK⟩:=hrel;have g2:=aB hOr;have g0:=hB.size;by_cases c7:i<n
  ·obtain⟨K,B,rfl,c1,E⟩:∃K B,O=⟨K,B,none⟩/\K<w0.heap.size/\∀(i:Nat) (r:eX),rows[i]? =some r->w0.cell? ⟨K,B+i,none⟩=some (.slice r.ro r.rn r.rc):=by
    rcases HS.out.2 with h|⟨x,y,S,U,h3⟩
    ·omega
    ·exact⟨x,y,Option.some.inj S,U,h3⟩
   have c3:i<rows.length:=by rw[HS.out.1];exact c7
   obtain⟨⟨ro,rn,rc,a0⟩,N⟩:∃r:eX,rows[i]? =some r:=⟨_,List.getElem?_eq_getElem c3⟩;have z:=b7.out _ (List.mem_of_getElem? N);have q0:wr.cell? ⟨K,B+i,none⟩=some (.slice ro rn rc):=(hB.cell (p:=⟨K,B+i,none⟩) (by show K<t;omega)).trans ((h0.cell (p:=⟨K,B+i,none⟩) c1).trans (E i _ N));have e9:K<wr.heap.size:=by have:=h0.size;omega
   have a4:Hid (rows.take (i+1)=rows.take i++ [⟨ro,rn,rc,a0⟩]):=by
    rw[Hid,List.take_add_one,N];rfl
   have c2:=f.lt;clear E N
   cases ro with
   |none=>
    obtain⟨rfl,rfl⟩:rn=0/\rc=0:=z.nil rfl;have c0:=f.cell (i:=i) (by omega);have f0:=f.frozen i
    go_wp2_with(go_at_call 31;refine(wI _ t).mono ?_;rintro e w5 ⟨rfl,rfl⟩)
    go_roundw
    case rel=>
     refine⟨i+1,by omega,by go_num,C2,Q++ [.slice none 0 0],a2,J,I,⟨by omega,by simp[F]⟩, ?_, ?_, ?_,nI f F _,hB.setCell (p:=⟨w.heap.size,i,none⟩) (by show t<=w.heap.size;omega) _, ?_⟩
     ·exact(heap_setCell _ _ _ _ (by show t≠w.heap.size;omega)).trans hOr
     ·exact L.other (λq M=>heap_setCell _ _ _ _ M) (by obtain⟨c,Z,_,_⟩:=f;exact⟨c,Z⟩) (by decide) (by decide)
     ·rw[a4.out];exact d.snoc (.inl ⟨rfl,rfl⟩)
     ·intro q Y T fz M S U;exact(heap_setCell _ _ _ _ (by have:=aB M;show q≠w.heap.size;omega)).trans (hK q Y T fz M S U)
    case measure=>simp[intOf];omega
   |some s=>
    have b3:=wH w0 wr t a2 J I (m.setIfInBounds 0 (.slice a2 J I)) (C++C2) hOr (QC (by omega)) L (by rw[List.length_append];omega) (h0.trans (hB.mono b8)) s rn rc a0 z.small z.want z.one z.ty
    go_wp2_with(go_at_call 31;refine b3.mono ?_;rintro e w5 ⟨g5,v5,rfl,hO5,hC5,⟨a5,an5,ac5,rfl⟩,hB5,hK5⟩;have o:=xm f hK5 (by decide) (by decide);have c0:=o.cell (i:=i) (by omega);have f0:=o.frozen i;have e4:=o.lt)
    go_roundw
    case rel=>
     refine⟨i+1,by omega,by go_num,C2++ [⟨g5,rn,some s,rc,a0⟩],Q++ [.slice (some ⟨g5,0,none⟩) rn (rn+3)],a5,an5,ac5,⟨by simp;omega,by simp[F]⟩, ?_, ?_, ?_,nI o F _,(hB.trans hB5).setCell (p:=⟨w.heap.size,i,none⟩) (by show t<=w.heap.size;omega) _, ?_⟩
     ·rw[Array.setIfInBounds_setIfInBounds]at hO5;exact(heap_setCell _ _ _ _ (by show t≠w.heap.size;omega)).trans hO5
     ·rw[<-List.append_assoc];exact hC5.other (λq M=>heap_setCell _ _ _ _ M) (by obtain⟨c,Z,_,_⟩:=o;exact⟨c,Z⟩) (by decide) (by decide)
     ·rw[a4.out,<-List.append_assoc];exact(d.mono λl hl=>List.mem_append_left _ hl).snoc (.inr ⟨g5,rfl,List.mem_append_right _ (by simp)⟩)
     ·intro q Y T fz M S U;exact(heap_setCell _ _ _ _ (by have:=aB M;show q≠w.heap.size;omega)).trans ((hK.trans hK5) q Y T fz M S U)
    case measure=>simp[intOf];omega
  ·obtain rfl:i=n:=by omega
   have H:wr.rowIs w.heap.size 57 ((i+3)*1) (jf 1 Q uw):=f.congr λj hj=>by
    unfold rX jf;by_cases h:j<Q.length
    ·rw[dif_pos h,dif_pos h]
    ·rw[dif_neg h,dif_neg h,b5.out];simp[Value.cells,uw,Nat.mod_one]
   rw[List.take_of_length_le (by rw[HS.out.1];exact le_refl _)]at d;have b0:wr.cell? ⟨t,1,none⟩=some (.slice b bn bc):=(ag hOr).trans (by rw[Array.getElem?_setIfInBounds];simp[hb]);have c2:=H.lt;have a6:bC (Qm w0 (C++C2)) wr 57 292 1 uw t (.slice b bn bc) R:=(hR.typed hK (by decide) (by decide) (by decide) (by decide)).mono λl _ ⟨rs,S,U⟩=>⟨rs,S,U.mono λx hx=>List.mem_append_left _ hx⟩;have V:pF (Qm w0 (C++C2)) wr 57 1 uw (t+1) ⟨w.heap.size,i,some O,wc,Q⟩:=⟨H,by simp[F],a8,hn,rows,HS.out,d⟩;have a7:∀x∈R,x.g<w.heap.size:=λx hx=>(hR.each x hx).row.lt;have a3:Hid _:=hOr;have X:Hid _:=a6;have a1:Hid _:=V;have b6:Hid _:=d;have b4:Hid _:=L;clear hO hOr a6 V H f d L hR
   go_wp2_with(at_builtin;refine wpList_append_lies _ rfl (.tmp 33) (.tmp 37) 109 rfl (t+1) 292 i1 _ 2 48 Tryz.underlying109 hj c4 c5 c6 rfl (by decide) (.slice b bn bc) R.length (gT R) rfl (X.out.own.alloc _) ⟨wr.heap.size,0,none⟩ 1 1 [.slice (some ⟨w.heap.size,0,none⟩) (i+3) (i+3),.slice (some O) i wc] rfl rfl (news_of_block (heap_alloc_new wr _)) (by intro u hu;simp at hu;rcases hu with rfl|rfl<;>rfl) (by decide) (by unfold maxLen;omega) (by omega) (by simp[size_alloc];omega) (wr.heap.size+1) (by simp[size_alloc]) ?_;intro g7 P w7 G A e3 e5;have kO:=(je (w:=wr) (k:=1) (l:=⟨w.heap.size,i,some O,wc,Q⟩) a3.out X.out a1.out a7 (by decide) (by decide) (refl _ _) (iU.refl _ _ _) ((refl _ wr).alloc (le_refl _) _) A G (.slice none 0 0)).1;have e8:=aB kO;have r0:w7.cell? ⟨t,1,none⟩=some (.slice b bn bc):=(ag kO).trans (by rw[Array.getElem?_setIfInBounds];simp[hb]);have g3:w7.frozen? ⟨t,1,none⟩=false:=by simp[frozen?,kO])
   go_ret;obtain⟨_,A1,A2,A3,A4⟩:=je (w:=wr) (k:=1) (l:=⟨w.heap.size,i,some O,wc,Q⟩) a3.out X.out a1.out a7 (by decide) (by decide) (refl _ _) (iU.refl _ _ _) ((refl _ wr).alloc (le_refl _) _) A G (.slice (some ⟨g7,0,none⟩) (R.length+1) P);exact⟨w.heap.size,a2,J,I,some ⟨g7,0,none⟩,R.length+1,P,C2,Q,rfl,A1,b4.out.typed A4 (by decide) (by decide) (by decide) (by decide),b9,A2,b6.out,hB.trans A3,(hK.l (by simp) (by simp)).trans (A4.l (by simp) (by simp))⟩
end Go.Proofs.YtdifpeaklamhnaaGreatDoor

import Derived.Test.YtdifpeaklamhnaaGreatDoorLoHZ
import Derived.Test.YtdifpeaklamhnaaGreatDoorTaFZ
import Derived.Test.YtdifpeaklamhnaaGreatDoorEwGZ
set_option linter.unusedVariables false
set_option linter.unusedSimpArgs false
set_option maxRecDepth 100000
set_option maxHeartbeats 0
namespace Go.Proofs.YtdifpeaklamhnaaGreatDoor
open Go.RowKit
open List (replicate getElem?_take length_take length_append)
theorem Gq{l:List Value}{n:Nat}{m:Value}(h:l.take n=replicate n m):∀j,j<n->l[j]? =some m:=λj a=>by
 have:=congrArg (λx=>x[j]?) h;simpa[getElem?_take,a,List.getElem?_replicate]using this
theorem Qe{l:List Value}{n:Nat}{m:Value}(h:∀j,j<n->l[j]? =some m):l.take n=replicate n m:=by
 apply List.ext_getElem?;intro j;rw[getElem?_take,List.getElem?_replicate];split
 ·next a=>exact h j a
 ·rfl
theorem Qd{l:List Value}{n k a:Nat}{m:Value}(e:n+k<=l.length)(b:l.take n=replicate n m)(c:l.take a=replicate a m):(l.take n++replicate k m++l.drop (n+k)).take a=replicate a m:=by
 refine Qe λj d=> ?_;rcases Nat.lt_or_ge j n with h|h
 ·rw[List.append_assoc,List.getElem?_append_left (by rw[length_take];omega),getElem?_take,if_pos h];exact Gq b j h
 ·rcases Nat.lt_or_ge j (n+k)with h'|h'
  ·rw[List.getElem?_append_left (by rw[length_append,length_take,List.length_replicate];omega),List.getElem?_append_right (by rw[length_take];omega),length_take,List.getElem?_replicate,if_pos (by omega)]
  ·rw[List.getElem?_append_right (by rw[length_append,length_take,List.length_replicate];omega),length_append,length_take,List.length_replicate,List.getElem?_drop,show n+k+(j- (min n l.length+k))=j by omega];exact Gq c j d
abbrev TE:=Value × Value × Value × Value × Nat
def Uv(e:TE):List Value:=[e.1,e.2.1,e.2.2.1,e.2.2.2.1,.int .i64 (e.2.2.2.2:Int)]
def Nr(e:TE):List Value:=[e.1,e.2.1,e.2.2.1,e.2.2.2.1]
def ji(es:List TE):List Value:=es.flatMap Uv
theorem GL(a b:List TE):ji (a++b)=ji a++ji b:=by simp[ji]
theorem xy:∀(l:List TE) (i:Nat) (e:TE) (j:Nat),l[i]? =some e->j<5->(ji l)[i*5+j]? =(Uv e)[j]?
 | [],i,r,j,h,_=>by simp at h
 |a::rs,0,r,j,h,hj=>by
  simp at h;subst h;rw[Nat.zero_mul,Nat.zero_add,ji,List.flatMap_cons,List.getElem?_append_left (by simp[Uv];omega)]
 |a::rs,i+1,r,j,h,hj=>by
  have:=xy rs i r j (by simpa using h) hj;have b:(Uv a).length=5:=by simp[Uv]
  rw[ji,List.flatMap_cons,List.getElem?_append_right (by rw[b];omega),b,show(i+1)*5+j- 5=i*5+j by omega];exact this
theorem lV{w x:World}{g:Nat}{o:Obj}(hb:Below w.heap.size w x)(h:w.heap[g]? =some o):x.heap[g]? =some o:=(hb.block g (by rcases Nat.lt_or_ge g w.heap.size with h'|h';exact h';rw[Array.getElem?_eq_none h']at h;cases h)).trans h
theorem pF{x:World}{b:Nat}{a0 a1 a2 a3 a4:Value}{T:TypeId}(h:x.heap[b]? =some (.cells #[a0,a1,a2,a3,a4] T (0,0))):x.cell? ⟨b,0,none⟩=some a0/\x.cell? ⟨b,1,none⟩=some a1/\x.cell? ⟨b,2,none⟩=some a2/\x.cell? ⟨b,3,none⟩=some a3/\x.cell? ⟨b,4,none⟩=some a4:=by
 simp[World.cell?,h]
section
variable {w2 : World} {wb n0 : Nat} {m l v1 v2 v3 : Value} {k0 k1 k2 k3 : Nat} {wx y w3 : World}
end
theorem NR(w:World)(o:Obj):(w.alloc o).drew.heap[w.heap.size]? =some o:=heap_alloc_new w o
end Go.Proofs.YtdifpeaklamhnaaGreatDoor

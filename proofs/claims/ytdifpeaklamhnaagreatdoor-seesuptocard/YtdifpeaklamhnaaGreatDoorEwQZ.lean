import Derived.Test.YtdifpeaklamhnaaGreatDoorEwGZ
set_option linter.unusedVariables false
set_option linter.unusedSimpArgs false
set_option maxRecDepth 100000
set_option maxHeartbeats 0
namespace Go.Proofs.YtdifpeaklamhnaaGreatDoor
open Go.Proofs.Tryz
open Go.RowKit
theorem qG{w:World}{v:Value}{c:aj}(h:aO w v [c]):∃b a cap,v=.slice (some ⟨b,a,none⟩) 1 cap/\b<w.heap.size/\∀x:World,Below w.heap.size w x->x.cell? ⟨b,a,none⟩=some (.int .i64 c.1)/\x.cell? ⟨b,a+1,none⟩=some (.int .i64 c.2.1)/\x.cell? ⟨b,a+2,none⟩=some (.string (aa c.2.2)):=by
 obtain⟨j,cap,rfl,_,h|⟨b,a,rfl,hb,i⟩⟩:=h
 ·simp at h
 ·obtain⟨e,f,g⟩:=i 0 c rfl;simp only[Nat.zero_mul,Nat.add_zero]at e f g;exact⟨b,a,cap,rfl,hb,λx d=>⟨(d.cell (p:=⟨b,a,none⟩) hb).trans e,(d.cell (p:=⟨b,a+1,none⟩) hb).trans f,(d.cell (p:=⟨b,a+2,none⟩) hb).trans g⟩⟩
theorem Et{w:World}{v:Value}{c d:aj}(h:aO w v [c,d]):∃b a cap,v=.slice (some ⟨b,a,none⟩) 2 cap/\b<w.heap.size/\∀x:World,Below w.heap.size w x->(x.cell? ⟨b,a,none⟩=some (.int .i64 c.1)/\x.cell? ⟨b,a+1,none⟩=some (.int .i64 c.2.1)/\x.cell? ⟨b,a+2,none⟩=some (.string (aa c.2.2)))/\(x.cell? ⟨b,a+3,none⟩=some (.int .i64 d.1)/\x.cell? ⟨b,a+4,none⟩=some (.int .i64 d.2.1)/\x.cell? ⟨b,a+5,none⟩=some (.string (aa d.2.2))):=by
 obtain⟨l,cap,rfl,_,h|⟨b,a,rfl,hb,f⟩⟩:=h
 ·simp at h
 ·obtain⟨g,i,j⟩:=f 0 c rfl;obtain⟨k,r1,r2⟩:=f 1 d rfl;simp only[Nat.zero_mul,Nat.add_zero,Nat.one_mul,Nat.add_assoc]at g i j k r1 r2;exact⟨b,a,cap,rfl,hb,λx e=>⟨⟨(e.cell (p:=⟨b,a,none⟩) hb).trans g,(e.cell (p:=⟨b,a+1,none⟩) hb).trans i,(e.cell (p:=⟨b,a+2,none⟩) hb).trans j⟩,⟨(e.cell (p:=⟨b,a+3,none⟩) hb).trans k,(e.cell (p:=⟨b,a+4,none⟩) hb).trans r1,(e.cell (p:=⟨b,a+5,none⟩) hb).trans r2⟩⟩⟩
theorem VR(w:World)(o:Obj):Below w.heap.size w (w.alloc o)/\(w.alloc o).heap[w.heap.size]? =some o:=⟨ae w o,heap_alloc_new w o⟩
theorem Es(n:Int)(w:World):Calls prog 302 #[.int .i64 n] w λe w'=>e=.returned (.agg #[.int .i64 1,.int .i64 n,.string ⟨#[]⟩])/\w'=w.alloc (.cells #[.int .i64 1,.int .i64 n,.string ⟨#[]⟩] 56):=by
 go_enter Tryz.func302,Tryz.ntmps302
 go_wp2_with fail
 exact bodyPost_ret (v:=.agg #[.int .i64 1,.int .i64 n,.string ⟨#[]⟩]) (by simp[results,Tryz.results302,go_sem]) rfl ⟨rfl,rfl⟩
theorem sZ{w w2:World}(a:Below (w.alloc (aI 0 0 ⟨#[]⟩)).heap.size (w.alloc (aI 0 0 ⟨#[]⟩)) w2):Below w.heap.size w w2/\w2.heap[w.heap.size]? =some (aI 0 0 ⟨#[]⟩)/\w.heap.size<w2.heap.size:=by
 have b:=a.size;rw[World.size_alloc]at b;exact⟨(ae w _).trans (a.mono (by rw[World.size_alloc];omega)),(a.block _ (by rw[World.size_alloc];omega)).trans (heap_alloc_new w _),by omega⟩
theorem HY{a b:aj}(h:a.1=0\/b.1=0):bF [a,b]=true:=by
 rcases h with h|h<;>simp[bF,h]
theorem TH{a b:Int}(c:aY a=true)(hb:aY b=true):(-1000000000<=a/\a<=1000000000)/\(-1000000000<=b/\b<=1000000000)/\(-1000000000000000000<=a*b/\a*b<=1000000000000000000)/\(-1000000000<=a.tdiv b/\a.tdiv b<=1000000000):=by
 simp only[aY,Bool.and_eq_true,decide_eq_true_eq]at c hb;refine⟨c,hb, ?_, ?_⟩
 ·have d:(a*b).natAbs<=1000000000*1000000000:=by
   rw[Int.natAbs_mul];exact Nat.mul_le_mul (by omega) (by omega)
  omega
 ·have d:(a.tdiv b).natAbs<=a.natAbs:=by
   rw[Int.natAbs_tdiv];exact Nat.div_le_self _ _
  omega
theorem Lr(s:ByteArray)(w:World):Calls prog 197 #[.string s] w λe w'=>e=.returned (.agg #[.int .i64 2,.int .i64 0,.string s])/\w'=w.alloc (.cells #[.int .i64 2,.int .i64 0,.string s] 56):=by
 go_enter Tryz.func197,Tryz.ntmps197
 go_wp2_with fail
 exact bodyPost_ret (v:=.agg #[.int .i64 2,.int .i64 0,.string s]) (by simp[results,Tryz.results197,go_sem]) rfl ⟨rfl,rfl⟩
theorem yE:∀ {cs:List aj},mI cs=true->(qE cs).length<=1000*cs.length
 | [],_=>by simp[qE]
 |c::cs,h=>by
  simp only[mI,List.all_cons,Bool.and_eq_true,decide_eq_true_eq]at h;have:=yE (cs:=cs) h.2;simp only[qE,List.length_append,List.length_cons];omega
theorem AJ(cs:List aj)(i:Nat)(a:i<cs.length):qE (cs.take (i+1))=qE (cs.take i)++cs[i].2.2:=by
 induction cs generalizing i with
 |nil=>simp at a
 |cons c cs ih=>
  cases i with
  |zero=>simp[qE]
  |succ i=>simp only[List.take_succ_cons,qE,List.getElem_cons_succ,List.append_assoc];rw[ih i (by simpa using a)]
theorem Ju{cs:List aj}(h:mI cs=true)(i:Nat):mI (cs.take i)=true:=by
 simp only[mI,List.all_eq_true]at h ⊢;exact λx a=>h x (List.mem_of_mem_take a)
end Go.Proofs.YtdifpeaklamhnaaGreatDoor

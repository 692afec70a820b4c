import Derived.Test.YtdifpeaklamhnaaGreatDoorEwUZ
import Derived.Test.YtdifpeaklamhnaaGreatDoorBaFZ
set_option linter.unusedVariables false
set_option linter.unusedSimpArgs false
set_option maxRecDepth 100000
set_option maxHeartbeats 0
namespace Go.Proofs.YtdifpeaklamhnaaGreatDoor
open Go.RowKit
theorem QE{fns:List Fn}{a b c:Bs}{fn:Fn}(h:jE fns a b c=.ok fn):Ty fns ([],fn.args) fn.body:=by
 unfold jE at h;split at h
 ·cases h
 split at h
 ·cases h
 next x d=>
 cases h;unfold eG at d;split at d
 ·cases d
 next t e=>
 unfold mJ at d;split at d
 ·cases d
 next y f=>
 split at d
 ·cases d
 cases d;exact⟨t,(vP UD (λ_=>rfl) _ t e).1,f⟩
theorem pX.snoc{a:List Fn}{fn:Fn}(h:pX a)(d:Ty a ([],fn.args) fn.body)(c:0<=fn.body.size/\fn.body.size<=300):pX (a++ [fn]):=λi f b=>by
 rcases Nat.lt_trichotomy i a.length with hl|hl|hl
 ·rw[List.getElem?_append_left hl]at b;rw[List.take_append_of_le_length (by omega)];exact h i f b
 ·subst hl;rw[List.getElem?_append_right (Nat.le_refl _),Nat.sub_self]at b
  cases b;rw[List.take_append_of_le_length (Nat.le_refl _),List.take_length];exact⟨d,c⟩
 ·rw[List.getElem?_eq_none (by simp;omega)]at b;cases b
theorem Bg:∀(c:List mM) (a fns:List Fn),pX a->fq a c=.ok fns->pX fns
 | [],a,fns,ha,h=>by rw[fq]at h;cases h;exact ha
 |f::c,a,fns,ha,h=>by
  rw[fq]at h
  cases b:jE a f.1 f.2.1 f.2.2 with
  |error n=>rw[b]at h;cases h
  |ok fn=>
   rw[b]at h;refine Bg c (a++ [fn]) fns (ha.snoc (QE b) (Aq (λg e=> ?_) b)) h;obtain⟨i,j,d⟩:=List.mem_iff_getElem.mp e;exact(ha i g (by rw[List.getElem?_eq_getElem j,d])).2
theorem Pw{a:List mM}{e:List aJ}{p:List Fn × List (aJ × Ex)}(h:dz a e=.ok p):pX p.1:=by
 have b:pX []:=λi f d=>by simp at d
 unfold dz at h;split at h
 ·cases h
 split at h
 ·cases h
 next fns c=>
 have:=Bg a [] fns b c;unfold Dw at h;split at h
 ·cases h
 ·cases h;exact this
theorem QT{c:aj}{t:Int}(h:bV c t=true):rT t c:=by
 obtain⟨k,n,s⟩:=c;simp only[bV,dw,Bool.and_eq_true,Bool.or_eq_true,beq_iff_eq]at h;obtain⟨a,b⟩:=h;split at a
 ·next e=>
  simp only[Bool.and_eq_true,beq_iff_eq,List.isEmpty_iff]at a;subst e;rw[a.1,a.2];exact .inl rfl
 ·next d=>
  have b:k=t:=b.resolve_left d;split at a
  ·next e=>
   simp only[Bool.and_eq_true,List.isEmpty_iff]at a;rw[<-b,e,a.2];exact .inr (.inl ⟨rfl,n,rfl,a.1⟩)
  ·split at a
   ·next e=>
    simp only[Bool.and_eq_true,beq_iff_eq,decide_eq_true_eq]at a;rw[<-b,e,a.1];exact .inr (.inr (.inl ⟨rfl,s,rfl,a.2⟩))
   ·split at a
    ·next e=>
     simp only[Bool.and_eq_true,Bool.or_eq_true,beq_iff_eq,List.isEmpty_iff]at a;rw[<-b,e,a.2];refine .inr (.inr (.inr ⟨rfl, ?_⟩));rcases a.1 with e|e
     ·exact⟨false,by rw[e];rfl⟩
     ·exact⟨true,by rw[e];rfl⟩
    ·cases a
def mR(user:Bs)(o:Except Int (List Fn × List (aJ × Ex))):Except Int (List Fn × List (aJ × Ex)):=if 30<user.length then .error 9 else o
theorem Cj{a:Bs}{o:Except Int (List Fn × List (aJ × Ex))}{p:List Fn × List (aJ × Ex)}(h:mR a o=.ok p):o=.ok p/\a.length<=30:=by
 unfold mR at h;split at h
 ·cases h
 ·next b=>exact⟨h,by omega⟩
theorem qP{w:World}{b c n size:Nat}{e:TypeId}{v:Value}{d:List Value}(h:w.ownsRow b e size v n d)(hb:c<=b):w.ownsRow c e size v n d:=⟨h.1,h.2.imp id λ⟨g,cap,a,e,f,r⟩=>⟨g,cap,a,e,Nat.le_trans hb f,r⟩⟩
theorem NQ{w x:World}{g:Nat}{o:Obj}(hb:Below w.heap.size w x)(h:w.heap[g]? =some o)(a:g<w.heap.size):x.heap[g]? =some o:=(hb.block g a).trans h
end Go.Proofs.YtdifpeaklamhnaaGreatDoor

/- Trees as lists of nodes in memory. -/
import Derived.Test.YtilfjpmeededmaaGreatDoorRefS
import Derived.Deep.AppendLies
namespace Go.Proofs.YtilfjpmeededmaaGreatDoor
open Go.RowKit

theorem infoNode : (Tryz.prog.info? 359).map (fun i => (i.zero, i.size, i.bytes)) = some (some (.agg #[.string ⟨#[]⟩, .bool false, .slice none 0 0, .int .u8 0]), 4, 56) := by kernel_rfl

/-- All blocks but rb and one more are as they were. -/
structure Frm (w w' : World) (rb : Nat) (o : Option Nat) : Prop where
  os : w'.os = w.os
  tape : w'.tape = w.tape
  output : w'.output = w.output
  size : w.heap.size ≤ w'.heap.size
  block : ∀ g, g < w.heap.size → g ≠ rb → o ≠ some g → w'.heap[g]? = w.heap[g]?
mutual
/-- Node i of those in cs is the tree. -/
inductive Rep (w : World) (S : Nat → Prop) (cs : List Value) : Nat → Tr → Prop
  | mk {i : Nat} {k : Int} {tx : Bs} {br : Bool} {ops : List Tr} {v : Value} {is : List Nat} : cs[4 * i]? = some (.string (ofBs tx)) → cs[4 * i + 1]? = some (.bool br) → cs[4 * i + 2]? = some v → cs[4 * i + 3]? = some (.int .u8 0) →
      w.ownsRow 0 3 1 v ops.length (is.map fun j : Nat => Value.int .i64 (j : Int)) → (∀ g, v.ownBlock = some g → S g) → RepL w S cs is ops → Rep w S cs i (.mk k tx br ops)
inductive RepL (w : World) (S : Nat → Prop) (cs : List Value) : List Nat → List Tr → Prop
  | nil : RepL w S cs [] []
  | cons {i : Nat} {is : List Nat} {t : Tr} {ts : List Tr} : Rep w S cs i t → RepL w S cs is ts → RepL w S cs (i :: is) (t :: ts)
end
theorem pre_get {cs ds : List Value} {i : Nat} {v : Value} (h : cs[i]? = some v) : (cs ++ ds)[i]? = some v := by
  rw [List.getElem?_append_left (List.getElem?_eq_some_iff.mp h).1]; exact h
mutual
theorem Rep.move {w x : World} {S S' : Nat → Prop} {cs : List Value} (ds : List Value) (hk : ∀ g, S g → x.heap[g]? = w.heap[g]?) (hs : ∀ g, S g → S' g) : ∀ {i : Nat} {t : Tr}, Rep w S cs i t → Rep x S' (cs ++ ds) i t
  | _, _, .mk a b c c3 d e f => .mk (pre_get a) (pre_get b) (pre_get c) (pre_get c3) (owns_keep d fun g hg => hk g (e g hg)) (fun g hg => hs g (e g hg)) (RepL.move ds hk hs f)
theorem RepL.move {w x : World} {S S' : Nat → Prop} {cs : List Value} (ds : List Value) (hk : ∀ g, S g → x.heap[g]? = w.heap[g]?) (hs : ∀ g, S g → S' g) : ∀ {i : List Nat} {t : List Tr}, RepL w S cs i t → RepL x S' (cs ++ ds) i t
  | _, _, .nil => .nil
  | _, _, .cons a b => .cons (Rep.move ds hk hs a) (RepL.move ds hk hs b)
end
mutual
theorem Rep.bounded {w : World} {S : Nat → Prop} {cs : List Value} : ∀ {i : Nat} {t : Tr}, Rep w S cs i t → Rep w (fun g => S g ∧ g < w.heap.size) cs i t
  | _, _, .mk a b c c3 d e f => .mk a b c c3 d (fun g hg => ⟨e g hg, (d.lt g hg).2⟩) (RepL.bounded f)
theorem RepL.bounded {w : World} {S : Nat → Prop} {cs : List Value} : ∀ {i : List Nat} {t : List Tr}, RepL w S cs i t → RepL w (fun g => S g ∧ g < w.heap.size) cs i t
  | _, _, .nil => .nil
  | _, _, .cons a b => .cons (Rep.bounded a) (RepL.bounded b)
end
/-- What one gives, if o is what is read. -/
def Ones (w : World) (rb : Nat) (s : ByteArray) (k : Nat) (v : Value) (n : Nat) (cs : List Value) (o : Option (Tr × Bs)) (e : Ending) (w' : World) : Prop :=
  Frm w w' rb v.ownBlock ∧ ((o = none ∧ e = .returned (.int .i64 (-1)) ∧ ∃ k' ao m cap, RdIs w' rb s k' (.slice ao m cap)) ∨
    (∃ t k' g cap n' ds, o = some (t, s.toList.drop k') ∧ k < k' ∧ k' ≤ s.size ∧ n ≤ n' ∧ n' + 1 + k ≤ n + k' ∧ e = .returned (.int .i64 (n' : Int)) ∧
      RdIs w' rb s k' (.slice (some ⟨g, 0, none⟩) (n' + 1) cap) ∧ w'.ownsRow (rb + 1) 359 4 (.slice (some ⟨g, 0, none⟩) (n' + 1) cap) (n' + 1) (cs ++ ds) ∧
      (v.ownBlock = some g ∨ w.heap.size ≤ g) ∧ Rep w' (fun q => w.heap.size ≤ q ∧ q ≠ g) (cs ++ ds) n' t))


theorem ones_fin {w w4 W w5 : World} {rb k' m g5 cap5 : Nat} {v ov v4 : Value} {s : ByteArray} {cs ds : List Value} (kd : Int) {tx : Bs} {br : Bool} {ops : List Tr} {is : List Nat} {av : Value}
    (hrb : rb < w.heap.size) (F : Frm w w4 rb v.ownBlock) (hv4 : v4.ownBlock = v.ownBlock ∨ ∃ g, v4.ownBlock = some g ∧ w.heap.size ≤ g)
    (hW : W.os = w4.os ∧ W.tape = w4.tape ∧ W.output = w4.output ∧ w4.heap.size ≤ W.heap.size ∧ ∀ g, g < w4.heap.size → W.heap[g]? = w4.heap[g]?)
    (own4 : w4.ownsRow (rb + 1) 359 4 v4 m (cs ++ ds))
    (hgrow : W.grownBy w5 v4.ownBlock) (hown5 : w5.ownsRow (rb + 1) 359 4 (.slice (some ⟨g5, 0, none⟩) (m + 1) cap5) (m + 1) (cs ++ ds ++ [.string (ofBs tx), .bool br, av, .int .u8 0]))
    (hat5 : v4.ownBlock = some g5 ∨ g5 = w4.heap.size + 1) (kR : w5.heap[rb]? = some (.cells #[.string s, .int .i64 (k' : Int), ov] 357 (0, 0)))
    (hav : w4.ownsRow 0 3 1 av ops.length (is.map fun j : Nat => Value.int .i64 (j : Int))) (hav2 : ∀ g, av.ownBlock = some g → w.heap.size ≤ g ∧ v4.ownBlock ≠ some g)
    (hrep : RepL w4 (fun q => w.heap.size ≤ q ∧ v4.ownBlock ≠ some q) (cs ++ ds) is ops) :
    Frm w (w5.setCell ⟨rb, 2, none⟩ (.slice (some ⟨g5, 0, none⟩) (m + 1) cap5)) rb v.ownBlock ∧
    RdIs (w5.setCell ⟨rb, 2, none⟩ (.slice (some ⟨g5, 0, none⟩) (m + 1) cap5)) rb s k' (.slice (some ⟨g5, 0, none⟩) (m + 1) cap5) ∧
    (w5.setCell ⟨rb, 2, none⟩ (.slice (some ⟨g5, 0, none⟩) (m + 1) cap5)).ownsRow (rb + 1) 359 4 (.slice (some ⟨g5, 0, none⟩) (m + 1) cap5) (m + 1) (cs ++ (ds ++ [.string (ofBs tx), .bool br, av, .int .u8 0])) ∧
    (v.ownBlock = some g5 ∨ w.heap.size ≤ g5) ∧
    Rep (w5.setCell ⟨rb, 2, none⟩ (.slice (some ⟨g5, 0, none⟩) (m + 1) cap5)) (fun q => w.heap.size ≤ q ∧ q ≠ g5) (cs ++ (ds ++ [.string (ofBs tx), .bool br, av, .int .u8 0])) m (.mk kd tx br ops) := by
  obtain ⟨a1, a2, a3, a4, a5⟩ := hW
  have hlen : (cs ++ ds).length = 4 * m := by have := own4.1; omega
  have keep : ∀ g, g < w4.heap.size → g ≠ rb → v4.ownBlock ≠ some g → (w5.setCell ⟨rb, 2, none⟩ (.slice (some ⟨g5, 0, none⟩) (m + 1) cap5)).heap[g]? = w4.heap[g]? := by
    intro g h1 h2 h3
    rw [Below.heap_setCell _ _ _ _ h2, hgrow.block g (by omega) (fun e => h3 e.symm), a5 g h1]
  have hne5 : ∀ g, g < w4.heap.size → v4.ownBlock ≠ some g → g ≠ g5 := by
    intro g h1 h2 e
    subst e
    rcases hat5 with e | e
    · exact h2 e
    · omega
  have hF := F.size
  refine ⟨⟨hgrow.os.trans (a1.trans F.os), hgrow.tape.trans (a2.trans F.tape), hgrow.output.trans (a3.trans F.output), ?_, ?_⟩, ?_, ?_, ?_, ?_⟩
  · have := hgrow.size; simp [World.setCell]; omega
  · intro g h1 h2 h3
    rw [keep g (by omega) h2 ?_, F.block g h1 h2 h3]
    rcases hv4 with e | ⟨q, e, hq⟩
    · rw [e]; exact h3
    · rw [e]; intro e2; have := Option.some.inj e2; omega
  · unfold RdIs; simp [World.setCell, Array.getElem?_modify, kR]
  · rw [← List.append_assoc]; exact ownsRow_setCell_below hown5 (by show rb < rb + 1; omega) _
  · rcases hat5 with e | e
    · rcases hv4 with e2 | ⟨q, e2, hq⟩
      · exact .inl (by rw [← e2]; exact e)
      · rw [e2] at e; have := Option.some.inj e; exact .inr (by omega)
    · exact .inr (by omega)
  · rw [← List.append_assoc]
    refine .mk (v := av) (is := is) ?_ ?_ ?_ ?_ (owns_keep hav fun g hg => ?_) (fun g hg => ?_) (hrep.bounded.move _ (fun g hg => ?_) (fun g hg => ⟨hg.1.1, hne5 g hg.2 hg.1.2⟩))
    · rw [List.getElem?_append_right (by omega), hlen]; simp
    · rw [List.getElem?_append_right (by omega), hlen, show 4 * m + 1 - 4 * m = 1 by omega]; rfl
    · rw [List.getElem?_append_right (by omega), hlen, show 4 * m + 2 - 4 * m = 2 by omega]; rfl
    · rw [List.getElem?_append_right (by omega), hlen, show 4 * m + 3 - 4 * m = 3 by omega]; rfl
    · have h1 := hav2 g hg; exact keep g (hav.lt g hg).2 (by omega) h1.2
    · have h1 := hav2 g hg; exact ⟨h1.1, hne5 g (hav.lt g hg).2 h1.2⟩
    · have h1 := hg.1.1; exact keep g hg.2 (by omega) hg.1.2
end Go.Proofs.YtilfjpmeededmaaGreatDoor

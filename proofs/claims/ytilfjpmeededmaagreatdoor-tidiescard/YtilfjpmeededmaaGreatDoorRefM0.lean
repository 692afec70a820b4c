/- A round of the loop over the operands: what holds of the memory behind it. -/
import Derived.Test.YtilfjpmeededmaaGreatDoorRefL
namespace Go.Proofs.YtilfjpmeededmaaGreatDoor
open Go.RowKit

theorem Frm.trans {w wr w6 : World} {rb : Nat} {o o' : Option Nat} (h : Frm w wr rb o) (h2 : Frm wr w6 rb o') (hv : o' = o ∨ ∃ g, o' = some g ∧ w.heap.size ≤ g) : Frm w w6 rb o := by
  refine ⟨h2.os.trans h.os, h2.tape.trans h.tape, h2.output.trans h.output, Nat.le_trans h.size h2.size, fun g h3 h4 h5 => ?_⟩
  rw [h2.block g (Nat.lt_of_lt_of_le h3 h.size) h4 ?_, h.block g h3 h4 h5]
  rcases hv with e | ⟨q, e, hq⟩
  · rw [e]; exact h5
  · rw [e]; intro e2; have := Option.some.inj e2; omega
theorem Frm.undrew {w w' : World} {rb : Nat} {o : Option Nat} (h : Frm w.drew w' rb o) : Frm w w' rb o := ⟨h.os, h.tape, h.output, h.size, h.block⟩
theorem Frm.ofGrown {w w' : World} {rb : Nat} (h : w.grownBy w' (some rb)) (o : Option Nat) : Frm w w' rb o := ⟨h.os, h.tape, h.output, h.size, fun g h1 h2 _ => h.block g h1 (by simpa using h2)⟩
theorem blk4_set2 {x : World} {b : Nat} {a0 a1 a2 a3 : Value} {T : TypeId} (h : x.heap[b]? = some (.cells #[a0, a1, a2, a3] T (0, 0))) (v : Value) : (x.setCell ⟨b, 2, none⟩ v).heap[b]? = some (.cells #[a0, a1, v, a3] T (0, 0)) := by
  simp [World.setCell, Array.getElem?_modify, h]
theorem RepL.snoc {w : World} {S : Nat → Prop} {cs : List Value} {is : List Nat} {xs : List Tr} {i : Nat} {x : Tr} (h : RepL w S cs is xs) (k : Rep w S cs i x) : RepL w S cs (is ++ [i]) (xs ++ [x]) := by
  induction xs generalizing is with
  | nil => cases h; exact .cons k .nil
  | cons y ys ih => cases h with | cons a b => exact .cons a (ih b)

theorem ops_next {w wr w6 w7 : World} {o : Obj} {rb Nb m n' k' g6 cap6 g7 cap7 : Nat} {v vL vA : Value} {s : ByteArray} {cs ds ds' : List Value} {tx : Bs} {xs : List Tr} {is : List Nat} {x : Tr}
    (hrb : rb < w.heap.size) (hNw : w.heap.size ≤ Nb) (hsN : Nb < wr.heap.size) (hF : Frm w wr rb v.ownBlock) (hvL : vL.ownBlock = v.ownBlock ∨ ∃ g, vL.ownBlock = some g ∧ w.heap.size ≤ g) (hvN : vL.ownBlock ≠ some Nb)
    (hoA : wr.ownsRow (Nb + 1) 3 1 vA xs.length (is.map fun j : Nat => Value.int .i64 (j : Int))) (hvA : ∀ g, vA.ownBlock = some g → vL.ownBlock ≠ some g) (hoL : wr.ownsRow (rb + 1) 359 4 vL m (cs ++ ds))
    (hrep : RepL wr (fun q => Nb < q ∧ vL.ownBlock ≠ some q ∧ vA.ownBlock ≠ some q) (cs ++ ds) is xs)
    (hNb : wr.heap[Nb]? = some (.cells #[.string (ofBs tx), .bool true, vA, .int .u8 0] 359 (0, 0)))
    (h6 : Frm wr w6 rb vL.ownBlock) (hR6 : RdIs w6 rb s k' (.slice (some ⟨g6, 0, none⟩) (n' + 1) cap6)) (hoL6 : w6.ownsRow (rb + 1) 359 4 (.slice (some ⟨g6, 0, none⟩) (n' + 1) cap6) (n' + 1) (cs ++ ds ++ ds'))
    (hg6 : vL.ownBlock = some g6 ∨ wr.heap.size ≤ g6) (hrep6 : Rep w6 (fun q => wr.heap.size ≤ q ∧ q ≠ g6) (cs ++ ds ++ ds') n' x)
    (hgrow : (w6.alloc o).grownBy w7 vA.ownBlock) (hown7 : w7.ownsRow (Nb + 1) 3 1 (.slice (some ⟨g7, 0, none⟩) (xs.length + 1) cap7) (xs.length + 1) ((is.map fun j : Nat => Value.int .i64 (j : Int)) ++ [.int .i64 (n' : Int)]))
    (hat7 : vA.ownBlock = some g7 ∨ g7 = w6.heap.size + 1) :
    RdIs (w7.setCell ⟨Nb, 2, none⟩ (.slice (some ⟨g7, 0, none⟩) (xs.length + 1) cap7)) rb s k' (.slice (some ⟨g6, 0, none⟩) (n' + 1) cap6) ∧
    Frm w (w7.setCell ⟨Nb, 2, none⟩ (.slice (some ⟨g7, 0, none⟩) (xs.length + 1) cap7)) rb v.ownBlock ∧
    (w7.setCell ⟨Nb, 2, none⟩ (.slice (some ⟨g7, 0, none⟩) (xs.length + 1) cap7)).ownsRow (rb + 1) 359 4 (.slice (some ⟨g6, 0, none⟩) (n' + 1) cap6) (n' + 1) (cs ++ (ds ++ ds')) ∧
    (some g6 = v.ownBlock ∨ ∃ g, some g6 = some g ∧ w.heap.size ≤ g) ∧ some g6 ≠ some Nb ∧
    (w7.setCell ⟨Nb, 2, none⟩ (.slice (some ⟨g7, 0, none⟩) (xs.length + 1) cap7)).heap[Nb]? = some (.cells #[.string (ofBs tx), .bool true, .slice (some ⟨g7, 0, none⟩) (xs.length + 1) cap7, .int .u8 0] 359 (0, 0)) ∧
    (w7.setCell ⟨Nb, 2, none⟩ (.slice (some ⟨g7, 0, none⟩) (xs.length + 1) cap7)).ownsRow (Nb + 1) 3 1 (.slice (some ⟨g7, 0, none⟩) (xs.length + 1) cap7) (xs ++ [x]).length ((is ++ [n']).map fun j : Nat => Value.int .i64 (j : Int)) ∧
    (∀ g, some g7 = some g → some g6 ≠ some g) ∧
    RepL (w7.setCell ⟨Nb, 2, none⟩ (.slice (some ⟨g7, 0, none⟩) (xs.length + 1) cap7)) (fun q => Nb < q ∧ some g6 ≠ some q ∧ some g7 ≠ some q) (cs ++ (ds ++ ds')) (is ++ [n']) (xs ++ [x]) := by
  have s6 := h6.size
  have sF := hF.size
  have hA : ∀ g, vA.ownBlock = some g → Nb < g ∧ g < wr.heap.size := fun g hg => by have := hoA.lt g hg; omega
  have hL : ∀ g, vL.ownBlock = some g → rb < g ∧ g < wr.heap.size := fun g hg => by have := hoL.lt g hg; omega
  have h6lt : g6 < w6.heap.size := (hoL6.lt g6 rfl).2
  have keep : ∀ g, g < w6.heap.size → g ≠ Nb → vA.ownBlock ≠ some g → (w7.setCell ⟨Nb, 2, none⟩ (.slice (some ⟨g7, 0, none⟩) (xs.length + 1) cap7)).heap[g]? = w6.heap[g]? := by
    intro g h1 h2 h3
    rw [Below.heap_setCell _ _ _ _ h2, hgrow.block g (by simp; omega) (fun e => h3 e.symm), Below.heap_alloc _ _ _ h1]
  have g6A : vA.ownBlock ≠ some g6 := by
    intro e
    rcases hg6 with e2 | e2
    · exact hvA g6 e e2
    · have := hA g6 e; omega
  have g6N : g6 ≠ Nb := by
    intro e
    rcases hg6 with e2 | e2
    · exact hvN (by rw [e2, e])
    · omega
  have g67 : g6 ≠ g7 := by
    intro e
    rcases hat7 with e2 | e2
    · exact g6A (by rw [e2, e])
    · omega
  refine ⟨?_, ?_, ?_, ?_, (fun e => g6N (Option.some.inj e)), ?_, ?_, (fun g e e2 => g67 (by rw [Option.some.inj e, Option.some.inj e2])), ?_⟩
  · unfold RdIs; rw [keep rb (block_lt hR6) (by omega) (fun e => by have := hA rb e; omega)]; exact hR6
  · refine ⟨hgrow.os.trans (h6.os.trans hF.os), hgrow.tape.trans (h6.tape.trans hF.tape), hgrow.output.trans (h6.output.trans hF.output), ?_, fun g h1 h2 h3 => ?_⟩
    · have := hgrow.size; simp [World.setCell] at this ⊢; omega
    · rw [keep g (by omega) (by omega) (fun e => by have := hA g e; omega), (hF.trans h6 hvL).block g h1 h2 h3]
  · rw [← List.append_assoc]; exact owns_keep hoL6 fun g hg => by
      have : g6 = g := Option.some.inj hg
      subst this; exact keep g6 h6lt g6N g6A
  · rcases hg6 with e | e
    · rcases hvL with e2 | ⟨q, e2, hq⟩
      · exact .inl (by rw [← e2, e])
      · exact .inr ⟨g6, rfl, by rw [e] at e2; have := Option.some.inj e2; omega⟩
    · exact .inr ⟨g6, rfl, by omega⟩
  · refine blk4_set2 (a2 := vA) ?_ _
    rw [hgrow.block Nb (by simp; omega) (fun e => by have := hA Nb e.symm; omega), Below.heap_alloc _ _ _ (by omega), h6.block Nb hsN (by omega) hvN]; exact hNb
  · rw [List.map_append, List.length_append]; exact ownsRow_setCell_below hown7 (by show Nb < Nb + 1; omega) _
  · rw [← List.append_assoc]
    refine RepL.snoc ?_ ?_
    · refine hrep.bounded.move ds' (fun q hq => ?_) (fun q hq => ⟨hq.1.1, ?_, ?_⟩)
      · have h1 := hq.1.1
        rw [keep q (by have := hq.2; omega) (by omega) hq.1.2.2, h6.block q hq.2 (by omega) hq.1.2.1]
      · intro e; have e := Option.some.inj e; subst e
        rcases hg6 with e2 | e2
        · exact hq.1.2.1 e2
        · have := hq.2; omega
      · intro e; have e := Option.some.inj e; subst e
        rcases hat7 with e2 | e2
        · exact hq.1.2.2 e2
        · have := hq.2; omega
    · have := hrep6.bounded.move (x := w7.setCell ⟨Nb, 2, none⟩ (.slice (some ⟨g7, 0, none⟩) (xs.length + 1) cap7)) (S' := fun q => Nb < q ∧ some g6 ≠ some q ∧ some g7 ≠ some q) [] (fun q hq => ?_) (fun q hq => ⟨by have := hq.1.1; omega, fun e => hq.1.2 (Option.some.inj e).symm, fun e => ?_⟩)
      · rwa [List.append_nil] at this
      · have h1 := hq.1.1
        exact keep q hq.2 (by omega) (fun e => by have := hA q e; omega)
      · have e := Option.some.inj e; subst e
        have h1 := hq.1.1
        have h2 := hq.2
        rcases hat7 with e2 | e2
        · have := hA g7 e2; omega
        · omega

end Go.Proofs.YtilfjpmeededmaaGreatDoor

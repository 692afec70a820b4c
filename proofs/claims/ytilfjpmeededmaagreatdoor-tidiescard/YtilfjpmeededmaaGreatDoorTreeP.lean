/- Expressions as trees: how tokens are read, as plain functions; a tree in memory. -/
import Derived.Test.YtilfjpmeededmaaGreatDoorRead
import Derived.Maps.AppendAt
namespace Go.Proofs.YtilfjpmeededmaaGreatDoor
open Go.RowKit

inductive Tr where
  | mk (k : Int) (tx : Bs) (br : Bool) (ops : List Tr)

mutual
def treeF : Nat → Nat → List Tk → Option (Tr × List Tk)
  | 0, _, _ => none
  | _ + 1, _, [] => none
  | f + 1, deep, t :: r => if t.1 = 1 then brF f (deep + 1) r else if aloneS t.1 t.2 then some (.mk t.1 t.2 false [], r) else none
def brF : Nat → Nat → List Tk → Option (Tr × List Tk)
  | 0, _, _ => none
  | _ + 1, _, [] => none
  | f + 1, deep, h :: r => if 20 < deep then none else if headS h.1 h.2 then (opsF f deep r).map (fun p => (.mk h.1 h.2 true p.1, p.2)) else none
def opsF : Nat → Nat → List Tk → Option (List Tr × List Tk)
  | 0, _, _ => none
  | _ + 1, _, [] => none
  | f + 1, deep, t :: r => if t.1 = 2 then some ([], r) else
      match treeF f deep (t :: r) with
      | none => none
      | some (x, r') => (opsF f deep r').map (fun p => (x :: p.1, p.2))
end

mutual
inductive IsTr (w : World) (S : Nat → Prop) : List Value → Tr → Prop
  | mk {k : Int} {tx : Bs} {br : Bool} {ops : List Tr} {v : Value} {cs : List Value} : IsTrs w S cs ops → w.ownsRow 0 236 4 v ops.length cs → (∀ g, v.ownBlock = some g → S g) →
      IsTr w S [.int .i64 k, .string (ofBs tx), .bool br, v] (.mk k tx br ops)
inductive IsTrs (w : World) (S : Nat → Prop) : List Value → List Tr → Prop
  | nil : IsTrs w S [] []
  | cons {c cs : List Value} {t : Tr} {ts : List Tr} : IsTr w S c t → IsTrs w S cs ts → IsTrs w S (c ++ cs) (t :: ts)
end

theorem owns_base {w : World} {b b' n size : Nat} {e : TypeId} {v : Value} {xs : List Value} (h : w.ownsRow b e size v n xs) (hb : ∀ g, v.ownBlock = some g → b' ≤ g) : w.ownsRow b' e size v n xs := by
  refine ⟨h.1, ?_⟩
  rcases h.2 with h | ⟨g, cap, cur, rfl, _, h⟩
  · exact .inl h
  · exact .inr ⟨g, cap, cur, rfl, hb g rfl, h⟩
theorem owns_keep {w x : World} {b n size : Nat} {e : TypeId} {v : Value} {xs : List Value} (h : w.ownsRow b e size v n xs) (hb : ∀ g, v.ownBlock = some g → x.heap[g]? = w.heap[g]?) : x.ownsRow b e size v n xs := by
  refine ⟨h.1, ?_⟩
  rcases h.2 with h | ⟨g, cap, cur, rfl, h1, h2, h⟩
  · exact .inl h
  · exact .inr ⟨g, cap, cur, rfl, h1, by rw [hb g rfl]; exact h2, h⟩

mutual
theorem IsTr.move {w x : World} {S S' : Nat → Prop} (hk : ∀ g, S g → x.heap[g]? = w.heap[g]?) (hs : ∀ g, S g → S' g) : ∀ {c : List Value} {t : Tr}, IsTr w S c t → IsTr x S' c t
  | _, _, .mk a b d => .mk (IsTrs.move hk hs a) (owns_keep b fun g hg => hk g (d g hg)) fun g hg => hs g (d g hg)
theorem IsTrs.move {w x : World} {S S' : Nat → Prop} (hk : ∀ g, S g → x.heap[g]? = w.heap[g]?) (hs : ∀ g, S g → S' g) : ∀ {c : List Value} {t : List Tr}, IsTrs w S c t → IsTrs x S' c t
  | _, _, .nil => .nil
  | _, _, .cons a b => .cons (IsTr.move hk hs a) (IsTrs.move hk hs b)
end
theorem IsTr.four {w : World} {S : Nat → Prop} {c : List Value} {t : Tr} (h : IsTr w S c t) : c.length = 4 := by cases h; rfl
theorem IsTrs.len {w : World} {S : Nat → Prop} {c : List Value} {t : List Tr} (h : IsTrs w S c t) : c.length = t.length * 4 := by
  induction t generalizing c with
  | nil => cases h; rfl
  | cons t ts ih =>
    cases h with
    | cons a b => rw [List.length_append, a.four, ih b]; simp; omega
theorem IsTrs.snoc {w : World} {S : Nat → Prop} {c d : List Value} {t : List Tr} {u : Tr} (h : IsTrs w S c t) (k : IsTr w S d u) : IsTrs w S (c ++ d) (t ++ [u]) := by
  induction t generalizing c with
  | nil => cases h; have := IsTrs.cons k IsTrs.nil; simpa using this
  | cons t ts ih =>
    cases h with
    | cons a b => rw [List.append_assoc]; exact .cons a (ih b)
theorem IsTr.leaf (w : World) (S : Nat → Prop) (k : Int) (tx : Bs) (br : Bool) : IsTr w S [.int .i64 k, .string (ofBs tx), .bool br, .slice none 0 0] (.mk k tx br []) :=
  .mk .nil (World.ownsRow_nil _ _ _ _) (fun g hg => by cases hg)
theorem IsTr.bounded {w : World} {S : Nat → Prop} {c : List Value} {t : Tr} : IsTr w S c t → IsTr w (fun g => S g ∧ g < w.heap.size) c t := by
  intro h
  have key : (∀ {c : List Value} {t : Tr}, IsTr w S c t → IsTr w (fun g => S g ∧ g < w.heap.size) c t) := by
    intro c t h
    refine IsTr.rec (motive_1 := fun c t _ => IsTr w (fun g => S g ∧ g < w.heap.size) c t) (motive_2 := fun c t _ => IsTrs w (fun g => S g ∧ g < w.heap.size) c t) ?_ ?_ ?_ h
    · intro k tx br ops v cs _ hown hS ih
      exact .mk ih hown fun g hg => ⟨hS g hg, (hown.lt g hg).2⟩
    · exact .nil
    · intro c cs t ts _ _ i1 i2; exact .cons i1 i2
  exact key h
theorem IsTrs.bounded {w : World} {S : Nat → Prop} {c : List Value} {t : List Tr} (h : IsTrs w S c t) : IsTrs w (fun g => S g ∧ g < w.heap.size) c t := by
  induction t generalizing c with
  | nil => cases h; exact .nil
  | cons t ts ih =>
    cases h with
    | cons a b => exact .cons a.bounded (ih b)

theorem ops_step {wr w5 w6 : World} {rb Tb : Nat} {v v' : Value} {cs news : List Value} {xs : List Tr} {x : Tr} (o1 o2 : Obj)
    (hrb : rb < Tb) (hTb : Tb < wr.heap.size) (hown : wr.ownsRow (Tb + 1) 236 4 v xs.length cs) (hxs : IsTrs wr (fun g => Tb < g ∧ v.ownBlock ≠ some g) cs xs)
    (hg5 : wr.grownBy w5 (some rb)) (hx : IsTr w5 (fun g => wr.heap.size ≤ g) news x)
    (hown' : w6.ownsRow (Tb + 1) 236 4 v' (xs.length + 1) (cs ++ news)) (hg6 : ((w5.alloc o1).alloc o2).grownBy w6 v.ownBlock)
    (hat : v'.ownBlock = v.ownBlock ∨ v'.ownBlock = some ((w5.alloc o1).alloc o2).heap.size) :
    IsTrs (w6.setCell ⟨Tb, 3, none⟩ v') (fun g => Tb < g ∧ v'.ownBlock ≠ some g) (cs ++ news) (xs ++ [x]) ∧
    (w6.setCell ⟨Tb, 3, none⟩ v').ownsRow (Tb + 1) 236 4 v' (xs ++ [x]).length (cs ++ news) ∧
    (∀ g, g < wr.heap.size → g ≠ rb → v.ownBlock ≠ some g → w6.heap[g]? = wr.heap[g]?) ∧
    (∀ g, g < w5.heap.size → v.ownBlock ≠ some g → w6.heap[g]? = w5.heap[g]?) := by
  have s5 := hg5.size
  have s6 : ((w5.alloc o1).alloc o2).heap.size = w5.heap.size + 2 := by simp
  have keep : ∀ g, g < w5.heap.size → v.ownBlock ≠ some g → w6.heap[g]? = w5.heap[g]? := by
    intro g h1 h2
    rw [hg6.block g (by omega) (fun e => h2 e.symm), Below.heap_alloc _ _ _ (by simp; omega), Below.heap_alloc _ _ _ h1]
  have keep5 : ∀ g, g < wr.heap.size → g ≠ rb → v.ownBlock ≠ some g → w6.heap[g]? = wr.heap[g]? := by
    intro g h1 h2 h3
    rw [keep g (by omega) h3, hg5.block g h1 (by simpa using h2)]
  have vlt : ∀ g, v.ownBlock = some g → g < wr.heap.size := fun g hg => (hown.lt g hg).2
  refine ⟨IsTrs.snoc ?_ ?_, ?_, keep5, keep⟩
  · refine hxs.bounded.move (fun g hg => ?_) (fun g hg => ⟨hg.1.1, ?_⟩)
    · rw [Below.heap_setCell _ _ _ _ (by show g ≠ Tb; have := hg.1.1; omega), keep5 g hg.2 (by have := hg.1.1; omega) hg.1.2]
    · rcases hat with e | e
      · rw [e]; exact hg.1.2
      · rw [e, s6]; intro e2; have e3 := Option.some.inj e2; have := hg.2; omega
  · refine hx.bounded.move (fun g hg => ?_) (fun g hg => ⟨by have := hg.1; omega, ?_⟩)
    · rw [Below.heap_setCell _ _ _ _ (by show g ≠ Tb; have := hg.1; omega), keep g hg.2 (fun e => by have := vlt g e; have := hg.1; omega)]
    · rcases hat with e | e
      · rw [e]; intro e2; have := vlt g e2; have := hg.1; omega
      · rw [e, s6]; intro e2; have e3 := Option.some.inj e2; have := hg.2; omega
  · rw [List.length_append]
    exact ownsRow_setCell_below hown' (by show Tb < Tb + 1; omega) _
theorem grown_on {w wr w5 W w6 : World} {rb : Nat} {row : Option Nat} (h : w.grownBy wr (some rb)) (h5 : wr.grownBy w5 (some rb)) (hW : W.os = w5.os ∧ W.tape = w5.tape ∧ W.output = w5.output ∧ w5.heap.size ≤ W.heap.size) (h6 : W.grownBy w6 row)
    (hr : ∀ g, row = some g → w.heap.size ≤ g) (hk : ∀ g, g < wr.heap.size → g ≠ rb → row ≠ some g → w6.heap[g]? = wr.heap[g]?) : w.grownBy w6 (some rb) := by
  obtain ⟨a, b, c, d⟩ := hW
  refine ⟨h6.os.trans (a.trans (h5.os.trans h.os)), h6.tape.trans (b.trans (h5.tape.trans h.tape)), h6.output.trans (c.trans (h5.output.trans h.output)), Nat.le_trans h.size (Nat.le_trans h5.size (Nat.le_trans d h6.size)), fun k hk1 hk2 => ?_⟩
  rw [hk k (Nat.lt_of_lt_of_le hk1 h.size) (fun e => hk2 (by rw [e])) (fun e => by have := hr k e; omega)]
  exact h.block k hk1 hk2
end Go.Proofs.YtilfjpmeededmaaGreatDoor

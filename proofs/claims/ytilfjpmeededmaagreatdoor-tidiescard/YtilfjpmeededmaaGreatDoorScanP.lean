/- The text taken apart into tokens, as a plain function. -/
import Derived.Test.YtilfjpmeededmaaGreatDoorPiece
namespace Go.Proofs.YtilfjpmeededmaaGreatDoor
open Go.RowKit

abbrev Tk := Int × Bs
def ofBs (l : Bs) : ByteArray := ⟨l.toArray⟩
theorem ofBs_toList (l : Bs) : (ofBs l).toList = l := mk_toList l
theorem ba_eq (s : ByteArray) : s = ofBs s.toList := by
  unfold ofBs; rw [ByteArray.toList_eq]
theorem ofBs_size (l : Bs) : (ofBs l).size = l.length := mk_size l
def tokCells (t : Tk) : List Value := [.int .i64 t.1, .string (ofBs t.2)]
def toksCells (ts : List Tk) : List Value := ts.flatMap tokCells
theorem toksCells_length (ts : List Tk) : (toksCells ts).length = ts.length * 2 := by
  induction ts with
  | nil => rfl
  | cons t r ih => simp only [toksCells, List.flatMap_cons, List.length_append] at ih ⊢; rw [ih]; simp [tokCells]; omega
theorem toksCells_append (a b : List Tk) : toksCells (a ++ b) = toksCells a ++ toksCells b := by simp [toksCells]
theorem toksCells_one (t : Tk) : toksCells [t] = tokCells t := by simp [toksCells]

def scanF : Nat → Bs → Option (List Tk)
  | 0, _ => some []
  | f + 1, l => if l.length = 0 then some [] else if blankB (l.headD 0).toNat then scanF f (l.drop 1) else
      if kindS (l.take (plen l)) = 0 then none else (scanF f (l.drop (plen l))).map ((kindS (l.take (plen l)), l.take (plen l)) :: ·)
def scanS (l : Bs) : Option (List Tk) := scanF l.length l

theorem qlen_pos (l : Bs) : plen l = 1 ∨ plen l = qlen l + ((l.drop (qlen l)).takeWhile notSep).length := by
  unfold plen; split
  · exact .inl rfl
  · exact .inr rfl
theorem plen_pos (l : Bs) (h : 0 < l.length) (hb : blankB (l.headD 0).toNat = false) : 0 < plen l := by
  unfold plen
  split
  · omega
  · next hbr =>
    rw [Bool.not_eq_true] at hbr
    by_cases hq : qlen l = 0
    · rw [hq]
      cases l with
      | nil => simp at h
      | cons c r =>
        have : notSep c = true := by simp only [List.headD_cons] at hb hbr; simp [notSep, hb, hbr]
        rw [List.drop_zero, List.takeWhile_cons, this]; simp
    · omega
theorem plen_le (l : Bs) (h : 0 < l.length) : plen l ≤ l.length := by
  rcases qlen_pos l with e | e
  · omega
  · have := tw_le (l.drop (qlen l)) notSep
    have hq := qlen_le l
    rw [List.length_drop] at this
    omega
theorem scanF_fuel : ∀ (f : Nat) (l : Bs), l.length ≤ f → scanF f l = scanS l := by
  have key : ∀ (n f g : Nat) (l : Bs), l.length ≤ n → l.length ≤ f → l.length ≤ g → scanF f l = scanF g l := by
    intro n
    induction n with
    | zero =>
      intro f g l h _ _
      have hl : l.length = 0 := by omega
      cases f <;> cases g <;> simp [scanF, hl]
    | succ n ih =>
      intro f g l h hf hg
      cases f with
      | zero =>
        have hl : l.length = 0 := by omega
        cases g <;> simp [scanF, hl]
      | succ f =>
        cases g with
        | zero =>
          have hl : l.length = 0 := by omega
          simp [scanF, hl]
        | succ g =>
          rw [scanF, scanF]
          by_cases hl : l.length = 0
          · rw [if_pos hl, if_pos hl]
          · rw [if_neg hl, if_neg hl]
            cases hb : blankB (l.headD 0).toNat with
            | true => rw [if_pos rfl, if_pos rfl]; exact ih f g _ (by simp; omega) (by simp; omega) (by simp; omega)
            | false =>
              have hp := plen_pos l (by omega) hb
              rw [if_neg Bool.false_ne_true, if_neg Bool.false_ne_true, ih f g (l.drop (plen l)) (by simp; omega) (by simp; omega) (by simp; omega)]
  intro f l h
  exact key l.length f l.length l (Nat.le_refl _) h (Nat.le_refl _)
theorem scanS_nil (l : Bs) (h : l.length = 0) : scanS l = some [] := by rw [scanS, h, scanF]
theorem scanS_eq (l : Bs) (h : 0 < l.length) : scanS l = if blankB (l.headD 0).toNat then scanS (l.drop 1) else
      if kindS (l.take (plen l)) = 0 then none else (scanS (l.drop (plen l))).map ((kindS (l.take (plen l)), l.take (plen l)) :: ·) := by
  obtain ⟨n, hn⟩ : ∃ n, l.length = n + 1 := ⟨l.length - 1, by omega⟩
  rw [scanS, hn, scanF, if_neg (by omega)]
  cases hb : blankB (l.headD 0).toNat with
  | true => rw [if_pos rfl, if_pos rfl]; exact scanF_fuel _ _ (by simp; omega)
  | false =>
    have hp := plen_pos l (by omega) hb
    rw [if_neg Bool.false_ne_true, if_neg Bool.false_ne_true, scanF_fuel n (l.drop (plen l)) (by simp; omega)]
theorem map_cons_append (o : Option (List Tk)) (a : List Tk) (t : Tk) : (o.map (t :: ·)).map (a ++ ·) = o.map ((a ++ [t]) ++ ·) := by
  cases o <;> simp

theorem ownsRow_below {w w' : World} {base n : Nat} {e : TypeId} {size : Nat} {v : Value} {xs : List Value} (h : w.ownsRow base e size v n xs) (hb : Below w.heap.size w w') : w'.ownsRow base e size v n xs :=
  h.kept (row := none) ⟨hb.os, hb.tape, hb.output, hb.size, fun k hk _ => hb.block k hk⟩ (by
    cases hv : v.ownBlock with
    | none => exact .inl rfl
    | some k => exact .inr (by simp))
end Go.Proofs.YtilfjpmeededmaaGreatDoor

/- Package curtainref's reading of an expression, as a plain function; it reads what package expr reads. -/
import Derived.Test.YtilfjpmeededmaaGreatDoorRefP
namespace Go.Proofs.YtilfjpmeededmaaGreatDoor

def skS (l : Bs) : Bs := l.drop (skN l)
def tokS (l : Bs) : Bs × Bs := if l.length = 0 ∨ bracketB (l.headD 0).toNat = true then ([], l) else (tkText l, skS (l.drop (tkLen l)))
mutual
def oneS : Nat → Nat → Bs → Option (Tr × Bs)
  | 0, _, _ => none
  | f + 1, deep, l =>
    if (skS l).headD 0 == 40 then
      (if headR (tokS (skS ((skS l).drop 1))).1 && decide (deep < 20) then
        (opsR f (deep + 1) (tokS (skS ((skS l).drop 1))).2).map (fun p => (Tr.mk (kindS (tokS (skS ((skS l).drop 1))).1) (tokS (skS ((skS l).drop 1))).1 true p.1, skS (p.2.drop 1)))
      else none)
    else if atomS (tokS (skS l)).1 then some (Tr.mk (kindS (tokS (skS l)).1) (tokS (skS l)).1 false [], (tokS (skS l)).2) else none
def opsR : Nat → Nat → Bs → Option (List Tr × Bs)
  | 0, _, _ => none
  | f + 1, deep, l =>
    if l.length = 0 then none else if l.headD 0 == 41 then some ([], l) else
      match oneS f deep l with
      | none => none
      | some (x, r) => (opsR f deep r).map (fun p => (x :: p.1, p.2))
end

theorem sk_zero (l : Bs) : skN (skS l) = 0 := by
  unfold skS skN
  rw [(tw_len_drop l isBl).2]
  cases hd : l.dropWhile isBl with
  | nil => rfl
  | cons c r =>
    have : isBl c = false := by
      have := List.head?_dropWhile_not (p := isBl) l
      rw [hd] at this; simpa using this
    rw [List.takeWhile_cons, this]; rfl
theorem sk_head {l : Bs} (h : skN l = 0) (h0 : 0 < l.length) : blankB (l.headD 0).toNat = false := by
  cases l with
  | nil => simp at h0
  | cons c r =>
    unfold skN at h
    rw [List.takeWhile_cons] at h
    cases hb : isBl c with
    | true => rw [hb] at h; simp at h
    | false => exact hb
theorem scan_sk (l : Bs) : scanS (skS l) = scanS l := by
  have e : l = l.takeWhile isBl ++ skS l := by unfold skS skN; rw [(tw_len_drop l isBl).2]; exact tw_append l isBl
  have hb : blanksB (l.takeWhile isBl) = true := List.all_takeWhile
  have := scan_blanks (l.takeWhile isBl) (skS l) hb
  rw [← e] at this; exact this.symm
theorem sk_len (l : Bs) : (skS l).length ≤ l.length := by unfold skS; simp
theorem head_cons {l : Bs} {c : UInt8} (hc : c ≠ 0) (h : l.headD 0 = c) : l = c :: l.drop 1 := by
  cases l with
  | nil => simp at h; exact absurd h.symm hc
  | cons d r => simp at h; subst h; rfl
theorem scan_br {c : UInt8} (hc : c = 40 ∨ c = 41) (r : Bs) : scanS (c :: r) = (scanS r).map ((kindS [c], [c]) :: ·) := by
  have hp : plen ([c] ++ r) = ([c] : Bs).length := by
    unfold plen; rw [if_pos]; rfl
    rcases hc with rfl | rfl <;> rfl
  have := scan_one [c] r (by simp) (by rcases hc with rfl | rfl <;> rfl) hp
  rw [if_neg (by rcases hc with rfl | rfl <;> decide)] at this
  exact this
/-- At what is neither blank nor a bracket. -/
theorem scan_tk {l : Bs} (h0 : 0 < l.length) (hs : sepB (l.headD 0) = false) (ht : tkText l ≠ []) (hk : kindS (tkText l) ≠ 0) :
    scanS l = (scanS (skS (l.drop (tkLen l)))).map ((kindS (tkText l), tkText l) :: ·) ∧ Good (tkText l) := by
  obtain ⟨r, e, g, he, hr⟩ := good_of_tk h0 hs ht hk
  have h1 := scan_one (tkText l) r (good_pos g) (sep_split (good_head g)).1 (good_plen g he)
  rw [← e, if_neg hk] at h1
  rw [h1, scan_sk, ← hr]
  exact ⟨rfl, g⟩
theorem map_map_app (o : Option (List Tk)) (a b : List Tk) : (o.map (b ++ ·)).map (a ++ ·) = o.map ((a ++ b) ++ ·) := by cases o <;> simp
theorem map_cons_app (o : Option (List Tk)) (a : Tk) (b : List Tk) : (o.map (b ++ ·)).map (a :: ·) = o.map ((a :: b) ++ ·) := by cases o <;> simp
theorem head_kind {l : Bs} (hl : bracketB (l.headD 0).toNat = false) (h : headR l = true) : kindS l ≠ 0 ∧ l ≠ [] ∧ headS (kindS l) l = true := by
  have e := head_same hl
  rw [h] at e
  refine ⟨?_, ?_, e⟩
  · intro h0; rw [h0] at e; simp [headS] at e
  · intro h0; subst h0; cases h
theorem atom_kind {l : Bs} (hl : bracketB (l.headD 0).toNat = false) (h : atomS l = true) : kindS l ≠ 0 ∧ l ≠ [] ∧ aloneS (kindS l) l = true ∧ ¬ kindS l = 1 ∧ ¬ kindS l = 2 := by
  have e := atom_same hl
  rw [h] at e
  have hb : (l == [40]) = false ∧ (l == [41]) = false := by
    constructor
    · rw [Bool.eq_false_iff]; intro h; rw [beq_iff_eq] at h; subst h; cases hl
    · rw [Bool.eq_false_iff]; intro h; rw [beq_iff_eq] at h; subst h; cases hl
  have hk : kindS l ≠ 1 ∧ kindS l ≠ 2 ∧ (kindS l = 0 → valS l = false) := by
    unfold kindS
    rw [hb.1, hb.2, if_neg Bool.false_ne_true, if_neg Bool.false_ne_true]
    refine ⟨?_, ?_, ?_⟩
    · repeat (first | (split; decide) | decide)
      all_goals (repeat split) <;> decide
    · repeat (first | (split; decide) | decide)
      all_goals (repeat split) <;> decide
    · intro h0
      cases hv : valS l with
      | false => rfl
      | true =>
        have hw := val_word hv
        have f := word_facts hw
        rw [f.1, f.2.1, f.2.2.1, f.2.2.2.1, hw] at h0
        simp at h0
  refine ⟨?_, ?_, e, hk.1, hk.2.1⟩
  · intro h0
    rw [h0] at e
    unfold aloneS at e
    rw [hk.2.2 h0] at e; simp at e
  · intro h0; subst h0; cases h
end Go.Proofs.YtilfjpmeededmaaGreatDoor

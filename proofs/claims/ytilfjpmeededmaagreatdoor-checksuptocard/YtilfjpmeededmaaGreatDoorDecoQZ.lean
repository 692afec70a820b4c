import Derived.Test.YtilfjpmeededmaaGreatDoorColZ
import Derived.Test.YtilfjpmeededmaaGreatDoorParseZ
import Derived.Shelf.Strings.BuilderK
set_option linter.unusedVariables false
set_option linter.unusedSimpArgs false
namespace Go.Proofs.YtilfjpmeededmaaGreatDoor
open Go.RowKit
end Go.Proofs.YtilfjpmeededmaaGreatDoor

namespace Go.Proofs.YtilfjpmeededmaaGreatDoor
open Go.RowKit
theorem IsTrs.get {w : World} {S : Nat → Prop} {cs : List Value} {ts : List Tr} (h : IsTrs w S cs ts) (i : Nat) (hi : i < ts.length) : ∃ c, IsTr w S c ts[i] ∧ ∀ j, j < 4 → cs[i * 4 + j]? = c[j]? := by
  induction ts generalizing cs i with
  | nil => simp at hi
  | cons t ts ih =>
    cases h with
    | @cons c cs _ _ a b =>
      cases i with
      | zero => exact ⟨c, a, fun j hj => by rw [List.getElem?_append_left (by rw [a.four]; omega)]; simp⟩
      | succ i =>
        obtain ⟨d, hd, hj⟩ := ih b i (by simpa using hi)
        refine ⟨d, hd, fun j hj4 => ?_⟩
        rw [← hj j hj4, List.getElem?_append_right (by rw [a.four]; omega), a.four]
        congr 1; omega
theorem IsTr.inv {w : World} {S : Nat → Prop} {c : List Value} {t : Tr} (h : IsTr w S c t) : ∃ k tx br ops ao n cap cs, t = .mk k tx br ops ∧ c = [.int .i64 k, .string (ofBs tx), .bool br, .slice ao n cap] ∧ n = ops.length ∧ IsTrs w S cs ops ∧
    w.ownsRow 0 236 4 (.slice ao n cap) ops.length cs ∧ ∀ g, (Value.slice ao n cap).ownBlock = some g → S g := by
  cases h with
  | @mk k tx br ops v cs a b d =>
    rcases b.2 with ⟨rfl, h0⟩ | ⟨g, cap, cur, rfl, hr⟩
    · exact ⟨k, tx, br, ops, none, 0, 0, cs, rfl, rfl, h0.symm, a, b, d⟩
    · exact ⟨k, tx, br, ops, _, _, _, cs, rfl, rfl, rfl, a, b, d⟩
end Go.Proofs.YtilfjpmeededmaaGreatDoor

namespace Go.Proofs.YtilfjpmeededmaaGreatDoor
open Go.RowKit
end Go.Proofs.YtilfjpmeededmaaGreatDoor

namespace Go.Proofs.YtilfjpmeededmaaGreatDoor
mutual
def dep : Tr → Nat
  | .mk _ _ br ops => if br then 1 + depL ops else 0
def depL : List Tr → Nat
  | [] => 0
  | t :: ts => max (dep t) (depL ts)
end
def blanksB (l : Bs) : Bool := l.all fun c => blankB c.toNat
def sepB (c : UInt8) : Bool := blankB c.toNat || bracketB c.toNat
def endOK (r : Bs) : Prop := r = [] ∨ sepB (r.headD 0) = true
def Good (tx : Bs) : Prop := (tx ≠ [] ∧ tx.all (fun c => !sepB c && c != 39) = true) ∨ (∃ inner : Bs, tx = 39 :: (inner ++ [39]) ∧ inner.all (fun c => c != 39) = true)
theorem blanksB_cons (c : UInt8) (l : Bs) : blanksB (c :: l) = (blankB c.toNat && blanksB l) := rfl
theorem scan_blanks (b l : Bs) (h : blanksB b = true) : scanS (b ++ l) = scanS l := by
  induction b with
  | nil => rfl
  | cons c r ih =>
    rw [blanksB_cons, Bool.and_eq_true] at h
    rw [scanS_eq _ (by simp)]
    simp only [List.cons_append, List.headD_cons, h.1, if_true, List.drop_succ_cons, List.drop_zero]
    exact ih h.2
theorem scan_one (tx r : Bs) (h0 : 0 < tx.length) (hb : blankB (tx.headD 0).toNat = false) (hp : plen (tx ++ r) = tx.length) : scanS (tx ++ r) = if kindS tx = 0 then none else (scanS r).map ((kindS tx, tx) :: ·) := by
  have hh : (tx ++ r).headD 0 = tx.headD 0 := by cases tx with | nil => simp at h0 | cons _ _ => rfl
  rw [scanS_eq _ (by simp; omega), hh, hb, if_neg Bool.false_ne_true, hp, List.take_left, List.drop_left]
theorem sep_notSep (c : UInt8) : notSep c = !sepB c := by simp [notSep, sepB]
theorem tw_end2 (r : Bs) (h : endOK r) : r.takeWhile notSep = [] := by
  rcases h with rfl | h
  · rfl
  · cases r with
    | nil => rfl
    | cons c r =>
      have : notSep c = false := by rw [sep_notSep]; simp only [List.headD_cons] at h; rw [h]; rfl
      rw [List.takeWhile_cons, this]; rfl
theorem tw_all (tx r : Bs) (h : tx.all notSep = true) (he : endOK r) : (tx ++ r).takeWhile notSep = tx := by
  induction tx with
  | nil => exact tw_end2 r he
  | cons c t ih =>
    rw [List.all_cons, Bool.and_eq_true] at h
    rw [List.cons_append, List.takeWhile_cons, h.1, if_pos rfl, ih h.2]
theorem tw39 (inner r : Bs) (h : inner.all (fun c => c != 39) = true) : (inner ++ 39 :: r).takeWhile (· != 39) = inner := by
  induction inner with
  | nil => rfl
  | cons c t ih =>
    rw [List.all_cons, Bool.and_eq_true] at h
    rw [List.cons_append, List.takeWhile_cons, h.1, if_pos rfl, ih h.2]
theorem good_pos {tx : Bs} (h : Good tx) : 0 < tx.length := by
  rcases h with ⟨h, _⟩ | ⟨i, rfl, _⟩
  · exact List.length_pos_iff.mpr h
  · simp
theorem good_head {tx : Bs} (h : Good tx) : sepB (tx.headD 0) = false := by
  rcases h with ⟨h, h2⟩ | ⟨i, rfl, _⟩
  · cases tx with
    | nil => exact absurd rfl h
    | cons c t => rw [List.all_cons, Bool.and_eq_true] at h2; have := h2.1; simp at this; simpa using this.1
  · rfl
theorem sep_split {c : UInt8} (h : sepB c = false) : blankB c.toNat = false ∧ bracketB c.toNat = false := by
  unfold sepB at h; simpa using h
theorem good_plen {tx r : Bs} (h : Good tx) (he : endOK r) : plen (tx ++ r) = tx.length := by
  have hh := good_head h
  have hl := good_pos h
  have hhd : (tx ++ r).headD 0 = tx.headD 0 := by cases tx with | nil => simp at hl | cons _ _ => rfl
  unfold plen
  rw [hhd, (sep_split hh).2, if_neg Bool.false_ne_true]
  rcases h with ⟨h, h2⟩ | ⟨i, rfl, h2⟩
  · have hq : qlen (tx ++ r) = 0 := by
      unfold qlen
      rw [hhd]
      cases tx with
      | nil => exact absurd rfl h
      | cons c t =>
        rw [List.all_cons, Bool.and_eq_true] at h2
        have := h2.1; simp at this
        rw [List.headD_cons, if_neg]; simpa using this.2
    have ha : tx.all notSep = true := by
      rw [List.all_eq_true] at h2 ⊢
      intro c hc; have := h2 c hc; simp at this; rw [sep_notSep, this.1]; rfl
    rw [hq, List.drop_zero, tw_all tx r ha he, Nat.zero_add]
  · have e : ((39 :: (i ++ [39])) ++ r).drop 1 = i ++ 39 :: r := by simp
    have hq : qlen ((39 :: (i ++ [39])) ++ r) = i.length + 2 := by
      unfold qlen
      rw [e, tw39 i r h2, if_pos (by rfl), if_pos]
      rw [List.contains_iff_mem]; simp
    rw [hq]
    have d : ((39 :: (i ++ [39])) ++ r).drop (i.length + 2) = r := by
      have : (39 :: (i ++ [39])).length = i.length + 2 := by simp
      rw [← this, List.drop_left]
    rw [d, tw_end2 r he]; simp
mutual
def toks : Tr → List Tk
  | .mk k tx br ops => if br then (1, [40]) :: (k, tx) :: (toksL ops ++ [(2, [41])]) else [(k, tx)]
def toksL : List Tr → List Tk
  | [] => []
  | t :: ts => toks t ++ toksL ts
end
mutual
inductive Wf : Tr → Prop
  | leaf {k : Int} {tx : Bs} : kindS tx = k → k ≠ 0 → ¬ k = 1 → ¬ k = 2 → Good tx → aloneS k tx = true → Wf (.mk k tx false [])
  | node {k : Int} {tx : Bs} {ops : List Tr} : kindS tx = k → k ≠ 0 → Good tx → headS k tx = true → WfL ops → Wf (.mk k tx true ops)
inductive WfL : List Tr → Prop
  | nil : WfL []
  | cons {t : Tr} {ts : List Tr} : Wf t → WfL ts → WfL (t :: ts)
end
theorem first_kind {x : Tr} (h : Wf x) : ∃ t r, toks x = t :: r ∧ ¬ t.1 = 2 := by
  cases h with
  | leaf h1 h2 h3 h4 h5 h6 => exact ⟨_, [], by rw [toks]; rfl, h4⟩
  | node h1 h2 h3 h4 h5 => exact ⟨(1, [40]), _, by rw [toks]; rfl, by decide⟩
mutual
theorem parse_tree : ∀ {x : Tr} {f deep : Nat} {r : List Tk}, Wf x → deep + dep x ≤ 20 → 2 * (toks x).length ≤ f → treeF f deep (toks x ++ r) = some (x, r)
  | _, f, deep, r, .leaf h1 h2 h3 h4 h5 h6, _, hf => by
    rw [toks] at hf ⊢
    simp at hf
    obtain ⟨g, rfl⟩ : ∃ g, f = g + 1 := ⟨f - 1, by omega⟩
    simp only [Bool.false_eq_true, if_false, List.cons_append, List.nil_append]
    rw [treeF, if_neg h3, h6, if_pos rfl]
  | _, f, deep, r, @Wf.node k tx ops h1 h2 h3 h4 h5, hd, hf => by
    rw [dep, if_pos rfl] at hd
    rw [toks, if_pos rfl] at hf ⊢
    simp only [List.length_cons, List.length_append, List.length_nil] at hf
    obtain ⟨g, rfl⟩ : ∃ g, f = g + 2 := ⟨f - 2, by omega⟩
    have := parse_trees (r := r) (f := g) (deep := deep + 1) h5 (by omega) (by omega)
    simp only [List.cons_append, List.append_assoc, List.nil_append]
    rw [treeF, if_pos rfl, brF, if_neg (by omega), h4, if_pos rfl, this]; rfl
theorem parse_trees : ∀ {xs : List Tr} {f deep : Nat} {r : List Tk}, WfL xs → deep + depL xs ≤ 20 → 2 * (toksL xs).length + 1 ≤ f → opsF f deep (toksL xs ++ (2, [41]) :: r) = some (xs, r)
  | _, f, deep, r, .nil, _, hf => by
    obtain ⟨g, rfl⟩ : ∃ g, f = g + 1 := ⟨f - 1, by omega⟩
    rw [toksL, List.nil_append, opsF, if_pos rfl]
  | _, f, deep, r, @WfL.cons t ts h1 h2, hd, hf => by
    rw [depL] at hd
    rw [toksL, List.length_append] at hf
    obtain ⟨a, b, he, hk⟩ := first_kind h1
    obtain ⟨g, rfl⟩ : ∃ g, f = g + 1 := ⟨f - 1, by omega⟩
    have hl : 1 ≤ (toks t).length := by rw [he]; simp
    have i1 := parse_tree (f := g) (deep := deep) (r := toksL ts ++ (2, [41]) :: r) h1 (by omega) (by omega)
    have i2 := parse_trees (f := g) (deep := deep) (r := r) h2 (by omega) (by omega)
    rw [toksL, List.append_assoc]
    rw [he, List.cons_append] at i1
    rw [he, List.cons_append, opsF, if_neg hk, i1]
    simp only
    rw [i2]; rfl
end
end Go.Proofs.YtilfjpmeededmaaGreatDoor

/- Texts that hold given tokens, with blanks about them: how they are taken apart, and read. -/
import Derived.Test.YtilfjpmeededmaaGreatDoorTidy
namespace Go.Proofs.YtilfjpmeededmaaGreatDoor

mutual
def dep : Tr → Nat
  | .mk _ _ br ops => if br then 1 + depL ops else 0
def depL : List Tr → Nat
  | [] => 0
  | t :: ts => max (dep t) (depL ts)
end
def blanksB (l : Bs) : Bool := l.all fun c => blankB c.toNat
def sepB (c : UInt8) : Bool := blankB c.toNat || bracketB c.toNat
def endOK (r : Bs) : Prop := r = [] ∨ sepB (r.headD 0) = true
/-- A token that is no bracket, as far as where it ends is concerned. -/
def Good (tx : Bs) : Prop := (tx ≠ [] ∧ tx.all (fun c => !sepB c && c != 39) = true) ∨ (∃ inner : Bs, tx = 39 :: (inner ++ [39]) ∧ inner.all (fun c => c != 39) = true)

inductive Deco : List Tk → Bs → Prop
  | nil {b : Bs} : blanksB b = true → Deco [] b
  | tok {b tx r : Bs} {k : Int} {ts : List Tk} : blanksB b = true → kindS tx = k → k ≠ 0 → Good tx → Deco ts r → endOK r → Deco ((k, tx) :: ts) (b ++ (tx ++ r))
  | br {b r : Bs} {c : UInt8} {ts : List Tk} : blanksB b = true → bracketB c.toNat = true → Deco ts r → Deco ((kindS [c], [c]) :: ts) (b ++ (c :: r))

theorem blanksB_cons (c : UInt8) (l : Bs) : blanksB (c :: l) = (blankB c.toNat && blanksB l) := rfl
theorem deco_blanks {b r : Bs} {ts : List Tk} (hb : blanksB b = true) (h : Deco ts r) : Deco ts (b ++ r) := by
  have app : ∀ {x y : Bs}, blanksB x = true → blanksB y = true → blanksB (x ++ y) = true := by
    intro x y hx hy; unfold blanksB at *; rw [List.all_append, hx, hy]; rfl
  cases h with
  | nil h => exact .nil (app hb h)
  | tok h1 h2 h3 h4 h5 h6 => rw [← List.append_assoc]; exact .tok (app hb h1) h2 h3 h4 h5 h6
  | br h1 h2 h3 => rw [← List.append_assoc]; exact .br (app hb h1) h2 h3

theorem scan_blanks (b l : Bs) (h : blanksB b = true) : scanS (b ++ l) = scanS l := by
  induction b with
  | nil => rfl
  | cons c r ih =>
    rw [blanksB_cons, Bool.and_eq_true] at h
    rw [scanS_eq _ (by simp)]
    simp only [List.cons_append, List.headD_cons, h.1, if_true, List.drop_succ_cons, List.drop_zero]
    exact ih h.2
theorem scan_one (tx r : Bs) (h0 : 0 < tx.length) (hb : blankB (tx.headD 0).toNat = false) (hp : plen (tx ++ r) = tx.length) : scanS (tx ++ r) = if kindS tx = 0 then none else (scanS r).map ((kindS tx, tx) :: ·) := by
  have hh : (tx ++ r).headD 0 = tx.headD 0 := by cases tx with | nil => simp at h0 | cons _ _ => rfl
  rw [scanS_eq _ (by simp; omega), hh, hb, if_neg Bool.false_ne_true, hp, List.take_left, List.drop_left]

theorem sep_notSep (c : UInt8) : notSep c = !sepB c := by simp [notSep, sepB]
theorem tw_end2 (r : Bs) (h : endOK r) : r.takeWhile notSep = [] := by
  rcases h with rfl | h
  · rfl
  · cases r with
    | nil => rfl
    | cons c r =>
      have : notSep c = false := by rw [sep_notSep]; simp only [List.headD_cons] at h; rw [h]; rfl
      rw [List.takeWhile_cons, this]; rfl
theorem tw_all (tx r : Bs) (h : tx.all notSep = true) (he : endOK r) : (tx ++ r).takeWhile notSep = tx := by
  induction tx with
  | nil => exact tw_end2 r he
  | cons c t ih =>
    rw [List.all_cons, Bool.and_eq_true] at h
    rw [List.cons_append, List.takeWhile_cons, h.1, if_pos rfl, ih h.2]
theorem tw39 (inner r : Bs) (h : inner.all (fun c => c != 39) = true) : (inner ++ 39 :: r).takeWhile (· != 39) = inner := by
  induction inner with
  | nil => rfl
  | cons c t ih =>
    rw [List.all_cons, Bool.and_eq_true] at h
    rw [List.cons_append, List.takeWhile_cons, h.1, if_pos rfl, ih h.2]
theorem good_pos {tx : Bs} (h : Good tx) : 0 < tx.length := by
  rcases h with ⟨h, _⟩ | ⟨i, rfl, _⟩
  · exact List.length_pos_iff.mpr h
  · simp
theorem good_head {tx : Bs} (h : Good tx) : sepB (tx.headD 0) = false := by
  rcases h with ⟨h, h2⟩ | ⟨i, rfl, _⟩
  · cases tx with
    | nil => exact absurd rfl h
    | cons c t => rw [List.all_cons, Bool.and_eq_true] at h2; have := h2.1; simp at this; simpa using this.1
  · rfl
theorem sep_split {c : UInt8} (h : sepB c = false) : blankB c.toNat = false ∧ bracketB c.toNat = false := by
  unfold sepB at h; simpa using h
theorem good_plen {tx r : Bs} (h : Good tx) (he : endOK r) : plen (tx ++ r) = tx.length := by
  have hh := good_head h
  have hl := good_pos h
  have hhd : (tx ++ r).headD 0 = tx.headD 0 := by cases tx with | nil => simp at hl | cons _ _ => rfl
  unfold plen
  rw [hhd, (sep_split hh).2, if_neg Bool.false_ne_true]
  rcases h with ⟨h, h2⟩ | ⟨i, rfl, h2⟩
  · have hq : qlen (tx ++ r) = 0 := by
      unfold qlen
      rw [hhd]
      cases tx with
      | nil => exact absurd rfl h
      | cons c t =>
        rw [List.all_cons, Bool.and_eq_true] at h2
        have := h2.1; simp at this
        rw [List.headD_cons, if_neg]; simpa using this.2
    have ha : tx.all notSep = true := by
      rw [List.all_eq_true] at h2 ⊢
      intro c hc; have := h2 c hc; simp at this; rw [sep_notSep, this.1]; rfl
    rw [hq, List.drop_zero, tw_all tx r ha he, Nat.zero_add]
  · have e : ((39 :: (i ++ [39])) ++ r).drop 1 = i ++ 39 :: r := by simp
    have hq : qlen ((39 :: (i ++ [39])) ++ r) = i.length + 2 := by
      unfold qlen
      rw [e, tw39 i r h2, if_pos (by rfl), if_pos]
      rw [List.contains_iff_mem]; simp
    rw [hq]
    have d : ((39 :: (i ++ [39])) ++ r).drop (i.length + 2) = r := by
      have : (39 :: (i ++ [39])).length = i.length + 2 := by simp
      rw [← this, List.drop_left]
    rw [d, tw_end2 r he]; simp
theorem scan_deco {ts : List Tk} {d : Bs} (h : Deco ts d) : scanS d = some ts := by
  induction h with
  | nil h => have := scan_blanks _ [] h; rw [List.append_nil] at this; rw [this]; exact scanS_nil [] rfl
  | @tok b tx r k ts h1 h2 h3 h4 h5 h6 ih =>
    rw [scan_blanks _ _ h1, scan_one tx r (good_pos h4) (sep_split (good_head h4)).1 (good_plen h4 h6), h2, if_neg h3, ih]; rfl
  | @br b r c ts h1 h2 h3 ih =>
    have hc : c = 40 ∨ c = 41 := by
      unfold bracketB at h2; simp at h2
      rcases h2 with h | h
      · exact .inl (UInt8.toNat_inj.mp (by simp; omega))
      · exact .inr (UInt8.toNat_inj.mp (by simp; omega))
    have hbl : blankB (([c] : Bs).headD 0).toNat = false := by rcases hc with rfl | rfl <;> decide
    have hk : ¬ kindS [c] = 0 := by rcases hc with rfl | rfl <;> decide
    have hp : plen ([c] ++ r) = ([c] : Bs).length := by unfold plen; rw [if_pos]; rfl; exact h2
    have := scan_one [c] r (by simp) hbl hp
    rw [scan_blanks _ _ h1]
    rw [if_neg hk, ih] at this
    exact this

mutual
def toks : Tr → List Tk
  | .mk k tx br ops => if br then (1, [40]) :: (k, tx) :: (toksL ops ++ [(2, [41])]) else [(k, tx)]
def toksL : List Tr → List Tk
  | [] => []
  | t :: ts => toks t ++ toksL ts
end
mutual
inductive Wf : Tr → Prop
  | leaf {k : Int} {tx : Bs} : kindS tx = k → k ≠ 0 → ¬ k = 1 → ¬ k = 2 → Good tx → aloneS k tx = true → Wf (.mk k tx false [])
  | node {k : Int} {tx : Bs} {ops : List Tr} : kindS tx = k → k ≠ 0 → Good tx → headS k tx = true → WfL ops → Wf (.mk k tx true ops)
inductive WfL : List Tr → Prop
  | nil : WfL []
  | cons {t : Tr} {ts : List Tr} : Wf t → WfL ts → WfL (t :: ts)
end
def isLeaf : Tr → Bool
  | .mk _ _ br _ => !br

theorem end_br (c : UInt8) (h : bracketB c.toNat = true) (r : Bs) : endOK (c :: r) := .inr (by simp [sepB, h])
theorem end_bl (r : Bs) : endOK (32 :: r) := .inr rfl

mutual
theorem deco_tree : ∀ {x : Tr} {ts : List Tk} {r : Bs}, Wf x → Deco ts r → (isLeaf x = true → endOK r) → Deco (toks x ++ ts) (render x ++ r)
  | _, ts, r, .leaf h1 h2 _ _ h3 _, hd, he => by
    rw [toks, render]
    exact .tok (b := []) rfl h1 h2 h3 hd (he rfl)
  | _, ts, r, @Wf.node k tx ops h1 h2 h3 _ h5, hd, _ => by
    rw [toks, render, if_pos rfl, if_pos rfl]
    have hc : Deco ((2, [41]) :: ts) (41 :: r) := .br (b := []) (c := 41) rfl rfl hd
    obtain ⟨D, E⟩ := deco_trees h5 hc (end_br 41 rfl r)
    have D2 : Deco ((k, tx) :: (toksL ops ++ (2, [41]) :: ts)) (tx ++ (renders ops ++ 41 :: r)) := .tok (b := []) rfl h1 h2 h3 D E
    have D3 : Deco ((1, [40]) :: (k, tx) :: (toksL ops ++ (2, [41]) :: ts)) (40 :: (tx ++ (renders ops ++ 41 :: r))) := .br (b := []) (c := 40) rfl rfl D2
    simpa using D3
theorem deco_trees : ∀ {xs : List Tr} {ts : List Tk} {r : Bs}, WfL xs → Deco ts r → endOK r → Deco (toksL xs ++ ts) (renders xs ++ r) ∧ endOK (renders xs ++ r)
  | _, ts, r, .nil, hd, he => by rw [toksL, renders]; exact ⟨hd, he⟩
  | _, ts, r, .cons h1 h2, hd, he => by
    obtain ⟨D, E⟩ := deco_trees h2 hd he
    have D2 := deco_tree h1 D (fun _ => E)
    rw [toksL, renders]
    refine ⟨?_, end_bl _⟩
    have := deco_blanks (b := [32]) rfl D2
    simpa using this
end

theorem first_kind {x : Tr} (h : Wf x) : ∃ t r, toks x = t :: r ∧ ¬ t.1 = 2 := by
  cases h with
  | leaf h1 h2 h3 h4 h5 h6 => exact ⟨_, [], by rw [toks]; rfl, h4⟩
  | node h1 h2 h3 h4 h5 => exact ⟨(1, [40]), _, by rw [toks]; rfl, by decide⟩
mutual
theorem parse_tree : ∀ {x : Tr} {f deep : Nat} {r : List Tk}, Wf x → deep + dep x ≤ 20 → 2 * (toks x).length ≤ f → treeF f deep (toks x ++ r) = some (x, r)
  | _, f, deep, r, .leaf h1 h2 h3 h4 h5 h6, _, hf => by
    rw [toks] at hf ⊢
    simp at hf
    obtain ⟨g, rfl⟩ : ∃ g, f = g + 1 := ⟨f - 1, by omega⟩
    simp only [Bool.false_eq_true, if_false, List.cons_append, List.nil_append]
    rw [treeF, if_neg h3, h6, if_pos rfl]
  | _, f, deep, r, @Wf.node k tx ops h1 h2 h3 h4 h5, hd, hf => by
    rw [dep, if_pos rfl] at hd
    rw [toks, if_pos rfl] at hf ⊢
    simp only [List.length_cons, List.length_append, List.length_nil] at hf
    obtain ⟨g, rfl⟩ : ∃ g, f = g + 2 := ⟨f - 2, by omega⟩
    have := parse_trees (r := r) (f := g) (deep := deep + 1) h5 (by omega) (by omega)
    simp only [List.cons_append, List.append_assoc, List.nil_append]
    rw [treeF, if_pos rfl, brF, if_neg (by omega), h4, if_pos rfl, this]; rfl
theorem parse_trees : ∀ {xs : List Tr} {f deep : Nat} {r : List Tk}, WfL xs → deep + depL xs ≤ 20 → 2 * (toksL xs).length + 1 ≤ f → opsF f deep (toksL xs ++ (2, [41]) :: r) = some (xs, r)
  | _, f, deep, r, .nil, _, hf => by
    obtain ⟨g, rfl⟩ : ∃ g, f = g + 1 := ⟨f - 1, by omega⟩
    rw [toksL, List.nil_append, opsF, if_pos rfl]
  | _, f, deep, r, @WfL.cons t ts h1 h2, hd, hf => by
    rw [depL] at hd
    rw [toksL, List.length_append] at hf
    obtain ⟨a, b, he, hk⟩ := first_kind h1
    obtain ⟨g, rfl⟩ : ∃ g, f = g + 1 := ⟨f - 1, by omega⟩
    have hl : 1 ≤ (toks t).length := by rw [he]; simp
    have i1 := parse_tree (f := g) (deep := deep) (r := toksL ts ++ (2, [41]) :: r) h1 (by omega) (by omega)
    have i2 := parse_trees (f := g) (deep := deep) (r := r) h2 (by omega) (by omega)
    rw [toksL, List.append_assoc]
    rw [he, List.cons_append] at i1
    rw [he, List.cons_append, opsF, if_neg hk, i1]
    simp only
    rw [i2]; rfl
end
end Go.Proofs.YtilfjpmeededmaaGreatDoor

/- What package expr reads, package curtainref reads; so both make the same text of it. -/
import Derived.Test.YtilfjpmeededmaaGreatDoorRefR
namespace Go.Proofs.YtilfjpmeededmaaGreatDoor

theorem kind_nb {l : Bs} (hl : bracketB (l.headD 0).toNat = false) : ¬ kindS l = 1 ∧ ¬ kindS l = 2 := by
  have hb : (l == [40]) = false ∧ (l == [41]) = false := by
    constructor
    · rw [Bool.eq_false_iff]; intro h; rw [beq_iff_eq] at h; subst h; cases hl
    · rw [Bool.eq_false_iff]; intro h; rw [beq_iff_eq] at h; subst h; cases hl
  unfold kindS
  rw [hb.1, hb.2, if_neg Bool.false_ne_true, if_neg Bool.false_ne_true]
  constructor
  · repeat (first | (split; decide) | decide)
    all_goals (repeat split) <;> decide
  · repeat (first | (split; decide) | decide)
    all_goals (repeat split) <;> decide
theorem br_two {c : UInt8} (h : bracketB c.toNat = true) : c = 40 ∨ c = 41 := by
  unfold bracketB at h; simp at h
  rcases h with h | h
  · exact .inl (UInt8.toNat_inj.mp (by simp; omega))
  · exact .inr (UInt8.toNat_inj.mp (by simp; omega))
theorem scan_cases {l : Bs} {a : Tk} {ts : List Tk} (hz : skN l = 0) (h : scanS l = some (a :: ts)) :
    (∃ r, l = 40 :: r ∧ a = (1, [40]) ∧ scanS r = some ts) ∨ (∃ r, l = 41 :: r ∧ a = (2, [41]) ∧ scanS r = some ts) ∨
    (0 < l.length ∧ bracketB (l.headD 0).toNat = false ∧ bracketB (a.2.headD 0).toNat = false ∧ a.1 = kindS a.2 ∧ (tokS l).1 = a.2 ∧ scanS (tokS l).2 = some ts ∧ skN (tokS l).2 = 0 ∧ (tokS l).2.length < l.length) := by
  have h0 : 0 < l.length := by
    rcases Nat.eq_zero_or_pos l.length with e | e
    · rw [scanS_nil l e] at h; cases h
    · exact e
  have hbl := sk_head hz h0
  cases hbr : bracketB (l.headD 0).toNat with
  | true =>
    cases l with
    | nil => simp at h0
    | cons c r =>
      simp only [List.headD_cons] at hbr
      have hc := br_two hbr
      rw [scan_br hc] at h
      obtain ⟨o, ho, he⟩ := Option.map_eq_some_iff.mp h
      simp only [List.cons.injEq] at he
      obtain ⟨rfl, rfl⟩ := he
      rcases hc with rfl | rfl
      · exact .inl ⟨r, rfl, rfl, ho⟩
      · exact .inr (.inl ⟨r, rfl, rfl, ho⟩)
  | false =>
    right; right
    have hs : sepB (l.headD 0) = false := by unfold sepB; rw [hbl, hbr]; rfl
    rw [scanS_eq l h0, hbl, if_neg Bool.false_ne_true] at h
    by_cases hk : kindS (l.take (plen l)) = 0
    · rw [if_pos hk] at h; cases h
    · rw [if_neg hk] at h
      obtain ⟨o, ho, he⟩ := Option.map_eq_some_iff.mp h
      simp only [List.cons.injEq] at he
      obtain ⟨rfl, rfl⟩ := he
      have t := tk_piece h0 hs hk
      have hp := plen_pos l h0 hbl
      have et : tokS l = (tkText l, skS (l.drop (tkLen l))) := by
        unfold tokS; rw [if_neg]; rintro (e | e)
        · omega
        · rw [hbr] at e; cases e
      refine ⟨h0, rfl, ?_, rfl, ?_, ?_, ?_, ?_⟩
      · show bracketB ((l.take (plen l)).headD 0).toNat = false
        obtain ⟨m, hm⟩ : ∃ m, plen l = m + 1 := ⟨plen l - 1, by omega⟩
        cases l with
        | nil => simp at h0
        | cons c r => rw [hm, List.take_succ_cons]; exact hbr
      · rw [et]; exact t.1
      · rw [et, scan_sk, t.2]; exact ho
      · rw [et]; exact sk_zero _
      · rw [et]
        have := sk_len (l.drop (tkLen l))
        have e2 := t.2
        rw [List.length_drop] at this
        show (skS (l.drop (tkLen l))).length < l.length
        omega
theorem comp : ∀ n : Nat,
    (∀ (f deep : Nat) (l : Bs) (ts : List Tk) (t : Tr) (ts' : List Tk) (F : Nat), f ≤ n → scanS l = some ts → treeF f deep ts = some (t, ts') → 2 * l.length ≤ F →
      ∃ r, oneS F deep l = some (t, r) ∧ scanS r = some ts' ∧ skN r = 0 ∧ r.length < l.length) ∧
    (∀ (f deep : Nat) (l : Bs) (ts : List Tk) (xs : List Tr) (ts' : List Tk) (F : Nat), f ≤ n → skN l = 0 → scanS l = some ts → opsF f deep ts = some (xs, ts') → 2 * l.length + 1 ≤ F →
      ∃ r, opsR F deep l = some (xs, 41 :: r) ∧ scanS r = some ts' ∧ r.length < l.length) := by
  intro n
  induction n with
  | zero =>
    refine ⟨?_, ?_⟩
    · intro f deep l ts t ts' F hf _ h; obtain rfl : f = 0 := by omega
      simp [treeF] at h
    · intro f deep l ts t ts' F hf _ _ h; obtain rfl : f = 0 := by omega
      simp [opsF] at h
  | succ n ih =>
    obtain ⟨ih1, ih2⟩ := ih
    refine ⟨?_, ?_⟩
    · intro f deep l ts t ts' F hf hl h hF
      cases f with
      | zero => simp [treeF] at h
      | succ f =>
      cases ts with
      | nil => simp [treeF] at h
      | cons a ts =>
        rw [← scan_sk] at hl
        have hsl := sk_len l
        have h0 : 0 < l.length := by
          rcases Nat.eq_zero_or_pos (skS l).length with e | e
          · rw [scanS_nil _ e] at hl; cases hl
          · omega
        obtain ⟨G, rfl⟩ : ∃ G, F = G + 1 := ⟨F - 1, by omega⟩
        rw [oneS]
        rw [treeF] at h
        rcases scan_cases (sk_zero l) hl with ⟨r, e, rfl, hr⟩ | ⟨r, e, rfl, hr⟩ | ⟨h1, hb, hba, ha, htx, hsc, hz, hlt⟩
        · rw [if_pos rfl] at h
          rw [e] at hsl ⊢
          simp only [List.length_cons] at hsl
          simp only [List.headD_cons, beq_self_eq_true, if_true, List.drop_succ_cons, List.drop_zero]
          cases f with
          | zero => simp [brF] at h
          | succ f =>
          cases ts with
          | nil => simp [brF] at h
          | cons b ts =>
            rw [brF] at h
            by_cases hd : 20 < deep + 1
            · rw [if_pos hd] at h; cases h
            · rw [if_neg hd] at h
              cases hh : headS b.1 b.2 with
              | false => rw [hh] at h; simp at h
              | true =>
                rw [hh, if_pos rfl] at h
                obtain ⟨⟨xs, q⟩, ho, he⟩ := Option.map_eq_some_iff.mp h
                simp only [Prod.mk.injEq] at he
                obtain ⟨rfl, rfl⟩ := he
                have hl2 := sk_len r
                rw [← scan_sk] at hr
                rcases scan_cases (sk_zero r) hr with ⟨_, _, rfl, _⟩ | ⟨_, _, rfl, _⟩ | ⟨h1, hb, hba, ha, htx, hsc, hz, hlt⟩
                · cases hh
                · cases hh
                · obtain ⟨r', o', s', l'⟩ := ih2 f (deep + 1) _ ts xs q G (by omega) hz hsc ho (by omega)
                  have hR : headR b.2 = true := by rw [← head_same hba, ← ha]; exact hh
                  refine ⟨skS r', ?_, by rw [scan_sk]; exact s', sk_zero _, ?_⟩
                  · rw [htx, hR, decide_eq_true (by omega : deep < 20), o']
                    simp [ha]
                  · have := sk_len r'; omega
        · rw [if_neg (by decide)] at h
          have : aloneS 2 [41] = false := by decide
          simp only [this] at h; simp at h
        · have hk := kind_nb hba
          rw [← ha] at hk
          rw [if_neg hk.1] at h
          cases hh : aloneS a.1 a.2 with
          | false => rw [hh] at h; simp at h
          | true =>
            rw [hh, if_pos rfl] at h
            simp only [Option.some.injEq, Prod.mk.injEq] at h
            obtain ⟨rfl, rfl⟩ := h
            have h40 : ((skS l).headD 0 == 40) = false := by
              rw [Bool.eq_false_iff]; intro e; rw [beq_iff_eq] at e; rw [e] at hb; cases hb
            have hA : atomS a.2 = true := by rw [← atom_same hba, ← ha]; exact hh
            rw [h40, if_neg Bool.false_ne_true, htx, hA, if_pos rfl]
            refine ⟨_, by rw [ha], hsc, hz, by omega⟩
    · intro f deep l ts xs ts' F hf hz hl h hF
      cases f with
      | zero => simp [opsF] at h
      | succ f =>
      cases ts with
      | nil => simp [opsF] at h
      | cons a ts =>
        obtain ⟨G, rfl⟩ : ∃ G, F = G + 1 := ⟨F - 1, by omega⟩
        have h0 : 0 < l.length := by
          rcases Nat.eq_zero_or_pos l.length with e | e
          · rw [scanS_nil _ e] at hl; cases hl
          · omega
        rw [opsF] at h
        rw [opsR, if_neg (by omega)]
        by_cases h2 : a.1 = 2
        · rw [if_pos h2] at h
          simp only [Option.some.injEq, Prod.mk.injEq] at h
          obtain ⟨rfl, rfl⟩ := h
          rcases scan_cases hz hl with ⟨r, rfl, rfl, hr⟩ | ⟨r, rfl, rfl, hr⟩ | ⟨h1, hb, hba, ha, htx, hsc, hz, hlt⟩
          · cases h2
          · exact ⟨r, rfl, hr, by simp⟩
          · exact absurd (ha ▸ h2) (kind_nb hba).2
        · rw [if_neg h2] at h
          have h41 : (l.headD 0 == 41) = false := by
            rcases scan_cases hz hl with ⟨r, rfl, rfl, hr⟩ | ⟨r, rfl, rfl, hr⟩ | ⟨h1, hb, hba, ha, htx, hsc, hz, hlt⟩
            · rfl
            · exact absurd rfl h2
            · rw [Bool.eq_false_iff]; intro e; rw [beq_iff_eq] at e; rw [e] at hb; cases hb
          rw [h41, if_neg Bool.false_ne_true]
          cases ht : treeF f deep (a :: ts) with
          | none => rw [ht] at h; simp at h
          | some p =>
            obtain ⟨x, q⟩ := p
            rw [ht] at h
            simp only at h
            obtain ⟨⟨ys, q2⟩, ho, he⟩ := Option.map_eq_some_iff.mp h
            simp only [Prod.mk.injEq] at he
            obtain ⟨rfl, rfl⟩ := he
            obtain ⟨r1, e1, s1, z1, l1⟩ := ih1 f deep l _ x q G (by omega) hl ht (by omega)
            obtain ⟨r2, e2, s2, l2⟩ := ih2 f deep r1 q ys q2 G (by omega) z1 s1 ho (by omega)
            rw [e1]
            exact ⟨r2, by simp [e2], s2, by omega⟩
/-- What curtainref makes of a whole text. -/
def refS (l : Bs) : Option Tr := match oneS (2 * l.length + 1) 0 l with | some (t, []) => some t | _ => none
theorem ref_same (l : Bs) (h : l.length ≤ 400) : refS l = parseS l := by
  have ef : parseS l = (scanS l).bind parseT := by unfold parseS; rw [if_neg (by omega)]
  rw [ef]
  have fwd : ∀ t, refS l = some t → (scanS l).bind parseT = some t := by
    intro t ht
    unfold refS at ht
    split at ht
    · next t' e =>
      simp only [Option.some.injEq] at ht
      subst ht
      obtain ⟨s1, w1, d1, _⟩ := one_sound _ _ _ _ _ e
      rw [scanS_nil [] rfl] at s1
      simp only [Option.map_some, List.append_nil] at s1
      rw [s1, Option.bind_some]
      have := parse_tree (f := 2 * (toks t').length) (deep := 0) (r := []) w1 (by simpa using d1) (Nat.le_refl _)
      rw [List.append_nil] at this
      unfold parseT
      rw [this]
    · cases ht
  have bwd : ∀ t, (scanS l).bind parseT = some t → refS l = some t := by
    intro t ht
    cases hs : scanS l with
    | none => rw [hs] at ht; cases ht
    | some ts =>
      rw [hs, Option.bind_some] at ht
      unfold parseT at ht
      split at ht
      · next t' e =>
        simp only [Option.some.injEq] at ht
        subst ht
        obtain ⟨r, e1, s1, z1, _⟩ := (comp _).1 _ _ l _ _ _ (2 * l.length + 1) (Nat.le_refl _) hs e (by omega)
        have hr : r = [] := by
          cases r with
          | nil => rfl
          | cons c q =>
            have h0 : 0 < (c :: q).length := by simp
            have hb := sk_head z1 h0
            rw [scanS_eq _ h0, hb, if_neg Bool.false_ne_true] at s1
            split at s1
            · cases s1
            · obtain ⟨_, _, he⟩ := Option.map_eq_some_iff.mp s1
              cases he
        subst hr
        unfold refS
        rw [e1]
      · cases ht
  cases h1 : refS l with
  | some t => exact (fwd t h1).symm
  | none =>
    cases h2 : (scanS l).bind parseT with
    | none => rfl
    | some t => rw [bwd t h2] at h1; cases h1
end Go.Proofs.YtilfjpmeededmaaGreatDoor

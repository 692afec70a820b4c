/- Both readings of an expression are one. -/
import Derived.Test.YtilfjpmeededmaaGreatDoorRefQ
namespace Go.Proofs.YtilfjpmeededmaaGreatDoor

/-- The token that is read at l, where it is one that counts. -/
theorem tok_at {l : Bs} (hz : skN l = 0) (hne : (tokS l).1 ≠ []) : 0 < l.length ∧ bracketB (l.headD 0).toNat = false ∧ sepB (l.headD 0) = false ∧ tokS l = (tkText l, skS (l.drop (tkLen l))) := by
  by_cases h : l.length = 0 ∨ bracketB (l.headD 0).toNat = true
  · unfold tokS at hne; rw [if_pos h] at hne; exact absurd rfl hne
  · have h0 : 0 < l.length := by
      rcases Nat.eq_zero_or_pos l.length with e | e
      · exact absurd (.inl e) h
      · exact e
    have hb : bracketB (l.headD 0).toNat = false := by
      rw [Bool.eq_false_iff]; exact fun e => h (.inr e)
    refine ⟨h0, hb, ?_, ?_⟩
    · unfold sepB; rw [sk_head hz h0, hb]; rfl
    · unfold tokS; rw [if_neg h]
theorem tk_head {l : Bs} (h0 : 0 < l.length) (ht : tkText l ≠ []) : (tkText l).headD 0 = l.headD 0 := by
  unfold tkText at ht ⊢
  cases he : endsOK l (tkLen l) with
  | false => rw [he] at ht; exact absurd rfl ht
  | true =>
    rw [if_pos rfl]
    cases l with
    | nil => simp at h0
    | cons c r =>
      have : tkLen (c :: r) = tkLen (c :: r) - 1 + 1 := by unfold tkLen; omega
      rw [this, List.take_succ_cons]; rfl
mutual
theorem one_sound : ∀ (f deep : Nat) (l : Bs) (t : Tr) (r : Bs), oneS f deep l = some (t, r) → scanS l = (scanS r).map (toks t ++ ·) ∧ Wf t ∧ deep + dep t ≤ 20 + (if deep ≤ 20 then 0 else deep - 20) ∧ skN r = 0 := by
  intro f
  match f with
  | 0 => intro deep l t r h; simp [oneS] at h
  | f + 1 =>
    intro deep l t r h
    rw [oneS] at h
    cases h40 : ((skS l).headD 0 == 40) with
    | true =>
      rw [h40, if_pos rfl] at h
      have e1 : skS l = 40 :: (skS l).drop 1 := head_cons (by decide) (by simpa using h40)
      obtain ⟨l2, hl2⟩ : ∃ l2, l2 = skS ((skS l).drop 1) := ⟨_, rfl⟩
      rw [← hl2] at h
      have hz2 : skN l2 = 0 := by rw [hl2]; exact sk_zero _
      cases hc : (headR (tokS l2).1 && decide (deep < 20)) with
      | false => rw [hc] at h; simp at h
      | true =>
        rw [hc, if_pos rfl] at h
        rw [Bool.and_eq_true, decide_eq_true_eq] at hc
        obtain ⟨⟨ops, r4⟩, ho, he⟩ := Option.map_eq_some_iff.mp h
        simp only [Prod.mk.injEq] at he
        obtain ⟨rfl, rfl⟩ := he
        have hne : (tokS l2).1 ≠ [] := by intro e; rw [e] at hc; have := hc.1; cases this
        obtain ⟨h0, hb, hs, et⟩ := tok_at hz2 hne
        rw [et] at ho hc hne ⊢
        simp only at ho hc hne ⊢
        have hk := head_kind (by rw [tk_head h0 hne]; exact hb) hc.1
        obtain ⟨s1, g⟩ := scan_tk h0 hs hk.2.1 hk.1
        obtain ⟨s2, w2, d2, q2⟩ := ops_sound f (deep + 1) _ ops r4 ho
        obtain ⟨q, rfl⟩ : ∃ q, r4 = 41 :: q := ⟨_, head_cons (by decide) q2⟩
        refine ⟨?_, .node rfl hk.1 g hk.2.2 w2, ?_, sk_zero _⟩
        · rw [← scan_sk l, e1, scan_br (.inl rfl), ← scan_sk ((skS l).drop 1), ← hl2, s1, s2]
          rw [scan_sk, scan_br (.inr rfl)]
          rw [toks, if_pos rfl]
          have k40 : kindS [40] = 1 := by decide
          have k41 : kindS [41] = 2 := by decide
          rw [k40, k41]
          show _ = (scanS q).map _
          cases scanS q <;> simp
        · rw [dep, if_pos rfl]
          have hd : deep < 20 := hc.2
          rw [if_pos (by omega)] at d2 ⊢
          omega
    | false =>
      rw [h40, if_neg Bool.false_ne_true] at h
      cases hc : atomS (tokS (skS l)).1 with
      | false => rw [hc] at h; simp at h
      | true =>
        rw [hc, if_pos rfl] at h
        simp only [Option.some.injEq, Prod.mk.injEq] at h
        obtain ⟨rfl, rfl⟩ := h
        have hne : (tokS (skS l)).1 ≠ [] := by intro e; rw [e] at hc; cases hc
        obtain ⟨h0, hb, hs, et⟩ := tok_at (sk_zero l) hne
        rw [et] at hc hne ⊢
        simp only at hc hne ⊢
        have hk := atom_kind (by rw [tk_head h0 hne]; exact hb) hc
        obtain ⟨s1, g⟩ := scan_tk h0 hs hk.2.1 hk.1
        refine ⟨?_, .leaf rfl hk.1 hk.2.2.2.1 hk.2.2.2.2 g hk.2.2.1, ?_, sk_zero _⟩
        · rw [← scan_sk l, s1, toks]
          cases scanS (skS ((skS l).drop (tkLen (skS l)))) <;> simp
        · rw [dep]; simp only [Bool.false_eq_true, if_false]
          split <;> omega
theorem ops_sound : ∀ (f deep : Nat) (l : Bs) (xs : List Tr) (r : Bs), opsR f deep l = some (xs, r) → scanS l = (scanS r).map (toksL xs ++ ·) ∧ WfL xs ∧ deep + depL xs ≤ 20 + (if deep ≤ 20 then 0 else deep - 20) ∧ r.headD 0 = 41 := by
  intro f
  match f with
  | 0 => intro deep l xs r h; simp [opsR] at h
  | f + 1 =>
    intro deep l xs r h
    rw [opsR] at h
    by_cases h0 : l.length = 0
    · rw [if_pos h0] at h; simp at h
    · rw [if_neg h0] at h
      cases h41 : (l.headD 0 == 41) with
      | true =>
        rw [h41, if_pos rfl] at h
        simp only [Option.some.injEq, Prod.mk.injEq] at h
        obtain ⟨rfl, rfl⟩ := h
        refine ⟨?_, .nil, ?_, by simpa using h41⟩
        · rw [toksL]; cases scanS l <;> simp
        · rw [depL]; split <;> omega
      | false =>
        rw [h41, if_neg Bool.false_ne_true] at h
        cases h1 : oneS f deep l with
        | none => rw [h1] at h; simp at h
        | some p =>
          obtain ⟨x, r1⟩ := p
          rw [h1] at h
          simp only at h
          obtain ⟨⟨ys, r2⟩, ho, he⟩ := Option.map_eq_some_iff.mp h
          simp only [Prod.mk.injEq] at he
          obtain ⟨rfl, rfl⟩ := he
          obtain ⟨s1, w1, d1, z1⟩ := one_sound f deep l x r1 h1
          obtain ⟨s2, w2, d2, q2⟩ := ops_sound f deep r1 ys r2 ho
          refine ⟨?_, .cons w1 w2, ?_, q2⟩
          · rw [s1, s2, toksL, map_map_app]
          · rw [depL]; omega
end
end Go.Proofs.YtilfjpmeededmaaGreatDoor

/- What one of package curtainref's reader reads, wherever it stands. -/
import Derived.Test.YtilfjpmeededmaaGreatDoorRefM
namespace Go.Proofs.YtilfjpmeededmaaGreatDoor
open Go.RowKit

theorem one_any (s : ByteArray) (hs : s.size ≤ 400) (f : Nat) : OneSpec s f := by
  induction f using Nat.strongRecOn with
  | ind f ih =>
    intro w rb k deep n ao cap cs h hk hf hd hown hnk
    obtain ⟨k1, hk1e⟩ : ∃ k1, k + skN (s.toList.drop k) = k1 := ⟨_, rfl⟩
    have hk1 : k1 ≤ s.size := by have := skN_le (s.toList.drop k); rw [List.length_drop, toList_length] at this; omega
    have e1 : skS (s.toList.drop k) = s.toList.drop k1 := by rw [skS, List.drop_drop, hk1e]
    cases f with
    | zero =>
      rw [oneS]
      exact one_none s hs w rb k deep n ao cap cs h hk k1 hk1e (.inl (by omega))
    | succ f =>
      rw [oneS, e1]
      by_cases hlt : k1 < s.size
      · rw [not40 hlt]
        cases h40 : (s[k1] == 40) with
        | true =>
          rw [if_pos rfl]
          obtain ⟨k2, hk2e⟩ : ∃ k2, k1 + 1 + skN (s.toList.drop (k1 + 1)) = k2 := ⟨_, rfl⟩
          have hk2 : k2 ≤ s.size := by have := skN_le (s.toList.drop (k1 + 1)); rw [List.length_drop, toList_length] at this; omega
          have e2 : skS ((s.toList.drop k1).drop 1) = s.toList.drop k2 := by
            have e : (s.toList.drop k1).drop 1 = s.toList.drop (k1 + 1) := by rw [List.drop_drop]
            rw [e, skS, List.drop_drop, hk2e]
          rw [e2]
          obtain ⟨tx, k3, et, ha, hb, hc, htl, HT⟩ := token_any s hs k2 hk2
          rw [et]
          simp only
          cases hq : (headR tx && decide (deep < 20)) with
          | true =>
            rw [if_pos rfl]
            rw [Bool.and_eq_true, decide_eq_true_eq] at hq
            have hne : tx ≠ [] := by intro e; subst e; have := hq.1; cases this
            have h23 := hc hne
            exact one_list s hs f (fun f' h => ih f' (by omega)) w rb k deep n ao cap cs h hk hown hnk k1 hk1e hlt h40 k2 hk2e tx k3 h23 hb HT htl hq.1 hq.2 (by omega)
          | false =>
            rw [if_neg Bool.false_ne_true]
            refine one_headbad s hs w rb k deep n ao cap cs h hk k1 hk1e hlt h40 k2 hk2e tx k3 HT htl ?_
            rw [Bool.and_eq_false_iff, decide_eq_false_iff_not] at hq
            rcases hq with h | h
            · exact .inl h
            · exact .inr (by omega)
        | false =>
          rw [if_neg Bool.false_ne_true]
          cases hb : bracketB s[k1].toNat with
          | true =>
            have et : tokS (s.toList.drop k1) = ([], s.toList.drop k1) := by unfold tokS; rw [if_pos]; right; rw [not40 hlt]; exact hb
            rw [et]
            exact one_none s hs w rb k deep n ao cap cs h hk k1 hk1e (.inr ⟨hlt, hb, h40⟩)
          | false =>
            have et : tokS (s.toList.drop k1) = (tkText (s.toList.drop k1), skS ((s.toList.drop k1).drop (tkLen (s.toList.drop k1)))) := by
              unfold tokS; rw [if_neg]
              rintro (h | h)
              · rw [List.length_drop, toList_length] at h; omega
              · rw [not40 hlt, hb] at h; cases h
            rw [et]
            simp only
            obtain ⟨tx, htx⟩ : ∃ tx, tkText (s.toList.drop k1) = tx := ⟨_, rfl⟩
            have htl : tx.length ≤ maxLen := by
              rw [← htx]; unfold tkText; split
              · rw [List.length_take, List.length_drop, toList_length]; unfold maxLen; omega
              · simp
            rw [htx]
            cases hat : atomS tx with
            | true =>
              have hne : tx ≠ [] := by intro e; subst e; cases hat
              rw [if_pos rfl]
              exact one_leaf s hs w rb k deep n ao cap cs h hk hown (by omega) k1 hk1e hlt h40 hb tx hne htx hat htl _ rfl
            | false =>
              rw [if_neg Bool.false_ne_true]
              exact one_bad s hs w rb k deep n ao cap cs h hk k1 hk1e hlt h40 hb tx htx hat htl
      · have e0 : s.toList.drop k1 = [] := List.drop_of_length_le (by rw [toList_length]; omega)
        rw [e0]
        exact one_none s hs w rb k deep n ao cap cs h hk k1 hk1e (.inl (by omega))
end Go.Proofs.YtilfjpmeededmaaGreatDoor

/- What one of package curtainref's reader reads: a bracket stands next, and no head behind it, or too deep. -/
import Derived.Test.YtilfjpmeededmaaGreatDoorRefB
namespace Go.Proofs.YtilfjpmeededmaaGreatDoor
open Go.RowKit

theorem blk4_set1 {x : World} {b : Nat} {a0 a1 a2 a3 : Value} {T : TypeId} (h : x.heap[b]? = some (.cells #[a0, a1, a2, a3] T (0, 0))) (v : Value) : (x.setCell ⟨b, 1, none⟩ v).heap[b]? = some (.cells #[a0, v, a2, a3] T (0, 0)) := by
  simp [World.setCell, Array.getElem?_modify, h]
theorem skN_le (l : Bs) : skN l ≤ l.length := by unfold skN; exact tw_le l isBl
theorem token_any (s : ByteArray) (hs : s.size ≤ 400) (k : Nat) (hk : k ≤ s.size) : ∃ tx k3, tokS (s.toList.drop k) = (tx, s.toList.drop k3) ∧ k ≤ k3 ∧ k3 ≤ s.size ∧ (tx ≠ [] → k < k3) ∧ tx.length ≤ maxLen ∧
    ∀ (w : World) (rb : Nat) (v : Value), RdIs w rb s k v → Calls Tryz.prog 260 #[.pointer (some ⟨rb, 0, none⟩)] w fun e w' => e = .returned (.string (ofBs tx)) ∧ w.grownBy w' (some rb) ∧ RdIs w' rb s k3 v := by
  by_cases hn : k = s.size ∨ ∃ hlt : k < s.size, bracketB s[k].toNat = true
  · refine ⟨[], k, ?_, Nat.le_refl _, hk, fun h => absurd rfl h, by simp, fun w rb v h => (token_none s w rb k v h hk hn).mono ?_⟩
    · unfold tokS
      rw [if_pos]
      rcases hn with h | ⟨h, hb⟩
      · left; rw [List.length_drop, toList_length]; omega
      · right; rw [not40 h]; exact hb
    · rintro e w' ⟨rfl, rfl⟩; exact ⟨rfl, grown_refl _ _, h⟩
  · have hlt : k < s.size := by
      rcases Nat.lt_or_ge k s.size with h | h
      · exact h
      · exact absurd (.inl (by omega)) hn
    have hb : bracketB s[k].toNat = false := by
      rw [Bool.eq_false_iff]; exact fun e => hn (.inr ⟨hlt, e⟩)
    have hle := tkLen_le (s.toList.drop k) (by rw [List.length_drop, toList_length]; omega)
    have hpos : 0 < tkLen (s.toList.drop k) := by unfold tkLen; omega
    rw [List.length_drop, toList_length] at hle
    have hsk := skN_le (s.toList.drop (k + tkLen (s.toList.drop k)))
    rw [List.length_drop, toList_length] at hsk
    refine ⟨tkText (s.toList.drop k), k + tkLen (s.toList.drop k) + skN (s.toList.drop (k + tkLen (s.toList.drop k))), ?_, by omega, by omega, fun _ => by omega, ?_, fun w rb v h => (token_some s hs w rb k v h hlt hb).mono ?_⟩
    · unfold tokS
      rw [if_neg, skS, ← List.drop_drop, ← List.drop_drop]
      rintro (h | h)
      · rw [List.length_drop, toList_length] at h; omega
      · rw [not40 hlt, hb] at h; cases h
    · unfold tkText
      split
      · rw [List.length_take, List.length_drop, toList_length]; unfold maxLen; omega
      · simp
    · rintro e w' ⟨rfl, k', rfl, _, hg, hr⟩; exact ⟨rfl, hg, hr⟩

set_option maxHeartbeats 4000000 in
set_option maxRecDepth 100000 in
theorem one_headbad (s : ByteArray) (hs : s.size ≤ 400) (w : World) (rb k deep n : Nat) (ao : Option Addr) (cap : Nat) (cs : List Value) (h : RdIs w rb s k (.slice ao n cap)) (hk : k ≤ s.size)
    (k1 : Nat) (hk1e : k + skN (s.toList.drop k) = k1) (hlt : k1 < s.size) (h40 : (s[k1] == 40) = true) (k2 : Nat) (hk2e : k1 + 1 + skN (s.toList.drop (k1 + 1)) = k2) (tx : Bs) (k3 : Nat)
    (HT : ∀ (w : World) (rb : Nat) (v : Value), RdIs w rb s k2 v → Calls Tryz.prog 260 #[.pointer (some ⟨rb, 0, none⟩)] w fun e w' => e = .returned (.string (ofBs tx)) ∧ w.grownBy w' (some rb) ∧ RdIs w' rb s k3 v)
    (htl : tx.length ≤ maxLen) (hbad : headR tx = false ∨ 20 ≤ deep) :
    Calls Tryz.prog 181 #[.pointer (some ⟨rb, 0, none⟩), .int .i64 deep] w fun e w' => Ones w rb s k (.slice ao n cap) n cs none e w' := by
  have HA : ∀ x : World, Calls Tryz.prog 261 #[.string (ofBs tx)] x fun e w' => e = .returned (.bool (headR tx)) ∧ Below x.heap.size x w' := by
    intro x; have := refHead_any (ofBs tx) x (by rw [ofBs_size]; exact htl); rw [ofBs_toList] at this; exact this
  obtain ⟨q, hq⟩ : ∃ q, q = headR tx := ⟨_, rfl⟩
  have hqd : q = false ∨ 20 ≤ deep := by rw [hq]; exact hbad
  rw [← hq] at HA
  clear hbad hq
  go_enter Tryz.func181, Tryz.ntmps181
  go_wp2_with (go_at_call 259; refine (skip_any s hs _ rb k _ h hk).mono ?_; rintro e w2 ⟨rfl, hk1, hg1, hr1⟩)
  rw [hk1e] at hr1
  have hrb := hr1.lt
  have hneb : w2.heap.size ≠ rb := by omega
  obtain ⟨⟨y0, y1, y2⟩, f1, f2⟩ := cells3 hr1
  have hi40 : ((s[k1].toNat : Int) == 40) = true := by rw [← h40]; exact ref_u8i s[k1] 40 (by omega)
  have hs1 := hg1.size
  have hr2 : ∀ o : Obj, RdIs ((w2.setCell ⟨rb, 1, none⟩ (.int .i64 ((k1 : Int) + 1))).alloc o).drew rb s (k1 + 1) (.slice ao n cap) := fun o => by unfold RdIs; exact blk_alloc hr1.inc _
  go_region
  go_wp2_with (first
    | (go_at_call 259; refine (skip_any s hs _ rb (k1 + 1) _ (hr2 _) (by omega)).mono ?_; rintro e w3 ⟨rfl, hk2, hg3, hr3⟩; replace hg3 := undrew hg3; rw [hk2e] at hr3; have hnb : w3.heap[w2.heap.size]? = some (.cells #[.string ⟨#[]⟩, .bool false, .slice none 0 0, .int .u8 0] 359 (0, 0)) := blk_grown (by simpa [World.setCell] using blk_new (w2.setCell ⟨rb, 1, none⟩ (.int .i64 ((k1 : Int) + 1))) (.cells #[.string ⟨#[]⟩, .bool false, .slice none 0 0, .int .u8 0] 359)) hg3 hneb; obtain ⟨⟨z0, z1, z2, z3⟩, g0, g1, g2, g3⟩ := cells4 hnb)
    | (go_at_call 260; refine (HT _ rb _ (blk_setOther hr3 hneb.symm 1 _)).mono ?_; rintro e w4 ⟨rfl, hg4, hr4⟩; have hnb4 := blk_grown (blk4_set1 hnb _) hg4 hneb; obtain ⟨⟨u0, u1, u2, u3⟩, v0, v1, v2, v3⟩ := cells4 hnb4)
    | (go_at_call 261; refine (HA _).mono ?_; rintro e w5 ⟨rfl, hb5⟩))
  all_goals first
    | (exfalso; rcases hqd with e | e; exact absurd ‹q = true› (by rw [e]; decide); omega)
    | (go_ret
       have G3 : w.grownBy w3 (some rb) := grown_trans (grown_alloc (grown_trans hg1 (grown_setCell _ _ _ _)) _) hg3
       have G4 := grown_trans (grown_new G3 hs1 1 (.bool true)) hg4
       have G5 := grown_trans (grown_new G4 hs1 0 (.string (ofBs tx))) (grown_below hb5 _)
       exact ⟨⟨G5.os, G5.tape, G5.output, G5.size, fun g h1 h2 _ => G5.block g h1 (by simpa using h2)⟩, .inl ⟨rfl, rfl, k3, ao, n, cap, blk_below (blk_setOther hr4 hneb.symm 0 _) hb5⟩⟩)
end Go.Proofs.YtilfjpmeededmaaGreatDoor

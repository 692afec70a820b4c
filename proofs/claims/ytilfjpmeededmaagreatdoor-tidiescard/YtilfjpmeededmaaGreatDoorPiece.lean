/- How long the piece is that stands at a text's head: quoteLength, pieceLength. -/
import Derived.Test.YtilfjpmeededmaaGreatDoorCol
namespace Go.Proofs.YtilfjpmeededmaaGreatDoor
open Go.RowKit

def qlen (l : Bs) : Nat := if l.headD 0 == 39 then (if (l.drop 1).contains 39 then ((l.drop 1).takeWhile (· != 39)).length + 2 else 0) else 0
def notSep (c : UInt8) : Bool := !blankB c.toNat && !bracketB c.toNat
def plen (l : Bs) : Nat := if bracketB (l.headD 0).toNat then 1 else qlen l + ((l.drop (qlen l)).takeWhile notSep).length

theorem qlen_le (l : Bs) : qlen l ≤ l.length := by
  unfold qlen
  split
  · split
    · next h => have := (ib_some (l.drop 1) 39 h).2.1; simp at this ⊢; omega
    · omega
  · omega

set_option maxHeartbeats 800000 in
set_option maxRecDepth 100000 in
theorem quoteLength_any (s : ByteArray) (w : World) (hs : s.size ≤ maxLen) (hpos : 0 < s.size) :
    Calls Tryz.prog 325 #[.string s] w fun e w' => e = .returned (.int .i64 (qlen s.toList)) ∧ w' = w := by
  unfold maxLen at hs
  have HH : Hid ((s.toList.headD 0 == 39) = decide ((s[0].toNat : Int) = 39)) := by
    rw [Hid, head_get s hpos]; exact u8_eq _ 39 (by omega)
  by_cases h : (s[0].toNat : Int) = 39
  · have hd : (s.extract 1 s.size).data.toList = s.toList.drop 1 := by rw [data_toList, ext_drop]
    by_cases hc : (s.toList.drop 1).contains 39 = true
    · obtain ⟨i1, i2, _, _⟩ := ib_some _ 39 hc
      obtain ⟨n, hn⟩ : ∃ n, n = ((s.toList.drop 1).takeWhile (· != 39)).length := ⟨_, rfl⟩
      rw [← hn] at i1 i2
      rw [List.length_drop, toList_length] at i2
      have HQ : Hid (qlen s.toList = n + 2) := by rw [Hid, qlen, HH.out, decide_eq_true h, if_pos rfl, if_pos hc, hn]
      have HI : ∀ w : World, Calls Tryz.prog 370 #[.string (s.extract 1 s.size), .int .u8 39] w fun e w' => e = .returned (.int .i64 n) ∧ w' = w := by
        intro w; rw [← i1, ← hd]; exact Tryz.strings_IndexByte (s.extract 1 s.size) 39 w
      clear HH hc hd i1 hn
      go_enter Tryz.func325, Tryz.ntmps325
      go_wp2_with (go_at_call 370; refine (HI _).mono ?_; rintro e w2 ⟨rfl, rfl⟩)
      go_ret
      exact ⟨ret_int (by rw [HQ.out]; go_num), rfl⟩
    · rw [Bool.not_eq_true] at hc
      have HQ : Hid (qlen s.toList = 0) := by rw [Hid, qlen, HH.out, decide_eq_true h, if_pos rfl, if_neg (by rw [hc]; simp)]
      have HI : ∀ w : World, Calls Tryz.prog 370 #[.string (s.extract 1 s.size), .int .u8 39] w fun e w' => e = .returned (.int .i64 (-1)) ∧ w' = w := by
        intro w; rw [← ib_none _ _ hc, ← hd]; exact Tryz.strings_IndexByte (s.extract 1 s.size) 39 w
      clear HH hc hd
      go_enter Tryz.func325, Tryz.ntmps325
      go_wp2_with (go_at_call 370; refine (HI _).mono ?_; rintro e w2 ⟨rfl, rfl⟩)
      go_ret
      exact ⟨ret_int (by rw [HQ.out]; rfl), rfl⟩
  · have HQ : Hid (qlen s.toList = 0) := by rw [Hid, qlen, HH.out, decide_eq_false h]; rfl
    clear HH
    go_enter Tryz.func325, Tryz.ntmps325
    go_wp2_with fail
    go_ret
    exact ⟨ret_int (by rw [HQ.out]; rfl), rfl⟩

theorem tw_drop (s : ByteArray) (k : Nat) (h : k < s.size) : (s.toList.drop k).takeWhile notSep = if notSep s[k] then s[k] :: (s.toList.drop (k + 1)).takeWhile notSep else [] := by
  rw [drop_cons s k h, List.takeWhile_cons]
theorem tw_end (s : ByteArray) (k : Nat) (h : s.size ≤ k) : (s.toList.drop k).takeWhile notSep = [] := by
  rw [List.drop_of_length_le (by rw [toList_length]; exact h)]; rfl

set_option maxHeartbeats 800000 in
set_option maxRecDepth 100000 in
theorem pieceLength_any (s : ByteArray) (w : World) (hs : s.size ≤ maxLen) (hpos : 0 < s.size) :
    Calls Tryz.prog 252 #[.string s] w fun e w' => e = .returned (.int .i64 (plen s.toList)) ∧ w' = w := by
  have hq := qlen_le s.toList
  rw [toList_length] at hq
  obtain ⟨q, hqe⟩ : ∃ q, q = qlen s.toList := ⟨_, rfl⟩
  rw [← hqe] at hq
  have HQL : ∀ w : World, Calls Tryz.prog 325 #[.string s] w fun e w' => e = .returned (.int .i64 q) ∧ w' = w := by
    intro w; rw [hqe]; exact quoteLength_any s w hs hpos
  by_cases h : bracketB s[0].toNat = true
  · have HP : Hid (plen s.toList = 1) := by rw [Hid, plen, head_get s hpos, if_pos h]
    unfold maxLen at hs
    clear hqe
    go_enter Tryz.func252, Tryz.ntmps252
    go_wp2_with (go_at_call 324; refine (isBracket_any _ _).mono ?_; rintro e w2 ⟨rfl, rfl⟩)
    go_ret
    exact ⟨ret_int (by rw [HP.out]; rfl), rfl⟩
  · rw [Bool.not_eq_true] at h
    have HP : Hid (plen s.toList = q + ((s.toList.drop q).takeWhile notSep).length) := by
      rw [Hid, plen, head_get s hpos, if_neg (by rw [h]; simp), hqe]
    unfold maxLen at hs
    clear hqe
    go_enter Tryz.func252, Tryz.ntmps252
    go_wp2_with (first | (go_at_call 324; refine (isBracket_any _ _).mono ?_; rintro e w2 ⟨rfl, rfl⟩) | (go_at_call 325; refine (HQL _).mono ?_; rintro e w2 ⟨rfl, rfl⟩))
    go_loop [3] (fun i => ∃ k : Nat, k ≤ s.size ∧ i = .int .i64 k ∧ Hid (plen s.toList = k + ((s.toList.drop k).takeWhile notSep).length)) (fun i => s.size - (intOf i).toNat)
    case atStart => exact ⟨q, hq, rfl, HP⟩
    case round =>
      obtain ⟨k, hk, rfl, HA⟩ := hrel
      by_cases hlt : k < s.size
      · have HS := tw_drop s k hlt
        replace HS : Hid _ := HS
        have HN : Hid (notSep s[k] = (!blankB s[k].toNat && !bracketB s[k].toNat)) := rfl
        by_cases hb : blankB s[k].toNat = true
        · have HF : Hid (plen s.toList = k) := by rw [Hid, HA.out, HS.out, HN.out, hb]; rfl
          go_wp2_with (first | (go_at_call 251; refine (isBlank_any _ _).mono ?_; rintro e w2 ⟨rfl, rfl⟩) | (go_at_call 324; refine (isBracket_any _ _).mono ?_; rintro e w2 ⟨rfl, rfl⟩))
          go_ret
          exact ⟨ret_int (by rw [HF.out]), rfl⟩
        · rw [Bool.not_eq_true] at hb
          by_cases hc : bracketB s[k].toNat = true
          · have HF : Hid (plen s.toList = k) := by rw [Hid, HA.out, HS.out, HN.out, hb, hc]; rfl
            go_wp2_with (first | (go_at_call 251; refine (isBlank_any _ _).mono ?_; rintro e w2 ⟨rfl, rfl⟩) | (go_at_call 324; refine (isBracket_any _ _).mono ?_; rintro e w2 ⟨rfl, rfl⟩))
            go_ret
            exact ⟨ret_int (by rw [HF.out]), rfl⟩
          · rw [Bool.not_eq_true] at hc
            have HF : Hid (plen s.toList = (k + 1) + ((s.toList.drop (k + 1)).takeWhile notSep).length) := by
              rw [Hid, HA.out, HS.out, HN.out, hb, hc]; simp; omega
            go_wp2_with (first | (go_at_call 251; refine (isBlank_any _ _).mono ?_; rintro e w2 ⟨rfl, rfl⟩) | (go_at_call 324; refine (isBracket_any _ _).mono ?_; rintro e w2 ⟨rfl, rfl⟩))
            go_round
            case rel => exact ⟨k + 1, by omega, by go_num, HF⟩
            case measure => simp [intOf]; omega
      · have HE : Hid ((s.toList.drop k).takeWhile notSep = []) := tw_end s k (by omega)
        go_wp2_with fail
        go_ret
        exact ⟨ret_int (by rw [HA.out, HE.out]; simp), rfl⟩
end Go.Proofs.YtilfjpmeededmaaGreatDoor

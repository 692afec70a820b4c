import Derived.Test.YtilfjpmeededmaaGreatDoorColZ
set_option linter.unusedVariables false
set_option linter.unusedSimpArgs false
namespace Go.Proofs.YtilfjpmeededmaaGreatDoor
open Go.RowKit
set_option maxHeartbeats 400000 in
set_option maxRecDepth 100000 in
theorem refBlank_any (c : Int) (w : World) :
    Calls Tryz.prog 334 #[.int .u8 c] w fun e w' => e = .returned (.bool (blankB c)) ∧ w' = w := by
  go_enter Tryz.func334, Tryz.ntmps334
  go_wp2
  all_goals go_ret
  all_goals (refine ⟨ret_bool ?_, rfl⟩; simp [blankB, *])
set_option maxHeartbeats 400000 in
set_option maxRecDepth 100000 in
theorem refBracket_any (c : Int) (w : World) :
    Calls Tryz.prog 335 #[.int .u8 c] w fun e w' => e = .returned (.bool (bracketB c)) ∧ w' = w := by
  go_enter Tryz.func335, Tryz.ntmps335
  go_wp2
  all_goals go_ret
  all_goals (refine ⟨ret_bool ?_, rfl⟩; simp [bracketB, *])
set_option maxHeartbeats 400000 in
set_option maxRecDepth 100000 in
theorem refDigit_any (c : Int) (w : World) :
    Calls Tryz.prog 342 #[.int .u8 c] w fun e w' => e = .returned (.bool (digitB c)) ∧ w' = w := by
  go_enter Tryz.func342, Tryz.ntmps342
  go_wp2
  all_goals go_ret
  all_goals (refine ⟨ret_bool ?_, rfl⟩; simp [digitB] <;> omega)
set_option maxHeartbeats 400000 in
set_option maxRecDepth 100000 in
theorem refLetter_any (c : Int) (w : World) :
    Calls Tryz.prog 341 #[.int .u8 c] w fun e w' => e = .returned (.bool (letterB c)) ∧ w' = w := by
  go_enter Tryz.func341, Tryz.ntmps341
  go_wp2
  all_goals go_ret
  all_goals (refine ⟨ret_bool ?_, rfl⟩; simp [letterB] <;> omega)
set_option maxHeartbeats 800000 in
set_option maxRecDepth 100000 in
theorem refQuote_any (s : ByteArray) (w : World) (hs : s.size ≤ maxLen) :
    Calls Tryz.prog 339 #[.string s] w fun e w' => e = .returned (.bool (quoteS s.toList)) ∧ w' = w := by
  unfold maxLen at hs
  by_cases h2 : 2 ≤ s.size ∧ s.size ≤ 32
  · obtain ⟨h2, h32⟩ := h2
    have HP := quoteS_of s h2 h32
    replace HP : Hid _ := HP
    by_cases h3 : (s[0].toNat : Int) = 39 ∧ (s[s.size - 1].toNat : Int) = 39
    · obtain ⟨h3, h4⟩ := h3
      go_enter Tryz.func339, Tryz.ntmps339
      go_wp2_with fail
      go_loop [3] (fun i => ∃ k : Nat, 1 ≤ k ∧ k ≤ s.size - 1 ∧ i = .int .i64 k ∧ Hid (((s.toList.take (s.size - 1)).drop 1).all quoC = ((s.toList.take (s.size - 1)).drop k).all quoC)) (fun i => s.size - (intOf i).toNat)
      case atStart => exact ⟨1, by omega, by omega, rfl, rfl⟩
      case round =>
        obtain ⟨k, hk1, hk, rfl, HA⟩ := hrel
        by_cases hlt : k < s.size - 1
        · have hks : k < s.size := by omega
          have HS := quo_drop s k hlt
          replace HS : Hid _ := HS
          have HD := quoC_of s[k]
          replace HD : Hid _ := HD
          by_cases ha : (s[k].toNat : Int) < 32
          · go_wp2_with fail
            go_ret
            exact ⟨ret_bool (by rw [HP.out, HA.out, HS.out, HD.out]; simp [ha]), rfl⟩
          · by_cases hb : (126 : Int) < s[k].toNat
            · go_wp2_with fail
              go_ret
              exact ⟨ret_bool (by rw [HP.out, HA.out, HS.out, HD.out]; simp [hb]), rfl⟩
            · by_cases hc : (s[k].toNat : Int) = 39
              · go_wp2_with fail
                go_ret
                exact ⟨ret_bool (by rw [HP.out, HA.out, HS.out, HD.out]; simp [hc]), rfl⟩
              · have HB : Hid (quoC s[k] = true) := by rw [Hid, HD.out]; simp [ha, hb, hc]
                go_wp2_with fail
                go_round
                case rel => exact ⟨k + 1, by omega, by omega, by go_num, by rw [Hid, HA.out, HS.out, HB.out]; rfl⟩
                case measure => simp [intOf]; omega
        · have HE : Hid (((s.toList.take (s.size - 1)).drop k).all quoC = true) := quo_end s k (by omega)
          go_wp2_with fail
          go_ret
          exact ⟨ret_bool (by rw [HP.out, HA.out, HE.out, h3, h4]; simp), rfl⟩
    · by_cases h4 : (s[0].toNat : Int) = 39
      · have H5 : Hid (¬ (s[s.size - 1].toNat : Int) = 39) := fun h => h3 ⟨h4, h⟩
        have h5 : ((s[s.size - 1].toNat : Int) != 39) = true := by rw [bne_dec, decide_eq_false H5.out]; rfl
        clear h3
        go_enter Tryz.func339, Tryz.ntmps339
        go_wp2_with fail
        go_ret
        exact ⟨ret_bool (by rw [HP.out, decide_eq_false H5.out]; simp), rfl⟩
      · clear h3
        go_enter Tryz.func339, Tryz.ntmps339
        go_wp2_with fail
        go_ret
        exact ⟨ret_bool (by rw [HP.out]; simp [h4]), rfl⟩
  · have HP : Hid (quoteS s.toList = false) := by
      simp only [Hid, quoteS, toList_length]; simp; omega
    by_cases h5 : s.size < 2
    · go_enter Tryz.func339, Tryz.ntmps339
      go_wp2_with fail
      go_ret
      exact ⟨ret_bool HP.out.symm, rfl⟩
    · have h6 : 32 < s.size := by omega
      go_enter Tryz.func339, Tryz.ntmps339
      go_wp2_with fail
      go_ret
      exact ⟨ret_bool HP.out.symm, rfl⟩
set_option maxHeartbeats 400000 in
set_option maxRecDepth 100000 in
theorem refConstant_any (s : ByteArray) (w : World) :
    Calls Tryz.prog 264 #[.string s] w fun e w' => e = .returned (.bool (valS s.toList)) ∧ w' = w := by
  go_enter Tryz.func264, Tryz.ntmps264
  go_wp2
  all_goals go_ret
  all_goals (refine ⟨ret_bool ?_, rfl⟩; simp_all [valS])
def parV (l : Bs) : Int := if parS l then (l.getD 1 0).toNat - 49 else -1
set_option maxHeartbeats 400000 in
set_option maxRecDepth 100000 in
theorem refParameter_any (s : ByteArray) (w : World) :
    Calls Tryz.prog 340 #[.string s] w fun e w' => e = .returned (.int .i64 (parV s.toList)) ∧ w' = w := by
  by_cases h2 : s.size = 2
  · have HP : Hid (parS s.toList = (decide ((s[0].toNat : Int) = 36) && digitB s[1].toNat && !decide ((s[1].toNat : Int) = 48))) := parS_of s h2
    have HG : Hid (s.toList.getD 1 0 = s[1]) := getD_get s 1 (by omega)
    by_cases h3 : (s[0].toNat : Int) = 36
    · by_cases h4 : (s[1].toNat : Int) < 49
      · have HV : Hid (parV s.toList = -1) := by
          rw [Hid, parV, if_neg]; rw [HP.out]; unfold digitB; simp; omega
        go_enter Tryz.func340, Tryz.ntmps340
        go_wp2
        go_ret
        exact ⟨ret_int HV.out.symm, rfl⟩
      · by_cases h5 : (57 : Int) < s[1].toNat
        · have HV : Hid (parV s.toList = -1) := by
            rw [Hid, parV, if_neg]; rw [HP.out]; unfold digitB; simp; omega
          go_enter Tryz.func340, Tryz.ntmps340
          go_wp2
          go_ret
          exact ⟨ret_int HV.out.symm, rfl⟩
        · have HV : Hid (parV s.toList = (s[1].toNat : Int) - 49) := by
            rw [Hid, parV, if_pos, HG.out]; rw [HP.out]; unfold digitB; simp; omega
          go_enter Tryz.func340, Tryz.ntmps340
          go_wp2
          go_ret
          exact ⟨ret_int HV.out.symm, rfl⟩
    · have HV : Hid (parV s.toList = -1) := by
        rw [Hid, parV, if_neg]; rw [HP.out]; simp [h3]
      have h3b : ((s[0].toNat : Int) != 36) = true := by simpa using h3
      clear h3
      go_enter Tryz.func340, Tryz.ntmps340
      go_wp2
      go_ret
      exact ⟨ret_int HV.out.symm, rfl⟩
  · have HV : Hid (parV s.toList = -1) := by
      rw [Hid, parV, if_neg]; unfold parS; rw [toList_length]; simp [h2]
    have h2b : ((s.size : Int) != 2) = true := by simp; omega
    go_enter Tryz.func340, Tryz.ntmps340
    go_wp2
    go_ret
    exact ⟨ret_int HV.out.symm, rfl⟩
set_option maxHeartbeats 800000 in
set_option maxRecDepth 100000 in
theorem refWord_any (s : ByteArray) (w : World) (hs : s.size ≤ maxLen) :
    Calls Tryz.prog 263 #[.string s] w fun e w' => e = .returned (.bool (wordS s.toList)) ∧ w' = w := by
  unfold maxLen at hs
  go_enter Tryz.func263, Tryz.ntmps263
  go_wp2_with fail
  go_loop [3] (fun i => ∃ k : Nat, k ≤ s.size ∧ i = .int .i64 k ∧ (1 ≤ k → letterB (s.toList.headD 0).toNat = true) ∧ Hid (s.toList.all ldB = (s.toList.drop k).all ldB)) (fun i => s.size - (intOf i).toNat)
  case atStart => exact ⟨0, Nat.zero_le _, rfl, fun h => by omega, rfl⟩
  case round =>
    obtain ⟨k, hk, rfl, hl1, HA⟩ := hrel
    have HL : Hid _ := hl1
    clear hl1
    by_cases hlt : k < s.size
    · have HS : Hid ((s.toList.drop k).all ldB = (ldB s[k] && (s.toList.drop (k + 1)).all ldB)) := all_drop ldB s k hlt
      have HD : Hid (ldB s[k] = (letterB s[k].toNat || digitB s[k].toNat)) := rfl
      have HH : Hid (s.toList.headD 0 = s[0]) := head_get s (by omega)
      by_cases hl : letterB s[k].toNat = true
      · have HN : Hid (letterB (s.toList.headD 0).toNat = true) := by
          rw [Hid]
          by_cases h0 : k = 0
          · rw [HH.out]; subst h0; exact hl
          · exact HL.out (by omega)
        go_wp2_with (first | (go_at_call 341; refine (refLetter_any _ _).mono ?_; rintro e w' ⟨rfl, rfl⟩) | (go_at_call 342; refine (refDigit_any _ _).mono ?_; rintro e w' ⟨rfl, rfl⟩))
        go_round
        case rel => exact ⟨k + 1, by omega, by go_num, fun _ => HN.out, by rw [Hid, HA.out, HS.out, HD.out, hl]; rfl⟩
        case measure => simp [intOf]; omega
      · rw [Bool.not_eq_true] at hl
        by_cases h0 : k = 0
        · have HF : Hid (wordS s.toList = false) := by
            have e : letterB (s.toList.headD 0).toNat = false := by rw [HH.out]; subst h0; exact hl
            rw [Hid, wordS, e]; simp
          subst h0
          go_wp2_with (first | (go_at_call 341; refine (refLetter_any _ _).mono ?_; rintro e w' ⟨rfl, rfl⟩) | (go_at_call 342; refine (refDigit_any _ _).mono ?_; rintro e w' ⟨rfl, rfl⟩))
          go_ret
          exact ⟨ret_bool HF.out.symm, rfl⟩
        · have hk0 : ((k : Int) == 0) = false := by simp; omega
          by_cases hd1 : digitB s[k].toNat = true
          · have HN : Hid (letterB (s.toList.headD 0).toNat = true) := HL.out (by omega)
            go_wp2_with (first | (go_at_call 341; refine (refLetter_any _ _).mono ?_; rintro e w' ⟨rfl, rfl⟩) | (go_at_call 342; refine (refDigit_any _ _).mono ?_; rintro e w' ⟨rfl, rfl⟩))
            go_round
            case rel => exact ⟨k + 1, by omega, by go_num, fun _ => HN.out, by rw [Hid, HA.out, HS.out, HD.out, hl, hd1]; rfl⟩
            case measure => simp [intOf]; omega
          · rw [Bool.not_eq_true] at hd1
            have HF : Hid (wordS s.toList = false) := by
              rw [Hid, wordS, HA.out, HS.out, HD.out, hl, hd1]; simp
            go_wp2_with (first | (go_at_call 341; refine (refLetter_any _ _).mono ?_; rintro e w' ⟨rfl, rfl⟩) | (go_at_call 342; refine (refDigit_any _ _).mono ?_; rintro e w' ⟨rfl, rfl⟩))
            go_ret
            exact ⟨ret_bool HF.out.symm, rfl⟩
    · by_cases h0 : s.size = 0
      · have hE := isEmpty_t s h0
        have HF : Hid (wordS s.toList = false) := by rw [Hid, wordS, toList_length]; simp [h0]
        go_wp2_with fail
        go_ret
        exact ⟨ret_bool HF.out.symm, rfl⟩
      · have hE := isEmpty_f s (by omega)
        have HF : Hid (wordS s.toList = decide ((s.size : Int) ≤ 12)) := by
          rw [Hid, wordS, HL.out (by omega), HA.out, all_end ldB s k (by omega), toList_length]
          rw [Bool.eq_iff_iff]; simp; omega
        go_wp2_with fail
        go_ret
        exact ⟨ret_bool HF.out.symm, rfl⟩
end Go.Proofs.YtilfjpmeededmaaGreatDoor

namespace Go.Proofs.YtilfjpmeededmaaGreatDoor
open Go.RowKit
def digV : Bs → Int → Int
  | [], n => n
  | c :: r, n => digV r (n * 10 + (c.toNat - 48))
def numV (l : Bs) : Int := if numS l then (if l.headD 0 == 45 then -(digV (l.drop 1) 0) else digV l 0) else 0
def numR : Bs → Int → Bool
  | [], _ => true
  | c :: r, n => (decide (49 ≤ (c.toNat : Int)) && decide ((c.toNat : Int) ≤ 57) || (decide ((c.toNat : Int) = 48) && decide (0 < n))) && decide (n * 10 + (c.toNat - 48) ≤ 1000000000) && numR r (n * 10 + (c.toNat - 48))
theorem numR_pos (l : Bs) : ∀ n : Int, 0 < n → numR l n = numLoop l n := by
  induction l with
  | nil => intro n _; rfl
  | cons c r ih =>
    intro n hn
    rw [numR, numLoop]
    have e : (decide (49 ≤ (c.toNat : Int)) && decide ((c.toNat : Int) ≤ 57) || (decide ((c.toNat : Int) = 48) && decide (0 < n))) = digitB c.toNat := by
      unfold digitB; rw [Bool.eq_iff_iff]; simp; omega
    rw [e]
    by_cases hd : digitB c.toNat = true
    · have := digitB_bd hd
      rw [ih _ (by omega)]
    · rw [Bool.not_eq_true] at hd; rw [hd]; rfl
theorem numR_zero (l : Bs) : numR l 0 = (l.isEmpty || (!(l.headD 0 == 48) && numLoop l 0)) := by
  cases l with
  | nil => rfl
  | cons c r =>
    rw [numR, numLoop, List.headD_cons]
    have e48 : (c == 48) = decide ((c.toNat : Int) = 48) := u8_eq c 48 (by omega)
    rw [e48]
    by_cases h : (c.toNat : Int) = 48
    · simp [h]
    · have e : (decide (49 ≤ (c.toNat : Int)) && decide ((c.toNat : Int) ≤ 57) || (decide ((c.toNat : Int) = 48) && decide ((0 : Int) < 0))) = digitB c.toNat := by
        unfold digitB; rw [Bool.eq_iff_iff]; simp; omega
      rw [e]
      by_cases hd : digitB c.toNat = true
      · have := digitB_bd hd
        rw [numR_pos _ _ (by omega)]; simp [h]
      · rw [Bool.not_eq_true] at hd; rw [hd]; simp
theorem numR_drop (s : ByteArray) (k : Nat) (n : Int) (h : k < s.size) : numR (s.toList.drop k) n =
    ((decide (49 ≤ (s[k].toNat : Int)) && decide ((s[k].toNat : Int) ≤ 57) || (decide ((s[k].toNat : Int) = 48) && decide (0 < n))) && decide (n * 10 + (s[k].toNat - 48) ≤ 1000000000) && numR (s.toList.drop (k + 1)) (n * 10 + (s[k].toNat - 48))) := by
  rw [drop_cons s k h, numR]
theorem digV_drop (s : ByteArray) (k : Nat) (n : Int) (h : k < s.size) : digV (s.toList.drop k) n = digV (s.toList.drop (k + 1)) (n * 10 + (s[k].toNat - 48)) := by
  rw [drop_cons s k h, digV]
theorem numR_end (s : ByteArray) (k : Nat) (n : Int) (h : s.size ≤ k) : numR (s.toList.drop k) n = true ∧ digV (s.toList.drop k) n = n := by
  rw [List.drop_of_length_le (by rw [toList_length]; exact h)]; exact ⟨rfl, rfl⟩
theorem numV_false {l : Bs} (h : numS l = false) : numV l = 0 := by rw [numV, h]; rfl
theorem two_eq {a b : Int} {c d : Bool} (h1 : a = b) (h2 : c = d) : Ending.returned (.tuple #[.int .i64 a, .bool c]) = .returned (.tuple #[.int .i64 b, .bool d]) := by rw [h1, h2]
theorem numS_rest (l : Bs) (h0 : (l == [48]) = false) : numS l = (decide (0 < (unminus l).length) && numR (unminus l) 0) := by
  rw [numS, h0, Bool.false_or, numR_zero]
  cases hl : unminus l with
  | nil => rfl
  | cons c r => simp
set_option maxHeartbeats 1600000 in
set_option maxRecDepth 100000 in
theorem refNumeral_any (s : ByteArray) (w : World) (hs : s.size ≤ maxLen) :
    Calls Tryz.prog 337 #[.string s] w fun e w' => e = .returned (.tuple #[.int .i64 (numV s.toList), .bool (numS s.toList)]) ∧ w' = w := by
  unfold maxLen at hs
  by_cases h0 : (s.toList == [48]) = true
  · have HN : Hid (numS s.toList = true) := by rw [Hid, numS, h0]; rfl
    have HV : Hid (numV s.toList = 0) := by
      have : s.toList = [48] := by simpa using h0
      rw [Hid, this]; rfl
    go_enter Tryz.func337, Tryz.ntmps337
    go_wp2_with fail
    go_ret2
    exact ⟨by rw [HN.out, HV.out]; rfl, rfl⟩
  · rw [Bool.not_eq_true] at h0
    have HS0 := numS_rest s.toList h0
    replace HS0 : Hid _ := HS0
    by_cases hz : s.size = 0
    · have hE := isEmpty_t s hz
      have hl : s.toList = [] := List.isEmpty_iff.mp hE
      have HN : Hid (numS s.toList = false) := by rw [Hid, hl]; rfl
      have HV : Hid (numV s.toList = 0) := by rw [Hid, hl]; rfl
      clear hl
      go_enter Tryz.func337, Tryz.ntmps337
      go_wp2_with fail
      go_loop [4, 5, 6] (fun n b i => n = .int .i64 0 ∧ b = .int .i64 1 ∧ i = .int .i64 0) (fun _ _ _ => 0)
      case atStart => exact ⟨rfl, rfl, rfl⟩
      case round =>
        obtain ⟨rfl, rfl, rfl⟩ := hrel
        go_wp2_with fail
        go_ret2
        exact ⟨by rw [HN.out, HV.out]; rfl, rfl⟩
    · have hpos : 0 < s.size := by omega
      have hE := isEmpty_f s hpos
      have HH : Hid ((s.toList.headD 0 == 45) = decide ((s[0].toNat : Int) = 45)) := by rw [Hid, head_get s hpos]; exact u8_eq _ 45 (by omega)
      by_cases hsg : (s[0].toNat : Int) = 45
      · have HU : Hid (unminus s.toList = s.toList.drop 1) := by rw [Hid, unminus, HH.out, decide_eq_true hsg]; rfl
        by_cases h1 : s.size = 1
        · have HF : Hid (numS s.toList = false) := by
            rw [Hid, HS0.out, HU.out, List.length_drop, toList_length, h1]; rfl
          go_enter Tryz.func337, Tryz.ntmps337
          go_wp2_with fail
          go_loop [4, 5, 6] (fun n b i => n = .int .i64 0 ∧ b = .int .i64 1 ∧ i = .int .i64 0) (fun _ _ _ => 0)
          case atStart => exact ⟨rfl, rfl, rfl⟩
          case round =>
            obtain ⟨rfl, rfl, rfl⟩ := hrel
            go_wp2_with fail
            go_ret2
            exact ⟨two_eq (numV_false HF.out).symm HF.out.symm, rfl⟩
        · have h1' : 1 < s.size := by omega
          have HA1 : Hid (numS s.toList = numR (s.toList.drop 1) 0) := by
            rw [Hid, HS0.out, HU.out, List.length_drop, toList_length, decide_eq_true (by omega)]; rfl
          have HB1 : Hid (digV (unminus s.toList) 0 = digV (s.toList.drop 1) 0) := by rw [Hid, HU.out]
          have HV : Hid (numS s.toList = true → numV s.toList = -(digV (unminus s.toList) 0)) := by
            intro h; rw [numV, h, if_pos rfl, HH.out, decide_eq_true hsg, if_pos rfl, HU.out]
          clear HU HH HS0
          go_enter Tryz.func337, Tryz.ntmps337
          go_wp2_with fail
          go_loop [4, 5, 6] (fun nv bv iv => ∃ (k : Nat) (n b : Int), k ≤ s.size ∧ nv = .int .i64 n ∧ bv = .int .i64 b ∧ iv = .int .i64 k ∧ 0 ≤ n ∧ n ≤ 1000000000 ∧ ((k = 0 ∧ n = 0 ∧ b = 1) ∨ (1 ≤ k ∧ b = -1 ∧ Hid (numS s.toList = numR (s.toList.drop k) n) ∧ Hid (digV (unminus s.toList) 0 = digV (s.toList.drop k) n)))) (fun _ _ i => s.size - (intOf i).toNat)
          case atStart => exact ⟨0, 0, 1, Nat.zero_le _, rfl, rfl, rfl, by omega, by omega, .inl ⟨rfl, rfl, rfl⟩⟩
          case round =>
            obtain ⟨k, n, b, hk, rfl, rfl, rfl, hn0, hn1, hcase⟩ := hrel
            rcases hcase with ⟨rfl, rfl, rfl⟩ | ⟨hk1, rfl, HA, HB⟩
            · go_wp2_with fail
              go_round
              case rel => exact ⟨1, 0, -1, by omega, rfl, rfl, rfl, by omega, by omega, .inr ⟨by omega, rfl, HA1, HB1⟩⟩
              case measure => simp [intOf]; omega
            · clear HA1 HB1
              have hkb : ((k : Int) == 0) = false := by simp; omega
              by_cases hlt : k < s.size
              · clear hsg
                have HR := numR_drop s k n hlt
                replace HR : Hid _ := HR
                have HDV := digV_drop s k n hlt
                replace HDV : Hid _ := HDV
                by_cases h45 : (s[k].toNat : Int) = 45
                · have HF : Hid (numS s.toList = false) := by rw [Hid, HA.out, HR.out, h45]; simp
                  go_wp2_with fail
                  go_ret2
                  exact ⟨two_eq (numV_false HF.out).symm HF.out.symm, rfl⟩
                · by_cases hok : (49 ≤ (s[k].toNat : Int) ∧ (s[k].toNat : Int) ≤ 57) ∨ ((s[k].toNat : Int) = 48 ∧ 0 < n)
                  · have HT : Hid ((decide (49 ≤ (s[k].toNat : Int)) && decide ((s[k].toNat : Int) ≤ 57) || (decide ((s[k].toNat : Int) = 48) && decide (0 < n))) = true) := by rw [Hid]; simpa using hok
                    have hbd : 48 ≤ (s[k].toNat : Int) ∧ (s[k].toNat : Int) ≤ 57 := by omega
                    by_cases hbig : 10 * n + (s[k].toNat - 48) ≤ 1000000000
                    · have HN : Hid (numS s.toList = numR (s.toList.drop (k + 1)) (10 * n + (s[k].toNat - 48))) := by
                        rw [Hid, HA.out, HR.out, HT.out, show n * 10 = 10 * n by omega, decide_eq_true hbig]; rfl
                      have HN2 : Hid (digV (unminus s.toList) 0 = digV (s.toList.drop (k + 1)) (10 * n + (s[k].toNat - 48))) := by
                        rw [Hid, HB.out, HDV.out, show n * 10 = 10 * n by omega]
                      clear HT HR HDV HA HB
                      rcases hok with ⟨o1, o2⟩ | ⟨o1, o2⟩
                      · go_wp2_with fail
                        go_round
                        case rel => exact ⟨k + 1, 10 * n + (s[k].toNat - 48), -1, by omega, (by first | rfl | (rw [o1]; simp)), rfl, by go_num, by omega, by omega, .inr ⟨by omega, rfl, HN, HN2⟩⟩
                        case measure => simp [intOf]; omega
                      · have o3 : ¬ 49 ≤ (s[k].toNat : Int) := by omega
                        go_wp2_with fail
                        go_round
                        case rel => exact ⟨k + 1, 10 * n + (s[k].toNat - 48), -1, by omega, (by first | rfl | (rw [o1]; simp)), rfl, by go_num, by omega, by omega, .inr ⟨by omega, rfl, HN, HN2⟩⟩
                        case measure => simp [intOf]; omega
                    · have HF : Hid (numS s.toList = false) := by rw [Hid, HA.out, HR.out, show n * 10 = 10 * n by omega, decide_eq_false hbig]; simp
                      clear HT HR HDV HA HB
                      rcases hok with ⟨o1, o2⟩ | ⟨o1, o2⟩
                      · go_wp2_with fail
                        go_ret2
                        exact ⟨two_eq (numV_false HF.out).symm HF.out.symm, rfl⟩
                      · have o3 : ¬ 49 ≤ (s[k].toNat : Int) := by omega
                        go_wp2_with fail
                        go_ret2
                        exact ⟨two_eq (numV_false HF.out).symm HF.out.symm, rfl⟩
                  · have HF : Hid (numS s.toList = false) := by
                      have e : (decide (49 ≤ (s[k].toNat : Int)) && decide ((s[k].toNat : Int) ≤ 57) || (decide ((s[k].toNat : Int) = 48) && decide (0 < n))) = false := by
                        rw [Bool.eq_false_iff]; intro h; exact hok (by simpa using h)
                      rw [Hid, HA.out, HR.out, e]; rfl
                    clear HR HDV HA HB
                    by_cases o1 : 49 ≤ (s[k].toNat : Int)
                    · have o2 : ¬ (s[k].toNat : Int) ≤ 57 := fun h => hok (.inl ⟨o1, h⟩)
                      clear hok
                      go_wp2_with fail
                      go_ret2
                      exact ⟨two_eq (numV_false HF.out).symm HF.out.symm, rfl⟩
                    · by_cases o3 : (s[k].toNat : Int) = 48
                      · have o4 : ¬ 0 < n := fun h => hok (.inr ⟨o3, h⟩)
                        clear hok
                        go_wp2_with fail
                        go_ret2
                        exact ⟨two_eq (numV_false HF.out).symm HF.out.symm, rfl⟩
                      · clear hok
                        go_wp2_with fail
                        go_ret2
                        exact ⟨two_eq (numV_false HF.out).symm HF.out.symm, rfl⟩
              · have HE := numR_end s k n (by omega)
                have HT : Hid (numS s.toList = true) := by rw [Hid, HA.out, HE.1]
                have HW : Hid (numV s.toList = -n) := by rw [Hid, HV.out HT.out, HB.out, HE.2]
                clear HE
                go_wp2_with fail
                go_ret2
                exact ⟨two_eq (by rw [HW.out]) HT.out.symm, rfl⟩
      · have HU : Hid (unminus s.toList = s.toList) := by rw [Hid, unminus, HH.out, decide_eq_false hsg]; rfl
        have HA1 : Hid (numS s.toList = numR (s.toList.drop 0) 0) := by
          rw [Hid, HS0.out, HU.out, toList_length, decide_eq_true hpos]; rfl
        have HB1 : Hid (digV (unminus s.toList) 0 = digV (s.toList.drop 0) 0) := by rw [Hid, HU.out]; rfl
        have HV : Hid (numS s.toList = true → numV s.toList = digV (unminus s.toList) 0) := by
          intro h; rw [numV, h, if_pos rfl, HH.out, decide_eq_false hsg, if_neg Bool.false_ne_true, HU.out]
        clear HU HH HS0
        go_enter Tryz.func337, Tryz.ntmps337
        go_wp2_with fail
        go_loop [4, 5, 6] (fun nv bv iv => ∃ (k : Nat) (n : Int), k ≤ s.size ∧ nv = .int .i64 n ∧ bv = .int .i64 1 ∧ iv = .int .i64 k ∧ 0 ≤ n ∧ n ≤ 1000000000 ∧ Hid (numS s.toList = numR (s.toList.drop k) n) ∧ Hid (digV (unminus s.toList) 0 = digV (s.toList.drop k) n)) (fun _ _ i => s.size - (intOf i).toNat)
        case atStart => exact ⟨0, 0, Nat.zero_le _, rfl, rfl, rfl, by omega, by omega, HA1, HB1⟩
        case round =>
          obtain ⟨k, n, hk, rfl, rfl, rfl, hn0, hn1, HA, HB⟩ := hrel
          clear HA1 HB1
          by_cases hlt : k < s.size
          · by_cases hk0 : k = 0
            · have h45 : ¬ (s[k].toNat : Int) = 45 := by have e := hk0; subst e; exact hsg
              clear hsg hk0
              have HR := numR_drop s k n hlt
              replace HR : Hid _ := HR
              have HDV := digV_drop s k n hlt
              replace HDV : Hid _ := HDV
              by_cases hok : (49 ≤ (s[k].toNat : Int) ∧ (s[k].toNat : Int) ≤ 57) ∨ ((s[k].toNat : Int) = 48 ∧ 0 < n)
              · have HT : Hid ((decide (49 ≤ (s[k].toNat : Int)) && decide ((s[k].toNat : Int) ≤ 57) || (decide ((s[k].toNat : Int) = 48) && decide (0 < n))) = true) := by rw [Hid]; simpa using hok
                have hbd : 48 ≤ (s[k].toNat : Int) ∧ (s[k].toNat : Int) ≤ 57 := by omega
                by_cases hbig : 10 * n + (s[k].toNat - 48) ≤ 1000000000
                · have HN : Hid (numS s.toList = numR (s.toList.drop (k + 1)) (10 * n + (s[k].toNat - 48))) := by
                    rw [Hid, HA.out, HR.out, HT.out, show n * 10 = 10 * n by omega, decide_eq_true hbig]; rfl
                  have HN2 : Hid (digV (unminus s.toList) 0 = digV (s.toList.drop (k + 1)) (10 * n + (s[k].toNat - 48))) := by
                    rw [Hid, HB.out, HDV.out, show n * 10 = 10 * n by omega]
                  clear HT HR HDV HA HB
                  rcases hok with ⟨o1, o2⟩ | ⟨o1, o2⟩
                  · go_wp2_with fail
                    go_round
                    case rel => exact ⟨k + 1, 10 * n + (s[k].toNat - 48), by omega, (by first | rfl | (rw [o1]; simp)), rfl, by go_num, by omega, by omega, HN, HN2⟩
                    case measure => simp [intOf]; omega
                  · have o3 : ¬ 49 ≤ (s[k].toNat : Int) := by omega
                    go_wp2_with fail
                    go_round
                    case rel => exact ⟨k + 1, 10 * n + (s[k].toNat - 48), by omega, (by first | rfl | (rw [o1]; simp)), rfl, by go_num, by omega, by omega, HN, HN2⟩
                    case measure => simp [intOf]; omega
                · have HF : Hid (numS s.toList = false) := by rw [Hid, HA.out, HR.out, show n * 10 = 10 * n by omega, decide_eq_false hbig]; simp
                  clear HT HR HDV HA HB
                  rcases hok with ⟨o1, o2⟩ | ⟨o1, o2⟩
                  · go_wp2_with fail
                    go_ret2
                    exact ⟨two_eq (numV_false HF.out).symm HF.out.symm, rfl⟩
                  · have o3 : ¬ 49 ≤ (s[k].toNat : Int) := by omega
                    go_wp2_with fail
                    go_ret2
                    exact ⟨two_eq (numV_false HF.out).symm HF.out.symm, rfl⟩
              · have HF : Hid (numS s.toList = false) := by
                  have e : (decide (49 ≤ (s[k].toNat : Int)) && decide ((s[k].toNat : Int) ≤ 57) || (decide ((s[k].toNat : Int) = 48) && decide (0 < n))) = false := by
                    rw [Bool.eq_false_iff]; intro h; exact hok (by simpa using h)
                  rw [Hid, HA.out, HR.out, e]; rfl
                clear HR HDV HA HB
                by_cases o1 : 49 ≤ (s[k].toNat : Int)
                · have o2 : ¬ (s[k].toNat : Int) ≤ 57 := fun h => hok (.inl ⟨o1, h⟩)
                  clear hok
                  go_wp2_with fail
                  go_ret2
                  exact ⟨two_eq (numV_false HF.out).symm HF.out.symm, rfl⟩
                · by_cases o3 : (s[k].toNat : Int) = 48
                  · have o4 : ¬ 0 < n := fun h => hok (.inr ⟨o3, h⟩)
                    clear hok
                    go_wp2_with fail
                    go_ret2
                    exact ⟨two_eq (numV_false HF.out).symm HF.out.symm, rfl⟩
                  · clear hok
                    go_wp2_with fail
                    go_ret2
                    exact ⟨two_eq (numV_false HF.out).symm HF.out.symm, rfl⟩
            · have hkb : ((k : Int) == 0) = false := by simp; omega
              clear hsg
              have HR := numR_drop s k n hlt
              replace HR : Hid _ := HR
              have HDV := digV_drop s k n hlt
              replace HDV : Hid _ := HDV
              by_cases h45 : (s[k].toNat : Int) = 45
              · have HF : Hid (numS s.toList = false) := by rw [Hid, HA.out, HR.out, h45]; simp
                go_wp2_with fail
                go_ret2
                exact ⟨two_eq (numV_false HF.out).symm HF.out.symm, rfl⟩
              · by_cases hok : (49 ≤ (s[k].toNat : Int) ∧ (s[k].toNat : Int) ≤ 57) ∨ ((s[k].toNat : Int) = 48 ∧ 0 < n)
                · have HT : Hid ((decide (49 ≤ (s[k].toNat : Int)) && decide ((s[k].toNat : Int) ≤ 57) || (decide ((s[k].toNat : Int) = 48) && decide (0 < n))) = true) := by rw [Hid]; simpa using hok
                  have hbd : 48 ≤ (s[k].toNat : Int) ∧ (s[k].toNat : Int) ≤ 57 := by omega
                  by_cases hbig : 10 * n + (s[k].toNat - 48) ≤ 1000000000
                  · have HN : Hid (numS s.toList = numR (s.toList.drop (k + 1)) (10 * n + (s[k].toNat - 48))) := by
                      rw [Hid, HA.out, HR.out, HT.out, show n * 10 = 10 * n by omega, decide_eq_true hbig]; rfl
                    have HN2 : Hid (digV (unminus s.toList) 0 = digV (s.toList.drop (k + 1)) (10 * n + (s[k].toNat - 48))) := by
                      rw [Hid, HB.out, HDV.out, show n * 10 = 10 * n by omega]
                    clear HT HR HDV HA HB
                    rcases hok with ⟨o1, o2⟩ | ⟨o1, o2⟩
                    · go_wp2_with fail
                      go_round
                      case rel => exact ⟨k + 1, 10 * n + (s[k].toNat - 48), by omega, (by first | rfl | (rw [o1]; simp)), rfl, by go_num, by omega, by omega, HN, HN2⟩
                      case measure => simp [intOf]; omega
                    · have o3 : ¬ 49 ≤ (s[k].toNat : Int) := by omega
                      go_wp2_with fail
                      go_round
                      case rel => exact ⟨k + 1, 10 * n + (s[k].toNat - 48), by omega, (by first | rfl | (rw [o1]; simp)), rfl, by go_num, by omega, by omega, HN, HN2⟩
                      case measure => simp [intOf]; omega
                  · have HF : Hid (numS s.toList = false) := by rw [Hid, HA.out, HR.out, show n * 10 = 10 * n by omega, decide_eq_false hbig]; simp
                    clear HT HR HDV HA HB
                    rcases hok with ⟨o1, o2⟩ | ⟨o1, o2⟩
                    · go_wp2_with fail
                      go_ret2
                      exact ⟨two_eq (numV_false HF.out).symm HF.out.symm, rfl⟩
                    · have o3 : ¬ 49 ≤ (s[k].toNat : Int) := by omega
                      go_wp2_with fail
                      go_ret2
                      exact ⟨two_eq (numV_false HF.out).symm HF.out.symm, rfl⟩
                · have HF : Hid (numS s.toList = false) := by
                    have e : (decide (49 ≤ (s[k].toNat : Int)) && decide ((s[k].toNat : Int) ≤ 57) || (decide ((s[k].toNat : Int) = 48) && decide (0 < n))) = false := by
                      rw [Bool.eq_false_iff]; intro h; exact hok (by simpa using h)
                    rw [Hid, HA.out, HR.out, e]; rfl
                  clear HR HDV HA HB
                  by_cases o1 : 49 ≤ (s[k].toNat : Int)
                  · have o2 : ¬ (s[k].toNat : Int) ≤ 57 := fun h => hok (.inl ⟨o1, h⟩)
                    clear hok
                    go_wp2_with fail
                    go_ret2
                    exact ⟨two_eq (numV_false HF.out).symm HF.out.symm, rfl⟩
                  · by_cases o3 : (s[k].toNat : Int) = 48
                    · have o4 : ¬ 0 < n := fun h => hok (.inr ⟨o3, h⟩)
                      clear hok
                      go_wp2_with fail
                      go_ret2
                      exact ⟨two_eq (numV_false HF.out).symm HF.out.symm, rfl⟩
                    · clear hok
                      go_wp2_with fail
                      go_ret2
                      exact ⟨two_eq (numV_false HF.out).symm HF.out.symm, rfl⟩
          · have HE := numR_end s k n (by omega)
            have HT : Hid (numS s.toList = true) := by rw [Hid, HA.out, HE.1]
            have HW : Hid (numV s.toList = n) := by rw [Hid, HV.out HT.out, HB.out, HE.2]
            clear HE
            go_wp2_with fail
            go_ret2
            exact ⟨two_eq (by rw [HW.out]) HT.out.symm, rfl⟩
end Go.Proofs.YtilfjpmeededmaaGreatDoor

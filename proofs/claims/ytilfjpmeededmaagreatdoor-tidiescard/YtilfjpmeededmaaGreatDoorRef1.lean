/- What the small tests of package curtainref answer: they are the same as those of package expr. -/
import Derived.Test.YtilfjpmeededmaaGreatDoorStr
namespace Go.Proofs.YtilfjpmeededmaaGreatDoor
open Go.RowKit

set_option maxHeartbeats 400000 in
set_option maxRecDepth 100000 in
theorem refBlank_any (c : Int) (w : World) :
    Calls Tryz.prog 334 #[.int .u8 c] w fun e w' => e = .returned (.bool (blankB c)) ∧ w' = w := by
  go_enter Tryz.func334, Tryz.ntmps334
  go_wp2
  all_goals go_ret
  all_goals (refine ⟨ret_bool ?_, rfl⟩; simp [blankB, *])

set_option maxHeartbeats 400000 in
set_option maxRecDepth 100000 in
theorem refBracket_any (c : Int) (w : World) :
    Calls Tryz.prog 335 #[.int .u8 c] w fun e w' => e = .returned (.bool (bracketB c)) ∧ w' = w := by
  go_enter Tryz.func335, Tryz.ntmps335
  go_wp2
  all_goals go_ret
  all_goals (refine ⟨ret_bool ?_, rfl⟩; simp [bracketB, *])

set_option maxHeartbeats 400000 in
set_option maxRecDepth 100000 in
theorem refDigit_any (c : Int) (w : World) :
    Calls Tryz.prog 342 #[.int .u8 c] w fun e w' => e = .returned (.bool (digitB c)) ∧ w' = w := by
  go_enter Tryz.func342, Tryz.ntmps342
  go_wp2
  all_goals go_ret
  all_goals (refine ⟨ret_bool ?_, rfl⟩; simp [digitB] <;> omega)

set_option maxHeartbeats 400000 in
set_option maxRecDepth 100000 in
theorem refLetter_any (c : Int) (w : World) :
    Calls Tryz.prog 341 #[.int .u8 c] w fun e w' => e = .returned (.bool (letterB c)) ∧ w' = w := by
  go_enter Tryz.func341, Tryz.ntmps341
  go_wp2
  all_goals go_ret
  all_goals (refine ⟨ret_bool ?_, rfl⟩; simp [letterB] <;> omega)

set_option maxHeartbeats 800000 in
set_option maxRecDepth 100000 in
theorem refQuote_any (s : ByteArray) (w : World) (hs : s.size ≤ maxLen) :
    Calls Tryz.prog 339 #[.string s] w fun e w' => e = .returned (.bool (quoteS s.toList)) ∧ w' = w := by
  unfold maxLen at hs
  by_cases h2 : 2 ≤ s.size ∧ s.size ≤ 32
  · obtain ⟨h2, h32⟩ := h2
    have HP := quoteS_of s h2 h32
    replace HP : Hid _ := HP
    by_cases h3 : (s[0].toNat : Int) = 39 ∧ (s[s.size - 1].toNat : Int) = 39
    · obtain ⟨h3, h4⟩ := h3
      go_enter Tryz.func339, Tryz.ntmps339
      go_wp2_with fail
      go_loop [3] (fun i => ∃ k : Nat, 1 ≤ k ∧ k ≤ s.size - 1 ∧ i = .int .i64 k ∧ Hid (((s.toList.take (s.size - 1)).drop 1).all quoC = ((s.toList.take (s.size - 1)).drop k).all quoC)) (fun i => s.size - (intOf i).toNat)
      case atStart => exact ⟨1, by omega, by omega, rfl, rfl⟩
      case round =>
        obtain ⟨k, hk1, hk, rfl, HA⟩ := hrel
        by_cases hlt : k < s.size - 1
        · have hks : k < s.size := by omega
          have HS := quo_drop s k hlt
          replace HS : Hid _ := HS
          have HD := quoC_of s[k]
          replace HD : Hid _ := HD
          by_cases ha : (s[k].toNat : Int) < 32
          · go_wp2_with fail
            go_ret
            exact ⟨ret_bool (by rw [HP.out, HA.out, HS.out, HD.out]; simp [ha]), rfl⟩
          · by_cases hb : (126 : Int) < s[k].toNat
            · go_wp2_with fail
              go_ret
              exact ⟨ret_bool (by rw [HP.out, HA.out, HS.out, HD.out]; simp [hb]), rfl⟩
            · by_cases hc : (s[k].toNat : Int) = 39
              · go_wp2_with fail
                go_ret
                exact ⟨ret_bool (by rw [HP.out, HA.out, HS.out, HD.out]; simp [hc]), rfl⟩
              · have HB : Hid (quoC s[k] = true) := by rw [Hid, HD.out]; simp [ha, hb, hc]
                go_wp2_with fail
                go_round
                case rel => exact ⟨k + 1, by omega, by omega, by go_num, by rw [Hid, HA.out, HS.out, HB.out]; rfl⟩
                case measure => simp [intOf]; omega
        · have HE : Hid (((s.toList.take (s.size - 1)).drop k).all quoC = true) := quo_end s k (by omega)
          go_wp2_with fail
          go_ret
          exact ⟨ret_bool (by rw [HP.out, HA.out, HE.out, h3, h4]; simp), rfl⟩
    · by_cases h4 : (s[0].toNat : Int) = 39
      · have H5 : Hid (¬ (s[s.size - 1].toNat : Int) = 39) := fun h => h3 ⟨h4, h⟩
        have h5 : ((s[s.size - 1].toNat : Int) != 39) = true := by rw [bne_dec, decide_eq_false H5.out]; rfl
        clear h3
        go_enter Tryz.func339, Tryz.ntmps339
        go_wp2_with fail
        go_ret
        exact ⟨ret_bool (by rw [HP.out, decide_eq_false H5.out]; simp), rfl⟩
      · clear h3
        go_enter Tryz.func339, Tryz.ntmps339
        go_wp2_with fail
        go_ret
        exact ⟨ret_bool (by rw [HP.out]; simp [h4]), rfl⟩
  · have HP : Hid (quoteS s.toList = false) := by
      simp only [Hid, quoteS, toList_length]; simp; omega
    by_cases h5 : s.size < 2
    · go_enter Tryz.func339, Tryz.ntmps339
      go_wp2_with fail
      go_ret
      exact ⟨ret_bool HP.out.symm, rfl⟩
    · have h6 : 32 < s.size := by omega
      go_enter Tryz.func339, Tryz.ntmps339
      go_wp2_with fail
      go_ret
      exact ⟨ret_bool HP.out.symm, rfl⟩

set_option maxHeartbeats 400000 in
set_option maxRecDepth 100000 in
theorem refConstant_any (s : ByteArray) (w : World) :
    Calls Tryz.prog 264 #[.string s] w fun e w' => e = .returned (.bool (valS s.toList)) ∧ w' = w := by
  go_enter Tryz.func264, Tryz.ntmps264
  go_wp2
  all_goals go_ret
  all_goals (refine ⟨ret_bool ?_, rfl⟩; simp_all [valS])

def parV (l : Bs) : Int := if parS l then (l.getD 1 0).toNat - 49 else -1

set_option maxHeartbeats 400000 in
set_option maxRecDepth 100000 in
theorem refParameter_any (s : ByteArray) (w : World) :
    Calls Tryz.prog 340 #[.string s] w fun e w' => e = .returned (.int .i64 (parV s.toList)) ∧ w' = w := by
  by_cases h2 : s.size = 2
  · have HP : Hid (parS s.toList = (decide ((s[0].toNat : Int) = 36) && digitB s[1].toNat && !decide ((s[1].toNat : Int) = 48))) := parS_of s h2
    have HG : Hid (s.toList.getD 1 0 = s[1]) := getD_get s 1 (by omega)
    by_cases h3 : (s[0].toNat : Int) = 36
    · by_cases h4 : (s[1].toNat : Int) < 49
      · have HV : Hid (parV s.toList = -1) := by
          rw [Hid, parV, if_neg]; rw [HP.out]; unfold digitB; simp; omega
        go_enter Tryz.func340, Tryz.ntmps340
        go_wp2
        go_ret
        exact ⟨ret_int HV.out.symm, rfl⟩
      · by_cases h5 : (57 : Int) < s[1].toNat
        · have HV : Hid (parV s.toList = -1) := by
            rw [Hid, parV, if_neg]; rw [HP.out]; unfold digitB; simp; omega
          go_enter Tryz.func340, Tryz.ntmps340
          go_wp2
          go_ret
          exact ⟨ret_int HV.out.symm, rfl⟩
        · have HV : Hid (parV s.toList = (s[1].toNat : Int) - 49) := by
            rw [Hid, parV, if_pos, HG.out]; rw [HP.out]; unfold digitB; simp; omega
          go_enter Tryz.func340, Tryz.ntmps340
          go_wp2
          go_ret
          exact ⟨ret_int HV.out.symm, rfl⟩
    · have HV : Hid (parV s.toList = -1) := by
        rw [Hid, parV, if_neg]; rw [HP.out]; simp [h3]
      have h3b : ((s[0].toNat : Int) != 36) = true := by simpa using h3
      clear h3
      go_enter Tryz.func340, Tryz.ntmps340
      go_wp2
      go_ret
      exact ⟨ret_int HV.out.symm, rfl⟩
  · have HV : Hid (parV s.toList = -1) := by
      rw [Hid, parV, if_neg]; unfold parS; rw [toList_length]; simp [h2]
    have h2b : ((s.size : Int) != 2) = true := by simp; omega
    go_enter Tryz.func340, Tryz.ntmps340
    go_wp2
    go_ret
    exact ⟨ret_int HV.out.symm, rfl⟩

set_option maxHeartbeats 800000 in
set_option maxRecDepth 100000 in
theorem refWord_any (s : ByteArray) (w : World) (hs : s.size ≤ maxLen) :
    Calls Tryz.prog 263 #[.string s] w fun e w' => e = .returned (.bool (wordS s.toList)) ∧ w' = w := by
  unfold maxLen at hs
  go_enter Tryz.func263, Tryz.ntmps263
  go_wp2_with fail
  go_loop [3] (fun i => ∃ k : Nat, k ≤ s.size ∧ i = .int .i64 k ∧ (1 ≤ k → letterB (s.toList.headD 0).toNat = true) ∧ Hid (s.toList.all ldB = (s.toList.drop k).all ldB)) (fun i => s.size - (intOf i).toNat)
  case atStart => exact ⟨0, Nat.zero_le _, rfl, fun h => by omega, rfl⟩
  case round =>
    obtain ⟨k, hk, rfl, hl1, HA⟩ := hrel
    have HL : Hid _ := hl1
    clear hl1
    by_cases hlt : k < s.size
    · have HS : Hid ((s.toList.drop k).all ldB = (ldB s[k] && (s.toList.drop (k + 1)).all ldB)) := all_drop ldB s k hlt
      have HD : Hid (ldB s[k] = (letterB s[k].toNat || digitB s[k].toNat)) := rfl
      have HH : Hid (s.toList.headD 0 = s[0]) := head_get s (by omega)
      by_cases hl : letterB s[k].toNat = true
      · have HN : Hid (letterB (s.toList.headD 0).toNat = true) := by
          rw [Hid]
          by_cases h0 : k = 0
          · rw [HH.out]; subst h0; exact hl
          · exact HL.out (by omega)
        go_wp2_with (first | (go_at_call 341; refine (refLetter_any _ _).mono ?_; rintro e w' ⟨rfl, rfl⟩) | (go_at_call 342; refine (refDigit_any _ _).mono ?_; rintro e w' ⟨rfl, rfl⟩))
        go_round
        case rel => exact ⟨k + 1, by omega, by go_num, fun _ => HN.out, by rw [Hid, HA.out, HS.out, HD.out, hl]; rfl⟩
        case measure => simp [intOf]; omega
      · rw [Bool.not_eq_true] at hl
        by_cases h0 : k = 0
        · have HF : Hid (wordS s.toList = false) := by
            have e : letterB (s.toList.headD 0).toNat = false := by rw [HH.out]; subst h0; exact hl
            rw [Hid, wordS, e]; simp
          subst h0
          go_wp2_with (first | (go_at_call 341; refine (refLetter_any _ _).mono ?_; rintro e w' ⟨rfl, rfl⟩) | (go_at_call 342; refine (refDigit_any _ _).mono ?_; rintro e w' ⟨rfl, rfl⟩))
          go_ret
          exact ⟨ret_bool HF.out.symm, rfl⟩
        · have hk0 : ((k : Int) == 0) = false := by simp; omega
          by_cases hd1 : digitB s[k].toNat = true
          · have HN : Hid (letterB (s.toList.headD 0).toNat = true) := HL.out (by omega)
            go_wp2_with (first | (go_at_call 341; refine (refLetter_any _ _).mono ?_; rintro e w' ⟨rfl, rfl⟩) | (go_at_call 342; refine (refDigit_any _ _).mono ?_; rintro e w' ⟨rfl, rfl⟩))
            go_round
            case rel => exact ⟨k + 1, by omega, by go_num, fun _ => HN.out, by rw [Hid, HA.out, HS.out, HD.out, hl, hd1]; rfl⟩
            case measure => simp [intOf]; omega
          · rw [Bool.not_eq_true] at hd1
            have HF : Hid (wordS s.toList = false) := by
              rw [Hid, wordS, HA.out, HS.out, HD.out, hl, hd1]; simp
            go_wp2_with (first | (go_at_call 341; refine (refLetter_any _ _).mono ?_; rintro e w' ⟨rfl, rfl⟩) | (go_at_call 342; refine (refDigit_any _ _).mono ?_; rintro e w' ⟨rfl, rfl⟩))
            go_ret
            exact ⟨ret_bool HF.out.symm, rfl⟩
    · by_cases h0 : s.size = 0
      · have hE := isEmpty_t s h0
        have HF : Hid (wordS s.toList = false) := by rw [Hid, wordS, toList_length]; simp [h0]
        go_wp2_with fail
        go_ret
        exact ⟨ret_bool HF.out.symm, rfl⟩
      · have hE := isEmpty_f s (by omega)
        have HF : Hid (wordS s.toList = decide ((s.size : Int) ≤ 12)) := by
          rw [Hid, wordS, HL.out (by omega), HA.out, all_end ldB s k (by omega), toList_length]
          rw [Bool.eq_iff_iff]; simp; omega
        go_wp2_with fail
        go_ret
        exact ⟨ret_bool HF.out.symm, rfl⟩
end Go.Proofs.YtilfjpmeededmaaGreatDoor

/- What the small tests of package expr answer: of a byte, of a text. -/
import Derived.Test.YtilfjpmeededmaaGreatDoorProg
import Derived.Test.YtilfjpmeededmaaGreatDoorPlain
import Derived.WalkKit
import Derived.WalkSpells
import Derived.WalkLawsBesides
namespace Go.Proofs.YtilfjpmeededmaaGreatDoor
open Go.RowKit

theorem ret_bool {a b : Bool} (h : a = b) : Ending.returned (.bool a) = .returned (.bool b) := by rw [h]
theorem ret_int {k : IntKind} {a b : Int} (h : a = b) : Ending.returned (.int k a) = .returned (.int k b) := by rw [h]

set_option maxHeartbeats 400000 in
set_option maxRecDepth 100000 in
theorem isBlank_any (c : Int) (w : World) :
    Calls Tryz.prog 251 #[.int .u8 c] w fun e w' => e = .returned (.bool (blankB c)) ∧ w' = w := by
  go_enter Tryz.func251, Tryz.ntmps251
  go_wp2
  all_goals go_ret
  all_goals (refine ⟨ret_bool ?_, rfl⟩; simp [blankB, *])

set_option maxHeartbeats 400000 in
set_option maxRecDepth 100000 in
theorem isBracket_any (c : Int) (w : World) :
    Calls Tryz.prog 324 #[.int .u8 c] w fun e w' => e = .returned (.bool (bracketB c)) ∧ w' = w := by
  go_enter Tryz.func324, Tryz.ntmps324
  go_wp2
  all_goals go_ret
  all_goals (refine ⟨ret_bool ?_, rfl⟩; simp [bracketB, *])

set_option maxHeartbeats 400000 in
set_option maxRecDepth 100000 in
theorem isDigit_any (c : Int) (w : World) :
    Calls Tryz.prog 211 #[.int .u8 c] w fun e w' => e = .returned (.bool (digitB c)) ∧ w' = w := by
  go_enter Tryz.func211, Tryz.ntmps211
  go_wp2
  all_goals go_ret
  all_goals (refine ⟨ret_bool ?_, rfl⟩; simp [digitB] <;> omega)

set_option maxHeartbeats 400000 in
set_option maxRecDepth 100000 in
theorem isLetter_any (c : Int) (w : World) :
    Calls Tryz.prog 210 #[.int .u8 c] w fun e w' => e = .returned (.bool (letterB c)) ∧ w' = w := by
  go_enter Tryz.func210, Tryz.ntmps210
  go_wp2
  all_goals go_ret
  all_goals (refine ⟨ret_bool ?_, rfl⟩; simp [letterB] <;> omega)

set_option maxHeartbeats 400000 in
set_option maxRecDepth 100000 in
theorem isOperator_any (s : ByteArray) (w : World) :
    Calls Tryz.prog 326 #[.string s] w fun e w' => e = .returned (.bool (operS s.toList)) ∧ w' = w := by
  go_enter Tryz.func326, Tryz.ntmps326
  go_wp2
  all_goals go_ret
  all_goals (refine ⟨ret_bool ?_, rfl⟩; simp_all [operS])

set_option maxHeartbeats 400000 in
set_option maxRecDepth 100000 in
theorem isWord_any (s : ByteArray) (w : World) (hs : s.size ≤ maxLen) :
    Calls Tryz.prog 138 #[.string s] w fun e w' => e = .returned (.bool (wordS s.toList)) ∧ w' = w := by
  unfold maxLen at hs
  by_cases h0 : s.size = 0
  · have hE := isEmpty_t s h0
    have HL : Hid (wordS s.toList = false) := by simp [Hid, wordS, toList_length, h0]
    go_enter Tryz.func138, Tryz.ntmps138
    go_wp2_with fail
    go_ret
    exact ⟨ret_bool HL.out.symm, rfl⟩
  · have hpos : 0 < s.size := by omega
    have hE := isEmpty_f s hpos
    by_cases h12 : s.size ≤ 12
    · have HW : Hid (wordS s.toList = (letterB s[0].toNat && s.toList.all ldB)) := wordS_of s hpos h12
      by_cases hl : letterB s[0].toNat = true
      · go_enter Tryz.func138, Tryz.ntmps138
        go_wp2_with (first | (go_at_call 210; refine (isLetter_any _ _).mono ?_; rintro e w' ⟨rfl, rfl⟩))
        go_loop [19] (fun i => ∃ k : Nat, k ≤ s.size ∧ i = .int .i64 k ∧ Hid (s.toList.all ldB = (s.toList.drop k).all ldB)) (fun i => s.size - (intOf i).toNat)
        case atStart => exact ⟨0, Nat.zero_le _, rfl, rfl⟩
        case round =>
          obtain ⟨k, hk, rfl, HA⟩ := hrel
          by_cases hlt : k < s.size
          · have HS : Hid ((s.toList.drop k).all ldB = (ldB s[k] && (s.toList.drop (k + 1)).all ldB)) := all_drop ldB s k hlt
            have HD : Hid (ldB s[k] = (letterB s[k].toNat || digitB s[k].toNat)) := rfl
            by_cases hl1 : letterB s[k].toNat = true
            · go_wp2_with (first | (go_at_call 210; refine (isLetter_any _ _).mono ?_; rintro e w' ⟨rfl, rfl⟩) | (go_at_call 211; refine (isDigit_any _ _).mono ?_; rintro e w' ⟨rfl, rfl⟩))
              go_round
              case rel => exact ⟨k + 1, by omega, by go_num, by rw [Hid, HA.out, HS.out, HD.out, hl1]; rfl⟩
              case measure => simp [intOf]; omega
            · rw [Bool.not_eq_true] at hl1
              by_cases hd1 : digitB s[k].toNat = true
              · go_wp2_with (first | (go_at_call 210; refine (isLetter_any _ _).mono ?_; rintro e w' ⟨rfl, rfl⟩) | (go_at_call 211; refine (isDigit_any _ _).mono ?_; rintro e w' ⟨rfl, rfl⟩))
                go_round
                case rel => exact ⟨k + 1, by omega, by go_num, by rw [Hid, HA.out, HS.out, HD.out, hl1, hd1]; rfl⟩
                case measure => simp [intOf]; omega
              · rw [Bool.not_eq_true] at hd1
                go_wp2_with (first | (go_at_call 210; refine (isLetter_any _ _).mono ?_; rintro e w' ⟨rfl, rfl⟩) | (go_at_call 211; refine (isDigit_any _ _).mono ?_; rintro e w' ⟨rfl, rfl⟩))
                go_ret
                exact ⟨ret_bool (by rw [HW.out, HA.out, HS.out, HD.out, hl1, hd1]; simp), rfl⟩
          · have HE : Hid ((s.toList.drop k).all ldB = true) := all_end ldB s k (by omega)
            go_wp2_with fail
            go_ret
            exact ⟨ret_bool (by rw [HW.out, HA.out, HE.out, hl]; rfl), rfl⟩
      · rw [Bool.not_eq_true] at hl
        go_enter Tryz.func138, Tryz.ntmps138
        go_wp2_with (first | (go_at_call 210; refine (isLetter_any _ _).mono ?_; rintro e w' ⟨rfl, rfl⟩))
        go_ret
        exact ⟨ret_bool (by rw [HW.out, hl]; rfl), rfl⟩
    · have HL : Hid (wordS s.toList = false) := by simp [Hid, wordS, toList_length, h12]
      go_enter Tryz.func138, Tryz.ntmps138
      go_wp2_with fail
      go_ret
      exact ⟨ret_bool HL.out.symm, rfl⟩
end Go.Proofs.YtilfjpmeededmaaGreatDoor

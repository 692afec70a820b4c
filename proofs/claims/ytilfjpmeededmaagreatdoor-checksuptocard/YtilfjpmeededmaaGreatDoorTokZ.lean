import Derived.Laws.Strings
import Derived.Test.YtilfjpmeededmaaGreatDoorProg
import Derived.WalkKit
import Derived.WalkSpells
import Derived.WalkLawsBesides
set_option linter.unusedVariables false
set_option linter.unusedSimpArgs false
namespace Go.Proofs.YtilfjpmeededmaaGreatDoor
def blankB (c : Int) : Bool := c == 32 || c == 9 || c == 10
def bracketB (c : Int) : Bool := c == 40 || c == 41
def digitB (c : Int) : Bool := decide (48 ≤ c) && decide (c ≤ 57)
def letterB (c : Int) : Bool := decide (97 ≤ c) && decide (c ≤ 122)
abbrev Bs := List UInt8
def operS (l : Bs) : Bool := l == [43] || l == [45] || l == [42] || l == [47] || l == [61] || l == [60] || l == [60, 61]
def valS (l : Bs) : Bool := l == [116, 114, 117, 101] || l == [102, 97, 108, 115, 101] || l == [117, 115, 101, 114]
def ldB (c : UInt8) : Bool := letterB c.toNat || digitB c.toNat
def wordS (l : Bs) : Bool := decide (0 < l.length) && decide (l.length ≤ 12) && letterB (l.headD 0).toNat && l.all ldB
def parS (l : Bs) : Bool := decide (l.length = 2) && (l.headD 0 == 36) && digitB (l.getD 1 0).toNat && !(l.getD 1 0 == 48)
def numLoop : Bs → Int → Bool
  | [], _ => true
  | c :: r, n => digitB c.toNat && decide (n * 10 + (c.toNat - 48) ≤ 1000000000) && numLoop r (n * 10 + (c.toNat - 48))
def unminus (l : Bs) : Bs := if l.headD 0 == 45 then l.drop 1 else l
def numS (l : Bs) : Bool := l == [48] || (decide (0 < (unminus l).length) && !((unminus l).headD 0 == 48) && numLoop (unminus l) 0)
def quoC (c : UInt8) : Bool := decide (32 ≤ c.toNat) && decide (c.toNat ≤ 126) && !(c == 39)
def quoteS (l : Bs) : Bool := decide (2 ≤ l.length) && decide (l.length ≤ 32) && (l.getD 0 0 == 39) && (l.getD (l.length - 1) 0 == 39) && ((l.take (l.length - 1)).drop 1).all quoC
def colS (l : Bs) : Bool := l.contains 46 && wordS (l.takeWhile (· != 46)) && wordS ((l.dropWhile (· != 46)).drop 1)
def kindS (l : Bs) : Int :=
  if l == [40] then 1 else if l == [41] then 2 else if operS l then 8 else if numS l then 3 else if quoteS l then 4
  else if parS l then 7 else if wordS l then 5 else if colS l then 6 else 0
theorem toList_length (s : ByteArray) : s.toList.length = s.size := by rw [ByteArray.toList_eq]; simp
theorem toList_get (s : ByteArray) (k : Nat) (h : k < s.size) : s.toList[k]'(by rw [toList_length]; exact h) = s[k] := by
  simp only [ByteArray.toList_eq]; rfl
theorem drop_cons (s : ByteArray) (k : Nat) (h : k < s.size) : s.toList.drop k = s[k] :: s.toList.drop (k + 1) := by
  rw [List.drop_eq_getElem_cons (by rw [toList_length]; exact h), toList_get s k h]
theorem isEmpty_t (s : ByteArray) (h : s.size = 0) : s.toList.isEmpty = true := by
  rw [List.isEmpty_iff_length_eq_zero, toList_length, h]
theorem isEmpty_f (s : ByteArray) (h : 0 < s.size) : s.toList.isEmpty = false := by
  rw [Bool.eq_false_iff]; intro e; rw [List.isEmpty_iff_length_eq_zero, toList_length] at e; omega
theorem head_get (s : ByteArray) (h : 0 < s.size) : s.toList.headD 0 = s[0] := by
  have := drop_cons s 0 h; rw [List.drop_zero] at this; rw [this]; rfl
theorem getD_get (s : ByteArray) (k : Nat) (h : k < s.size) : s.toList.getD k 0 = s[k] := by
  rw [List.getD_eq_getElem?_getD, List.getElem?_eq_getElem (by rw [toList_length]; exact h), toList_get s k h]; rfl
theorem all_drop (f : UInt8 → Bool) (s : ByteArray) (k : Nat) (h : k < s.size) : (s.toList.drop k).all f = (f s[k] && (s.toList.drop (k + 1)).all f) := by
  rw [drop_cons s k h]; rfl
theorem all_end (f : UInt8 → Bool) (s : ByteArray) (k : Nat) (h : s.size ≤ k) : (s.toList.drop k).all f = true := by
  rw [List.drop_of_length_le (by rw [toList_length]; exact h)]; rfl
theorem wordS_of (s : ByteArray) (h : 0 < s.size) (h12 : s.size ≤ 12) : wordS s.toList = (letterB s[0].toNat && s.toList.all ldB) := by
  unfold wordS; rw [toList_length, head_get s h]; simp [h, h12]
end Go.Proofs.YtilfjpmeededmaaGreatDoor

namespace Go.Proofs.YtilfjpmeededmaaGreatDoor
open Go.RowKit
theorem ret_bool {a b : Bool} (h : a = b) : Ending.returned (.bool a) = .returned (.bool b) := by rw [h]
theorem ret_int {k : IntKind} {a b : Int} (h : a = b) : Ending.returned (.int k a) = .returned (.int k b) := by rw [h]
set_option maxHeartbeats 400000 in
set_option maxRecDepth 100000 in
theorem isBlank_any (c : Int) (w : World) :
    Calls Tryz.prog 251 #[.int .u8 c] w fun e w' => e = .returned (.bool (blankB c)) ∧ w' = w := by
  go_enter Tryz.func251, Tryz.ntmps251
  go_wp2
  all_goals go_ret
  all_goals (refine ⟨ret_bool ?_, rfl⟩; simp [blankB, *])
set_option maxHeartbeats 400000 in
set_option maxRecDepth 100000 in
theorem isBracket_any (c : Int) (w : World) :
    Calls Tryz.prog 324 #[.int .u8 c] w fun e w' => e = .returned (.bool (bracketB c)) ∧ w' = w := by
  go_enter Tryz.func324, Tryz.ntmps324
  go_wp2
  all_goals go_ret
  all_goals (refine ⟨ret_bool ?_, rfl⟩; simp [bracketB, *])
set_option maxHeartbeats 400000 in
set_option maxRecDepth 100000 in
theorem isDigit_any (c : Int) (w : World) :
    Calls Tryz.prog 211 #[.int .u8 c] w fun e w' => e = .returned (.bool (digitB c)) ∧ w' = w := by
  go_enter Tryz.func211, Tryz.ntmps211
  go_wp2
  all_goals go_ret
  all_goals (refine ⟨ret_bool ?_, rfl⟩; simp [digitB] <;> omega)
set_option maxHeartbeats 400000 in
set_option maxRecDepth 100000 in
theorem isLetter_any (c : Int) (w : World) :
    Calls Tryz.prog 210 #[.int .u8 c] w fun e w' => e = .returned (.bool (letterB c)) ∧ w' = w := by
  go_enter Tryz.func210, Tryz.ntmps210
  go_wp2
  all_goals go_ret
  all_goals (refine ⟨ret_bool ?_, rfl⟩; simp [letterB] <;> omega)
set_option maxHeartbeats 400000 in
set_option maxRecDepth 100000 in
theorem isOperator_any (s : ByteArray) (w : World) :
    Calls Tryz.prog 326 #[.string s] w fun e w' => e = .returned (.bool (operS s.toList)) ∧ w' = w := by
  go_enter Tryz.func326, Tryz.ntmps326
  go_wp2
  all_goals go_ret
  all_goals (refine ⟨ret_bool ?_, rfl⟩; simp_all [operS])
set_option maxHeartbeats 400000 in
set_option maxRecDepth 100000 in
theorem isWord_any (s : ByteArray) (w : World) (hs : s.size ≤ maxLen) :
    Calls Tryz.prog 138 #[.string s] w fun e w' => e = .returned (.bool (wordS s.toList)) ∧ w' = w := by
  unfold maxLen at hs
  by_cases h0 : s.size = 0
  · have hE := isEmpty_t s h0
    have HL : Hid (wordS s.toList = false) := by simp [Hid, wordS, toList_length, h0]
    go_enter Tryz.func138, Tryz.ntmps138
    go_wp2_with fail
    go_ret
    exact ⟨ret_bool HL.out.symm, rfl⟩
  · have hpos : 0 < s.size := by omega
    have hE := isEmpty_f s hpos
    by_cases h12 : s.size ≤ 12
    · have HW : Hid (wordS s.toList = (letterB s[0].toNat && s.toList.all ldB)) := wordS_of s hpos h12
      by_cases hl : letterB s[0].toNat = true
      · go_enter Tryz.func138, Tryz.ntmps138
        go_wp2_with (first | (go_at_call 210; refine (isLetter_any _ _).mono ?_; rintro e w' ⟨rfl, rfl⟩))
        go_loop [19] (fun i => ∃ k : Nat, k ≤ s.size ∧ i = .int .i64 k ∧ Hid (s.toList.all ldB = (s.toList.drop k).all ldB)) (fun i => s.size - (intOf i).toNat)
        case atStart => exact ⟨0, Nat.zero_le _, rfl, rfl⟩
        case round =>
          obtain ⟨k, hk, rfl, HA⟩ := hrel
          by_cases hlt : k < s.size
          · have HS : Hid ((s.toList.drop k).all ldB = (ldB s[k] && (s.toList.drop (k + 1)).all ldB)) := all_drop ldB s k hlt
            have HD : Hid (ldB s[k] = (letterB s[k].toNat || digitB s[k].toNat)) := rfl
            by_cases hl1 : letterB s[k].toNat = true
            · go_wp2_with (first | (go_at_call 210; refine (isLetter_any _ _).mono ?_; rintro e w' ⟨rfl, rfl⟩) | (go_at_call 211; refine (isDigit_any _ _).mono ?_; rintro e w' ⟨rfl, rfl⟩))
              go_round
              case rel => exact ⟨k + 1, by omega, by go_num, by rw [Hid, HA.out, HS.out, HD.out, hl1]; rfl⟩
              case measure => simp [intOf]; omega
            · rw [Bool.not_eq_true] at hl1
              by_cases hd1 : digitB s[k].toNat = true
              · go_wp2_with (first | (go_at_call 210; refine (isLetter_any _ _).mono ?_; rintro e w' ⟨rfl, rfl⟩) | (go_at_call 211; refine (isDigit_any _ _).mono ?_; rintro e w' ⟨rfl, rfl⟩))
                go_round
                case rel => exact ⟨k + 1, by omega, by go_num, by rw [Hid, HA.out, HS.out, HD.out, hl1, hd1]; rfl⟩
                case measure => simp [intOf]; omega
              · rw [Bool.not_eq_true] at hd1
                go_wp2_with (first | (go_at_call 210; refine (isLetter_any _ _).mono ?_; rintro e w' ⟨rfl, rfl⟩) | (go_at_call 211; refine (isDigit_any _ _).mono ?_; rintro e w' ⟨rfl, rfl⟩))
                go_ret
                exact ⟨ret_bool (by rw [HW.out, HA.out, HS.out, HD.out, hl1, hd1]; simp), rfl⟩
          · have HE : Hid ((s.toList.drop k).all ldB = true) := all_end ldB s k (by omega)
            go_wp2_with fail
            go_ret
            exact ⟨ret_bool (by rw [HW.out, HA.out, HE.out, hl]; rfl), rfl⟩
      · rw [Bool.not_eq_true] at hl
        go_enter Tryz.func138, Tryz.ntmps138
        go_wp2_with (first | (go_at_call 210; refine (isLetter_any _ _).mono ?_; rintro e w' ⟨rfl, rfl⟩))
        go_ret
        exact ⟨ret_bool (by rw [HW.out, hl]; rfl), rfl⟩
    · have HL : Hid (wordS s.toList = false) := by simp [Hid, wordS, toList_length, h12]
      go_enter Tryz.func138, Tryz.ntmps138
      go_wp2_with fail
      go_ret
      exact ⟨ret_bool HL.out.symm, rfl⟩
end Go.Proofs.YtilfjpmeededmaaGreatDoor

namespace Go.Proofs.YtilfjpmeededmaaGreatDoor
open Go.RowKit
theorem u8_eq (c : UInt8) (n : Nat) (hn : n < 256) : (c == UInt8.ofNat n) = decide ((c.toNat : Int) = n) := by
  rw [Bool.eq_iff_iff]; simp only [beq_iff_eq, decide_eq_true_eq]
  constructor
  · rintro rfl; simp; omega
  · intro h; apply UInt8.toNat_inj.mp; simp; omega
theorem bne_dec (a b : Int) : (a != b) = !decide (a = b) := by
  rw [Bool.eq_iff_iff]; simp
theorem parS_of (s : ByteArray) (h : s.size = 2) : parS s.toList = (decide ((s[0].toNat : Int) = 36) && digitB s[1].toNat && !decide ((s[1].toNat : Int) = 48)) := by
  unfold parS
  rw [toList_length, head_get s (by omega), getD_get s 1 (by omega)]
  rw [show (36 : UInt8) = UInt8.ofNat 36 from rfl, show (48 : UInt8) = UInt8.ofNat 48 from rfl, u8_eq _ 36 (by omega), u8_eq _ 48 (by omega)]
  simp [h]
set_option maxHeartbeats 400000 in
set_option maxRecDepth 100000 in
theorem isParameter_any (s : ByteArray) (w : World) :
    Calls Tryz.prog 329 #[.string s] w fun e w' => e = .returned (.bool (parS s.toList)) ∧ w' = w := by
  by_cases h2 : s.size = 2
  · have HP : Hid (parS s.toList = (decide ((s[0].toNat : Int) = 36) && digitB s[1].toNat && !decide ((s[1].toNat : Int) = 48))) := parS_of s h2
    by_cases h3 : (s[0].toNat : Int) = 36
    · by_cases h4 : digitB s[1].toNat = true
      · go_enter Tryz.func329, Tryz.ntmps329
        go_wp2_with (first | (go_at_call 211; refine (isDigit_any _ _).mono ?_; rintro e w' ⟨rfl, rfl⟩))
        go_ret
        exact ⟨ret_bool (by rw [HP.out, h3, h4]; simp [bne_dec]), rfl⟩
      · rw [Bool.not_eq_true] at h4
        go_enter Tryz.func329, Tryz.ntmps329
        go_wp2_with (first | (go_at_call 211; refine (isDigit_any _ _).mono ?_; rintro e w' ⟨rfl, rfl⟩))
        go_ret
        exact ⟨ret_bool (by rw [HP.out, h4]; simp), rfl⟩
    · go_enter Tryz.func329, Tryz.ntmps329
      go_wp2_with (first | (go_at_call 211; refine (isDigit_any _ _).mono ?_; rintro e w' ⟨rfl, rfl⟩))
      go_ret
      exact ⟨ret_bool (by rw [HP.out]; simp [h3]), rfl⟩
  · have HP : Hid (parS s.toList = false) := by simp [Hid, parS, toList_length, h2]
    go_enter Tryz.func329, Tryz.ntmps329
    go_wp2_with fail
    go_ret
    exact ⟨ret_bool HP.out.symm, rfl⟩
theorem quo_drop (s : ByteArray) (k : Nat) (h : k < s.size - 1) :
    ((s.toList.take (s.size - 1)).drop k).all quoC = (quoC (s[k]'(by omega)) && ((s.toList.take (s.size - 1)).drop (k + 1)).all quoC) := by
  have hl : (s.toList.take (s.size - 1)).length = s.size - 1 := by rw [List.length_take, toList_length]; omega
  rw [List.drop_eq_getElem_cons (by omega)]
  simp only [List.all_cons, List.getElem_take, toList_get s k (by omega)]
theorem quo_end (s : ByteArray) (k : Nat) (h : s.size - 1 ≤ k) : ((s.toList.take (s.size - 1)).drop k).all quoC = true := by
  rw [List.drop_of_length_le (by rw [List.length_take, toList_length]; omega)]; rfl
theorem quoteS_of (s : ByteArray) (h : 2 ≤ s.size) (h2 : s.size ≤ 32) : quoteS s.toList =
    (decide ((s[0].toNat : Int) = 39) && decide ((s[s.size - 1].toNat : Int) = 39) && ((s.toList.take (s.size - 1)).drop 1).all quoC) := by
  unfold quoteS
  rw [toList_length, getD_get s 0 (by omega), getD_get s (s.size - 1) (by omega)]
  rw [show (39 : UInt8) = UInt8.ofNat 39 from rfl, u8_eq _ 39 (by omega), u8_eq _ 39 (by omega)]
  simp [h, h2]
theorem quoC_of (c : UInt8) : quoC c = (!decide ((c.toNat : Int) < 32) && !decide ((126 : Int) < c.toNat) && !decide ((c.toNat : Int) = 39)) := by
  unfold quoC
  rw [show (39 : UInt8) = UInt8.ofNat 39 from rfl, u8_eq _ 39 (by omega)]
  rw [Bool.eq_iff_iff]; simp; omega
set_option maxHeartbeats 800000 in
set_option maxRecDepth 100000 in
theorem isQuote_any (s : ByteArray) (w : World) (hs : s.size ≤ maxLen) :
    Calls Tryz.prog 328 #[.string s] w fun e w' => e = .returned (.bool (quoteS s.toList)) ∧ w' = w := by
  unfold maxLen at hs
  by_cases h2 : 2 ≤ s.size ∧ s.size ≤ 32
  · obtain ⟨h2, h32⟩ := h2
    have HP := quoteS_of s h2 h32
    replace HP : Hid _ := HP
    by_cases h3 : (s[0].toNat : Int) = 39 ∧ (s[s.size - 1].toNat : Int) = 39
    · obtain ⟨h3, h4⟩ := h3
      go_enter Tryz.func328, Tryz.ntmps328
      go_wp2_with fail
      go_loop [3] (fun i => ∃ k : Nat, 1 ≤ k ∧ k ≤ s.size - 1 ∧ i = .int .i64 k ∧ Hid (((s.toList.take (s.size - 1)).drop 1).all quoC = ((s.toList.take (s.size - 1)).drop k).all quoC)) (fun i => s.size - (intOf i).toNat)
      case atStart => exact ⟨1, by omega, by omega, rfl, rfl⟩
      case round =>
        obtain ⟨k, hk1, hk, rfl, HA⟩ := hrel
        by_cases hlt : k < s.size - 1
        · have hks : k < s.size := by omega
          have HS := quo_drop s k hlt
          replace HS : Hid _ := HS
          have HD := quoC_of s[k]
          replace HD : Hid _ := HD
          by_cases ha : (s[k].toNat : Int) < 32
          · go_wp2_with fail
            go_ret
            exact ⟨ret_bool (by rw [HP.out, HA.out, HS.out, HD.out]; simp [ha]), rfl⟩
          · by_cases hb : (126 : Int) < s[k].toNat
            · go_wp2_with fail
              go_ret
              exact ⟨ret_bool (by rw [HP.out, HA.out, HS.out, HD.out]; simp [hb]), rfl⟩
            · by_cases hc : (s[k].toNat : Int) = 39
              · go_wp2_with fail
                go_ret
                exact ⟨ret_bool (by rw [HP.out, HA.out, HS.out, HD.out]; simp [hc]), rfl⟩
              · have HB : Hid (quoC s[k] = true) := by rw [Hid, HD.out]; simp [ha, hb, hc]
                go_wp2_with fail
                go_round
                case rel => exact ⟨k + 1, by omega, by omega, by go_num, by rw [Hid, HA.out, HS.out, HB.out]; rfl⟩
                case measure => simp [intOf]; omega
        · have HE : Hid (((s.toList.take (s.size - 1)).drop k).all quoC = true) := quo_end s k (by omega)
          go_wp2_with fail
          go_ret
          exact ⟨ret_bool (by rw [HP.out, HA.out, HE.out, h3, h4]; simp), rfl⟩
    · by_cases h4 : (s[0].toNat : Int) = 39
      · have H5 : Hid (¬ (s[s.size - 1].toNat : Int) = 39) := fun h => h3 ⟨h4, h⟩
        have h5 : ((s[s.size - 1].toNat : Int) != 39) = true := by rw [bne_dec, decide_eq_false H5.out]; rfl
        clear h3
        go_enter Tryz.func328, Tryz.ntmps328
        go_wp2_with fail
        go_ret
        exact ⟨ret_bool (by rw [HP.out, decide_eq_false H5.out]; simp), rfl⟩
      · clear h3
        go_enter Tryz.func328, Tryz.ntmps328
        go_wp2_with fail
        go_ret
        exact ⟨ret_bool (by rw [HP.out]; simp [h4]), rfl⟩
  · have HP : Hid (quoteS s.toList = false) := by
      simp only [Hid, quoteS, toList_length]; simp; omega
    by_cases h5 : s.size < 2
    · go_enter Tryz.func328, Tryz.ntmps328
      go_wp2_with fail
      go_ret
      exact ⟨ret_bool HP.out.symm, rfl⟩
    · have h6 : 32 < s.size := by omega
      go_enter Tryz.func328, Tryz.ntmps328
      go_wp2_with fail
      go_ret
      exact ⟨ret_bool HP.out.symm, rfl⟩
set_option maxHeartbeats 400000 in
set_option maxRecDepth 100000 in
theorem isValueWord_any (s : ByteArray) (w : World) :
    Calls Tryz.prog 206 #[.string s] w fun e w' => e = .returned (.bool (valS s.toList)) ∧ Below w.heap.size w w' := by
  go_enter Tryz.func206, Tryz.ntmps206
  go_wp2
  all_goals go_ret
  all_goals (refine ⟨ret_bool ?_, Below.refl _ _⟩; simp_all [valS])
def aloneS (k : Int) (l : Bs) : Bool := k == 3 || k == 4 || k == 6 || k == 7 || valS l
def headS (k : Int) (l : Bs) : Bool := k == 8 || (k == 5 && !valS l)
set_option maxHeartbeats 400000 in
set_option maxRecDepth 100000 in
theorem standsAlone_any (k : Int) (s : ByteArray) (w : World) :
    Calls Tryz.prog 256 #[.agg #[.int .i64 k, .string s]] w fun e w' => e = .returned (.bool (aloneS k s.toList)) ∧ Below w.heap.size w w' := by
  go_enter Tryz.func256, Tryz.ntmps256
  go_wp2_with (first | (go_at_call 206; refine (isValueWord_any _ _).mono ?_; rintro e w' ⟨rfl, hb⟩))
  all_goals go_ret
  all_goals first
    | (refine ⟨ret_bool ?_, (Below.refl _ _).alloc (Nat.le_refl _) _⟩; simp_all [aloneS]; done)
    | (refine ⟨ret_bool ?_, ((Below.refl _ _).alloc (Nat.le_refl _) _).trans (hb.mono (by simp))⟩; simp_all [aloneS])
set_option maxHeartbeats 400000 in
set_option maxRecDepth 100000 in
theorem isHead_any (k : Int) (s : ByteArray) (w : World) :
    Calls Tryz.prog 331 #[.agg #[.int .i64 k, .string s]] w fun e w' => e = .returned (.bool (headS k s.toList)) ∧ Below w.heap.size w w' := by
  by_cases h8 : k = 8
  · subst h8
    go_enter Tryz.func331, Tryz.ntmps331
    go_wp2_with (first | (go_at_call 206; refine (isValueWord_any _ _).mono ?_; rintro e w' ⟨rfl, hb⟩))
    go_ret
    exact ⟨ret_bool (by simp [headS]), (Below.refl _ _).alloc (Nat.le_refl _) _⟩
  · by_cases h5 : k = 5
    · subst h5
      go_enter Tryz.func331, Tryz.ntmps331
      go_wp2_with (first | (go_at_call 206; refine (isValueWord_any _ _).mono ?_; rintro e w' ⟨rfl, hb⟩))
      go_ret
      exact ⟨ret_bool (by simp [headS]), ((Below.refl _ _).alloc (Nat.le_refl _) _).trans (hb.mono (by simp))⟩
    · go_enter Tryz.func331, Tryz.ntmps331
      go_wp2_with (first | (go_at_call 206; refine (isValueWord_any _ _).mono ?_; rintro e w' ⟨rfl, hb⟩))
      go_ret
      exact ⟨ret_bool (by simp [headS, h8, h5]), (Below.refl _ _).alloc (Nat.le_refl _) _⟩
end Go.Proofs.YtilfjpmeededmaaGreatDoor

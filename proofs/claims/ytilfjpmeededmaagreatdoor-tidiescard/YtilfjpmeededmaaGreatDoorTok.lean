/- What the tests of package expr for each kind of token answer. -/
import Derived.Test.YtilfjpmeededmaaGreatDoorLeaf
namespace Go.Proofs.YtilfjpmeededmaaGreatDoor
open Go.RowKit

theorem u8_eq (c : UInt8) (n : Nat) (hn : n < 256) : (c == UInt8.ofNat n) = decide ((c.toNat : Int) = n) := by
  rw [Bool.eq_iff_iff]; simp only [beq_iff_eq, decide_eq_true_eq]
  constructor
  · rintro rfl; simp; omega
  · intro h; apply UInt8.toNat_inj.mp; simp; omega

theorem bne_dec (a b : Int) : (a != b) = !decide (a = b) := by
  rw [Bool.eq_iff_iff]; simp

theorem parS_of (s : ByteArray) (h : s.size = 2) : parS s.toList = (decide ((s[0].toNat : Int) = 36) && digitB s[1].toNat && !decide ((s[1].toNat : Int) = 48)) := by
  unfold parS
  rw [toList_length, head_get s (by omega), getD_get s 1 (by omega)]
  rw [show (36 : UInt8) = UInt8.ofNat 36 from rfl, show (48 : UInt8) = UInt8.ofNat 48 from rfl, u8_eq _ 36 (by omega), u8_eq _ 48 (by omega)]
  simp [h]

set_option maxHeartbeats 400000 in
set_option maxRecDepth 100000 in
theorem isParameter_any (s : ByteArray) (w : World) :
    Calls Tryz.prog 329 #[.string s] w fun e w' => e = .returned (.bool (parS s.toList)) ∧ w' = w := by
  by_cases h2 : s.size = 2
  · have HP : Hid (parS s.toList = (decide ((s[0].toNat : Int) = 36) && digitB s[1].toNat && !decide ((s[1].toNat : Int) = 48))) := parS_of s h2
    by_cases h3 : (s[0].toNat : Int) = 36
    · by_cases h4 : digitB s[1].toNat = true
      · go_enter Tryz.func329, Tryz.ntmps329
        go_wp2_with (first | (go_at_call 211; refine (isDigit_any _ _).mono ?_; rintro e w' ⟨rfl, rfl⟩))
        go_ret
        exact ⟨ret_bool (by rw [HP.out, h3, h4]; simp [bne_dec]), rfl⟩
      · rw [Bool.not_eq_true] at h4
        go_enter Tryz.func329, Tryz.ntmps329
        go_wp2_with (first | (go_at_call 211; refine (isDigit_any _ _).mono ?_; rintro e w' ⟨rfl, rfl⟩))
        go_ret
        exact ⟨ret_bool (by rw [HP.out, h4]; simp), rfl⟩
    · go_enter Tryz.func329, Tryz.ntmps329
      go_wp2_with (first | (go_at_call 211; refine (isDigit_any _ _).mono ?_; rintro e w' ⟨rfl, rfl⟩))
      go_ret
      exact ⟨ret_bool (by rw [HP.out]; simp [h3]), rfl⟩
  · have HP : Hid (parS s.toList = false) := by simp [Hid, parS, toList_length, h2]
    go_enter Tryz.func329, Tryz.ntmps329
    go_wp2_with fail
    go_ret
    exact ⟨ret_bool HP.out.symm, rfl⟩

theorem quo_drop (s : ByteArray) (k : Nat) (h : k < s.size - 1) :
    ((s.toList.take (s.size - 1)).drop k).all quoC = (quoC (s[k]'(by omega)) && ((s.toList.take (s.size - 1)).drop (k + 1)).all quoC) := by
  have hl : (s.toList.take (s.size - 1)).length = s.size - 1 := by rw [List.length_take, toList_length]; omega
  rw [List.drop_eq_getElem_cons (by omega)]
  simp only [List.all_cons, List.getElem_take, toList_get s k (by omega)]
theorem quo_end (s : ByteArray) (k : Nat) (h : s.size - 1 ≤ k) : ((s.toList.take (s.size - 1)).drop k).all quoC = true := by
  rw [List.drop_of_length_le (by rw [List.length_take, toList_length]; omega)]; rfl
theorem quoteS_of (s : ByteArray) (h : 2 ≤ s.size) (h2 : s.size ≤ 32) : quoteS s.toList =
    (decide ((s[0].toNat : Int) = 39) && decide ((s[s.size - 1].toNat : Int) = 39) && ((s.toList.take (s.size - 1)).drop 1).all quoC) := by
  unfold quoteS
  rw [toList_length, getD_get s 0 (by omega), getD_get s (s.size - 1) (by omega)]
  rw [show (39 : UInt8) = UInt8.ofNat 39 from rfl, u8_eq _ 39 (by omega), u8_eq _ 39 (by omega)]
  simp [h, h2]
theorem quoC_of (c : UInt8) : quoC c = (!decide ((c.toNat : Int) < 32) && !decide ((126 : Int) < c.toNat) && !decide ((c.toNat : Int) = 39)) := by
  unfold quoC
  rw [show (39 : UInt8) = UInt8.ofNat 39 from rfl, u8_eq _ 39 (by omega)]
  rw [Bool.eq_iff_iff]; simp; omega

set_option maxHeartbeats 800000 in
set_option maxRecDepth 100000 in
theorem isQuote_any (s : ByteArray) (w : World) (hs : s.size ≤ maxLen) :
    Calls Tryz.prog 328 #[.string s] w fun e w' => e = .returned (.bool (quoteS s.toList)) ∧ w' = w := by
  unfold maxLen at hs
  by_cases h2 : 2 ≤ s.size ∧ s.size ≤ 32
  · obtain ⟨h2, h32⟩ := h2
    have HP := quoteS_of s h2 h32
    replace HP : Hid _ := HP
    by_cases h3 : (s[0].toNat : Int) = 39 ∧ (s[s.size - 1].toNat : Int) = 39
    · obtain ⟨h3, h4⟩ := h3
      go_enter Tryz.func328, Tryz.ntmps328
      go_wp2_with fail
      go_loop [3] (fun i => ∃ k : Nat, 1 ≤ k ∧ k ≤ s.size - 1 ∧ i = .int .i64 k ∧ Hid (((s.toList.take (s.size - 1)).drop 1).all quoC = ((s.toList.take (s.size - 1)).drop k).all quoC)) (fun i => s.size - (intOf i).toNat)
      case atStart => exact ⟨1, by omega, by omega, rfl, rfl⟩
      case round =>
        obtain ⟨k, hk1, hk, rfl, HA⟩ := hrel
        by_cases hlt : k < s.size - 1
        · have hks : k < s.size := by omega
          have HS := quo_drop s k hlt
          replace HS : Hid _ := HS
          have HD := quoC_of s[k]
          replace HD : Hid _ := HD
          by_cases ha : (s[k].toNat : Int) < 32
          · go_wp2_with fail
            go_ret
            exact ⟨ret_bool (by rw [HP.out, HA.out, HS.out, HD.out]; simp [ha]), rfl⟩
          · by_cases hb : (126 : Int) < s[k].toNat
            · go_wp2_with fail
              go_ret
              exact ⟨ret_bool (by rw [HP.out, HA.out, HS.out, HD.out]; simp [hb]), rfl⟩
            · by_cases hc : (s[k].toNat : Int) = 39
              · go_wp2_with fail
                go_ret
                exact ⟨ret_bool (by rw [HP.out, HA.out, HS.out, HD.out]; simp [hc]), rfl⟩
              · have HB : Hid (quoC s[k] = true) := by rw [Hid, HD.out]; simp [ha, hb, hc]
                go_wp2_with fail
                go_round
                case rel => exact ⟨k + 1, by omega, by omega, by go_num, by rw [Hid, HA.out, HS.out, HB.out]; rfl⟩
                case measure => simp [intOf]; omega
        · have HE : Hid (((s.toList.take (s.size - 1)).drop k).all quoC = true) := quo_end s k (by omega)
          go_wp2_with fail
          go_ret
          exact ⟨ret_bool (by rw [HP.out, HA.out, HE.out, h3, h4]; simp), rfl⟩
    · by_cases h4 : (s[0].toNat : Int) = 39
      · have H5 : Hid (¬ (s[s.size - 1].toNat : Int) = 39) := fun h => h3 ⟨h4, h⟩
        have h5 : ((s[s.size - 1].toNat : Int) != 39) = true := by rw [bne_dec, decide_eq_false H5.out]; rfl
        clear h3
        go_enter Tryz.func328, Tryz.ntmps328
        go_wp2_with fail
        go_ret
        exact ⟨ret_bool (by rw [HP.out, decide_eq_false H5.out]; simp), rfl⟩
      · clear h3
        go_enter Tryz.func328, Tryz.ntmps328
        go_wp2_with fail
        go_ret
        exact ⟨ret_bool (by rw [HP.out]; simp [h4]), rfl⟩
  · have HP : Hid (quoteS s.toList = false) := by
      simp only [Hid, quoteS, toList_length]; simp; omega
    by_cases h5 : s.size < 2
    · go_enter Tryz.func328, Tryz.ntmps328
      go_wp2_with fail
      go_ret
      exact ⟨ret_bool HP.out.symm, rfl⟩
    · have h6 : 32 < s.size := by omega
      go_enter Tryz.func328, Tryz.ntmps328
      go_wp2_with fail
      go_ret
      exact ⟨ret_bool HP.out.symm, rfl⟩

set_option maxHeartbeats 400000 in
set_option maxRecDepth 100000 in
theorem isValueWord_any (s : ByteArray) (w : World) :
    Calls Tryz.prog 206 #[.string s] w fun e w' => e = .returned (.bool (valS s.toList)) ∧ Below w.heap.size w w' := by
  go_enter Tryz.func206, Tryz.ntmps206
  go_wp2
  all_goals go_ret
  all_goals (refine ⟨ret_bool ?_, Below.refl _ _⟩; simp_all [valS])

def aloneS (k : Int) (l : Bs) : Bool := k == 3 || k == 4 || k == 6 || k == 7 || valS l
def headS (k : Int) (l : Bs) : Bool := k == 8 || (k == 5 && !valS l)

set_option maxHeartbeats 400000 in
set_option maxRecDepth 100000 in
theorem standsAlone_any (k : Int) (s : ByteArray) (w : World) :
    Calls Tryz.prog 256 #[.agg #[.int .i64 k, .string s]] w fun e w' => e = .returned (.bool (aloneS k s.toList)) ∧ Below w.heap.size w w' := by
  go_enter Tryz.func256, Tryz.ntmps256
  go_wp2_with (first | (go_at_call 206; refine (isValueWord_any _ _).mono ?_; rintro e w' ⟨rfl, hb⟩))
  all_goals go_ret
  all_goals first
    | (refine ⟨ret_bool ?_, (Below.refl _ _).alloc (Nat.le_refl _) _⟩; simp_all [aloneS]; done)
    | (refine ⟨ret_bool ?_, ((Below.refl _ _).alloc (Nat.le_refl _) _).trans (hb.mono (by simp))⟩; simp_all [aloneS])

set_option maxHeartbeats 400000 in
set_option maxRecDepth 100000 in
theorem isHead_any (k : Int) (s : ByteArray) (w : World) :
    Calls Tryz.prog 331 #[.agg #[.int .i64 k, .string s]] w fun e w' => e = .returned (.bool (headS k s.toList)) ∧ Below w.heap.size w w' := by
  by_cases h8 : k = 8
  · subst h8
    go_enter Tryz.func331, Tryz.ntmps331
    go_wp2_with (first | (go_at_call 206; refine (isValueWord_any _ _).mono ?_; rintro e w' ⟨rfl, hb⟩))
    go_ret
    exact ⟨ret_bool (by simp [headS]), (Below.refl _ _).alloc (Nat.le_refl _) _⟩
  · by_cases h5 : k = 5
    · subst h5
      go_enter Tryz.func331, Tryz.ntmps331
      go_wp2_with (first | (go_at_call 206; refine (isValueWord_any _ _).mono ?_; rintro e w' ⟨rfl, hb⟩))
      go_ret
      exact ⟨ret_bool (by simp [headS]), ((Below.refl _ _).alloc (Nat.le_refl _) _).trans (hb.mono (by simp))⟩
    · go_enter Tryz.func331, Tryz.ntmps331
      go_wp2_with (first | (go_at_call 206; refine (isValueWord_any _ _).mono ?_; rintro e w' ⟨rfl, hb⟩))
      go_ret
      exact ⟨ret_bool (by simp [headS, h8, h5]), (Below.refl _ _).alloc (Nat.le_refl _) _⟩
end Go.Proofs.YtilfjpmeededmaaGreatDoor

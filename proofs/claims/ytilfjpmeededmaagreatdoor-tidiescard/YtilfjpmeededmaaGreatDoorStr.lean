/- What isNumeral, isColumn, kindOf, quoteLength and pieceLength answer. -/
import Derived.Test.YtilfjpmeededmaaGreatDoorTok
import Derived.Test.YtilfjpmeededmaaGreatDoorShelf
namespace Go.Proofs.YtilfjpmeededmaaGreatDoor
open Go.RowKit

theorem data_toList (s : ByteArray) : s.data.toList = s.toList := (ByteArray.toList_eq s).symm
theorem trim_minus (s : ByteArray) : Lib.trimPrefix s.data.toList [45] = unminus s.toList := by
  rw [data_toList]
  generalize s.toList = l
  cases l with
  | nil => rfl
  | cons c r =>
    by_cases h : c = 45
    · subst h; rfl
    · have e1 : unminus (c :: r) = c :: r := by unfold unminus; rw [if_neg]; simpa using h
      have e2 : Lib.trimPrefix (c :: r) [45] = c :: r := by
        unfold Lib.trimPrefix Lib.hasPrefix; rw [if_neg]; simpa [List.isPrefixOf] using (fun e => h (Eq.symm e))
      rw [e1, e2]
theorem unminus_len (l : Bs) : (unminus l).length ≤ l.length := by unfold unminus; split <;> simp
theorem mk_toList (l : Bs) : (ByteArray.mk l.toArray).toList = l := ByteArray.toList_mk l
theorem mk_size (l : Bs) : (ByteArray.mk l.toArray).size = l.length := by rw [← toList_length, mk_toList]

theorem numLoop_drop (s : ByteArray) (k : Nat) (n : Int) (h : k < s.size) : numLoop (s.toList.drop k) n =
    (digitB s[k].toNat && decide (n * 10 + (s[k].toNat - 48) ≤ 1000000000) && numLoop (s.toList.drop (k + 1)) (n * 10 + (s[k].toNat - 48))) := by
  rw [drop_cons s k h, numLoop]
theorem numLoop_end (s : ByteArray) (k : Nat) (n : Int) (h : s.size ≤ k) : numLoop (s.toList.drop k) n = true := by
  rw [List.drop_of_length_le (by rw [toList_length]; exact h), numLoop]
theorem digitB_bd {c : Int} (h : digitB c = true) : 48 ≤ c ∧ c ≤ 57 := by
  unfold digitB at h; simpa using h

set_option maxHeartbeats 800000 in
set_option maxRecDepth 100000 in
theorem isNumeral_any (s : ByteArray) (w : World) (hs : s.size ≤ maxLen) :
    Calls Tryz.prog 327 #[.string s] w fun e w' => e = .returned (.bool (numS s.toList)) ∧ w' = w := by
  unfold maxLen at hs
  by_cases h0 : (s.toList == [48]) = true
  · have HN : Hid (numS s.toList = true) := by rw [Hid, numS, h0]; rfl
    go_enter Tryz.func327, Tryz.ntmps327
    go_wp2_with fail
    go_ret
    exact ⟨ret_bool HN.out.symm, rfl⟩
  · rw [Bool.not_eq_true] at h0
    obtain ⟨d, hd⟩ : ∃ d : ByteArray, d = ⟨(Lib.trimPrefix s.data.toList [45]).toArray⟩ := ⟨_, rfl⟩
    have HL : Hid (unminus s.toList = d.toList) := by rw [Hid, hd, trim_minus]; exact (mk_toList _).symm
    have hds : d.size ≤ s.size := by rw [← toList_length, ← HL.out, ← toList_length s]; exact unminus_len _
    have HT : ∀ w : World, Calls Tryz.prog 371 #[.string s, .string ⟨#[45]⟩] w fun e w' => e = .returned (.string d) ∧ w' = w := by
      intro w; rw [hd]; exact Tryz.strings_TrimPrefix s ⟨#[45]⟩ w
    clear hd
    have HN : Hid (numS s.toList = (decide (0 < d.toList.length) && !(d.toList.headD 0 == 48) && numLoop d.toList 0)) := by
      rw [Hid, numS, h0, HL.out]; rfl
    by_cases hd0 : d.size = 0
    · have hE := isEmpty_t d hd0
      go_enter Tryz.func327, Tryz.ntmps327
      go_wp2_with (go_at_call 371; refine (HT _).mono ?_; rintro e w' ⟨rfl, rfl⟩)
      go_ret
      exact ⟨ret_bool (by rw [HN.out, toList_length]; simp [hd0]), rfl⟩
    · have hpos : 0 < d.size := by omega
      have hE := isEmpty_f d hpos
      have HH : Hid ((d.toList.headD 0 == 48) = decide ((d[0].toNat : Int) = 48)) := by
        rw [Hid, head_get d hpos]; exact u8_eq _ 48 (by omega)
      by_cases h48 : (d[0].toNat : Int) = 48
      · go_enter Tryz.func327, Tryz.ntmps327
        go_wp2_with (go_at_call 371; refine (HT _).mono ?_; rintro e w' ⟨rfl, rfl⟩)
        go_ret
        exact ⟨ret_bool (by rw [HN.out, HH.out]; simp [h48]), rfl⟩
      · have H48 : Hid (numS s.toList = numLoop d.toList 0) := by
          rw [Hid, HN.out, HH.out, toList_length]; simp [h48, hpos]
        clear HN HH
        have h48b : ((d[0].toNat : Int) == 48) = false := by simpa using h48
        clear h48
        go_enter Tryz.func327, Tryz.ntmps327
        go_wp2_with (go_at_call 371; refine (HT _).mono ?_; rintro e w' ⟨rfl, rfl⟩)
        go_loop [4, 19] (fun t i => ∃ (k : Nat) (n : Int), k ≤ d.size ∧ i = .int .i64 k ∧ t = .int .i64 n ∧ 0 ≤ n ∧ n ≤ 1000000000 ∧ Hid (numLoop d.toList 0 = numLoop (d.toList.drop k) n)) (fun _ i => d.size - (intOf i).toNat)
        case atStart => exact ⟨0, 0, Nat.zero_le _, rfl, rfl, by omega, by omega, rfl⟩
        case round =>
          obtain ⟨k, n, hk, rfl, rfl, hn0, hn1, HA⟩ := hrel
          by_cases hlt : k < d.size
          · have HS := numLoop_drop d k n hlt
            replace HS : Hid _ := HS
            by_cases hdg : digitB d[k].toNat = true
            · have hbd := digitB_bd hdg
              by_cases hbig : n * 10 + (d[k].toNat - 48) ≤ 1000000000
              · go_wp2_with (first | (go_at_call 211; refine (isDigit_any _ _).mono ?_; rintro e w' ⟨rfl, rfl⟩))
                go_round
                case rel => exact ⟨k + 1, n * 10 + (d[k].toNat - 48), by omega, by go_num, by go_num, by omega, by omega, by rw [Hid, HA.out, HS.out, hdg, decide_eq_true hbig]; rfl⟩
                case measure => simp [intOf]; omega
              · have HB : Hid (decide (n * 10 + (d[k].toNat - 48) ≤ 1000000000) = false) := decide_eq_false hbig
                go_wp2_with (first | (go_at_call 211; refine (isDigit_any _ _).mono ?_; rintro e w' ⟨rfl, rfl⟩))
                go_ret
                exact ⟨ret_bool (by rw [H48.out, HA.out, HS.out, HB.out]; simp), rfl⟩
            · rw [Bool.not_eq_true] at hdg
              go_wp2_with (first | (go_at_call 211; refine (isDigit_any _ _).mono ?_; rintro e w' ⟨rfl, rfl⟩))
              go_ret
              exact ⟨ret_bool (by rw [H48.out, HA.out, HS.out, hdg]; rfl), rfl⟩
          · have HE : Hid (numLoop (d.toList.drop k) n = true) := numLoop_end d k n (by omega)
            go_wp2_with fail
            go_ret
            exact ⟨ret_bool (by rw [H48.out, HA.out, HE.out]), rfl⟩
end Go.Proofs.YtilfjpmeededmaaGreatDoor

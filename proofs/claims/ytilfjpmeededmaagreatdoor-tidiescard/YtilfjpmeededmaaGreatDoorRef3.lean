/- What Column, atom, among and head of package curtainref answer. -/
import Derived.Test.YtilfjpmeededmaaGreatDoorRef2
import Derived.Deep.QuietTactic
import Derived.BigQuiet
namespace Go.Proofs.YtilfjpmeededmaaGreatDoor
open Go.RowKit

theorem ref_u8i (c : UInt8) (n : Nat) (hn : n < 256) : ((c.toNat : Int) == (n : Int)) = (c == UInt8.ofNat n) := by
  rw [u8_eq c n hn, Bool.eq_iff_iff]; simp
theorem at_split {l a b : Bs} (h : l = a ++ b) : l[a.length]? = b[0]? := by
  subst h; rw [List.getElem?_append_right (Nat.le_refl _)]; simp
def dotAt (l : Bs) : Nat := (l.takeWhile (· != 46)).length
theorem tw_split (l : Bs) : l = l.takeWhile (· != 46) ++ l.dropWhile (· != 46) := (List.takeWhile_append_dropWhile).symm
theorem dot_lt (s : ByteArray) (k : Nat) (h : k < dotAt s.toList) (hk : k < s.size) : ((s[k].toNat : Int) == 46) = false := by
  have hg : s.toList[k]'(by rw [toList_length]; exact hk) = s[k] := toList_get s k hk
  have e := tw_split s.toList
  have h1 : s.toList[k]? = (s.toList.takeWhile (· != 46))[k]? := by
    conv => lhs; rw [e]
    rw [List.getElem?_append_left h]
  rw [List.getElem?_eq_getElem (by rw [toList_length]; exact hk), hg, List.getElem?_eq_getElem h] at h1
  have hm := List.getElem_mem h
  have hp : ((s.toList.takeWhile (· != 46))[k] != 46) = true := by
    have := List.all_takeWhile (l := s.toList) (p := (· != 46))
    rw [List.all_eq_true] at this
    exact this _ hm
  rw [← Option.some.inj h1] at hp
  have h46 : (s[k] == 46) = false := by simpa using hp
  rw [← h46]
  exact ref_u8i s[k] 46 (by omega)
theorem dot_at (s : ByteArray) (h : dotAt s.toList < s.size) : ((s[dotAt s.toList].toNat : Int) == 46) = true := by
  have e := tw_split s.toList
  have hl : s.toList.length = dotAt s.toList + (s.toList.dropWhile (· != 46)).length := by
    have := congrArg List.length e; rwa [List.length_append] at this
  rw [toList_length] at hl
  cases hd : s.toList.dropWhile (· != 46) with
  | nil => rw [hd] at hl; simp at hl; omega
  | cons c r =>
    have hc : (c != 46) = false := by
      have := List.head?_dropWhile_not (p := (· != 46)) s.toList
      rw [hd] at this; simpa using this
    have h1 : s.toList[dotAt s.toList]? = some c := by
      have := at_split e; rw [hd] at this; exact this
    rw [List.getElem?_eq_getElem (by rw [toList_length]; exact h), toList_get s _ h] at h1
    have h2 := Option.some.inj h1
    rw [h2]
    have : c = 46 := by simpa using hc
    rw [this]; rfl
theorem dot_contains (s : ByteArray) : s.toList.contains 46 = decide (dotAt s.toList < s.size) := by
  cases hc : s.toList.contains 46 with
  | true => have := (ib_some s.toList 46 hc).2.1; rw [toList_length] at this; symm; exact decide_eq_true this
  | false =>
    symm; rw [decide_eq_false_iff_not]
    intro h
    have := dot_at s h
    have h2 : s.toList.contains 46 = true := by
      rw [List.contains_iff_mem]
      have hg := toList_get s _ h
      have h46 : s[dotAt s.toList] = 46 := by
        have h3 := this
        rw [show ((46 : Int)) = ((46 : Nat) : Int) from rfl] at h3
        apply UInt8.toNat_inj.mp
        simp at h3 ⊢; omega
      rw [← h46, ← hg]; exact List.getElem_mem _
    rw [hc] at h2; cases h2

set_option maxHeartbeats 1600000 in
set_option maxRecDepth 100000 in
theorem refColumn_any (s : ByteArray) (w : World) (hs : s.size ≤ maxLen) :
    Calls Tryz.prog 338 #[.string s] w fun e w' => Below w.heap.size w w' ∧ ∃ x y : ByteArray, e = .returned (.tuple #[.string x, .string y, .bool (colS s.toList)]) ∧
      (colS s.toList = true → x.toList = s.toList.takeWhile (· != 46) ∧ y.toList = (s.toList.dropWhile (· != 46)).drop 1) := by
  have hs2 := hs
  unfold maxLen at hs
  obtain ⟨d, hd⟩ : ∃ d, d = dotAt s.toList := ⟨_, rfl⟩
  have hlt1 : ∀ k, k < d → ∀ hk : k < s.size, ((s[k].toNat : Int) == 46) = false := fun k h hk => dot_lt s k (by omega) hk
  have hat : ∀ hk : d < s.size, ((s[d].toNat : Int) == 46) = true := by subst hd; exact fun hk => dot_at s hk
  have hcon : s.toList.contains 46 = decide (d < s.size) := by rw [hd]; exact dot_contains s
  have hcol : d < s.size → colS s.toList = (wordS (s.toList.take d) && wordS (s.toList.drop (d + 1))) := by
    intro h
    have h3 := ib_some s.toList 46 (by rw [hcon]; simpa using h)
    have e1 : s.toList.take d = s.toList.takeWhile (· != 46) := by rw [hd]; exact h3.2.2.1
    have e2 : s.toList.drop (d + 1) = (s.toList.dropWhile (· != 46)).drop 1 := by rw [← h3.2.2.2, List.drop_drop]; congr 1; rw [hd]; rfl
    rw [colS, hcon, decide_eq_true h, e1, e2]; rfl
  have hwords : d < s.size → s.toList.take d = s.toList.takeWhile (· != 46) ∧ s.toList.drop (d + 1) = (s.toList.dropWhile (· != 46)).drop 1 := by
    intro h
    have h3 := ib_some s.toList 46 (by rw [hcon]; simpa using h)
    exact ⟨by rw [hd]; exact h3.2.2.1, by rw [← h3.2.2.2, List.drop_drop]; congr 1; rw [hd]; rfl⟩
  have H1 : Hid _ := hlt1
  have H2 : Hid _ := hat
  have H3 : Hid _ := hcon
  have H4 : Hid _ := hcol
  have H5 : Hid _ := hwords
  clear hd hlt1 hat hcon hcol hwords
  go_enter Tryz.func338, Tryz.ntmps338
  go_wp2_with fail
  go_loop [5, 6] (fun av iv => ∃ (k : Nat) (a : Int), k ≤ s.size ∧ iv = .int .i64 k ∧ av = .int .i64 a ∧ ((a = -1 ∧ k ≤ d) ∨ (a = d ∧ d < k))) (fun _ i => s.size - (intOf i).toNat)
  case atStart => exact ⟨0, -1, Nat.zero_le _, rfl, rfl, .inl ⟨rfl, Nat.zero_le _⟩⟩
  case round =>
    obtain ⟨k, a, hk, rfl, rfl, hcase⟩ := hrel
    by_cases hlt : k < s.size
    · rcases hcase with ⟨rfl, hkd⟩ | ⟨rfl, hkd⟩
      · by_cases hkd2 : k < d
        · have h46 := H1.out k hkd2 hlt
          go_wp2_with fail
          go_round
          case rel => exact ⟨k + 1, -1, by omega, by go_num, rfl, .inl ⟨rfl, by omega⟩⟩
          case measure => simp [intOf]; omega
        · have hkd3 : k = d := by omega
          have h46 : ((s[k].toNat : Int) == 46) = true := by subst hkd3; exact H2.out hlt
          have HK : Hid (k = d) := hkd3
          clear hkd3
          go_wp2_with fail
          go_round
          case rel => exact ⟨k + 1, k, by omega, by go_num, rfl, .inr ⟨by rw [HK.out], by rw [HK.out]; omega⟩⟩
          case measure => simp [intOf]; omega
      · cases h46 : ((s[k].toNat : Int) == 46) with
        | true =>
          go_wp2_with fail
          go_round
          case rel => exact ⟨k + 1, d, by omega, by go_num, rfl, .inr ⟨rfl, by omega⟩⟩
          case measure => simp [intOf]; omega
        | false =>
          go_wp2_with fail
          go_round
          case rel => exact ⟨k + 1, d, by omega, by go_num, rfl, .inr ⟨rfl, by omega⟩⟩
          case measure => simp [intOf]; omega
    · rcases hcase with ⟨rfl, hkd⟩ | ⟨rfl, hkd⟩
      · have HF : Hid (colS s.toList = false) := by
          rw [Hid, colS, H3.out, decide_eq_false (by omega)]; rfl
        go_wp2_with fail
        go_ret3
        exact ⟨Below.refl _ _, ⟨#[]⟩, ⟨#[]⟩, by rw [HF.out]; rfl, fun h => by rw [HF.out] at h; cases h⟩
      · have hds : d < s.size := by omega
        have HC := H4.out hds
        replace HC : Hid _ := HC
        have HW := H5.out hds
        replace HW : Hid _ := HW
        have z1 : (s.extract 0 d).size ≤ maxLen := by unfold maxLen; simp; omega
        have z2 : (s.extract (d + 1) s.size).size ≤ maxLen := by unfold maxLen; simp; omega
        rw [← ext_take, ← ext_drop] at HC HW
        clear H1 H2 H3 H4 H5
        cases hb1 : wordS (s.extract 0 d).toList with
        | true =>
          go_wp2_with (go_at_call 263; refine (refWord_any _ _ (by assumption)).mono ?_; rintro e w2 ⟨rfl, rfl⟩)
          go_region
          all_goals (try go_wp2)
          all_goals go_ret3
          exact ⟨Below.drew (Below.refl _ _), _, _, by rw [HC.out, hb1]; rfl, fun _ => HW.out⟩
        | false =>
          go_wp2_with (go_at_call 263; refine (refWord_any _ _ (by assumption)).mono ?_; rintro e w2 ⟨rfl, rfl⟩)
          go_region
          all_goals (try go_wp2)
          all_goals go_ret3
          exact ⟨Below.drew (Below.refl _ _), _, _, by rw [HC.out, hb1]; rfl, fun _ => HW.out⟩

def atomS (l : Bs) : Bool := numS l || colS l || quoteS l || valS l || parS l
theorem parV_nonneg (l : Bs) : decide (0 ≤ parV l) = parS l := by
  unfold parV
  cases h : parS l with
  | false => rfl
  | true =>
    unfold parS at h
    simp only [Bool.and_eq_true] at h
    have hd := digitB_bd h.1.2
    have h48 : ¬ (l.getD 1 0).toNat = 48 := by
      intro e
      have : l.getD 1 0 = 48 := UInt8.toNat_inj.mp e
      rw [this] at h; simp at h
    rw [if_pos rfl]; exact decide_eq_true (by omega)

set_option maxHeartbeats 1600000 in
set_option maxRecDepth 100000 in
theorem refAtom_any (s : ByteArray) (w : World) (hs : s.size ≤ maxLen) :
    Calls Tryz.prog 262 #[.string s] w fun e w' => e = .returned (.bool (atomS s.toList)) ∧ Below w.heap.size w w' := by
  have HP : Hid _ := parV_nonneg s.toList
  have HD : Hid (atomS s.toList = (numS s.toList || colS s.toList || quoteS s.toList || valS s.toList || parS s.toList)) := rfl
  cases h1 : numS s.toList with
  | true =>
    go_enter Tryz.func262, Tryz.ntmps262
    go_wp2_with (go_at_call 337; refine (refNumeral_any _ _ hs).mono ?_; rintro e w2 ⟨rfl, rfl⟩)
    refine (refColumn_any _ _ hs).mono ?_
    rintro e w3 ⟨hb3, x, y, rfl, _⟩
    go_wp2_with (first | (go_at_call 339; refine (refQuote_any _ _ hs).mono ?_; rintro e w4 ⟨rfl, rfl⟩) | (go_at_call 264; refine (refConstant_any _ _).mono ?_; rintro e w5 ⟨rfl, rfl⟩) | (go_at_call 340; refine (refParameter_any _ _).mono ?_; rintro e w6 ⟨rfl, rfl⟩))
    go_ret
    exact ⟨ret_bool (by rw [HD.out, h1]; rfl), hb3⟩
  | false =>
    cases h2 : colS s.toList with
    | true =>
      go_enter Tryz.func262, Tryz.ntmps262
      go_wp2_with (go_at_call 337; refine (refNumeral_any _ _ hs).mono ?_; rintro e w2 ⟨rfl, rfl⟩)
      refine (refColumn_any _ _ hs).mono ?_
      rintro e w3 ⟨hb3, x, y, rfl, _⟩
      go_wp2_with (first | (go_at_call 339; refine (refQuote_any _ _ hs).mono ?_; rintro e w4 ⟨rfl, rfl⟩) | (go_at_call 264; refine (refConstant_any _ _).mono ?_; rintro e w5 ⟨rfl, rfl⟩) | (go_at_call 340; refine (refParameter_any _ _).mono ?_; rintro e w6 ⟨rfl, rfl⟩))
      go_ret
      exact ⟨ret_bool (by rw [HD.out, h1, h2]; rfl), hb3⟩
    | false =>
      cases h3 : quoteS s.toList with
      | true =>
        go_enter Tryz.func262, Tryz.ntmps262
        go_wp2_with (go_at_call 337; refine (refNumeral_any _ _ hs).mono ?_; rintro e w2 ⟨rfl, rfl⟩)
        refine (refColumn_any _ _ hs).mono ?_
        rintro e w3 ⟨hb3, x, y, rfl, _⟩
        go_wp2_with (first | (go_at_call 339; refine (refQuote_any _ _ hs).mono ?_; rintro e w4 ⟨rfl, rfl⟩) | (go_at_call 264; refine (refConstant_any _ _).mono ?_; rintro e w5 ⟨rfl, rfl⟩) | (go_at_call 340; refine (refParameter_any _ _).mono ?_; rintro e w6 ⟨rfl, rfl⟩))
        go_ret
        exact ⟨ret_bool (by rw [HD.out, h1, h2, h3]; rfl), hb3⟩
      | false =>
        cases h4 : valS s.toList with
        | true =>
          go_enter Tryz.func262, Tryz.ntmps262
          go_wp2_with (go_at_call 337; refine (refNumeral_any _ _ hs).mono ?_; rintro e w2 ⟨rfl, rfl⟩)
          refine (refColumn_any _ _ hs).mono ?_
          rintro e w3 ⟨hb3, x, y, rfl, _⟩
          go_wp2_with (first | (go_at_call 339; refine (refQuote_any _ _ hs).mono ?_; rintro e w4 ⟨rfl, rfl⟩) | (go_at_call 264; refine (refConstant_any _ _).mono ?_; rintro e w5 ⟨rfl, rfl⟩) | (go_at_call 340; refine (refParameter_any _ _).mono ?_; rintro e w6 ⟨rfl, rfl⟩))
          go_ret
          exact ⟨ret_bool (by rw [HD.out, h1, h2, h3, h4]; rfl), hb3⟩
        | false =>
          go_enter Tryz.func262, Tryz.ntmps262
          go_wp2_with (go_at_call 337; refine (refNumeral_any _ _ hs).mono ?_; rintro e w2 ⟨rfl, rfl⟩)
          refine (refColumn_any _ _ hs).mono ?_
          rintro e w3 ⟨hb3, x, y, rfl, _⟩
          go_wp2_with (first | (go_at_call 339; refine (refQuote_any _ _ hs).mono ?_; rintro e w4 ⟨rfl, rfl⟩) | (go_at_call 264; refine (refConstant_any _ _).mono ?_; rintro e w5 ⟨rfl, rfl⟩) | (go_at_call 340; refine (refParameter_any _ _).mono ?_; rintro e w6 ⟨rfl, rfl⟩))
          go_ret
          exact ⟨ret_bool (by rw [HD.out, h1, h2, h3, h4, ← HP.out]; rfl), hb3⟩
end Go.Proofs.YtilfjpmeededmaaGreatDoor

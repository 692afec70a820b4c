/- What isColumn and kindOf answer; strings.Cut at a separator of one byte. -/
import Derived.Test.YtilfjpmeededmaaGreatDoorStr
namespace Go.Proofs.YtilfjpmeededmaaGreatDoor
open Go.RowKit

theorem ib_none (l : Bs) (c : UInt8) (h : l.contains c = false) : Lib.indexByte l c = -1 := by
  induction l with
  | nil => rfl
  | cons b r ih =>
    simp only [List.contains_cons, Bool.or_eq_false_iff] at h
    have hb : (b == c) = false := by
      have := h.1; rw [beq_eq_false_iff_ne] at this ⊢; exact fun e => this e.symm
    rw [Lib.indexByte, hb, ih h.2]; rfl
theorem ib_some (l : Bs) (c : UInt8) (h : l.contains c = true) : Lib.indexByte l c = (l.takeWhile (· != c)).length ∧
    (l.takeWhile (· != c)).length < l.length ∧ l.take (l.takeWhile (· != c)).length = l.takeWhile (· != c) ∧ l.drop (l.takeWhile (· != c)).length = l.dropWhile (· != c) := by
  induction l with
  | nil => simp at h
  | cons b r ih =>
    by_cases hb : b = c
    · subst hb
      have e : List.takeWhile (fun x => x != b) (b :: r) = [] := by rw [List.takeWhile_cons]; simp
      have e2 : List.dropWhile (fun x => x != b) (b :: r) = b :: r := by rw [List.dropWhile_cons]; simp
      rw [e, e2, Lib.indexByte]; simp
    · have hb1 : (b == c) = false := by simpa using hb
      have hb2 : (b != c) = true := by simpa using hb
      have hr : r.contains c = true := by
        simp only [List.contains_cons, Bool.or_eq_true] at h
        rcases h with h | h
        · exact absurd (by simpa using h : c = b).symm hb
        · exact h
      obtain ⟨i1, i2, i3, i4⟩ := ih hr
      rw [List.takeWhile_cons, List.dropWhile_cons, if_pos hb2, if_pos hb2, Lib.indexByte, hb1, i1]
      refine ⟨?_, by simp; omega, by simp [i3], by simp [i4]⟩
      rw [if_neg (by simp), if_neg (by simp)]; simp

theorem ext_take (s : ByteArray) (n : Nat) : (s.extract 0 n).toList = s.toList.take n := by
  rw [ByteArray.toList_eq, ByteArray.toList_eq, ByteArray.data_extract]; simp
theorem ext_drop (s : ByteArray) (n : Nat) : (s.extract n s.size).toList = s.toList.drop n := by
  rw [← data_toList, Lib.extract_to_end, data_toList]

set_option maxHeartbeats 800000 in
set_option maxRecDepth 100000 in
theorem sliteCut_one (s : ByteArray) (w : World) (hs : s.size ≤ maxLen) :
    Calls Tryz.prog 389 #[.string s, .string ⟨#[46]⟩] w fun e w' => Below w.heap.size w w' ∧
      ((s.toList.contains 46 = true ∧ ∃ b a : ByteArray, e = .returned (.tuple #[.string b, .string a, .bool true]) ∧ b.toList = s.toList.takeWhile (· != 46) ∧ a.toList = (s.toList.dropWhile (· != 46)).drop 1) ∨
       (s.toList.contains 46 = false ∧ e = .returned (.tuple #[.string s, .string ⟨#[]⟩, .bool false]))) := by
  unfold maxLen at hs
  by_cases hc : s.toList.contains 46 = true
  · obtain ⟨i1, i2, i3, i4⟩ := ib_some s.toList 46 hc
    obtain ⟨n, hn⟩ : ∃ n, n = (s.toList.takeWhile (· != 46)).length := ⟨_, rfl⟩
    rw [← hn] at i1 i2 i3 i4
    rw [toList_length] at i2
    have HI : ∀ w : World, Calls Tryz.prog 401 #[.string s, .string ⟨#[46]⟩] w fun e w' => e = .returned (.int .i64 n) ∧ w' = w := by
      intro w; rw [← i1, ← data_toList]; exact Tryz.stringslite_Index_one s 46 w
    have H3 : Hid (s.toList.take n = s.toList.takeWhile (· != 46)) := i3
    have H4 : Hid (s.toList.drop n = s.toList.dropWhile (· != 46)) := i4
    have HC : Hid (s.toList.contains 46 = true) := hc
    clear i1 i3 i4 hn hc
    go_enter Tryz.func389, Tryz.ntmps389
    go_wp2_with (go_at_call 401; refine (HI _).mono ?_; rintro e w' ⟨rfl, rfl⟩)
    go_region
    all_goals (try go_wp2)
    all_goals go_ret3
    exact ⟨Below.drew (Below.refl _ _), .inl ⟨HC.out, s.extract 0 n, s.extract (n + 1) s.size, rfl, by rw [ext_take, H3.out], by rw [ext_drop, ← H4.out, List.drop_drop]⟩⟩
  · rw [Bool.not_eq_true] at hc
    have HI : ∀ w : World, Calls Tryz.prog 401 #[.string s, .string ⟨#[46]⟩] w fun e w' => e = .returned (.int .i64 (-1)) ∧ w' = w := by
      intro w; rw [← ib_none _ _ hc, ← data_toList]; exact Tryz.stringslite_Index_one s 46 w
    go_enter Tryz.func389, Tryz.ntmps389
    go_wp2_with (go_at_call 401; refine (HI _).mono ?_; rintro e w' ⟨rfl, rfl⟩)
    go_ret3
    exact ⟨Below.refl _ _, .inr ⟨hc, rfl⟩⟩

set_option maxHeartbeats 800000 in
set_option maxRecDepth 100000 in
theorem cut_one (s : ByteArray) (w : World) (hs : s.size ≤ maxLen) :
    Calls Tryz.prog 372 #[.string s, .string ⟨#[46]⟩] w fun e w' => Below w.heap.size w w' ∧
      ((s.toList.contains 46 = true ∧ ∃ b a : ByteArray, e = .returned (.tuple #[.string b, .string a, .bool true]) ∧ b.toList = s.toList.takeWhile (· != 46) ∧ a.toList = (s.toList.dropWhile (· != 46)).drop 1) ∨
       (s.toList.contains 46 = false ∧ e = .returned (.tuple #[.string s, .string ⟨#[]⟩, .bool false]))) := by
  go_enter Tryz.func372, Tryz.ntmps372
  go_wp2_with (go_at_call 389; refine (sliteCut_one _ _ hs).mono ?_)
  rintro e w' ⟨hb, h⟩
  rcases h with ⟨hc, b, a, rfl, h1, h2⟩ | ⟨hc, rfl⟩
  · have HC : Hid (s.toList.contains 46 = true) := hc
    have H1 : Hid _ := h1
    have H2 : Hid _ := h2
    clear hc h1 h2
    go_wp2
    go_ret3
    exact ⟨hb, .inl ⟨HC.out, b, a, rfl, H1.out, H2.out⟩⟩
  · have HC : Hid (s.toList.contains 46 = false) := hc
    clear hc
    go_wp2
    go_ret3
    exact ⟨hb, .inr ⟨HC.out, rfl⟩⟩

theorem tw_le (l : Bs) (p : UInt8 → Bool) : (l.takeWhile p).length ≤ l.length := by
  induction l with
  | nil => simp
  | cons c r ih => rw [List.takeWhile_cons]; split <;> simp; omega
theorem dw_le (l : Bs) (p : UInt8 → Bool) : (l.dropWhile p).length ≤ l.length := by
  induction l with
  | nil => simp
  | cons c r ih => rw [List.dropWhile_cons]; split <;> simp; omega

set_option maxHeartbeats 800000 in
set_option maxRecDepth 100000 in
theorem isColumn_any (s : ByteArray) (w : World) (hs : s.size ≤ maxLen) :
    Calls Tryz.prog 330 #[.string s] w fun e w' => e = .returned (.bool (colS s.toList)) ∧ Below w.heap.size w w' := by
  go_enter Tryz.func330, Tryz.ntmps330
  go_wp2_with (go_at_call 372; refine (cut_one _ _ hs).mono ?_)
  rintro e w' ⟨hb, h⟩
  rcases h with ⟨hc, b, a, rfl, h1, h2⟩ | ⟨hc, rfl⟩
  · have hbs : b.size ≤ maxLen := by
      rw [← toList_length, h1]; exact Nat.le_trans (tw_le _ _) (by rw [toList_length]; exact hs)
    have has : a.size ≤ maxLen := by
      rw [← toList_length, h2, List.length_drop]; have := dw_le s.toList (· != 46); rw [toList_length] at this; omega
    have HC : Hid (colS s.toList = (wordS b.toList && wordS a.toList)) := by
      rw [Hid, colS, hc, h1, h2]; rfl
    clear hc h1 h2
    by_cases hw : wordS b.toList = true
    · go_wp2_with (go_at_call 138; refine (isWord_any _ _ (by assumption)).mono ?_; rintro e w2 ⟨rfl, rfl⟩)
      go_ret
      exact ⟨ret_bool (by rw [HC.out, hw]; rfl), hb⟩
    · rw [Bool.not_eq_true] at hw
      go_wp2_with (go_at_call 138; refine (isWord_any _ _ (by assumption)).mono ?_; rintro e w2 ⟨rfl, rfl⟩)
      go_ret
      exact ⟨ret_bool (by rw [HC.out, hw]; rfl), hb⟩
  · have HC : Hid (colS s.toList = false) := by rw [Hid, colS, hc]; rfl
    clear hc
    go_wp2_with fail
    go_ret
    exact ⟨ret_bool HC.out.symm, hb⟩

set_option maxHeartbeats 800000 in
set_option maxRecDepth 100000 in
theorem kindOf_any (s : ByteArray) (w : World) (hs : s.size ≤ maxLen) :
    Calls Tryz.prog 253 #[.string s] w fun e w' => e = .returned (.int .i64 (kindS s.toList)) ∧ Below w.heap.size w w' := by
  go_enter Tryz.func253, Tryz.ntmps253
  go_wp2_with (first
    | (go_at_call 326; refine (isOperator_any _ _).mono ?_; rintro e w' ⟨rfl, rfl⟩)
    | (go_at_call 327; refine (isNumeral_any _ _ hs).mono ?_; rintro e w' ⟨rfl, rfl⟩)
    | (go_at_call 328; refine (isQuote_any _ _ hs).mono ?_; rintro e w' ⟨rfl, rfl⟩)
    | (go_at_call 329; refine (isParameter_any _ _).mono ?_; rintro e w' ⟨rfl, rfl⟩)
    | (go_at_call 138; refine (isWord_any _ _ hs).mono ?_; rintro e w' ⟨rfl, rfl⟩)
    | (go_at_call 330; refine (isColumn_any _ _ hs).mono ?_; rintro e w' ⟨rfl, hb⟩))
  all_goals go_ret
  all_goals refine ⟨ret_int ?_, ?_⟩
  all_goals first | exact Below.refl _ _ | assumption | (simp [kindS, *]; done)
end Go.Proofs.YtilfjpmeededmaaGreatDoor

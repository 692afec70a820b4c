/- What isNumeral, isColumn, kindOf, quoteLength and pieceLength answer. -/
/- What isColumn and kindOf answer; strings.Cut at a separator of one byte. -/
/- How long the piece is that stands at a text's head: quoteLength, pieceLength. -/
import Derived.Test.YtilfjpmeededmaaGreatDoorTokZ
import Derived.Test.YtilfjpmeededmaaGreatDoorShelf
namespace Go.Proofs.YtilfjpmeededmaaGreatDoor
open Go.RowKit

theorem data_toList (s : ByteArray) : s.data.toList = s.toList := (ByteArray.toList_eq s).symm
theorem trim_minus (s : ByteArray) : Lib.trimPrefix s.data.toList [45] = unminus s.toList := by
  rw [data_toList]
  generalize s.toList = l
  cases l with
  | nil => rfl
  | cons c r =>
    by_cases h : c = 45
    · subst h; rfl
    · have e1 : unminus (c :: r) = c :: r := by unfold unminus; rw [if_neg]; simpa using h
      have e2 : Lib.trimPrefix (c :: r) [45] = c :: r := by
        unfold Lib.trimPrefix Lib.hasPrefix; rw [if_neg]; simpa [List.isPrefixOf] using (fun e => h (Eq.symm e))
      rw [e1, e2]
theorem unminus_len (l : Bs) : (unminus l).length ≤ l.length := by unfold unminus; split <;> simp
theorem mk_toList (l : Bs) : (ByteArray.mk l.toArray).toList = l := ByteArray.toList_mk l
theorem mk_size (l : Bs) : (ByteArray.mk l.toArray).size = l.length := by rw [← toList_length, mk_toList]

theorem numLoop_drop (s : ByteArray) (k : Nat) (n : Int) (h : k < s.size) : numLoop (s.toList.drop k) n =
    (digitB s[k].toNat && decide (n * 10 + (s[k].toNat - 48) ≤ 1000000000) && numLoop (s.toList.drop (k + 1)) (n * 10 + (s[k].toNat - 48))) := by
  rw [drop_cons s k h, numLoop]
theorem numLoop_end (s : ByteArray) (k : Nat) (n : Int) (h : s.size ≤ k) : numLoop (s.toList.drop k) n = true := by
  rw [List.drop_of_length_le (by rw [toList_length]; exact h), numLoop]
theorem digitB_bd {c : Int} (h : digitB c = true) : 48 ≤ c ∧ c ≤ 57 := by
  unfold digitB at h; simpa using h

set_option maxHeartbeats 800000 in
set_option maxRecDepth 100000 in
theorem isNumeral_any (s : ByteArray) (w : World) (hs : s.size ≤ maxLen) :
    Calls Tryz.prog 327 #[.string s] w fun e w' => e = .returned (.bool (numS s.toList)) ∧ w' = w := by
  unfold maxLen at hs
  by_cases h0 : (s.toList == [48]) = true
  · have HN : Hid (numS s.toList = true) := by rw [Hid, numS, h0]; rfl
    go_enter Tryz.func327, Tryz.ntmps327
    go_wp2_with fail
    go_ret
    exact ⟨ret_bool HN.out.symm, rfl⟩
  · rw [Bool.not_eq_true] at h0
    obtain ⟨d, hd⟩ : ∃ d : ByteArray, d = ⟨(Lib.trimPrefix s.data.toList [45]).toArray⟩ := ⟨_, rfl⟩
    have HL : Hid (unminus s.toList = d.toList) := by rw [Hid, hd, trim_minus]; exact (mk_toList _).symm
    have hds : d.size ≤ s.size := by rw [← toList_length, ← HL.out, ← toList_length s]; exact unminus_len _
    have HT : ∀ w : World, Calls Tryz.prog 371 #[.string s, .string ⟨#[45]⟩] w fun e w' => e = .returned (.string d) ∧ w' = w := by
      intro w; rw [hd]; exact Tryz.strings_TrimPrefix s ⟨#[45]⟩ w
    clear hd
    have HN : Hid (numS s.toList = (decide (0 < d.toList.length) && !(d.toList.headD 0 == 48) && numLoop d.toList 0)) := by
      rw [Hid, numS, h0, HL.out]; rfl
    by_cases hd0 : d.size = 0
    · have hE := isEmpty_t d hd0
      go_enter Tryz.func327, Tryz.ntmps327
      go_wp2_with (go_at_call 371; refine (HT _).mono ?_; rintro e w' ⟨rfl, rfl⟩)
      go_ret
      exact ⟨ret_bool (by rw [HN.out, toList_length]; simp [hd0]), rfl⟩
    · have hpos : 0 < d.size := by omega
      have hE := isEmpty_f d hpos
      have HH : Hid ((d.toList.headD 0 == 48) = decide ((d[0].toNat : Int) = 48)) := by
        rw [Hid, head_get d hpos]; exact u8_eq _ 48 (by omega)
      by_cases h48 : (d[0].toNat : Int) = 48
      · go_enter Tryz.func327, Tryz.ntmps327
        go_wp2_with (go_at_call 371; refine (HT _).mono ?_; rintro e w' ⟨rfl, rfl⟩)
        go_ret
        exact ⟨ret_bool (by rw [HN.out, HH.out]; simp [h48]), rfl⟩
      · have H48 : Hid (numS s.toList = numLoop d.toList 0) := by
          rw [Hid, HN.out, HH.out, toList_length]; simp [h48, hpos]
        clear HN HH
        have h48b : ((d[0].toNat : Int) == 48) = false := by simpa using h48
        clear h48
        go_enter Tryz.func327, Tryz.ntmps327
        go_wp2_with (go_at_call 371; refine (HT _).mono ?_; rintro e w' ⟨rfl, rfl⟩)
        go_loop [4, 19] (fun t i => ∃ (k : Nat) (n : Int), k ≤ d.size ∧ i = .int .i64 k ∧ t = .int .i64 n ∧ 0 ≤ n ∧ n ≤ 1000000000 ∧ Hid (numLoop d.toList 0 = numLoop (d.toList.drop k) n)) (fun _ i => d.size - (intOf i).toNat)
        case atStart => exact ⟨0, 0, Nat.zero_le _, rfl, rfl, by omega, by omega, rfl⟩
        case round =>
          obtain ⟨k, n, hk, rfl, rfl, hn0, hn1, HA⟩ := hrel
          by_cases hlt : k < d.size
          · have HS := numLoop_drop d k n hlt
            replace HS : Hid _ := HS
            by_cases hdg : digitB d[k].toNat = true
            · have hbd := digitB_bd hdg
              by_cases hbig : n * 10 + (d[k].toNat - 48) ≤ 1000000000
              · go_wp2_with (first | (go_at_call 211; refine (isDigit_any _ _).mono ?_; rintro e w' ⟨rfl, rfl⟩))
                go_round
                case rel => exact ⟨k + 1, n * 10 + (d[k].toNat - 48), by omega, by go_num, by go_num, by omega, by omega, by rw [Hid, HA.out, HS.out, hdg, decide_eq_true hbig]; rfl⟩
                case measure => simp [intOf]; omega
              · have HB : Hid (decide (n * 10 + (d[k].toNat - 48) ≤ 1000000000) = false) := decide_eq_false hbig
                go_wp2_with (first | (go_at_call 211; refine (isDigit_any _ _).mono ?_; rintro e w' ⟨rfl, rfl⟩))
                go_ret
                exact ⟨ret_bool (by rw [H48.out, HA.out, HS.out, HB.out]; simp), rfl⟩
            · rw [Bool.not_eq_true] at hdg
              go_wp2_with (first | (go_at_call 211; refine (isDigit_any _ _).mono ?_; rintro e w' ⟨rfl, rfl⟩))
              go_ret
              exact ⟨ret_bool (by rw [H48.out, HA.out, HS.out, hdg]; rfl), rfl⟩
          · have HE : Hid (numLoop (d.toList.drop k) n = true) := numLoop_end d k n (by omega)
            go_wp2_with fail
            go_ret
            exact ⟨ret_bool (by rw [H48.out, HA.out, HE.out]), rfl⟩
end Go.Proofs.YtilfjpmeededmaaGreatDoor

namespace Go.Proofs.YtilfjpmeededmaaGreatDoor
open Go.RowKit

theorem ib_none (l : Bs) (c : UInt8) (h : l.contains c = false) : Lib.indexByte l c = -1 := by
  induction l with
  | nil => rfl
  | cons b r ih =>
    simp only [List.contains_cons, Bool.or_eq_false_iff] at h
    have hb : (b == c) = false := by
      have := h.1; rw [beq_eq_false_iff_ne] at this ⊢; exact fun e => this e.symm
    rw [Lib.indexByte, hb, ih h.2]; rfl
theorem ib_some (l : Bs) (c : UInt8) (h : l.contains c = true) : Lib.indexByte l c = (l.takeWhile (· != c)).length ∧
    (l.takeWhile (· != c)).length < l.length ∧ l.take (l.takeWhile (· != c)).length = l.takeWhile (· != c) ∧ l.drop (l.takeWhile (· != c)).length = l.dropWhile (· != c) := by
  induction l with
  | nil => simp at h
  | cons b r ih =>
    by_cases hb : b = c
    · subst hb
      have e : List.takeWhile (fun x => x != b) (b :: r) = [] := by rw [List.takeWhile_cons]; simp
      have e2 : List.dropWhile (fun x => x != b) (b :: r) = b :: r := by rw [List.dropWhile_cons]; simp
      rw [e, e2, Lib.indexByte]; simp
    · have hb1 : (b == c) = false := by simpa using hb
      have hb2 : (b != c) = true := by simpa using hb
      have hr : r.contains c = true := by
        simp only [List.contains_cons, Bool.or_eq_true] at h
        rcases h with h | h
        · exact absurd (by simpa using h : c = b).symm hb
        · exact h
      obtain ⟨i1, i2, i3, i4⟩ := ih hr
      rw [List.takeWhile_cons, List.dropWhile_cons, if_pos hb2, if_pos hb2, Lib.indexByte, hb1, i1]
      refine ⟨?_, by simp; omega, by simp [i3], by simp [i4]⟩
      rw [if_neg (by simp), if_neg (by simp)]; simp

theorem ext_take (s : ByteArray) (n : Nat) : (s.extract 0 n).toList = s.toList.take n := by
  rw [ByteArray.toList_eq, ByteArray.toList_eq, ByteArray.data_extract]; simp
theorem ext_drop (s : ByteArray) (n : Nat) : (s.extract n s.size).toList = s.toList.drop n := by
  rw [← data_toList, Lib.extract_to_end, data_toList]

set_option maxHeartbeats 800000 in
set_option maxRecDepth 100000 in
theorem sliteCut_one (s : ByteArray) (w : World) (hs : s.size ≤ maxLen) :
    Calls Tryz.prog 389 #[.string s, .string ⟨#[46]⟩] w fun e w' => Below w.heap.size w w' ∧
      ((s.toList.contains 46 = true ∧ ∃ b a : ByteArray, e = .returned (.tuple #[.string b, .string a, .bool true]) ∧ b.toList = s.toList.takeWhile (· != 46) ∧ a.toList = (s.toList.dropWhile (· != 46)).drop 1) ∨
       (s.toList.contains 46 = false ∧ e = .returned (.tuple #[.string s, .string ⟨#[]⟩, .bool false]))) := by
  unfold maxLen at hs
  by_cases hc : s.toList.contains 46 = true
  · obtain ⟨i1, i2, i3, i4⟩ := ib_some s.toList 46 hc
    obtain ⟨n, hn⟩ : ∃ n, n = (s.toList.takeWhile (· != 46)).length := ⟨_, rfl⟩
    rw [← hn] at i1 i2 i3 i4
    rw [toList_length] at i2
    have HI : ∀ w : World, Calls Tryz.prog 401 #[.string s, .string ⟨#[46]⟩] w fun e w' => e = .returned (.int .i64 n) ∧ w' = w := by
      intro w; rw [← i1, ← data_toList]; exact Tryz.stringslite_Index_one s 46 w
    have H3 : Hid (s.toList.take n = s.toList.takeWhile (· != 46)) := i3
    have H4 : Hid (s.toList.drop n = s.toList.dropWhile (· != 46)) := i4
    have HC : Hid (s.toList.contains 46 = true) := hc
    clear i1 i3 i4 hn hc
    go_enter Tryz.func389, Tryz.ntmps389
    go_wp2_with (go_at_call 401; refine (HI _).mono ?_; rintro e w' ⟨rfl, rfl⟩)
    go_region
    all_goals (try go_wp2)
    all_goals go_ret3
    exact ⟨Below.drew (Below.refl _ _), .inl ⟨HC.out, s.extract 0 n, s.extract (n + 1) s.size, rfl, by rw [ext_take, H3.out], by rw [ext_drop, ← H4.out, List.drop_drop]⟩⟩
  · rw [Bool.not_eq_true] at hc
    have HI : ∀ w : World, Calls Tryz.prog 401 #[.string s, .string ⟨#[46]⟩] w fun e w' => e = .returned (.int .i64 (-1)) ∧ w' = w := by
      intro w; rw [← ib_none _ _ hc, ← data_toList]; exact Tryz.stringslite_Index_one s 46 w
    go_enter Tryz.func389, Tryz.ntmps389
    go_wp2_with (go_at_call 401; refine (HI _).mono ?_; rintro e w' ⟨rfl, rfl⟩)
    go_ret3
    exact ⟨Below.refl _ _, .inr ⟨hc, rfl⟩⟩

set_option maxHeartbeats 800000 in
set_option maxRecDepth 100000 in
theorem cut_one (s : ByteArray) (w : World) (hs : s.size ≤ maxLen) :
    Calls Tryz.prog 372 #[.string s, .string ⟨#[46]⟩] w fun e w' => Below w.heap.size w w' ∧
      ((s.toList.contains 46 = true ∧ ∃ b a : ByteArray, e = .returned (.tuple #[.string b, .string a, .bool true]) ∧ b.toList = s.toList.takeWhile (· != 46) ∧ a.toList = (s.toList.dropWhile (· != 46)).drop 1) ∨
       (s.toList.contains 46 = false ∧ e = .returned (.tuple #[.string s, .string ⟨#[]⟩, .bool false]))) := by
  go_enter Tryz.func372, Tryz.ntmps372
  go_wp2_with (go_at_call 389; refine (sliteCut_one _ _ hs).mono ?_)
  rintro e w' ⟨hb, h⟩
  rcases h with ⟨hc, b, a, rfl, h1, h2⟩ | ⟨hc, rfl⟩
  · have HC : Hid (s.toList.contains 46 = true) := hc
    have H1 : Hid _ := h1
    have H2 : Hid _ := h2
    clear hc h1 h2
    go_wp2
    go_ret3
    exact ⟨hb, .inl ⟨HC.out, b, a, rfl, H1.out, H2.out⟩⟩
  · have HC : Hid (s.toList.contains 46 = false) := hc
    clear hc
    go_wp2
    go_ret3
    exact ⟨hb, .inr ⟨HC.out, rfl⟩⟩

theorem tw_le (l : Bs) (p : UInt8 → Bool) : (l.takeWhile p).length ≤ l.length := by
  induction l with
  | nil => simp
  | cons c r ih => rw [List.takeWhile_cons]; split <;> simp; omega
theorem dw_le (l : Bs) (p : UInt8 → Bool) : (l.dropWhile p).length ≤ l.length := by
  induction l with
  | nil => simp
  | cons c r ih => rw [List.dropWhile_cons]; split <;> simp; omega

set_option maxHeartbeats 800000 in
set_option maxRecDepth 100000 in
theorem isColumn_any (s : ByteArray) (w : World) (hs : s.size ≤ maxLen) :
    Calls Tryz.prog 330 #[.string s] w fun e w' => e = .returned (.bool (colS s.toList)) ∧ Below w.heap.size w w' := by
  go_enter Tryz.func330, Tryz.ntmps330
  go_wp2_with (go_at_call 372; refine (cut_one _ _ hs).mono ?_)
  rintro e w' ⟨hb, h⟩
  rcases h with ⟨hc, b, a, rfl, h1, h2⟩ | ⟨hc, rfl⟩
  · have hbs : b.size ≤ maxLen := by
      rw [← toList_length, h1]; exact Nat.le_trans (tw_le _ _) (by rw [toList_length]; exact hs)
    have has : a.size ≤ maxLen := by
      rw [← toList_length, h2, List.length_drop]; have := dw_le s.toList (· != 46); rw [toList_length] at this; omega
    have HC : Hid (colS s.toList = (wordS b.toList && wordS a.toList)) := by
      rw [Hid, colS, hc, h1, h2]; rfl
    clear hc h1 h2
    by_cases hw : wordS b.toList = true
    · go_wp2_with (go_at_call 138; refine (isWord_any _ _ (by assumption)).mono ?_; rintro e w2 ⟨rfl, rfl⟩)
      go_ret
      exact ⟨ret_bool (by rw [HC.out, hw]; rfl), hb⟩
    · rw [Bool.not_eq_true] at hw
      go_wp2_with (go_at_call 138; refine (isWord_any _ _ (by assumption)).mono ?_; rintro e w2 ⟨rfl, rfl⟩)
      go_ret
      exact ⟨ret_bool (by rw [HC.out, hw]; rfl), hb⟩
  · have HC : Hid (colS s.toList = false) := by rw [Hid, colS, hc]; rfl
    clear hc
    go_wp2_with fail
    go_ret
    exact ⟨ret_bool HC.out.symm, hb⟩

set_option maxHeartbeats 800000 in
set_option maxRecDepth 100000 in
theorem kindOf_any (s : ByteArray) (w : World) (hs : s.size ≤ maxLen) :
    Calls Tryz.prog 253 #[.string s] w fun e w' => e = .returned (.int .i64 (kindS s.toList)) ∧ Below w.heap.size w w' := by
  go_enter Tryz.func253, Tryz.ntmps253
  go_wp2_with (first
    | (go_at_call 326; refine (isOperator_any _ _).mono ?_; rintro e w' ⟨rfl, rfl⟩)
    | (go_at_call 327; refine (isNumeral_any _ _ hs).mono ?_; rintro e w' ⟨rfl, rfl⟩)
    | (go_at_call 328; refine (isQuote_any _ _ hs).mono ?_; rintro e w' ⟨rfl, rfl⟩)
    | (go_at_call 329; refine (isParameter_any _ _).mono ?_; rintro e w' ⟨rfl, rfl⟩)
    | (go_at_call 138; refine (isWord_any _ _ hs).mono ?_; rintro e w' ⟨rfl, rfl⟩)
    | (go_at_call 330; refine (isColumn_any _ _ hs).mono ?_; rintro e w' ⟨rfl, hb⟩))
  all_goals go_ret
  all_goals refine ⟨ret_int ?_, ?_⟩
  all_goals first | exact Below.refl _ _ | assumption | (simp [kindS, *]; done)
end Go.Proofs.YtilfjpmeededmaaGreatDoor

namespace Go.Proofs.YtilfjpmeededmaaGreatDoor
open Go.RowKit

def qlen (l : Bs) : Nat := if l.headD 0 == 39 then (if (l.drop 1).contains 39 then ((l.drop 1).takeWhile (· != 39)).length + 2 else 0) else 0
def notSep (c : UInt8) : Bool := !blankB c.toNat && !bracketB c.toNat
def plen (l : Bs) : Nat := if bracketB (l.headD 0).toNat then 1 else qlen l + ((l.drop (qlen l)).takeWhile notSep).length

theorem qlen_le (l : Bs) : qlen l ≤ l.length := by
  unfold qlen
  split
  · split
    · next h => have := (ib_some (l.drop 1) 39 h).2.1; simp at this ⊢; omega
    · omega
  · omega

set_option maxHeartbeats 800000 in
set_option maxRecDepth 100000 in
theorem quoteLength_any (s : ByteArray) (w : World) (hs : s.size ≤ maxLen) (hpos : 0 < s.size) :
    Calls Tryz.prog 325 #[.string s] w fun e w' => e = .returned (.int .i64 (qlen s.toList)) ∧ w' = w := by
  unfold maxLen at hs
  have HH : Hid ((s.toList.headD 0 == 39) = decide ((s[0].toNat : Int) = 39)) := by
    rw [Hid, head_get s hpos]; exact u8_eq _ 39 (by omega)
  by_cases h : (s[0].toNat : Int) = 39
  · have hd : (s.extract 1 s.size).data.toList = s.toList.drop 1 := by rw [data_toList, ext_drop]
    by_cases hc : (s.toList.drop 1).contains 39 = true
    · obtain ⟨i1, i2, _, _⟩ := ib_some _ 39 hc
      obtain ⟨n, hn⟩ : ∃ n, n = ((s.toList.drop 1).takeWhile (· != 39)).length := ⟨_, rfl⟩
      rw [← hn] at i1 i2
      rw [List.length_drop, toList_length] at i2
      have HQ : Hid (qlen s.toList = n + 2) := by rw [Hid, qlen, HH.out, decide_eq_true h, if_pos rfl, if_pos hc, hn]
      have HI : ∀ w : World, Calls Tryz.prog 370 #[.string (s.extract 1 s.size), .int .u8 39] w fun e w' => e = .returned (.int .i64 n) ∧ w' = w := by
        intro w; rw [← i1, ← hd]; exact Tryz.strings_IndexByte (s.extract 1 s.size) 39 w
      clear HH hc hd i1 hn
      go_enter Tryz.func325, Tryz.ntmps325
      go_wp2_with (go_at_call 370; refine (HI _).mono ?_; rintro e w2 ⟨rfl, rfl⟩)
      go_ret
      exact ⟨ret_int (by rw [HQ.out]; go_num), rfl⟩
    · rw [Bool.not_eq_true] at hc
      have HQ : Hid (qlen s.toList = 0) := by rw [Hid, qlen, HH.out, decide_eq_true h, if_pos rfl, if_neg (by rw [hc]; simp)]
      have HI : ∀ w : World, Calls Tryz.prog 370 #[.string (s.extract 1 s.size), .int .u8 39] w fun e w' => e = .returned (.int .i64 (-1)) ∧ w' = w := by
        intro w; rw [← ib_none _ _ hc, ← hd]; exact Tryz.strings_IndexByte (s.extract 1 s.size) 39 w
      clear HH hc hd
      go_enter Tryz.func325, Tryz.ntmps325
      go_wp2_with (go_at_call 370; refine (HI _).mono ?_; rintro e w2 ⟨rfl, rfl⟩)
      go_ret
      exact ⟨ret_int (by rw [HQ.out]; rfl), rfl⟩
  · have HQ : Hid (qlen s.toList = 0) := by rw [Hid, qlen, HH.out, decide_eq_false h]; rfl
    clear HH
    go_enter Tryz.func325, Tryz.ntmps325
    go_wp2_with fail
    go_ret
    exact ⟨ret_int (by rw [HQ.out]; rfl), rfl⟩

theorem tw_drop (s : ByteArray) (k : Nat) (h : k < s.size) : (s.toList.drop k).takeWhile notSep = if notSep s[k] then s[k] :: (s.toList.drop (k + 1)).takeWhile notSep else [] := by
  rw [drop_cons s k h, List.takeWhile_cons]
theorem tw_end (s : ByteArray) (k : Nat) (h : s.size ≤ k) : (s.toList.drop k).takeWhile notSep = [] := by
  rw [List.drop_of_length_le (by rw [toList_length]; exact h)]; rfl

set_option maxHeartbeats 800000 in
set_option maxRecDepth 100000 in
theorem pieceLength_any (s : ByteArray) (w : World) (hs : s.size ≤ maxLen) (hpos : 0 < s.size) :
    Calls Tryz.prog 252 #[.string s] w fun e w' => e = .returned (.int .i64 (plen s.toList)) ∧ w' = w := by
  have hq := qlen_le s.toList
  rw [toList_length] at hq
  obtain ⟨q, hqe⟩ : ∃ q, q = qlen s.toList := ⟨_, rfl⟩
  rw [← hqe] at hq
  have HQL : ∀ w : World, Calls Tryz.prog 325 #[.string s] w fun e w' => e = .returned (.int .i64 q) ∧ w' = w := by
    intro w; rw [hqe]; exact quoteLength_any s w hs hpos
  by_cases h : bracketB s[0].toNat = true
  · have HP : Hid (plen s.toList = 1) := by rw [Hid, plen, head_get s hpos, if_pos h]
    unfold maxLen at hs
    clear hqe
    go_enter Tryz.func252, Tryz.ntmps252
    go_wp2_with (go_at_call 324; refine (isBracket_any _ _).mono ?_; rintro e w2 ⟨rfl, rfl⟩)
    go_ret
    exact ⟨ret_int (by rw [HP.out]; rfl), rfl⟩
  · rw [Bool.not_eq_true] at h
    have HP : Hid (plen s.toList = q + ((s.toList.drop q).takeWhile notSep).length) := by
      rw [Hid, plen, head_get s hpos, if_neg (by rw [h]; simp), hqe]
    unfold maxLen at hs
    clear hqe
    go_enter Tryz.func252, Tryz.ntmps252
    go_wp2_with (first | (go_at_call 324; refine (isBracket_any _ _).mono ?_; rintro e w2 ⟨rfl, rfl⟩) | (go_at_call 325; refine (HQL _).mono ?_; rintro e w2 ⟨rfl, rfl⟩))
    go_loop [3] (fun i => ∃ k : Nat, k ≤ s.size ∧ i = .int .i64 k ∧ Hid (plen s.toList = k + ((s.toList.drop k).takeWhile notSep).length)) (fun i => s.size - (intOf i).toNat)
    case atStart => exact ⟨q, hq, rfl, HP⟩
    case round =>
      obtain ⟨k, hk, rfl, HA⟩ := hrel
      by_cases hlt : k < s.size
      · have HS := tw_drop s k hlt
        replace HS : Hid _ := HS
        have HN : Hid (notSep s[k] = (!blankB s[k].toNat && !bracketB s[k].toNat)) := rfl
        by_cases hb : blankB s[k].toNat = true
        · have HF : Hid (plen s.toList = k) := by rw [Hid, HA.out, HS.out, HN.out, hb]; rfl
          go_wp2_with (first | (go_at_call 251; refine (isBlank_any _ _).mono ?_; rintro e w2 ⟨rfl, rfl⟩) | (go_at_call 324; refine (isBracket_any _ _).mono ?_; rintro e w2 ⟨rfl, rfl⟩))
          go_ret
          exact ⟨ret_int (by rw [HF.out]), rfl⟩
        · rw [Bool.not_eq_true] at hb
          by_cases hc : bracketB s[k].toNat = true
          · have HF : Hid (plen s.toList = k) := by rw [Hid, HA.out, HS.out, HN.out, hb, hc]; rfl
            go_wp2_with (first | (go_at_call 251; refine (isBlank_any _ _).mono ?_; rintro e w2 ⟨rfl, rfl⟩) | (go_at_call 324; refine (isBracket_any _ _).mono ?_; rintro e w2 ⟨rfl, rfl⟩))
            go_ret
            exact ⟨ret_int (by rw [HF.out]), rfl⟩
          · rw [Bool.not_eq_true] at hc
            have HF : Hid (plen s.toList = (k + 1) + ((s.toList.drop (k + 1)).takeWhile notSep).length) := by
              rw [Hid, HA.out, HS.out, HN.out, hb, hc]; simp; omega
            go_wp2_with (first | (go_at_call 251; refine (isBlank_any _ _).mono ?_; rintro e w2 ⟨rfl, rfl⟩) | (go_at_call 324; refine (isBracket_any _ _).mono ?_; rintro e w2 ⟨rfl, rfl⟩))
            go_round
            case rel => exact ⟨k + 1, by omega, by go_num, HF⟩
            case measure => simp [intOf]; omega
      · have HE : Hid ((s.toList.drop k).takeWhile notSep = []) := tw_end s k (by omega)
        go_wp2_with fail
        go_ret
        exact ⟨ret_int (by rw [HA.out, HE.out]; simp), rfl⟩
end Go.Proofs.YtilfjpmeededmaaGreatDoor

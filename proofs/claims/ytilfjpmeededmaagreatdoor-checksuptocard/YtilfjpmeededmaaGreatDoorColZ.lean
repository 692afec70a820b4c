import Derived.Shelf.Small.Strs
import Derived.Shelf.Strings.BuilderK
import Derived.Shelf.Strings.Search2
import Derived.Shelf.Strings.Prefix
import Derived.Test.YtilfjpmeededmaaGreatDoorProg
import Derived.Test.YtilfjpmeededmaaGreatDoorTokZ
set_option linter.unusedVariables false
set_option linter.unusedSimpArgs false
namespace Go.Proofs
open Go.Shelf
def Tryz.lays137_ren : Go.Shelf.Ren := ⟨fun | 137 => 370 | 217 => 387 | 266 => 399 | n => n, fun | 9 => 9 | 5 => 5 | 3 => 3 | n => n, fun | n => n⟩
theorem Tryz.lays137 : Go.Proofs.Lays.n137 Tryz.prog Tryz.lays137_ren := {
  mixed := by kernel_rfl
  f137 := Tryz.func370.trans (congrArg some (by kernel_rfl))
  f217 := Tryz.func387.trans (congrArg some (by kernel_rfl))
  f266 := Tryz.func399.trans (congrArg some (by kernel_rfl))
  t3 := Tryz.underlying3
  a3 := Tryz.isAgg3
  z3 := Tryz.sizeOf3
  v3 := Tryz.zeroValue3
  t5 := Tryz.underlying5
  a5 := Tryz.isAgg5
  z5 := Tryz.sizeOf5
  v5 := Tryz.zeroValue5
  t9 := Tryz.underlying9
  a9 := Tryz.isAgg9
  z9 := Tryz.sizeOf9
  v9 := Tryz.zeroValue9 }
open Go.RowKit in
theorem Tryz.strings_IndexByte (s : ByteArray) (c : Int) (w : World) :
    Calls Tryz.prog 370 #[.string s, .int .u8 c] w fun e w' => e = .returned (.int .i64 (Lib.indexByte s.data.toList c.toNat.toUInt8)) ∧ w' = w := Any.strings_IndexByte Tryz.lays137 s c w
def Tryz.lays101_ren : Go.Shelf.Ren := ⟨fun | 101 => 371 | 208 => 388 | 206 => 400 | n => n, fun | 9 => 9 | 4 => 4 | 3 => 3 | n => n, fun | n => n⟩
theorem Tryz.lays101 : Go.Proofs.Lays.n101 Tryz.prog Tryz.lays101_ren := {
  mixed := by kernel_rfl
  f101 := Tryz.func371.trans (congrArg some (by kernel_rfl))
  f206 := Tryz.func400.trans (congrArg some (by kernel_rfl))
  f208 := Tryz.func388.trans (congrArg some (by kernel_rfl))
  t3 := Tryz.underlying3
  a3 := Tryz.isAgg3
  z3 := Tryz.sizeOf3
  v3 := Tryz.zeroValue3
  t4 := Tryz.underlying4
  a4 := Tryz.isAgg4
  z4 := Tryz.sizeOf4
  v4 := Tryz.zeroValue4
  t9 := Tryz.underlying9
  a9 := Tryz.isAgg9
  z9 := Tryz.sizeOf9
  v9 := Tryz.zeroValue9 }
open Go.RowKit Go.Lib in
theorem Tryz.strings_TrimPrefix (s p : ByteArray) (w : World) :
    Calls Tryz.prog 371 #[.string s, .string p] w fun e w' => e = .returned (.string ⟨(Lib.trimPrefix s.data.toList p.data.toList).toArray⟩) ∧ w' = w := Any.strings_TrimPrefix Tryz.lays101 s p w
def Tryz.lays219_ren : Go.Shelf.Ren := ⟨fun | 219 => 401 | 217 => 387 | 225 => 410 | 224 => 411 | 267 => 412 | 266 => 399 | 314 => 420 | n => n, fun | 9 => 9 | 3 => 3 | 4 => 4 | 5 => 5 | 46 => 211 | 146 => 582 | 51 => 327 | n => n, fun | 1 => 0 | n => n⟩
theorem Tryz.lays219 : Go.Proofs.Lays.n219 Tryz.prog Tryz.lays219_ren := {
  mixed := by kernel_rfl
  f217 := Tryz.func387.trans (congrArg some (by kernel_rfl))
  f219 := Tryz.func401.trans (congrArg some (by kernel_rfl))
  f224 := Tryz.func411.trans (congrArg some (by kernel_rfl))
  f225 := Tryz.func410.trans (congrArg some (by kernel_rfl))
  f266 := Tryz.func399.trans (congrArg some (by kernel_rfl))
  f267 := Tryz.func412.trans (congrArg some (by kernel_rfl))
  f314 := Tryz.func420.trans (congrArg some (by kernel_rfl))
  t3 := Tryz.underlying3
  a3 := Tryz.isAgg3
  z3 := Tryz.sizeOf3
  v3 := Tryz.zeroValue3
  t4 := Tryz.underlying4
  a4 := Tryz.isAgg4
  z4 := Tryz.sizeOf4
  v4 := Tryz.zeroValue4
  t5 := Tryz.underlying5
  a5 := Tryz.isAgg5
  z5 := Tryz.sizeOf5
  v5 := Tryz.zeroValue5
  t9 := Tryz.underlying9
  a9 := Tryz.isAgg9
  z9 := Tryz.sizeOf9
  v9 := Tryz.zeroValue9
  t46 := Tryz.underlying211
  a46 := Tryz.isAgg211
  z46 := Tryz.sizeOf211
  v46 := Tryz.zeroValue211
  t51 := Tryz.underlying327
  a51 := Tryz.isAgg327
  z51 := Tryz.sizeOf327
  v51 := Tryz.zeroValue327
  t146 := Tryz.underlying582
  a146 := Tryz.isAgg582
  z146 := Tryz.sizeOf582
  v146 := Tryz.zeroValue582
  g1 := by kernel_rfl }
open Go.RowKit Go.Lib in
theorem Tryz.stringslite_Index_one (s : ByteArray) (c : UInt8) (w : World) :
    Calls Tryz.prog 401 #[.string s, .string ⟨#[c]⟩] w fun e w' => e = .returned (.int .i64 (Lib.indexByte s.data.toList c)) ∧ w' = w := Any.stringslite_Index_one Tryz.lays219 s c w
def Tryz.lays169_ren : Go.Shelf.Ren := ⟨fun | 169 => 180 | n => n, fun | 70 => 350 | 9 => 9 | 0 => 0 | 72 => 353 | 37 => 351 | 127 => 422 | 3 => 3 | 5 => 5 | n => n, fun | n => n⟩
theorem Tryz.lays169 : Go.Proofs.Lays.n169 Tryz.prog Tryz.lays169_ren := {
  mixed := by kernel_rfl
  f169 := Tryz.func180.trans (congrArg some (by kernel_rfl))
  t0 := Tryz.underlying0
  a0 := Tryz.isAgg0
  z0 := Tryz.sizeOf0
  v0 := Tryz.zeroValue0
  t3 := Tryz.underlying3
  a3 := Tryz.isAgg3
  z3 := Tryz.sizeOf3
  v3 := Tryz.zeroValue3
  t9 := Tryz.underlying9
  a9 := Tryz.isAgg9
  z9 := Tryz.sizeOf9
  v9 := Tryz.zeroValue9
  t37 := Tryz.underlying351
  a37 := Tryz.isAgg351
  z37 := Tryz.sizeOf351
  v37 := Tryz.zeroValue351
  t70 := Tryz.underlying350
  a70 := Tryz.isAgg350
  z70 := Tryz.sizeOf350
  v70 := Tryz.zeroValue350
  t72 := Tryz.underlying353
  a72 := Tryz.isAgg353
  z72 := Tryz.sizeOf353
  v72 := Tryz.zeroValue353
  t127 := Tryz.underlying422
  a127 := Tryz.isAgg422
  z127 := Tryz.sizeOf422
  v127 := Tryz.zeroValue422 }
theorem Tryz.Builder_Extra_169 : Builder.Extra Tryz.prog Tryz.lays169_ren := {
  sizeBuilder := by kernel_rfl
  liesBuilder := by kernel_rfl
  t5 := Tryz.underlying5
  a5 := Tryz.isAgg5
  z5 := Tryz.sizeOf5
  v5 := Tryz.zeroValue5
  infoByte := by kernel_rfl
  cellsByte := by kernel_rfl
  sizeByte := by kernel_rfl
  neB5 := by decide }
open Go.RowKit in
theorem Tryz.Builder_String_any_k (B b : Nat) (l : List UInt8) (w : World) (h : Lib.IsBuilderF 353 5 B b (Lib.byteCells l) w) (hBw : B ≤ w.heap.size) :
    Calls Tryz.prog 180 #[.pointer (some ⟨b, 0, none⟩)] w fun e w' => e = .returned (.string ⟨l.toArray⟩) ∧ (Lib.IsBuilderF 353 5 B b (Lib.byteCells l) w' ∧ Below B w w' ∧ Lib.OthersKept 5 (some b) w w') := Any.Builder_String_any_k Tryz.lays169 Tryz.Builder_Extra_169 B b l w h hBw
end Go.Proofs

namespace Go.Proofs.YtilfjpmeededmaaGreatDoor
open Go.RowKit
theorem data_toList (s : ByteArray) : s.data.toList = s.toList := (ByteArray.toList_eq s).symm
theorem trim_minus (s : ByteArray) : Lib.trimPrefix s.data.toList [45] = unminus s.toList := by
  rw [data_toList]
  generalize s.toList = l
  cases l with
  | nil => rfl
  | cons c r =>
    by_cases h : c = 45
    · subst h; rfl
    · have e1 : unminus (c :: r) = c :: r := by unfold unminus; rw [if_neg]; simpa using h
      have e2 : Lib.trimPrefix (c :: r) [45] = c :: r := by
        unfold Lib.trimPrefix Lib.hasPrefix; rw [if_neg]; simpa [List.isPrefixOf] using (fun e => h (Eq.symm e))
      rw [e1, e2]
theorem unminus_len (l : Bs) : (unminus l).length ≤ l.length := by unfold unminus; split <;> simp
theorem mk_toList (l : Bs) : (ByteArray.mk l.toArray).toList = l := ByteArray.toList_mk l
theorem mk_size (l : Bs) : (ByteArray.mk l.toArray).size = l.length := by rw [← toList_length, mk_toList]
theorem numLoop_drop (s : ByteArray) (k : Nat) (n : Int) (h : k < s.size) : numLoop (s.toList.drop k) n =
    (digitB s[k].toNat && decide (n * 10 + (s[k].toNat - 48) ≤ 1000000000) && numLoop (s.toList.drop (k + 1)) (n * 10 + (s[k].toNat - 48))) := by
  rw [drop_cons s k h, numLoop]
theorem numLoop_end (s : ByteArray) (k : Nat) (n : Int) (h : s.size ≤ k) : numLoop (s.toList.drop k) n = true := by
  rw [List.drop_of_length_le (by rw [toList_length]; exact h), numLoop]
theorem digitB_bd {c : Int} (h : digitB c = true) : 48 ≤ c ∧ c ≤ 57 := by
  unfold digitB at h; simpa using h
set_option maxHeartbeats 800000 in
set_option maxRecDepth 100000 in
theorem isNumeral_any (s : ByteArray) (w : World) (hs : s.size ≤ maxLen) :
    Calls Tryz.prog 327 #[.string s] w fun e w' => e = .returned (.bool (numS s.toList)) ∧ w' = w := by
  unfold maxLen at hs
  by_cases h0 : (s.toList == [48]) = true
  · have HN : Hid (numS s.toList = true) := by rw [Hid, numS, h0]; rfl
    go_enter Tryz.func327, Tryz.ntmps327
    go_wp2_with fail
    go_ret
    exact ⟨ret_bool HN.out.symm, rfl⟩
  · rw [Bool.not_eq_true] at h0
    obtain ⟨d, hd⟩ : ∃ d : ByteArray, d = ⟨(Lib.trimPrefix s.data.toList [45]).toArray⟩ := ⟨_, rfl⟩
    have HL : Hid (unminus s.toList = d.toList) := by rw [Hid, hd, trim_minus]; exact (mk_toList _).symm
    have hds : d.size ≤ s.size := by rw [← toList_length, ← HL.out, ← toList_length s]; exact unminus_len _
    have HT : ∀ w : World, Calls Tryz.prog 371 #[.string s, .string ⟨#[45]⟩] w fun e w' => e = .returned (.string d) ∧ w' = w := by
      intro w; rw [hd]; exact Tryz.strings_TrimPrefix s ⟨#[45]⟩ w
    clear hd
    have HN : Hid (numS s.toList = (decide (0 < d.toList.length) && !(d.toList.headD 0 == 48) && numLoop d.toList 0)) := by
      rw [Hid, numS, h0, HL.out]; rfl
    by_cases hd0 : d.size = 0
    · have hE := isEmpty_t d hd0
      go_enter Tryz.func327, Tryz.ntmps327
      go_wp2_with (go_at_call 371; refine (HT _).mono ?_; rintro e w' ⟨rfl, rfl⟩)
      go_ret
      exact ⟨ret_bool (by rw [HN.out, toList_length]; simp [hd0]), rfl⟩
    · have hpos : 0 < d.size := by omega
      have hE := isEmpty_f d hpos
      have HH : Hid ((d.toList.headD 0 == 48) = decide ((d[0].toNat : Int) = 48)) := by
        rw [Hid, head_get d hpos]; exact u8_eq _ 48 (by omega)
      by_cases h48 : (d[0].toNat : Int) = 48
      · go_enter Tryz.func327, Tryz.ntmps327
        go_wp2_with (go_at_call 371; refine (HT _).mono ?_; rintro e w' ⟨rfl, rfl⟩)
        go_ret
        exact ⟨ret_bool (by rw [HN.out, HH.out]; simp [h48]), rfl⟩
      · have H48 : Hid (numS s.toList = numLoop d.toList 0) := by
          rw [Hid, HN.out, HH.out, toList_length]; simp [h48, hpos]
        clear HN HH
        have h48b : ((d[0].toNat : Int) == 48) = false := by simpa using h48
        clear h48
        go_enter Tryz.func327, Tryz.ntmps327
        go_wp2_with (go_at_call 371; refine (HT _).mono ?_; rintro e w' ⟨rfl, rfl⟩)
        go_loop [4, 19] (fun t i => ∃ (k : Nat) (n : Int), k ≤ d.size ∧ i = .int .i64 k ∧ t = .int .i64 n ∧ 0 ≤ n ∧ n ≤ 1000000000 ∧ Hid (numLoop d.toList 0 = numLoop (d.toList.drop k) n)) (fun _ i => d.size - (intOf i).toNat)
        case atStart => exact ⟨0, 0, Nat.zero_le _, rfl, rfl, by omega, by omega, rfl⟩
        case round =>
          obtain ⟨k, n, hk, rfl, rfl, hn0, hn1, HA⟩ := hrel
          by_cases hlt : k < d.size
          · have HS := numLoop_drop d k n hlt
            replace HS : Hid _ := HS
            by_cases hdg : digitB d[k].toNat = true
            · have hbd := digitB_bd hdg
              by_cases hbig : n * 10 + (d[k].toNat - 48) ≤ 1000000000
              · go_wp2_with (first | (go_at_call 211; refine (isDigit_any _ _).mono ?_; rintro e w' ⟨rfl, rfl⟩))
                go_round
                case rel => exact ⟨k + 1, n * 10 + (d[k].toNat - 48), by omega, by go_num, by go_num, by omega, by omega, by rw [Hid, HA.out, HS.out, hdg, decide_eq_true hbig]; rfl⟩
                case measure => simp [intOf]; omega
              · have HB : Hid (decide (n * 10 + (d[k].toNat - 48) ≤ 1000000000) = false) := decide_eq_false hbig
                go_wp2_with (first | (go_at_call 211; refine (isDigit_any _ _).mono ?_; rintro e w' ⟨rfl, rfl⟩))
                go_ret
                exact ⟨ret_bool (by rw [H48.out, HA.out, HS.out, HB.out]; simp), rfl⟩
            · rw [Bool.not_eq_true] at hdg
              go_wp2_with (first | (go_at_call 211; refine (isDigit_any _ _).mono ?_; rintro e w' ⟨rfl, rfl⟩))
              go_ret
              exact ⟨ret_bool (by rw [H48.out, HA.out, HS.out, hdg]; rfl), rfl⟩
          · have HE : Hid (numLoop (d.toList.drop k) n = true) := numLoop_end d k n (by omega)
            go_wp2_with fail
            go_ret
            exact ⟨ret_bool (by rw [H48.out, HA.out, HE.out]), rfl⟩
end Go.Proofs.YtilfjpmeededmaaGreatDoor

namespace Go.Proofs.YtilfjpmeededmaaGreatDoor
open Go.RowKit
theorem ib_none (l : Bs) (c : UInt8) (h : l.contains c = false) : Lib.indexByte l c = -1 := by
  induction l with
  | nil => rfl
  | cons b r ih =>
    simp only [List.contains_cons, Bool.or_eq_false_iff] at h
    have hb : (b == c) = false := by
      have := h.1; rw [beq_eq_false_iff_ne] at this ⊢; exact fun e => this e.symm
    rw [Lib.indexByte, hb, ih h.2]; rfl
theorem ib_some (l : Bs) (c : UInt8) (h : l.contains c = true) : Lib.indexByte l c = (l.takeWhile (· != c)).length ∧
    (l.takeWhile (· != c)).length < l.length ∧ l.take (l.takeWhile (· != c)).length = l.takeWhile (· != c) ∧ l.drop (l.takeWhile (· != c)).length = l.dropWhile (· != c) := by
  induction l with
  | nil => simp at h
  | cons b r ih =>
    by_cases hb : b = c
    · subst hb
      have e : List.takeWhile (fun x => x != b) (b :: r) = [] := by rw [List.takeWhile_cons]; simp
      have e2 : List.dropWhile (fun x => x != b) (b :: r) = b :: r := by rw [List.dropWhile_cons]; simp
      rw [e, e2, Lib.indexByte]; simp
    · have hb1 : (b == c) = false := by simpa using hb
      have hb2 : (b != c) = true := by simpa using hb
      have hr : r.contains c = true := by
        simp only [List.contains_cons, Bool.or_eq_true] at h
        rcases h with h | h
        · exact absurd (by simpa using h : c = b).symm hb
        · exact h
      obtain ⟨i1, i2, i3, i4⟩ := ih hr
      rw [List.takeWhile_cons, List.dropWhile_cons, if_pos hb2, if_pos hb2, Lib.indexByte, hb1, i1]
      refine ⟨?_, by simp; omega, by simp [i3], by simp [i4]⟩
      rw [if_neg (by simp), if_neg (by simp)]; simp
theorem ext_take (s : ByteArray) (n : Nat) : (s.extract 0 n).toList = s.toList.take n := by
  rw [ByteArray.toList_eq, ByteArray.toList_eq, ByteArray.data_extract]; simp
theorem ext_drop (s : ByteArray) (n : Nat) : (s.extract n s.size).toList = s.toList.drop n := by
  rw [← data_toList, Lib.extract_to_end, data_toList]
set_option maxHeartbeats 800000 in
set_option maxRecDepth 100000 in
theorem sliteCut_one (s : ByteArray) (w : World) (hs : s.size ≤ maxLen) :
    Calls Tryz.prog 389 #[.string s, .string ⟨#[46]⟩] w fun e w' => Below w.heap.size w w' ∧
      ((s.toList.contains 46 = true ∧ ∃ b a : ByteArray, e = .returned (.tuple #[.string b, .string a, .bool true]) ∧ b.toList = s.toList.takeWhile (· != 46) ∧ a.toList = (s.toList.dropWhile (· != 46)).drop 1) ∨
       (s.toList.contains 46 = false ∧ e = .returned (.tuple #[.string s, .string ⟨#[]⟩, .bool false]))) := by
  unfold maxLen at hs
  by_cases hc : s.toList.contains 46 = true
  · obtain ⟨i1, i2, i3, i4⟩ := ib_some s.toList 46 hc
    obtain ⟨n, hn⟩ : ∃ n, n = (s.toList.takeWhile (· != 46)).length := ⟨_, rfl⟩
    rw [← hn] at i1 i2 i3 i4
    rw [toList_length] at i2
    have HI : ∀ w : World, Calls Tryz.prog 401 #[.string s, .string ⟨#[46]⟩] w fun e w' => e = .returned (.int .i64 n) ∧ w' = w := by
      intro w; rw [← i1, ← data_toList]; exact Tryz.stringslite_Index_one s 46 w
    have H3 : Hid (s.toList.take n = s.toList.takeWhile (· != 46)) := i3
    have H4 : Hid (s.toList.drop n = s.toList.dropWhile (· != 46)) := i4
    have HC : Hid (s.toList.contains 46 = true) := hc
    clear i1 i3 i4 hn hc
    go_enter Tryz.func389, Tryz.ntmps389
    go_wp2_with (go_at_call 401; refine (HI _).mono ?_; rintro e w' ⟨rfl, rfl⟩)
    go_region
    all_goals (try go_wp2)
    all_goals go_ret3
    exact ⟨Below.drew (Below.refl _ _), .inl ⟨HC.out, s.extract 0 n, s.extract (n + 1) s.size, rfl, by rw [ext_take, H3.out], by rw [ext_drop, ← H4.out, List.drop_drop]⟩⟩
  · rw [Bool.not_eq_true] at hc
    have HI : ∀ w : World, Calls Tryz.prog 401 #[.string s, .string ⟨#[46]⟩] w fun e w' => e = .returned (.int .i64 (-1)) ∧ w' = w := by
      intro w; rw [← ib_none _ _ hc, ← data_toList]; exact Tryz.stringslite_Index_one s 46 w
    go_enter Tryz.func389, Tryz.ntmps389
    go_wp2_with (go_at_call 401; refine (HI _).mono ?_; rintro e w' ⟨rfl, rfl⟩)
    go_ret3
    exact ⟨Below.refl _ _, .inr ⟨hc, rfl⟩⟩
set_option maxHeartbeats 800000 in
set_option maxRecDepth 100000 in
theorem cut_one (s : ByteArray) (w : World) (hs : s.size ≤ maxLen) :
    Calls Tryz.prog 372 #[.string s, .string ⟨#[46]⟩] w fun e w' => Below w.heap.size w w' ∧
      ((s.toList.contains 46 = true ∧ ∃ b a : ByteArray, e = .returned (.tuple #[.string b, .string a, .bool true]) ∧ b.toList = s.toList.takeWhile (· != 46) ∧ a.toList = (s.toList.dropWhile (· != 46)).drop 1) ∨
       (s.toList.contains 46 = false ∧ e = .returned (.tuple #[.string s, .string ⟨#[]⟩, .bool false]))) := by
  go_enter Tryz.func372, Tryz.ntmps372
  go_wp2_with (go_at_call 389; refine (sliteCut_one _ _ hs).mono ?_)
  rintro e w' ⟨hb, h⟩
  rcases h with ⟨hc, b, a, rfl, h1, h2⟩ | ⟨hc, rfl⟩
  · have HC : Hid (s.toList.contains 46 = true) := hc
    have H1 : Hid _ := h1
    have H2 : Hid _ := h2
    clear hc h1 h2
    go_wp2
    go_ret3
    exact ⟨hb, .inl ⟨HC.out, b, a, rfl, H1.out, H2.out⟩⟩
  · have HC : Hid (s.toList.contains 46 = false) := hc
    clear hc
    go_wp2
    go_ret3
    exact ⟨hb, .inr ⟨HC.out, rfl⟩⟩
theorem tw_le (l : Bs) (p : UInt8 → Bool) : (l.takeWhile p).length ≤ l.length := by
  induction l with
  | nil => simp
  | cons c r ih => rw [List.takeWhile_cons]; split <;> simp; omega
theorem dw_le (l : Bs) (p : UInt8 → Bool) : (l.dropWhile p).length ≤ l.length := by
  induction l with
  | nil => simp
  | cons c r ih => rw [List.dropWhile_cons]; split <;> simp; omega
set_option maxHeartbeats 800000 in
set_option maxRecDepth 100000 in
theorem isColumn_any (s : ByteArray) (w : World) (hs : s.size ≤ maxLen) :
    Calls Tryz.prog 330 #[.string s] w fun e w' => e = .returned (.bool (colS s.toList)) ∧ Below w.heap.size w w' := by
  go_enter Tryz.func330, Tryz.ntmps330
  go_wp2_with (go_at_call 372; refine (cut_one _ _ hs).mono ?_)
  rintro e w' ⟨hb, h⟩
  rcases h with ⟨hc, b, a, rfl, h1, h2⟩ | ⟨hc, rfl⟩
  · have hbs : b.size ≤ maxLen := by
      rw [← toList_length, h1]; exact Nat.le_trans (tw_le _ _) (by rw [toList_length]; exact hs)
    have has : a.size ≤ maxLen := by
      rw [← toList_length, h2, List.length_drop]; have := dw_le s.toList (· != 46); rw [toList_length] at this; omega
    have HC : Hid (colS s.toList = (wordS b.toList && wordS a.toList)) := by
      rw [Hid, colS, hc, h1, h2]; rfl
    clear hc h1 h2
    by_cases hw : wordS b.toList = true
    · go_wp2_with (go_at_call 138; refine (isWord_any _ _ (by assumption)).mono ?_; rintro e w2 ⟨rfl, rfl⟩)
      go_ret
      exact ⟨ret_bool (by rw [HC.out, hw]; rfl), hb⟩
    · rw [Bool.not_eq_true] at hw
      go_wp2_with (go_at_call 138; refine (isWord_any _ _ (by assumption)).mono ?_; rintro e w2 ⟨rfl, rfl⟩)
      go_ret
      exact ⟨ret_bool (by rw [HC.out, hw]; rfl), hb⟩
  · have HC : Hid (colS s.toList = false) := by rw [Hid, colS, hc]; rfl
    clear hc
    go_wp2_with fail
    go_ret
    exact ⟨ret_bool HC.out.symm, hb⟩
set_option maxHeartbeats 800000 in
set_option maxRecDepth 100000 in
theorem kindOf_any (s : ByteArray) (w : World) (hs : s.size ≤ maxLen) :
    Calls Tryz.prog 253 #[.string s] w fun e w' => e = .returned (.int .i64 (kindS s.toList)) ∧ Below w.heap.size w w' := by
  go_enter Tryz.func253, Tryz.ntmps253
  go_wp2_with (first
    | (go_at_call 326; refine (isOperator_any _ _).mono ?_; rintro e w' ⟨rfl, rfl⟩)
    | (go_at_call 327; refine (isNumeral_any _ _ hs).mono ?_; rintro e w' ⟨rfl, rfl⟩)
    | (go_at_call 328; refine (isQuote_any _ _ hs).mono ?_; rintro e w' ⟨rfl, rfl⟩)
    | (go_at_call 329; refine (isParameter_any _ _).mono ?_; rintro e w' ⟨rfl, rfl⟩)
    | (go_at_call 138; refine (isWord_any _ _ hs).mono ?_; rintro e w' ⟨rfl, rfl⟩)
    | (go_at_call 330; refine (isColumn_any _ _ hs).mono ?_; rintro e w' ⟨rfl, hb⟩))
  all_goals go_ret
  all_goals refine ⟨ret_int ?_, ?_⟩
  all_goals first | exact Below.refl _ _ | assumption | (simp [kindS, *]; done)
end Go.Proofs.YtilfjpmeededmaaGreatDoor

import Derived.Test.YtilfjpmeededmaaGreatDoorRef2Z
import Derived.Deep.QuietTactic
import Derived.BigQuiet
import Derived.Test.YtilfjpmeededmaaGreatDoorTreeZ
import Derived.Deep.LoopGhost
import Derived.Deep.DeepCutAuto
set_option linter.unusedVariables false
set_option linter.unusedSimpArgs false
namespace Go.Proofs.YtilfjpmeededmaaGreatDoor
open Go.RowKit
theorem ref_u8i (c : UInt8) (n : Nat) (hn : n < 256) : ((c.toNat : Int) == (n : Int)) = (c == UInt8.ofNat n) := by
  rw [u8_eq c n hn, Bool.eq_iff_iff]; simp
theorem at_split {l a b : Bs} (h : l = a ++ b) : l[a.length]? = b[0]? := by
  subst h; rw [List.getElem?_append_right (Nat.le_refl _)]; simp
def dotAt (l : Bs) : Nat := (l.takeWhile (· != 46)).length
theorem tw_split (l : Bs) : l = l.takeWhile (· != 46) ++ l.dropWhile (· != 46) := (List.takeWhile_append_dropWhile).symm
theorem dot_lt (s : ByteArray) (k : Nat) (h : k < dotAt s.toList) (hk : k < s.size) : ((s[k].toNat : Int) == 46) = false := by
  have hg : s.toList[k]'(by rw [toList_length]; exact hk) = s[k] := toList_get s k hk
  have e := tw_split s.toList
  have h1 : s.toList[k]? = (s.toList.takeWhile (· != 46))[k]? := by
    conv => lhs; rw [e]
    rw [List.getElem?_append_left h]
  rw [List.getElem?_eq_getElem (by rw [toList_length]; exact hk), hg, List.getElem?_eq_getElem h] at h1
  have hm := List.getElem_mem h
  have hp : ((s.toList.takeWhile (· != 46))[k] != 46) = true := by
    have := List.all_takeWhile (l := s.toList) (p := (· != 46))
    rw [List.all_eq_true] at this
    exact this _ hm
  rw [← Option.some.inj h1] at hp
  have h46 : (s[k] == 46) = false := by simpa using hp
  rw [← h46]
  exact ref_u8i s[k] 46 (by omega)
theorem dot_at (s : ByteArray) (h : dotAt s.toList < s.size) : ((s[dotAt s.toList].toNat : Int) == 46) = true := by
  have e := tw_split s.toList
  have hl : s.toList.length = dotAt s.toList + (s.toList.dropWhile (· != 46)).length := by
    have := congrArg List.length e; rwa [List.length_append] at this
  rw [toList_length] at hl
  cases hd : s.toList.dropWhile (· != 46) with
  | nil => rw [hd] at hl; simp at hl; omega
  | cons c r =>
    have hc : (c != 46) = false := by
      have := List.head?_dropWhile_not (p := (· != 46)) s.toList
      rw [hd] at this; simpa using this
    have h1 : s.toList[dotAt s.toList]? = some c := by
      have := at_split e; rw [hd] at this; exact this
    rw [List.getElem?_eq_getElem (by rw [toList_length]; exact h), toList_get s _ h] at h1
    have h2 := Option.some.inj h1
    rw [h2]
    have : c = 46 := by simpa using hc
    rw [this]; rfl
theorem dot_contains (s : ByteArray) : s.toList.contains 46 = decide (dotAt s.toList < s.size) := by
  cases hc : s.toList.contains 46 with
  | true => have := (ib_some s.toList 46 hc).2.1; rw [toList_length] at this; symm; exact decide_eq_true this
  | false =>
    symm; rw [decide_eq_false_iff_not]
    intro h
    have := dot_at s h
    have h2 : s.toList.contains 46 = true := by
      rw [List.contains_iff_mem]
      have hg := toList_get s _ h
      have h46 : s[dotAt s.toList] = 46 := by
        have h3 := this
        rw [show ((46 : Int)) = ((46 : Nat) : Int) from rfl] at h3
        apply UInt8.toNat_inj.mp
        simp at h3 ⊢; omega
      rw [← h46, ← hg]; exact List.getElem_mem _
    rw [hc] at h2; cases h2
set_option maxHeartbeats 1600000 in
set_option maxRecDepth 100000 in
theorem refColumn_any (s : ByteArray) (w : World) (hs : s.size ≤ maxLen) :
    Calls Tryz.prog 338 #[.string s] w fun e w' => Below w.heap.size w w' ∧ ∃ x y : ByteArray, e = .returned (.tuple #[.string x, .string y, .bool (colS s.toList)]) ∧
      (colS s.toList = true → x.toList = s.toList.takeWhile (· != 46) ∧ y.toList = (s.toList.dropWhile (· != 46)).drop 1) := by
  have hs2 := hs
  unfold maxLen at hs
  obtain ⟨d, hd⟩ : ∃ d, d = dotAt s.toList := ⟨_, rfl⟩
  have hlt1 : ∀ k, k < d → ∀ hk : k < s.size, ((s[k].toNat : Int) == 46) = false := fun k h hk => dot_lt s k (by omega) hk
  have hat : ∀ hk : d < s.size, ((s[d].toNat : Int) == 46) = true := by subst hd; exact fun hk => dot_at s hk
  have hcon : s.toList.contains 46 = decide (d < s.size) := by rw [hd]; exact dot_contains s
  have hcol : d < s.size → colS s.toList = (wordS (s.toList.take d) && wordS (s.toList.drop (d + 1))) := by
    intro h
    have h3 := ib_some s.toList 46 (by rw [hcon]; simpa using h)
    have e1 : s.toList.take d = s.toList.takeWhile (· != 46) := by rw [hd]; exact h3.2.2.1
    have e2 : s.toList.drop (d + 1) = (s.toList.dropWhile (· != 46)).drop 1 := by rw [← h3.2.2.2, List.drop_drop]; congr 1; rw [hd]; rfl
    rw [colS, hcon, decide_eq_true h, e1, e2]; rfl
  have hwords : d < s.size → s.toList.take d = s.toList.takeWhile (· != 46) ∧ s.toList.drop (d + 1) = (s.toList.dropWhile (· != 46)).drop 1 := by
    intro h
    have h3 := ib_some s.toList 46 (by rw [hcon]; simpa using h)
    exact ⟨by rw [hd]; exact h3.2.2.1, by rw [← h3.2.2.2, List.drop_drop]; congr 1; rw [hd]; rfl⟩
  have H1 : Hid _ := hlt1
  have H2 : Hid _ := hat
  have H3 : Hid _ := hcon
  have H4 : Hid _ := hcol
  have H5 : Hid _ := hwords
  clear hd hlt1 hat hcon hcol hwords
  go_enter Tryz.func338, Tryz.ntmps338
  go_wp2_with fail
  go_loop [5, 6] (fun av iv => ∃ (k : Nat) (a : Int), k ≤ s.size ∧ iv = .int .i64 k ∧ av = .int .i64 a ∧ ((a = -1 ∧ k ≤ d) ∨ (a = d ∧ d < k))) (fun _ i => s.size - (intOf i).toNat)
  case atStart => exact ⟨0, -1, Nat.zero_le _, rfl, rfl, .inl ⟨rfl, Nat.zero_le _⟩⟩
  case round =>
    obtain ⟨k, a, hk, rfl, rfl, hcase⟩ := hrel
    by_cases hlt : k < s.size
    · rcases hcase with ⟨rfl, hkd⟩ | ⟨rfl, hkd⟩
      · by_cases hkd2 : k < d
        · have h46 := H1.out k hkd2 hlt
          go_wp2_with fail
          go_round
          case rel => exact ⟨k + 1, -1, by omega, by go_num, rfl, .inl ⟨rfl, by omega⟩⟩
          case measure => simp [intOf]; omega
        · have hkd3 : k = d := by omega
          have h46 : ((s[k].toNat : Int) == 46) = true := by subst hkd3; exact H2.out hlt
          have HK : Hid (k = d) := hkd3
          clear hkd3
          go_wp2_with fail
          go_round
          case rel => exact ⟨k + 1, k, by omega, by go_num, rfl, .inr ⟨by rw [HK.out], by rw [HK.out]; omega⟩⟩
          case measure => simp [intOf]; omega
      · cases h46 : ((s[k].toNat : Int) == 46) with
        | true =>
          go_wp2_with fail
          go_round
          case rel => exact ⟨k + 1, d, by omega, by go_num, rfl, .inr ⟨rfl, by omega⟩⟩
          case measure => simp [intOf]; omega
        | false =>
          go_wp2_with fail
          go_round
          case rel => exact ⟨k + 1, d, by omega, by go_num, rfl, .inr ⟨rfl, by omega⟩⟩
          case measure => simp [intOf]; omega
    · rcases hcase with ⟨rfl, hkd⟩ | ⟨rfl, hkd⟩
      · have HF : Hid (colS s.toList = false) := by
          rw [Hid, colS, H3.out, decide_eq_false (by omega)]; rfl
        go_wp2_with fail
        go_ret3
        exact ⟨Below.refl _ _, ⟨#[]⟩, ⟨#[]⟩, by rw [HF.out]; rfl, fun h => by rw [HF.out] at h; cases h⟩
      · have hds : d < s.size := by omega
        have HC := H4.out hds
        replace HC : Hid _ := HC
        have HW := H5.out hds
        replace HW : Hid _ := HW
        have z1 : (s.extract 0 d).size ≤ maxLen := by unfold maxLen; simp; omega
        have z2 : (s.extract (d + 1) s.size).size ≤ maxLen := by unfold maxLen; simp; omega
        rw [← ext_take, ← ext_drop] at HC HW
        clear H1 H2 H3 H4 H5
        cases hb1 : wordS (s.extract 0 d).toList with
        | true =>
          go_wp2_with (go_at_call 263; refine (refWord_any _ _ (by assumption)).mono ?_; rintro e w2 ⟨rfl, rfl⟩)
          go_region
          all_goals (try go_wp2)
          all_goals go_ret3
          exact ⟨Below.drew (Below.refl _ _), _, _, by rw [HC.out, hb1]; rfl, fun _ => HW.out⟩
        | false =>
          go_wp2_with (go_at_call 263; refine (refWord_any _ _ (by assumption)).mono ?_; rintro e w2 ⟨rfl, rfl⟩)
          go_region
          all_goals (try go_wp2)
          all_goals go_ret3
          exact ⟨Below.drew (Below.refl _ _), _, _, by rw [HC.out, hb1]; rfl, fun _ => HW.out⟩
def atomS (l : Bs) : Bool := numS l || colS l || quoteS l || valS l || parS l
theorem parV_nonneg (l : Bs) : decide (0 ≤ parV l) = parS l := by
  unfold parV
  cases h : parS l with
  | false => rfl
  | true =>
    unfold parS at h
    simp only [Bool.and_eq_true] at h
    have hd := digitB_bd h.1.2
    have h48 : ¬ (l.getD 1 0).toNat = 48 := by
      intro e
      have : l.getD 1 0 = 48 := UInt8.toNat_inj.mp e
      rw [this] at h; simp at h
    rw [if_pos rfl]; exact decide_eq_true (by omega)
set_option maxHeartbeats 1600000 in
set_option maxRecDepth 100000 in
theorem refAtom_any (s : ByteArray) (w : World) (hs : s.size ≤ maxLen) :
    Calls Tryz.prog 262 #[.string s] w fun e w' => e = .returned (.bool (atomS s.toList)) ∧ Below w.heap.size w w' := by
  have HP : Hid _ := parV_nonneg s.toList
  have HD : Hid (atomS s.toList = (numS s.toList || colS s.toList || quoteS s.toList || valS s.toList || parS s.toList)) := rfl
  cases h1 : numS s.toList with
  | true =>
    go_enter Tryz.func262, Tryz.ntmps262
    go_wp2_with (go_at_call 337; refine (refNumeral_any _ _ hs).mono ?_; rintro e w2 ⟨rfl, rfl⟩)
    refine (refColumn_any _ _ hs).mono ?_
    rintro e w3 ⟨hb3, x, y, rfl, _⟩
    go_wp2_with (first | (go_at_call 339; refine (refQuote_any _ _ hs).mono ?_; rintro e w4 ⟨rfl, rfl⟩) | (go_at_call 264; refine (refConstant_any _ _).mono ?_; rintro e w5 ⟨rfl, rfl⟩) | (go_at_call 340; refine (refParameter_any _ _).mono ?_; rintro e w6 ⟨rfl, rfl⟩))
    go_ret
    exact ⟨ret_bool (by rw [HD.out, h1]; rfl), hb3⟩
  | false =>
    cases h2 : colS s.toList with
    | true =>
      go_enter Tryz.func262, Tryz.ntmps262
      go_wp2_with (go_at_call 337; refine (refNumeral_any _ _ hs).mono ?_; rintro e w2 ⟨rfl, rfl⟩)
      refine (refColumn_any _ _ hs).mono ?_
      rintro e w3 ⟨hb3, x, y, rfl, _⟩
      go_wp2_with (first | (go_at_call 339; refine (refQuote_any _ _ hs).mono ?_; rintro e w4 ⟨rfl, rfl⟩) | (go_at_call 264; refine (refConstant_any _ _).mono ?_; rintro e w5 ⟨rfl, rfl⟩) | (go_at_call 340; refine (refParameter_any _ _).mono ?_; rintro e w6 ⟨rfl, rfl⟩))
      go_ret
      exact ⟨ret_bool (by rw [HD.out, h1, h2]; rfl), hb3⟩
    | false =>
      cases h3 : quoteS s.toList with
      | true =>
        go_enter Tryz.func262, Tryz.ntmps262
        go_wp2_with (go_at_call 337; refine (refNumeral_any _ _ hs).mono ?_; rintro e w2 ⟨rfl, rfl⟩)
        refine (refColumn_any _ _ hs).mono ?_
        rintro e w3 ⟨hb3, x, y, rfl, _⟩
        go_wp2_with (first | (go_at_call 339; refine (refQuote_any _ _ hs).mono ?_; rintro e w4 ⟨rfl, rfl⟩) | (go_at_call 264; refine (refConstant_any _ _).mono ?_; rintro e w5 ⟨rfl, rfl⟩) | (go_at_call 340; refine (refParameter_any _ _).mono ?_; rintro e w6 ⟨rfl, rfl⟩))
        go_ret
        exact ⟨ret_bool (by rw [HD.out, h1, h2, h3]; rfl), hb3⟩
      | false =>
        cases h4 : valS s.toList with
        | true =>
          go_enter Tryz.func262, Tryz.ntmps262
          go_wp2_with (go_at_call 337; refine (refNumeral_any _ _ hs).mono ?_; rintro e w2 ⟨rfl, rfl⟩)
          refine (refColumn_any _ _ hs).mono ?_
          rintro e w3 ⟨hb3, x, y, rfl, _⟩
          go_wp2_with (first | (go_at_call 339; refine (refQuote_any _ _ hs).mono ?_; rintro e w4 ⟨rfl, rfl⟩) | (go_at_call 264; refine (refConstant_any _ _).mono ?_; rintro e w5 ⟨rfl, rfl⟩) | (go_at_call 340; refine (refParameter_any _ _).mono ?_; rintro e w6 ⟨rfl, rfl⟩))
          go_ret
          exact ⟨ret_bool (by rw [HD.out, h1, h2, h3, h4]; rfl), hb3⟩
        | false =>
          go_enter Tryz.func262, Tryz.ntmps262
          go_wp2_with (go_at_call 337; refine (refNumeral_any _ _ hs).mono ?_; rintro e w2 ⟨rfl, rfl⟩)
          refine (refColumn_any _ _ hs).mono ?_
          rintro e w3 ⟨hb3, x, y, rfl, _⟩
          go_wp2_with (first | (go_at_call 339; refine (refQuote_any _ _ hs).mono ?_; rintro e w4 ⟨rfl, rfl⟩) | (go_at_call 264; refine (refConstant_any _ _).mono ?_; rintro e w5 ⟨rfl, rfl⟩) | (go_at_call 340; refine (refParameter_any _ _).mono ?_; rintro e w6 ⟨rfl, rfl⟩))
          go_ret
          exact ⟨ret_bool (by rw [HD.out, h1, h2, h3, h4, ← HP.out]; rfl), hb3⟩
end Go.Proofs.YtilfjpmeededmaaGreatDoor

namespace Go.Proofs.YtilfjpmeededmaaGreatDoor
open Go.RowKit
def amongB (l : List Bs) (x : Bs) : Bool := l.contains x
set_option maxHeartbeats 800000 in
set_option maxRecDepth 100000 in
theorem among_any (l : List Bs) (s : ByteArray) (w : World) (b off cap : Nat) (hl : l.length ≤ cap) (hcap : cap ≤ 100000) (hc : ∀ i (h : i < l.length), w.cell? ⟨b, off + i, none⟩ = some (.string (ofBs l[i]))) :
    Calls Tryz.prog 265 #[.slice (some ⟨b, off, none⟩) l.length cap, .string s] w fun e w' => e = .returned (.bool (amongB l s.toList)) ∧ w' = w := by
  have HC : Hid _ := hc
  clear hc
  go_enter Tryz.func265, Tryz.ntmps265
  go_wp2_with fail
  go_loop [5] (fun iv => ∃ k : Nat, k ≤ l.length ∧ iv = .int .i64 k ∧ Hid (amongB l s.toList = amongB (l.drop k) s.toList)) (fun i => l.length - (intOf i).toNat)
  case atStart => exact ⟨0, Nat.zero_le _, rfl, rfl⟩
  case round =>
    obtain ⟨k, hk, rfl, HA⟩ := hrel
    by_cases hlt : k < l.length
    · have hcell := HC.out k hlt
      have HD : Hid (amongB (l.drop k) s.toList = (l[k] == s.toList || amongB (l.drop (k + 1)) s.toList)) := by
        unfold amongB; rw [Hid, List.drop_eq_getElem_cons hlt, List.contains_cons]
        congr 1; rw [Bool.eq_iff_iff]; simp; exact eq_comm
      have ho : (ofBs l[k]).toList = l[k] := ofBs_toList _
      cases he : (l[k] == s.toList) with
      | true =>
        go_wp2_with fail
        go_ret
        exact ⟨ret_bool (by rw [HA.out, HD.out, he]; rfl), rfl⟩
      | false =>
        go_wp2_with fail
        go_round
        case rel => exact ⟨k + 1, by omega, by go_num, by rw [Hid, HA.out, HD.out, he]; rfl⟩
        case measure => simp [intOf]; omega
    · have HE : Hid (amongB (l.drop k) s.toList = false) := by
        rw [Hid, List.drop_of_length_le (by omega)]; rfl
      go_wp2_with fail
      go_ret
      exact ⟨ret_bool (by rw [HA.out, HE.out]), rfl⟩
def operList : List Bs := [[43], [45], [42], [47], [61], [60], [60, 61]]
theorem oper_contains (l : Bs) : amongB operList l = operS l := by
  unfold amongB operList operS
  simp only [List.contains_cons, List.contains_nil, Bool.or_false]
  simp only [Bool.or_assoc]
def headR (l : Bs) : Bool := operS l || (wordS l && !valS l)
set_option maxHeartbeats 1600000 in
set_option maxRecDepth 100000 in
theorem refHead_any (s : ByteArray) (w : World) (hs : s.size ≤ maxLen) :
    Calls Tryz.prog 261 #[.string s] w fun e w' => e = .returned (.bool (headR s.toList)) ∧ Below w.heap.size w w' := by
  have HO : ∀ x : World, Calls Tryz.prog 336 #[] x fun e w' => e = .returned (.slice (some ⟨x.heap.size, 0, none⟩) 7 7) ∧ w' = x.alloc (.cells (operList.map fun t => Value.string (ofBs t)).toArray 9) := by
    intro x
    go_enter Tryz.func336, Tryz.ntmps336
    go_wp2
    go_ret
    exact ⟨rfl, rfl⟩
  have HA : ∀ x : World, x.heap[w.heap.size]? = some (.cells (operList.map fun t => Value.string (ofBs t)).toArray 9 (0, 0)) → Calls Tryz.prog 265 #[.slice (some ⟨w.heap.size, 0, none⟩) 7 7, .string s] x fun e w' => e = .returned (.bool (operS s.toList)) ∧ w' = x := by
    intro x hx
    rw [← oper_contains]
    refine among_any operList s x w.heap.size 0 7 (by decide) (by omega) (fun i h => ?_)
    have h7 : i < operList.length := h
    simp [World.cell?, hx, h7]
  have HD : Hid (headR s.toList = (operS s.toList || (wordS s.toList && !valS s.toList))) := rfl
  obtain ⟨o, ho⟩ : ∃ o, o = Obj.cells (operList.map fun t => Value.string (ofBs t)).toArray 9 := ⟨_, rfl⟩
  rw [← ho] at HA
  simp only [← ho] at HO
  clear ho
  cases h1 : operS s.toList with
  | true =>
    rw [h1] at HD
    go_enter Tryz.func261, Tryz.ntmps261
    go_wp2_with (first | (go_at_call 336; refine (HO _).mono ?_; rintro e w2 ⟨rfl, rfl⟩) | (go_at_call 265; refine (HA _ (blk_new w o)).mono ?_; rintro e w3 ⟨rfl, rfl⟩) | (go_at_call 263; refine (refWord_any _ _ hs).mono ?_; rintro e w4 ⟨rfl, rfl⟩) | (go_at_call 264; refine (refConstant_any _ _).mono ?_; rintro e w5 ⟨rfl, rfl⟩))
    go_ret
    exact ⟨ret_bool (by rw [HD.out]; rfl), (Below.refl _ _).alloc (Nat.le_refl _) _⟩
  | false =>
    rw [h1] at HD
    cases h2 : wordS s.toList with
    | true =>
      rw [h2] at HD
      go_enter Tryz.func261, Tryz.ntmps261
      go_wp2_with (first | (go_at_call 336; refine (HO _).mono ?_; rintro e w2 ⟨rfl, rfl⟩) | (go_at_call 265; refine (HA _ (blk_new w o)).mono ?_; rintro e w3 ⟨rfl, rfl⟩) | (go_at_call 263; refine (refWord_any _ _ hs).mono ?_; rintro e w4 ⟨rfl, rfl⟩) | (go_at_call 264; refine (refConstant_any _ _).mono ?_; rintro e w5 ⟨rfl, rfl⟩))
      go_ret
      exact ⟨ret_bool (by rw [HD.out]; rfl), (Below.refl _ _).alloc (Nat.le_refl _) _⟩
    | false =>
      rw [h2] at HD
      go_enter Tryz.func261, Tryz.ntmps261
      go_wp2_with (first | (go_at_call 336; refine (HO _).mono ?_; rintro e w2 ⟨rfl, rfl⟩) | (go_at_call 265; refine (HA _ (blk_new w o)).mono ?_; rintro e w3 ⟨rfl, rfl⟩) | (go_at_call 263; refine (refWord_any _ _ hs).mono ?_; rintro e w4 ⟨rfl, rfl⟩) | (go_at_call 264; refine (refConstant_any _ _).mono ?_; rintro e w5 ⟨rfl, rfl⟩))
      go_ret
      exact ⟨ret_bool (by rw [HD.out]; rfl), (Below.refl _ _).alloc (Nat.le_refl _) _⟩
theorem word_facts {l : Bs} (h : wordS l = true) : operS l = false ∧ numS l = false ∧ quoteS l = false ∧ parS l = false ∧ colS l = false ∧ (l == [40]) = false ∧ (l == [41]) = false := by
  unfold wordS at h
  simp only [Bool.and_eq_true, decide_eq_true_eq] at h
  obtain ⟨⟨⟨h1, _⟩, h2⟩, h3⟩ := h
  cases l with
  | nil => simp at h1
  | cons c r =>
    rw [List.headD_cons] at h2
    have hc : 97 ≤ (c.toNat : Int) ∧ (c.toNat : Int) ≤ 122 := by unfold letterB at h2; simpa using h2
    have key : ∀ n : Nat, n < 97 → (c == UInt8.ofNat n) = false := by
      intro n hn; rw [u8_eq c n (by omega)]; simp; omega
    have k43 := key 43 (by omega); have k45 := key 45 (by omega); have k42 := key 42 (by omega); have k47 := key 47 (by omega)
    have k61 := key 61 (by omega); have k60 := key 60 (by omega); have k48 := key 48 (by omega); have k39 := key 39 (by omega); have k36 := key 36 (by omega)
    have k40 := key 40 (by omega); have k41 := key 41 (by omega)
    have hcons : ∀ (d : UInt8) (t : Bs), (c == d) = false → ((c :: r) == (d :: t)) = false := by
      intro d t hd; rw [List.cons_beq_cons, hd]; rfl
    have hdot : (c :: r).contains 46 = false := by
      rw [Bool.eq_false_iff]; intro hm; rw [List.contains_iff_mem] at hm
      have := List.all_eq_true.mp h3 46 hm
      simp [ldB, letterB, digitB] at this
    refine ⟨?_, ?_, ?_, ?_, ?_, hcons 40 [] k40, hcons 41 [] k41⟩
    · unfold operS; rw [hcons 43 [] k43, hcons 45 [] k45, hcons 42 [] k42, hcons 47 [] k47, hcons 61 [] k61, hcons 60 [] k60, hcons 60 [61] k60]; rfl
    · rw [numS_rest _ (hcons 48 [] k48)]
      have e : unminus (c :: r) = c :: r := by unfold unminus; rw [if_neg]; rw [List.headD_cons]; intro h; rw [show (45 : UInt8) = UInt8.ofNat 45 from rfl, k45] at h; cases h
      rw [e, numR]
      have : (decide (49 ≤ (c.toNat : Int)) && decide ((c.toNat : Int) ≤ 57) || (decide ((c.toNat : Int) = 48) && decide ((0 : Int) < 0))) = false := by simp; omega
      rw [this]; simp
    · unfold quoteS
      have : ((c :: r).getD 0 0 == 39) = false := k39
      rw [this]; simp
    · unfold parS
      have : ((c :: r).headD 0 == 36) = false := k36
      rw [this]; simp
    · unfold colS; rw [hdot]; rfl
theorem head_same {l : Bs} (hl : bracketB (l.headD 0).toNat = false) : headS (kindS l) l = headR l := by
  have hb : (l == [40]) = false ∧ (l == [41]) = false := by
    constructor
    · rw [Bool.eq_false_iff]; intro h; rw [beq_iff_eq] at h; subst h; cases hl
    · rw [Bool.eq_false_iff]; intro h; rw [beq_iff_eq] at h; subst h; cases hl
  unfold kindS headR
  rw [hb.1, hb.2, if_neg Bool.false_ne_true, if_neg Bool.false_ne_true]
  cases h1 : operS l with
  | true => rw [if_pos rfl]; rfl
  | false =>
    rw [if_neg Bool.false_ne_true, Bool.false_or]
    cases h2 : wordS l with
    | true =>
      have f := word_facts h2
      rw [f.2.1, f.2.2.1, f.2.2.2.1, if_neg Bool.false_ne_true, if_neg Bool.false_ne_true, if_neg Bool.false_ne_true, if_pos rfl]; rfl
    | false =>
      have : ∀ k : Int, k ≠ 8 → k ≠ 5 → headS k l = false := by intro k h8 h5; simp [headS, h8, h5]
      rw [Bool.false_and]
      split
      · exact this 3 (by decide) (by decide)
      · split
        · exact this 4 (by decide) (by decide)
        · split
          · exact this 7 (by decide) (by decide)
          · rw [if_neg Bool.false_ne_true]
            split
            · exact this 6 (by decide) (by decide)
            · exact this 0 (by decide) (by decide)
theorem val_word {l : Bs} (h : valS l = true) : wordS l = true := by
  unfold valS at h
  simp only [Bool.or_eq_true, beq_iff_eq] at h
  rcases h with (h | h) | h <;> (subst h; decide)
theorem oper_atom {l : Bs} (h : operS l = true) : atomS l = false ∧ valS l = false := by
  unfold operS at h
  simp only [Bool.or_eq_true, beq_iff_eq] at h
  rcases h with (((((h | h) | h) | h) | h) | h) | h <;> (subst h; decide)
theorem atom_same {l : Bs} (hl : bracketB (l.headD 0).toNat = false) : aloneS (kindS l) l = atomS l := by
  have hb : (l == [40]) = false ∧ (l == [41]) = false := by
    constructor
    · rw [Bool.eq_false_iff]; intro h; rw [beq_iff_eq] at h; subst h; cases hl
    · rw [Bool.eq_false_iff]; intro h; rw [beq_iff_eq] at h; subst h; cases hl
  unfold kindS
  rw [hb.1, hb.2, if_neg Bool.false_ne_true, if_neg Bool.false_ne_true]
  cases h1 : operS l with
  | true =>
    have := oper_atom h1
    rw [if_pos rfl, this.1]; unfold aloneS; rw [this.2]; rfl
  | false =>
    rw [if_neg Bool.false_ne_true]
    cases h2 : numS l with
    | true => rw [if_pos rfl]; unfold atomS; rw [h2]; rfl
    | false =>
      rw [if_neg Bool.false_ne_true]
      cases h3 : quoteS l with
      | true => rw [if_pos rfl]; unfold atomS; rw [h3]; simp [aloneS]
      | false =>
        rw [if_neg Bool.false_ne_true]
        cases h4 : parS l with
        | true => rw [if_pos rfl]; unfold atomS; rw [h4]; simp [aloneS]
        | false =>
          rw [if_neg Bool.false_ne_true]
          cases h5 : wordS l with
          | true =>
            have f := word_facts h5
            rw [if_pos rfl]; unfold atomS; rw [h2, h3, h4, f.2.2.2.2.1]; simp [aloneS]
          | false =>
            have hv : valS l = false := by
              cases hv : valS l with
              | false => rfl
              | true => rw [val_word hv] at h5; cases h5
            rw [if_neg Bool.false_ne_true]
            cases h6 : colS l with
            | true => rw [if_pos rfl]; unfold atomS; rw [h6]; simp [aloneS]
            | false => rw [if_neg Bool.false_ne_true]; unfold atomS; rw [h2, h3, h4, h6, hv]; simp [aloneS, hv]
end Go.Proofs.YtilfjpmeededmaaGreatDoor

namespace Go.Proofs.YtilfjpmeededmaaGreatDoor
open Go.RowKit
def isBl (c : UInt8) : Bool := blankB c.toNat
def skN (l : Bs) : Nat := (l.takeWhile isBl).length
def RdIs (w : World) (rb : Nat) (s : ByteArray) (k : Nat) (v : Value) : Prop := w.heap[rb]? = some (.cells #[.string s, .int .i64 k, v] 357 (0, 0))
theorem cells3R {x : World} {b : Nat} {a0 a1 a2 : Value} {T : TypeId} (h : x.heap[b]? = some (.cells #[a0, a1, a2] T (0, 0))) :
    (x.cell? ⟨b, 0, none⟩ = some a0 ∧ x.cell? ⟨b, 1, none⟩ = some a1 ∧ x.cell? ⟨b, 2, none⟩ = some a2) ∧ (x.frozen? ⟨b, 1, none⟩ = false ∧ x.frozen? ⟨b, 2, none⟩ = false) := by
  simp [World.cell?, World.frozen?, h]
theorem RdIs.set {w : World} {rb : Nat} {s : ByteArray} {k : Nat} {v : Value} (h : RdIs w rb s k v) (k' : Nat) : RdIs (w.setCell ⟨rb, 1, none⟩ (.int .i64 k')) rb s k' v := by
  unfold RdIs at *; simp [World.setCell, Array.getElem?_modify, h]
theorem RdIs.inc {w : World} {rb : Nat} {s : ByteArray} {k : Nat} {v : Value} (h : RdIs w rb s k v) : RdIs (w.setCell ⟨rb, 1, none⟩ (.int .i64 ((k : Int) + 1))) rb s (k + 1) v := h.set (k + 1)
theorem RdIs.lt {w : World} {rb : Nat} {s : ByteArray} {k : Nat} {v : Value} (h : RdIs w rb s k v) : rb < w.heap.size := block_lt h
theorem grown_drewN {a w : World} {row : Option Nat} (h : a.grownBy w row) (n : Nat) : a.grownBy (w.drewN n) row := ⟨h.os, h.tape, h.output, h.size, h.block⟩
theorem RdIs.drewN {w : World} {rb : Nat} {s : ByteArray} {k : Nat} {v : Value} (h : RdIs w rb s k v) (n : Nat) : RdIs (w.drewN n) rb s k v := h
theorem sk_drop (s : ByteArray) (k : Nat) (h : k < s.size) : skN (s.toList.drop k) = if isBl s[k] then skN (s.toList.drop (k + 1)) + 1 else 0 := by
  unfold skN; rw [drop_cons s k h, List.takeWhile_cons]; split <;> simp
theorem sk_end (s : ByteArray) (k : Nat) (h : s.size ≤ k) : skN (s.toList.drop k) = 0 := by
  unfold skN; rw [List.drop_of_length_le (by rw [toList_length]; exact h)]; rfl
set_option maxHeartbeats 1600000 in
set_option maxRecDepth 100000 in
theorem skip_any (s : ByteArray) (hs : s.size ≤ 400) (w : World) (rb k0 : Nat) (v : Value) (h : RdIs w rb s k0 v) (hk0 : k0 ≤ s.size) :
    Calls Tryz.prog 259 #[.pointer (some ⟨rb, 0, none⟩)] w fun e w' => e = .returned (.bool (decide (0 < skN (s.toList.drop k0)))) ∧ k0 + skN (s.toList.drop k0) ≤ s.size ∧ w.grownBy w' (some rb) ∧ RdIs w' rb s (k0 + skN (s.toList.drop k0)) v := by
  obtain ⟨⟨y0, y1, y2⟩, f1, f2⟩ := cells3R h
  go_enter Tryz.func259, Tryz.ntmps259
  go_wp2_with fail
  go_loopg [8] (s.size - k0) (fun gk _ wr => ∃ k : Nat, gk = s.size - k ∧ k ≤ s.size ∧ k0 ≤ k ∧ Hid (k0 + skN (s.toList.drop k0) = k + skN (s.toList.drop k)) ∧ w.grownBy wr (some rb) ∧ RdIs wr rb s k v)
  case atStart => exact ⟨k0, rfl, hk0, Nat.le_refl _, rfl, grown_refl _ _, h⟩
  case round =>
    clear y0 y1 y2 f1 f2
    obtain ⟨k, hgk, hk, hkk, HA, hg, hR⟩ := hrel
    subst hgk
    obtain ⟨⟨y0, y1, y2⟩, f1, f2⟩ := cells3R hR
    by_cases hlt : k < s.size
    · have HS := sk_drop s k hlt
      replace HS : Hid _ := HS
      by_cases hb : blankB s[k].toNat = true
      · have HN : Hid (k0 + skN (s.toList.drop k0) = (k + 1) + skN (s.toList.drop (k + 1))) := by
          rw [Hid, HA.out, HS.out, isBl, hb]; simp; omega
        go_wp2_with fail
        go_quiet ((go_at_call 334; exact Calls.quiet_of_same (refBlank_any _ _)))
        go_wp2_with fail
        go_roundg (s.size - (k + 1))
        case measure => omega
        case rel => exact ⟨k + 1, rfl, by omega, by omega, HN, grown_drewN (grown_trans hg (grown_setCell _ _ _ _)) _, (hR.inc).drewN _⟩
      · rw [Bool.not_eq_true] at hb
        have HN : Hid (skN (s.toList.drop k) = 0) := by rw [Hid, HS.out, isBl, hb]; rfl
        have HT : Hid (k0 + skN (s.toList.drop k0) = k) := by rw [Hid, HA.out, HN.out]; rfl
        have HD : Hid (decide (0 < skN (s.toList.drop k0)) = decide (k0 < k)) := by rw [Hid, decide_eq_decide]; have := HT.out; omega
        clear HA HS HN
        go_wp2_with fail
        go_quiet ((go_at_call 334; exact Calls.quiet_of_same (refBlank_any _ _)))
        go_wp2_with fail
        go_ret
        exact ⟨ret_bool HD.out.symm, by rw [HT.out]; exact hk, grown_drewN hg _, by rw [HT.out]; exact hR⟩
    · have HN : Hid (skN (s.toList.drop k) = 0) := sk_end s k (by omega)
      have HT : Hid (k0 + skN (s.toList.drop k0) = k) := by rw [Hid, HA.out, HN.out]; rfl
      have HD : Hid (decide (0 < skN (s.toList.drop k0)) = decide (k0 < k)) := by rw [Hid, decide_eq_decide]; have := HT.out; omega
      have hge : decide ((k : Int) < (s.size : Int)) = false := by simp; omega
      clear HA HN
      go_wp2_with fail
      go_quiet ((go_at_call 334; exact Calls.quiet_of_same (refBlank_any _ _)))
      go_wp2_with fail
      go_ret
      exact ⟨ret_bool HD.out.symm, by rw [HT.out]; exact hk, grown_drewN hg _, by rw [HT.out]; exact hR⟩
end Go.Proofs.YtilfjpmeededmaaGreatDoor

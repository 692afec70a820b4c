/- What among and head of package curtainref answer; the equality of both packages' tests. -/
import Derived.Test.YtilfjpmeededmaaGreatDoorRef3
import Derived.Test.YtilfjpmeededmaaGreatDoorTree
namespace Go.Proofs.YtilfjpmeededmaaGreatDoor
open Go.RowKit

def amongB (l : List Bs) (x : Bs) : Bool := l.contains x
set_option maxHeartbeats 800000 in
set_option maxRecDepth 100000 in
theorem among_any (l : List Bs) (s : ByteArray) (w : World) (b off cap : Nat) (hl : l.length ≤ cap) (hcap : cap ≤ 100000) (hc : ∀ i (h : i < l.length), w.cell? ⟨b, off + i, none⟩ = some (.string (ofBs l[i]))) :
    Calls Tryz.prog 265 #[.slice (some ⟨b, off, none⟩) l.length cap, .string s] w fun e w' => e = .returned (.bool (amongB l s.toList)) ∧ w' = w := by
  have HC : Hid _ := hc
  clear hc
  go_enter Tryz.func265, Tryz.ntmps265
  go_wp2_with fail
  go_loop [5] (fun iv => ∃ k : Nat, k ≤ l.length ∧ iv = .int .i64 k ∧ Hid (amongB l s.toList = amongB (l.drop k) s.toList)) (fun i => l.length - (intOf i).toNat)
  case atStart => exact ⟨0, Nat.zero_le _, rfl, rfl⟩
  case round =>
    obtain ⟨k, hk, rfl, HA⟩ := hrel
    by_cases hlt : k < l.length
    · have hcell := HC.out k hlt
      have HD : Hid (amongB (l.drop k) s.toList = (l[k] == s.toList || amongB (l.drop (k + 1)) s.toList)) := by
        unfold amongB; rw [Hid, List.drop_eq_getElem_cons hlt, List.contains_cons]
        congr 1; rw [Bool.eq_iff_iff]; simp; exact eq_comm
      have ho : (ofBs l[k]).toList = l[k] := ofBs_toList _
      cases he : (l[k] == s.toList) with
      | true =>
        go_wp2_with fail
        go_ret
        exact ⟨ret_bool (by rw [HA.out, HD.out, he]; rfl), rfl⟩
      | false =>
        go_wp2_with fail
        go_round
        case rel => exact ⟨k + 1, by omega, by go_num, by rw [Hid, HA.out, HD.out, he]; rfl⟩
        case measure => simp [intOf]; omega
    · have HE : Hid (amongB (l.drop k) s.toList = false) := by
        rw [Hid, List.drop_of_length_le (by omega)]; rfl
      go_wp2_with fail
      go_ret
      exact ⟨ret_bool (by rw [HA.out, HE.out]), rfl⟩

def operList : List Bs := [[43], [45], [42], [47], [61], [60], [60, 61]]
theorem oper_contains (l : Bs) : amongB operList l = operS l := by
  unfold amongB operList operS
  simp only [List.contains_cons, List.contains_nil, Bool.or_false]
  simp only [Bool.or_assoc]

def headR (l : Bs) : Bool := operS l || (wordS l && !valS l)

set_option maxHeartbeats 1600000 in
set_option maxRecDepth 100000 in
theorem refHead_any (s : ByteArray) (w : World) (hs : s.size ≤ maxLen) :
    Calls Tryz.prog 261 #[.string s] w fun e w' => e = .returned (.bool (headR s.toList)) ∧ Below w.heap.size w w' := by
  have HO : ∀ x : World, Calls Tryz.prog 336 #[] x fun e w' => e = .returned (.slice (some ⟨x.heap.size, 0, none⟩) 7 7) ∧ w' = x.alloc (.cells (operList.map fun t => Value.string (ofBs t)).toArray 9) := by
    intro x
    go_enter Tryz.func336, Tryz.ntmps336
    go_wp2
    go_ret
    exact ⟨rfl, rfl⟩
  have HA : ∀ x : World, x.heap[w.heap.size]? = some (.cells (operList.map fun t => Value.string (ofBs t)).toArray 9 (0, 0)) → Calls Tryz.prog 265 #[.slice (some ⟨w.heap.size, 0, none⟩) 7 7, .string s] x fun e w' => e = .returned (.bool (operS s.toList)) ∧ w' = x := by
    intro x hx
    rw [← oper_contains]
    refine among_any operList s x w.heap.size 0 7 (by decide) (by omega) (fun i h => ?_)
    have h7 : i < operList.length := h
    simp [World.cell?, hx, h7]
  have HD : Hid (headR s.toList = (operS s.toList || (wordS s.toList && !valS s.toList))) := rfl
  obtain ⟨o, ho⟩ : ∃ o, o = Obj.cells (operList.map fun t => Value.string (ofBs t)).toArray 9 := ⟨_, rfl⟩
  rw [← ho] at HA
  simp only [← ho] at HO
  clear ho
  cases h1 : operS s.toList with
  | true =>
    rw [h1] at HD
    go_enter Tryz.func261, Tryz.ntmps261
    go_wp2_with (first | (go_at_call 336; refine (HO _).mono ?_; rintro e w2 ⟨rfl, rfl⟩) | (go_at_call 265; refine (HA _ (blk_new w o)).mono ?_; rintro e w3 ⟨rfl, rfl⟩) | (go_at_call 263; refine (refWord_any _ _ hs).mono ?_; rintro e w4 ⟨rfl, rfl⟩) | (go_at_call 264; refine (refConstant_any _ _).mono ?_; rintro e w5 ⟨rfl, rfl⟩))
    go_ret
    exact ⟨ret_bool (by rw [HD.out]; rfl), (Below.refl _ _).alloc (Nat.le_refl _) _⟩
  | false =>
    rw [h1] at HD
    cases h2 : wordS s.toList with
    | true =>
      rw [h2] at HD
      go_enter Tryz.func261, Tryz.ntmps261
      go_wp2_with (first | (go_at_call 336; refine (HO _).mono ?_; rintro e w2 ⟨rfl, rfl⟩) | (go_at_call 265; refine (HA _ (blk_new w o)).mono ?_; rintro e w3 ⟨rfl, rfl⟩) | (go_at_call 263; refine (refWord_any _ _ hs).mono ?_; rintro e w4 ⟨rfl, rfl⟩) | (go_at_call 264; refine (refConstant_any _ _).mono ?_; rintro e w5 ⟨rfl, rfl⟩))
      go_ret
      exact ⟨ret_bool (by rw [HD.out]; rfl), (Below.refl _ _).alloc (Nat.le_refl _) _⟩
    | false =>
      rw [h2] at HD
      go_enter Tryz.func261, Tryz.ntmps261
      go_wp2_with (first | (go_at_call 336; refine (HO _).mono ?_; rintro e w2 ⟨rfl, rfl⟩) | (go_at_call 265; refine (HA _ (blk_new w o)).mono ?_; rintro e w3 ⟨rfl, rfl⟩) | (go_at_call 263; refine (refWord_any _ _ hs).mono ?_; rintro e w4 ⟨rfl, rfl⟩) | (go_at_call 264; refine (refConstant_any _ _).mono ?_; rintro e w5 ⟨rfl, rfl⟩))
      go_ret
      exact ⟨ret_bool (by rw [HD.out]; rfl), (Below.refl _ _).alloc (Nat.le_refl _) _⟩

/-! What stands alone, what may be a head: the same by both. -/
theorem word_facts {l : Bs} (h : wordS l = true) : operS l = false ∧ numS l = false ∧ quoteS l = false ∧ parS l = false ∧ colS l = false ∧ (l == [40]) = false ∧ (l == [41]) = false := by
  unfold wordS at h
  simp only [Bool.and_eq_true, decide_eq_true_eq] at h
  obtain ⟨⟨⟨h1, _⟩, h2⟩, h3⟩ := h
  cases l with
  | nil => simp at h1
  | cons c r =>
    rw [List.headD_cons] at h2
    have hc : 97 ≤ (c.toNat : Int) ∧ (c.toNat : Int) ≤ 122 := by unfold letterB at h2; simpa using h2
    have key : ∀ n : Nat, n < 97 → (c == UInt8.ofNat n) = false := by
      intro n hn; rw [u8_eq c n (by omega)]; simp; omega
    have k43 := key 43 (by omega); have k45 := key 45 (by omega); have k42 := key 42 (by omega); have k47 := key 47 (by omega)
    have k61 := key 61 (by omega); have k60 := key 60 (by omega); have k48 := key 48 (by omega); have k39 := key 39 (by omega); have k36 := key 36 (by omega)
    have k40 := key 40 (by omega); have k41 := key 41 (by omega)
    have hcons : ∀ (d : UInt8) (t : Bs), (c == d) = false → ((c :: r) == (d :: t)) = false := by
      intro d t hd; rw [List.cons_beq_cons, hd]; rfl
    have hdot : (c :: r).contains 46 = false := by
      rw [Bool.eq_false_iff]; intro hm; rw [List.contains_iff_mem] at hm
      have := List.all_eq_true.mp h3 46 hm
      simp [ldB, letterB, digitB] at this
    refine ⟨?_, ?_, ?_, ?_, ?_, hcons 40 [] k40, hcons 41 [] k41⟩
    · unfold operS; rw [hcons 43 [] k43, hcons 45 [] k45, hcons 42 [] k42, hcons 47 [] k47, hcons 61 [] k61, hcons 60 [] k60, hcons 60 [61] k60]; rfl
    · rw [numS_rest _ (hcons 48 [] k48)]
      have e : unminus (c :: r) = c :: r := by unfold unminus; rw [if_neg]; rw [List.headD_cons]; intro h; rw [show (45 : UInt8) = UInt8.ofNat 45 from rfl, k45] at h; cases h
      rw [e, numR]
      have : (decide (49 ≤ (c.toNat : Int)) && decide ((c.toNat : Int) ≤ 57) || (decide ((c.toNat : Int) = 48) && decide ((0 : Int) < 0))) = false := by simp; omega
      rw [this]; simp
    · unfold quoteS
      have : ((c :: r).getD 0 0 == 39) = false := k39
      rw [this]; simp
    · unfold parS
      have : ((c :: r).headD 0 == 36) = false := k36
      rw [this]; simp
    · unfold colS; rw [hdot]; rfl
theorem head_same {l : Bs} (hl : bracketB (l.headD 0).toNat = false) : headS (kindS l) l = headR l := by
  have hb : (l == [40]) = false ∧ (l == [41]) = false := by
    constructor
    · rw [Bool.eq_false_iff]; intro h; rw [beq_iff_eq] at h; subst h; cases hl
    · rw [Bool.eq_false_iff]; intro h; rw [beq_iff_eq] at h; subst h; cases hl
  unfold kindS headR
  rw [hb.1, hb.2, if_neg Bool.false_ne_true, if_neg Bool.false_ne_true]
  cases h1 : operS l with
  | true => rw [if_pos rfl]; rfl
  | false =>
    rw [if_neg Bool.false_ne_true, Bool.false_or]
    cases h2 : wordS l with
    | true =>
      have f := word_facts h2
      rw [f.2.1, f.2.2.1, f.2.2.2.1, if_neg Bool.false_ne_true, if_neg Bool.false_ne_true, if_neg Bool.false_ne_true, if_pos rfl]; rfl
    | false =>
      have : ∀ k : Int, k ≠ 8 → k ≠ 5 → headS k l = false := by intro k h8 h5; simp [headS, h8, h5]
      rw [Bool.false_and]
      split
      · exact this 3 (by decide) (by decide)
      · split
        · exact this 4 (by decide) (by decide)
        · split
          · exact this 7 (by decide) (by decide)
          · rw [if_neg Bool.false_ne_true]
            split
            · exact this 6 (by decide) (by decide)
            · exact this 0 (by decide) (by decide)
theorem val_word {l : Bs} (h : valS l = true) : wordS l = true := by
  unfold valS at h
  simp only [Bool.or_eq_true, beq_iff_eq] at h
  rcases h with (h | h) | h <;> (subst h; decide)
theorem oper_atom {l : Bs} (h : operS l = true) : atomS l = false ∧ valS l = false := by
  unfold operS at h
  simp only [Bool.or_eq_true, beq_iff_eq] at h
  rcases h with (((((h | h) | h) | h) | h) | h) | h <;> (subst h; decide)
theorem atom_same {l : Bs} (hl : bracketB (l.headD 0).toNat = false) : aloneS (kindS l) l = atomS l := by
  have hb : (l == [40]) = false ∧ (l == [41]) = false := by
    constructor
    · rw [Bool.eq_false_iff]; intro h; rw [beq_iff_eq] at h; subst h; cases hl
    · rw [Bool.eq_false_iff]; intro h; rw [beq_iff_eq] at h; subst h; cases hl
  unfold kindS
  rw [hb.1, hb.2, if_neg Bool.false_ne_true, if_neg Bool.false_ne_true]
  cases h1 : operS l with
  | true =>
    have := oper_atom h1
    rw [if_pos rfl, this.1]; unfold aloneS; rw [this.2]; rfl
  | false =>
    rw [if_neg Bool.false_ne_true]
    cases h2 : numS l with
    | true => rw [if_pos rfl]; unfold atomS; rw [h2]; rfl
    | false =>
      rw [if_neg Bool.false_ne_true]
      cases h3 : quoteS l with
      | true => rw [if_pos rfl]; unfold atomS; rw [h3]; simp [aloneS]
      | false =>
        rw [if_neg Bool.false_ne_true]
        cases h4 : parS l with
        | true => rw [if_pos rfl]; unfold atomS; rw [h4]; simp [aloneS]
        | false =>
          rw [if_neg Bool.false_ne_true]
          cases h5 : wordS l with
          | true =>
            have f := word_facts h5
            rw [if_pos rfl]; unfold atomS; rw [h2, h3, h4, f.2.2.2.2.1]; simp [aloneS]
          | false =>
            have hv : valS l = false := by
              cases hv : valS l with
              | false => rfl
              | true => rw [val_word hv] at h5; cases h5
            rw [if_neg Bool.false_ne_true]
            cases h6 : colS l with
            | true => rw [if_pos rfl]; unfold atomS; rw [h6]; simp [aloneS]
            | false => rw [if_neg Bool.false_ne_true]; unfold atomS; rw [h2, h3, h4, h6, hv]; simp [aloneS, hv]
end Go.Proofs.YtilfjpmeededmaaGreatDoor

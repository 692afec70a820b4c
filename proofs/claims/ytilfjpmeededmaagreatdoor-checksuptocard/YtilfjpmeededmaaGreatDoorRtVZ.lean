import Derived.Test.YtilfjpmeededmaaGreatDoorTaEZ
import Derived.Test.YtilfjpmeededmaaGreatDoorRtCZ
import Derived.Test.YtilfjpmeededmaaGreatDoorRtH
import Derived.Test.YtilfjpmeededmaaGreatDoorAtDZ
import Derived.Deep.LoopGhost
import Derived.Deep.DeepCutAuto
import Derived.Deep.RegionHeld2
set_option linter.unusedVariables false
set_option linter.unusedSimpArgs false
namespace Go.Proofs.YtilfjpmeededmaaGreatDoor
open Go.RowKit
set_option maxHeartbeats 4000000 in
set_option maxRecDepth 100000 in
theorem refIsCell_n (k n : Int) (s : ByteArray) (w : World) : Calls Tryz.prog 190 #[.agg #[.int .i64 k, .int .i64 n, .string s], .int .u8 110] w fun e w' => e = .returned (.bool (fitsS (k, n, s.toList) 1)) ∧ Below w.heap.size w w' := by
  have hbx := below_box w (.cells #[.int .i64 k, .int .i64 n, .string s] 50)
  by_cases h0 : k = 0
  · subst h0
    have HR : Hid (fitsS (0, n, s.toList) 1 = ((n == 0) && s.toList.isEmpty)) := by
      rw [Hid, fitsS, isCellS, if_pos rfl]; simp
    cases hn : (n == 0) <;> rw [hn] at HR <;>
    · go_enter Tryz.func190, Tryz.ntmps190
      go_wp2_with fail
      go_ret
      exact ⟨by rw [HR.out]; rfl, hbx⟩
  · by_cases h1 : k = 1
    · subst h1
      have HR : Hid (fitsS (1, n, s.toList) 1 = (s.toList.isEmpty && (decide (-1000000000 ≤ n) && decide (n ≤ 1000000000)))) := by
        rw [Hid, fitsS, isCellS, if_neg (by omega), if_pos rfl, inRangeS]
        cases s.toList.isEmpty <;> simp
      cases he : s.toList.isEmpty <;> cases ha : decide (-1000000000 ≤ n) <;> cases hb : decide (n ≤ 1000000000) <;> rw [he, ha, hb] at HR <;>
      · go_enter Tryz.func190, Tryz.ntmps190
        go_wp2_with fail
        go_ret
        exact ⟨by rw [HR.out]; rfl, hbx⟩
    · by_cases h2 : k = 2
      · subst h2
        have HR : Hid (fitsS (2, n, s.toList) 1 = false) := by rw [Hid, fitsS]; simp
        · go_enter Tryz.func190, Tryz.ntmps190
          go_wp2_with fail
          go_ret
          exact ⟨by rw [HR.out]; rfl, hbx⟩
      · by_cases h3 : k = 3
        · subst h3
          have HR : Hid (fitsS (3, n, s.toList) 1 = false) := by rw [Hid, fitsS]; simp
          · go_enter Tryz.func190, Tryz.ntmps190
            go_wp2_with fail
            go_ret
            exact ⟨by rw [HR.out]; rfl, hbx⟩
        · have HR : Hid (fitsS (k, n, s.toList) 1 = false) := by rw [Hid, fitsS, isCellS, if_neg h0, if_neg h1, if_neg h2, if_neg h3]; rfl
          have e0 : (k == 0) = false := by simpa using h0
          have e1 : (k == 1) = false := by simpa using h1
          have e2 : (k == 2) = false := by simpa using h2
          have e3 : (k == 3) = false := by simpa using h3
          go_enter Tryz.func190, Tryz.ntmps190
          go_wp2_with fail
          go_ret
          exact ⟨by rw [HR.out]; rfl, hbx⟩
set_option maxHeartbeats 4000000 in
set_option maxRecDepth 100000 in
theorem refIsCell_t (k n : Int) (s : ByteArray) (w : World) : Calls Tryz.prog 190 #[.agg #[.int .i64 k, .int .i64 n, .string s], .int .u8 116] w fun e w' => e = .returned (.bool (fitsS (k, n, s.toList) 2)) ∧ Below w.heap.size w w' := by
  have hbx := below_box w (.cells #[.int .i64 k, .int .i64 n, .string s] 50)
  by_cases h0 : k = 0
  · subst h0
    have HR : Hid (fitsS (0, n, s.toList) 2 = ((n == 0) && s.toList.isEmpty)) := by
      rw [Hid, fitsS, isCellS, if_pos rfl]; simp
    cases hn : (n == 0) <;> rw [hn] at HR <;>
    · go_enter Tryz.func190, Tryz.ntmps190
      go_wp2_with fail
      go_ret
      exact ⟨by rw [HR.out]; rfl, hbx⟩
  · by_cases h1 : k = 1
    · subst h1
      have HR : Hid (fitsS (1, n, s.toList) 2 = false) := by rw [Hid, fitsS]; simp
      · go_enter Tryz.func190, Tryz.ntmps190
        go_wp2_with fail
        go_ret
        exact ⟨by rw [HR.out]; rfl, hbx⟩
    · by_cases h2 : k = 2
      · subst h2
        have HR : Hid (fitsS (2, n, s.toList) 2 = ((n == 0) && decide ((s.size : Int) ≤ 30))) := by
          have e : decide (s.toList.length ≤ 30) = decide ((s.size : Int) ≤ 30) := by rw [toList_length]; simp; omega
          rw [Hid, fitsS, isCellS, if_neg (by omega), if_neg (by omega), if_pos rfl, e]; simp
        cases hn : (n == 0) <;> cases hb : decide ((s.size : Int) ≤ 30) <;> rw [hn, hb] at HR <;>
        · go_enter Tryz.func190, Tryz.ntmps190
          go_wp2_with fail
          go_ret
          exact ⟨by rw [HR.out]; rfl, hbx⟩
      · by_cases h3 : k = 3
        · subst h3
          have HR : Hid (fitsS (3, n, s.toList) 2 = false) := by rw [Hid, fitsS]; simp
          · go_enter Tryz.func190, Tryz.ntmps190
            go_wp2_with fail
            go_ret
            exact ⟨by rw [HR.out]; rfl, hbx⟩
        · have HR : Hid (fitsS (k, n, s.toList) 2 = false) := by rw [Hid, fitsS, isCellS, if_neg h0, if_neg h1, if_neg h2, if_neg h3]; rfl
          have e0 : (k == 0) = false := by simpa using h0
          have e1 : (k == 1) = false := by simpa using h1
          have e2 : (k == 2) = false := by simpa using h2
          have e3 : (k == 3) = false := by simpa using h3
          go_enter Tryz.func190, Tryz.ntmps190
          go_wp2_with fail
          go_ret
          exact ⟨by rw [HR.out]; rfl, hbx⟩
set_option maxHeartbeats 4000000 in
set_option maxRecDepth 100000 in
theorem refIsCell_b (k n : Int) (s : ByteArray) (w : World) : Calls Tryz.prog 190 #[.agg #[.int .i64 k, .int .i64 n, .string s], .int .u8 98] w fun e w' => e = .returned (.bool (fitsS (k, n, s.toList) 3)) ∧ Below w.heap.size w w' := by
  have hbx := below_box w (.cells #[.int .i64 k, .int .i64 n, .string s] 50)
  by_cases h0 : k = 0
  · subst h0
    have HR : Hid (fitsS (0, n, s.toList) 3 = ((n == 0) && s.toList.isEmpty)) := by
      rw [Hid, fitsS, isCellS, if_pos rfl]; simp
    cases hn : (n == 0) <;> rw [hn] at HR <;>
    · go_enter Tryz.func190, Tryz.ntmps190
      go_wp2_with fail
      go_ret
      exact ⟨by rw [HR.out]; rfl, hbx⟩
  · by_cases h1 : k = 1
    · subst h1
      have HR : Hid (fitsS (1, n, s.toList) 3 = false) := by rw [Hid, fitsS]; simp
      · go_enter Tryz.func190, Tryz.ntmps190
        go_wp2_with fail
        go_ret
        exact ⟨by rw [HR.out]; rfl, hbx⟩
    · by_cases h2 : k = 2
      · subst h2
        have HR : Hid (fitsS (2, n, s.toList) 3 = false) := by rw [Hid, fitsS]; simp
        · go_enter Tryz.func190, Tryz.ntmps190
          go_wp2_with fail
          go_ret
          exact ⟨by rw [HR.out]; rfl, hbx⟩
      · by_cases h3 : k = 3
        · subst h3
          have HR : Hid (fitsS (3, n, s.toList) 3 = (s.toList.isEmpty && ((n == 0) || (n == 1)))) := by
            rw [Hid, fitsS, isCellS, if_neg (by omega), if_neg (by omega), if_neg (by omega), if_pos rfl]
            cases s.toList.isEmpty <;> simp
          cases he : s.toList.isEmpty <;> cases hn : (n == 0) <;> cases hm : (n == 1) <;> rw [he, hn, hm] at HR <;>
          · go_enter Tryz.func190, Tryz.ntmps190
            go_wp2_with fail
            go_ret
            exact ⟨by rw [HR.out]; rfl, hbx⟩
        · have HR : Hid (fitsS (k, n, s.toList) 3 = false) := by rw [Hid, fitsS, isCellS, if_neg h0, if_neg h1, if_neg h2, if_neg h3]; rfl
          have e0 : (k == 0) = false := by simpa using h0
          have e1 : (k == 1) = false := by simpa using h1
          have e2 : (k == 2) = false := by simpa using h2
          have e3 : (k == 3) = false := by simpa using h3
          go_enter Tryz.func190, Tryz.ntmps190
          go_wp2_with fail
          go_ret
          exact ⟨by rw [HR.out]; rfl, hbx⟩
theorem refIsCell_any (k n : Int) (s : ByteArray) (c : UInt8) (hc : tyLet c = true) (w : World) : Calls Tryz.prog 190 #[.agg #[.int .i64 k, .int .i64 n, .string s], .int .u8 (c.toNat : Int)] w fun e w' => e = .returned (.bool (fitsS (k, n, s.toList) (typeB c.toNat))) ∧ Below w.heap.size w w' := by
  unfold tyLet at hc
  simp only [Bool.or_eq_true, beq_iff_eq] at hc
  rcases hc with (rfl | rfl) | rfl
  · exact refIsCell_n k n s w
  · exact refIsCell_t k n s w
  · exact refIsCell_b k n s w
end Go.Proofs.YtilfjpmeededmaaGreatDoor

namespace Go.Proofs.YtilfjpmeededmaaGreatDoor
open Go.RowKit
theorem col_type (l : Bs) (n : Bs) (d : Int) : (colTyS (n, l, d) == 0) = !(l.all tyLet && decide (l.length = 1)) := by
  match l with
  | [] => rfl
  | [c] =>
    show (typeB c.toNat == 0) = !(([c] : Bs).all tyLet && true)
    simp only [List.all_cons, List.all_nil, Bool.and_true]
    cases h : tyLet c with
    | true =>
      have := (typeB_let h).1
      rw [show (!true) = false from rfl, beq_eq_false_iff_ne]
      rcases this with e | e | e <;> rw [e] <;> decide
    | false =>
      unfold tyLet at h
      simp only [Bool.or_eq_false_iff, beq_eq_false_iff_ne] at h
      have e1 : ¬ ((c.toNat : Int) = 110) := fun e => h.1.1 (UInt8.toNat_inj.mp (by simpa using Int.ofNat.inj e))
      have e2 : ¬ ((c.toNat : Int) = 116) := fun e => h.1.2 (UInt8.toNat_inj.mp (by simpa using Int.ofNat.inj e))
      have e3 : ¬ ((c.toNat : Int) = 98) := fun e => h.2 (UInt8.toNat_inj.mp (by simpa using Int.ofNat.inj e))
      simp [typeB, e1, e2, e3]
  | a :: b :: r => simp [colTyS]
theorem isCol_parts (c : ColT) : isColS c = (wordS c.1 && (c.2.1.all tyLet && decide (c.2.1.length = 1)) && decide (1 ≤ c.2.2) && decide (c.2.2 ≤ 1000000)) := by
  obtain ⟨n, l, d⟩ := c
  rw [isColS, col_type]; simp
theorem isTab_false {t : TabT} (h : ¬ (1 ≤ t.cols.length ∧ t.cols.length ≤ 4 ∧ 0 ≤ t.count ∧ t.count ≤ 1000000 ∧ t.rows.length ≤ 10)) : isTabS t = false := by
  cases hb : isTabS t with
  | false => rfl
  | true =>
    exfalso; apply h
    unfold isTabS areColsS areRowsS at hb
    simp only [Bool.and_eq_true, Bool.not_eq_true', Bool.or_eq_false_iff, decide_eq_false_iff_not, decide_eq_true_eq] at hb
    omega
theorem isTab_parts {t : TabT} (h : 1 ≤ t.cols.length ∧ t.cols.length ≤ 4 ∧ 0 ≤ t.count ∧ t.count ≤ 1000000 ∧ t.rows.length ≤ 10) : isTabS t = (colsFrom [] t.cols && t.rows.all fun r => rowS r t.cols) := by
  obtain ⟨h1, h2, h3, h4, h5⟩ := h
  unfold isTabS areColsS areRowsS
  rw [decide_eq_false (by omega), decide_eq_false (by omega), decide_eq_true h3, decide_eq_true h4, decide_eq_false (by omega)]
  simp
set_option maxHeartbeats 1600000 in
set_option maxRecDepth 100000 in
theorem refIsTable_bad (w : World) (t : TabT) (co : Option Addr) (cc : Nat) (ro : Option Addr) (rc : Nat) (uo : Option Addr) (un uc : Nat)
    (h : ¬ (1 ≤ t.cols.length ∧ t.cols.length ≤ 4 ∧ 0 ≤ t.count ∧ t.count ≤ 1000000 ∧ t.rows.length ≤ 10)) :
    Calls Tryz.prog 271 #[.agg #[.string (ofBs t.name), .slice co t.cols.length cc, .slice ro t.rows.length rc, .int .i64 t.count, .string (ofBs t.policy), .slice uo un uc]] w fun e w' => e = .returned (.bool (isTabS t)) ∧ Below w.heap.size w w' := by
  have HF : Hid (isTabS t = false) := isTab_false h
  have hBW := below_box w (.cells #[.string (ofBs t.name), .slice co t.cols.length cc, .slice ro t.rows.length rc, .int .i64 t.count, .string (ofBs t.policy), .slice uo un uc] 134)
  obtain ⟨nc, hnc⟩ : ∃ n, n = t.cols.length := ⟨_, rfl⟩
  obtain ⟨nr, hnr⟩ : ∃ n, n = t.rows.length := ⟨_, rfl⟩
  obtain ⟨ct, hct⟩ : ∃ n, n = t.count := ⟨_, rfl⟩
  rw [← hnc, ← hnr, ← hct] at h ⊢
  rw [← hnc, ← hnr, ← hct] at hBW
  clear hnc hnr hct
  by_cases h1 : nc < 1
  · have d1 : decide ((nc : Int) < 1) = true := by simp; omega
    go_enter Tryz.func271, Tryz.ntmps271
    go_wp2_with fail
    go_ret
    exact ⟨ret_bool HF.out.symm, hBW⟩
  · have d1 : decide ((nc : Int) < 1) = false := by simp; omega
    by_cases h2 : 4 < nc
    · have d2 : decide ((4 : Int) < (nc : Int)) = true := by simp; omega
      go_enter Tryz.func271, Tryz.ntmps271
      go_wp2_with fail
      go_ret
      exact ⟨ret_bool HF.out.symm, hBW⟩
    · have d2 : decide ((4 : Int) < (nc : Int)) = false := by simp; omega
      by_cases h3 : ct < 0
      · have d3 : decide (ct < 0) = true := decide_eq_true h3
        go_enter Tryz.func271, Tryz.ntmps271
        go_wp2_with fail
        go_ret
        exact ⟨ret_bool HF.out.symm, hBW⟩
      · have d3 : decide (ct < 0) = false := decide_eq_false h3
        by_cases h4 : 1000000 < ct
        · have d4 : decide (1000000 < ct) = true := decide_eq_true h4
          go_enter Tryz.func271, Tryz.ntmps271
          go_wp2_with fail
          go_ret
          exact ⟨ret_bool HF.out.symm, hBW⟩
        · have d4 : decide (1000000 < ct) = false := decide_eq_false h4
          have d5 : decide ((10 : Int) < (nr : Int)) = true := by simp; omega
          go_enter Tryz.func271, Tryz.ntmps271
          go_wp2_with fail
          go_ret
          exact ⟨ret_bool HF.out.symm, hBW⟩
end Go.Proofs.YtilfjpmeededmaaGreatDoor

namespace Go.Proofs.YtilfjpmeededmaaGreatDoor
open Go.RowKit
theorem col_false {c : ColT} {prev r : List ColT} (h : isColS c = false) : colsFrom prev (c :: r) = false := by rw [colsFrom, h]; rfl
theorem col_like {c : ColT} {prev r : List ColT} (h : likeS c.1 prev = true) : colsFrom prev (c :: r) = false := by
  rw [colsFrom, h]; simp
theorem col_next {c : ColT} {prev r : List ColT} (h : isColS c = true) (h2 : likeS c.1 prev = false) : colsFrom prev (c :: r) = colsFrom (prev ++ [c]) r := by
  rw [colsFrom, h, h2]; simp
set_option maxHeartbeats 8000000 in
set_option maxRecDepth 100000 in
theorem refIsTable_good (w : World) (t : TabT) (co : Option Addr) (cc : Nat) (ro : Option Addr) (rc : Nat) (uo : Option Addr) (un uc : Nat) (hC : ColsIn w (.slice co t.cols.length cc) t.cols) (hR : RowsIn w (.slice ro t.rows.length rc) t.rows)
    (h : 1 ≤ t.cols.length ∧ t.cols.length ≤ 4 ∧ 0 ≤ t.count ∧ t.count ≤ 1000000 ∧ t.rows.length ≤ 10) :
    Calls Tryz.prog 271 #[.agg #[.string (ofBs t.name), .slice co t.cols.length cc, .slice ro t.rows.length rc, .int .i64 t.count, .string (ofBs t.policy), .slice uo un uc]] w fun e w' => e = .returned (.bool (isTabS t)) ∧ Below w.heap.size w w' := by
  have HF : Hid (isTabS t = (colsFrom [] t.cols && t.rows.all fun r => rowS r t.cols)) := isTab_parts h
  obtain ⟨h1, h2, h3, h4, h5⟩ := h
  have d1 : decide ((t.cols.length : Int) < 1) = false := by simp; omega
  have d2 : decide ((4 : Int) < (t.cols.length : Int)) = false := by simp; omega
  have d3 : decide (t.count < 0) = false := decide_eq_false (by omega)
  have d4 : decide (1000000 < t.count) = false := decide_eq_false (by omega)
  have d5 : decide ((10 : Int) < (t.rows.length : Int)) = false := by simp; omega
  obtain ⟨W, hW⟩ : ∃ W, W = w.alloc (.cells #[.string (ofBs t.name), .slice co t.cols.length cc, .slice ro t.rows.length rc, .int .i64 t.count, .string (ofBs t.policy), .slice uo un uc] 134) := ⟨_, rfl⟩
  have HATW : Hid (w.alloc (.cells #[.string (ofBs t.name), .slice co t.cols.length cc, .slice ro t.rows.length rc, .int .i64 t.count, .string (ofBs t.policy), .slice uo un uc] 134) = W) := hW.symm
  have hBW : Below w.heap.size w W := by rw [hW]; exact below_box w _
  have hbx : W.heap[w.heap.size]? = some (.cells #[.string (ofBs t.name), .slice co t.cols.length cc, .slice ro t.rows.length rc, .int .i64 t.count, .string (ofBs t.policy), .slice uo un uc] 134 (0, 0)) := by rw [hW]; exact heap_alloc_new w _
  have hsW : W.heap.size = w.heap.size + 1 := by rw [hW]; simp [World.size_alloc]
  have HKEEP : ∀ x : World, Below W.heap.size W x → x.cell? ⟨w.heap.size, 1, none⟩ = some (.slice co t.cols.length cc) ∧ x.cell? ⟨w.heap.size, 2, none⟩ = some (.slice ro t.rows.length rc) ∧ w.heap.size < x.heap.size := by
    intro x hx
    have b0 := (hx.block w.heap.size (by omega)).trans hbx
    have := hx.size
    exact ⟨(blk_at b0).trans rfl, (blk_at b0).trans rfl, by omega⟩
  obtain ⟨ao, cap, he, hcap, hml, hz⟩ := hC
  cases he
  obtain ⟨b, off, rfl, hb, hc⟩ : ∃ b off, co = some ⟨b, off, none⟩ ∧ b < w.heap.size ∧ ∀ (i : Nat) (c : ColT), t.cols[i]? = some c → (w.cell? ⟨b, off + i * 3, none⟩ = some (.string (ofBs c.1)) ∧ w.cell? ⟨b, off + i * 3 + 1, none⟩ = some (.string (ofBs c.2.1)) ∧ w.cell? ⟨b, off + i * 3 + 2, none⟩ = some (.int .i64 c.2.2)) ∧ c.1.length ≤ maxLen ∧ c.2.1.length ≤ maxLen := by
    rcases hz with h | h
    · rw [h] at h1; simp at h1
    · exact h
  obtain ⟨nc, hnc⟩ : ∃ n, n = t.cols.length := ⟨_, rfl⟩
  obtain ⟨nr, hnr⟩ : ∃ n, n = t.rows.length := ⟨_, rfl⟩
  rw [← hnc] at h1 h2 d1 d2 hbx HATW ⊢
  rw [← hnr] at h5 d5 hbx HATW ⊢
  simp only [← hnc, ← hnr] at HKEEP
  rw [← hnc] at hcap
  have HNC : Hid _ := hnc
  have HNR : Hid _ := hnr
  have HC : Hid _ := hc
  have HR : Hid _ := hR
  clear hW hnc hnr hz hml hc hR
  go_enter Tryz.func271, Tryz.ntmps271
  go_wp2_with fail
  rw [HATW.out]
  clear HATW
  go_loopg [3] nc (fun gk iv wr => ∃ i : Nat, gk = nc - i ∧ i ≤ nc ∧ iv = .int .i64 i ∧ Below W.heap.size W wr ∧ Hid (colsFrom [] t.cols = colsFrom (t.cols.take i) (t.cols.drop i)))
  case atStart => exact ⟨0, rfl, Nat.zero_le _, rfl, Below.refl _ _, rfl⟩
  case round =>
    obtain ⟨i, hgk, hi, rfl, hBi, HI⟩ := hrel
    subst hgk
    generalize hwo : wr = wo at *
    clear hwo
    obtain ⟨y1, y2, hbo⟩ := HKEEP wo hBi
    have hsi := hBi.size
    have Bwo : Below w.heap.size w wo := hBW.trans (hBi.mono hBW.size)
    by_cases hlt : i < nc
    · have hlt' : i < t.cols.length := by have := HNC.out; omega
      obtain ⟨c, hce⟩ : ∃ c, c = t.cols[i] := ⟨_, rfl⟩
      obtain ⟨⟨p0, p1, p2⟩, hn1, hn2⟩ := HC.out i c (by rw [hce]; exact List.getElem?_eq_getElem hlt')
      have q0 := (Bwo.cell (p := ⟨b, off + i * 3, none⟩) hb).trans p0
      have q1 := (Bwo.cell (p := ⟨b, off + i * 3 + 1, none⟩) hb).trans p1
      have q2 := (Bwo.cell (p := ⟨b, off + i * 3 + 2, none⟩) hb).trans p2
      have hbl : b < wo.heap.size := by have := Bwo.size; omega
      have hd : t.cols.drop i = c :: t.cols.drop (i + 1) := by rw [hce]; exact List.drop_eq_getElem_cons hlt'
      have htk : t.cols.take (i + 1) = t.cols.take i ++ [c] := by rw [List.take_succ_eq_append_getElem hlt', ← hce]
      rw [hd] at HI
      have HWd : ∀ x : World, Calls Tryz.prog 263 #[.string (ofBs c.1)] x fun e w' => e = .returned (.bool (wordS c.1)) ∧ w' = x := by
        intro x; have := refWord_any (ofBs c.1) x (by rw [ofBs_size]; exact hn1); rw [ofBs_toList] at this; exact this
      have HTy : ∀ x : World, Calls Tryz.prog 267 #[.string (ofBs c.2.1)] x fun e w' => e = .returned (.bool (c.2.1.all tyLet)) ∧ w' = x := by
        intro x; have := refTypes_any (ofBs c.2.1) x (by rw [ofBs_size]; exact hn2); rw [ofBs_toList] at this; exact this
      have hparts := isCol_parts c
      have hsz2 : (ofBs c.2.1).size = c.2.1.length := ofBs_size _
      obtain ⟨wd, hwd⟩ : ∃ b, b = wordS c.1 := ⟨_, rfl⟩
      obtain ⟨ty, hty⟩ : ∃ b, b = c.2.1.all tyLet := ⟨_, rfl⟩
      rw [← hwd] at HWd hparts
      rw [← hty] at HTy hparts
      have HPA : Hid _ := hparts
      have HTK : Hid _ := htk
      clear hwd hty hparts hce hd htk p0 p1 p2
      cases wd with
      | false =>
        have HIF : Hid (isTabS t = false) := by rw [Hid, HF.out, HI.out, col_false (by rw [HPA.out]; rfl)]; rfl
        go_wp2_with (first
          | (go_at_call 263; refine (HWd _).mono ?_; rintro e w5 ⟨rfl, rfl⟩)
          | (go_at_call 267; refine (HTy _).mono ?_; rintro e w5 ⟨rfl, rfl⟩))
        go_ret
        exact ⟨ret_bool HIF.out.symm, Bwo.alloc Bwo.size _⟩
      | true =>
        cases ty with
        | false =>
          have HIF : Hid (isTabS t = false) := by rw [Hid, HF.out, HI.out, col_false (by rw [HPA.out]; rfl)]; rfl
          go_wp2_with (first
            | (go_at_call 263; refine (HWd _).mono ?_; rintro e w5 ⟨rfl, rfl⟩)
            | (go_at_call 267; refine (HTy _).mono ?_; rintro e w5 ⟨rfl, rfl⟩))
          go_ret
          exact ⟨ret_bool HIF.out.symm, Bwo.alloc Bwo.size _⟩
        | true =>
          by_cases hl1 : c.2.1.length = 1
          · have e1 : (((ofBs c.2.1).size : Int) != 1) = false := by rw [hsz2, hl1]; rfl
            clear hsz2
            by_cases hd1 : c.2.2 < 1
            · have e2 : decide (c.2.2 < 1) = true := decide_eq_true hd1
              have HIF : Hid (isTabS t = false) := by rw [Hid, HF.out, HI.out, col_false (by rw [HPA.out]; rw [decide_eq_false (show ¬ 1 ≤ c.2.2 by omega)]; simp)]; rfl
              go_wp2_with (first
                | (go_at_call 263; refine (HWd _).mono ?_; rintro e w5 ⟨rfl, rfl⟩)
                | (go_at_call 267; refine (HTy _).mono ?_; rintro e w5 ⟨rfl, rfl⟩))
              go_ret
              exact ⟨ret_bool HIF.out.symm, Bwo.alloc Bwo.size _⟩
            · have e2 : decide (c.2.2 < 1) = false := decide_eq_false hd1
              by_cases hd2 : 1000000 < c.2.2
              · have e3 : decide (1000000 < c.2.2) = true := decide_eq_true hd2
                have HIF : Hid (isTabS t = false) := by rw [Hid, HF.out, HI.out, col_false (by rw [HPA.out]; rw [decide_eq_false (show ¬ c.2.2 ≤ 1000000 by omega)]; simp)]; rfl
                go_wp2_with (first
                  | (go_at_call 263; refine (HWd _).mono ?_; rintro e w5 ⟨rfl, rfl⟩)
                  | (go_at_call 267; refine (HTy _).mono ?_; rintro e w5 ⟨rfl, rfl⟩))
                go_ret
                exact ⟨ret_bool HIF.out.symm, Bwo.alloc Bwo.size _⟩
              · have e3 : decide (1000000 < c.2.2) = false := decide_eq_false hd2
                have HCO : Hid (isColS c = true) := by
                  rw [Hid, HPA.out, decide_eq_true hl1, decide_eq_true (show 1 ≤ c.2.2 by omega), decide_eq_true (show c.2.2 ≤ 1000000 by omega)]; rfl
                have hbx2 := below_box wo (.cells #[.string (ofBs c.1), .string (ofBs c.2.1), .int .i64 c.2.2] 162)
                have hcb := heap_alloc_new wo (.cells #[.string (ofBs c.1), .string (ofBs c.2.1), .int .i64 c.2.2] 162)
                have hs2 : (wo.alloc (.cells #[.string (ofBs c.1), .string (ofBs c.2.1), .int .i64 c.2.2] 162)).heap.size = wo.heap.size + 1 := by simp [World.size_alloc]
                obtain ⟨W2, hW2⟩ : ∃ W2, W2 = wo.alloc (.cells #[.string (ofBs c.1), .string (ofBs c.2.1), .int .i64 c.2.2] 162) := ⟨_, rfl⟩
                have HATW2 : Hid (wo.alloc (.cells #[.string (ofBs c.1), .string (ofBs c.2.1), .int .i64 c.2.2] 162) = W2) := hW2.symm
                rw [← hW2] at hbx2 hcb hs2
                clear hW2 hl1 hd1 hd2
                go_wp2_with (first
                  | (go_at_call 263; refine (HWd _).mono ?_; rintro e w5 ⟨rfl, rfl⟩)
                  | (go_at_call 267; refine (HTy _).mono ?_; rintro e w5 ⟨rfl, rfl⟩))
                rw [HATW2.out]
                clear HATW2 HWd HTy q0 q1 q2 y1 y2 e1 e2 e3
                go_loopw [7] (fun jv wx => ∃ j : Nat, j ≤ i ∧ jv = .int .i64 j ∧ Below W2.heap.size W2 wx ∧ Hid (likeS c.1 (t.cols.take i) = likeS c.1 ((t.cols.take i).drop j))) (fun jv _ => i - (intOf jv).toNat)
                case atStart => exact ⟨0, Nat.zero_le _, rfl, Below.refl _ _, rfl⟩
                case round =>
                  obtain ⟨j, hj, rfl, hBj, HJ⟩ := hrel
                  generalize hwj : wr = wj at *
                  clear hwj
                  have Bwj2 : Below wo.heap.size wo wj := hbx2.trans (hBj.mono hbx2.size)
                  have BWj : Below W.heap.size W wj := hBi.trans (Bwj2.mono hBi.size)
                  have Bwj : Below w.heap.size w wj := Bwo.trans (Bwj2.mono Bwo.size)
                  obtain ⟨y1, y2, hbj⟩ := HKEEP wj BWj
                  have hcj : wj.cell? ⟨wo.heap.size, 0, none⟩ = some (.string (ofBs c.1)) := (blk_at ((hBj.block wo.heap.size (by omega)).trans hcb)).trans rfl
                  have hwoj : wo.heap.size < wj.heap.size := by have := hBj.size; omega
                  have hblj : b < wj.heap.size := by omega
                  by_cases hlj : j < i
                  · have hlj' : j < t.cols.length := by omega
                    obtain ⟨⟨p0, _, _⟩, _⟩ := HC.out j t.cols[j] (List.getElem?_eq_getElem hlj')
                    have q0 := (Bwj.cell (p := ⟨b, off + j * 3, none⟩) hb).trans p0
                    have hjc : j < nc := by omega
                    have ho1 : (ofBs t.cols[j].1).toList = t.cols[j].1 := ofBs_toList _
                    have ho2 : (ofBs c.1).toList = c.1 := ofBs_toList _
                    have HD : Hid (likeS c.1 ((t.cols.take i).drop j) = ((t.cols[j].1 == c.1) || likeS c.1 ((t.cols.take i).drop (j + 1)))) := by
                      have hjt : j < (t.cols.take i).length := by rw [List.length_take]; omega
                      rw [Hid, List.drop_eq_getElem_cons hjt]
                      simp [likeS, List.getElem_take]
                    clear p0
                    cases heq : (t.cols[j].1 == c.1) with
                    | true =>
                      have HIF : Hid (isTabS t = false) := by rw [Hid, HF.out, HI.out, col_like (by rw [HJ.out, HD.out, heq]; rfl)]; rfl
                      clear HD HJ HI
                      go_wp2_with fail
                      go_region
                      all_goals (try go_wp2_with fail)
                      all_goals go_ret
                      all_goals exact ⟨ret_bool HIF.out.symm, by first | exact Bwj | exact Bwj.drew⟩
                    | false =>
                      have HJ2 : Hid (likeS c.1 (t.cols.take i) = likeS c.1 ((t.cols.take i).drop (j + 1))) := by rw [Hid, HJ.out, HD.out, heq]; rfl
                      clear HD HJ
                      go_wp2_with fail
                      go_region
                      all_goals (try go_wp2_with fail)
                      all_goals go_roundw
                      case rel => exact ⟨j + 1, by omega, by go_num, by first | exact hBj | exact hBj.drew, HJ2⟩
                      case measure => simp [intOf]; omega
                  · have HNX : Hid (colsFrom [] t.cols = colsFrom (t.cols.take (i + 1)) (t.cols.drop (i + 1))) := by
                      have hlk : likeS c.1 (t.cols.take i) = false := by rw [HJ.out, List.drop_of_length_le (by rw [List.length_take]; omega)]; rfl
                      rw [Hid, HI.out, col_next HCO.out hlk, HTK.out]
                    clear HJ HI
                    go_wp2_with fail
                    go_roundg (nc - (i + 1))
                    case measure => omega
                    case rel => exact ⟨i + 1, rfl, by omega, by go_num, BWj, HNX⟩
          · have e1 : (((ofBs c.2.1).size : Int) != 1) = true := by rw [hsz2]; simp; omega
            clear hsz2
            have HIF : Hid (isTabS t = false) := by rw [Hid, HF.out, HI.out, col_false (by rw [HPA.out]; rw [decide_eq_false hl1]; rfl)]; rfl
            go_wp2_with (first
              | (go_at_call 263; refine (HWd _).mono ?_; rintro e w5 ⟨rfl, rfl⟩)
              | (go_at_call 267; refine (HTy _).mono ?_; rintro e w5 ⟨rfl, rfl⟩))
            go_ret
            exact ⟨ret_bool HIF.out.symm, Bwo.alloc Bwo.size _⟩
    · have hie : i = nc := by omega
      subst hie
      have hct : colsFrom [] t.cols = true := by rw [HI.out, List.drop_of_length_le (by have := HNC.out; omega)]; rfl
      have HCOLS : Hid (∀ c ∈ t.cols, isColS c = true) := colsFrom_word t.cols [] hct
      have HF2 : Hid (isTabS t = t.rows.all fun r => rowS r t.cols) := by rw [Hid, HF.out, hct, Bool.true_and]
      obtain ⟨ro2, rcap, hre, hrl, hrz⟩ := HR.out
      cases hre
      have HRZ : Hid _ := hrz
      clear HI HF HR hct hrz hrl
      go_wp2_with fail
      go_loopg [8] nr (fun gk iv wx => ∃ r : Nat, gk = nr - r ∧ r ≤ nr ∧ iv = .int .i64 r ∧ Below W.heap.size W wx ∧ Hid ((t.rows.all fun r => rowS r t.cols) = (t.rows.drop r).all fun r => rowS r t.cols))
      case atStart => exact ⟨0, rfl, Nat.zero_le _, rfl, hBi, rfl⟩
      case round =>
        clear hBi y1 y2 hbo hsi Bwo
        obtain ⟨r, hgk, hr, rfl, hBr, HRR⟩ := hrel
        subst hgk
        generalize hwq : wr = wq at *
        clear hwq
        obtain ⟨y1, y2, hbo⟩ := HKEEP wq hBr
        have Bwq : Below w.heap.size w wq := hBW.trans (hBr.mono hBW.size)
        by_cases hlr : r < nr
        · have hlr' : r < t.rows.length := by have := HNR.out; omega
          obtain ⟨rb, roff, rfl, hrb, hrc⟩ : ∃ b off, ro = some ⟨b, off, none⟩ ∧ b < w.heap.size ∧ ∀ (i : Nat) (r : List CellT), t.rows[i]? = some r → ∃ ro rn rc, w.cell? ⟨b, off + i, none⟩ = some (.slice ro rn rc) ∧ CellsIn w (.slice ro rn rc) r := by
            rcases HRZ.out with h | h
            · rw [h] at hlr'; simp at hlr'
            · exact h
          obtain ⟨row, hrow⟩ : ∃ row, row = t.rows[r] := ⟨_, rfl⟩
          obtain ⟨so, sn, sc, p0, hcs⟩ := hrc r row (by rw [hrow]; exact List.getElem?_eq_getElem hlr')
          obtain ⟨so2, scap, hse, hsl, hsz⟩ := hcs
          cases hse
          have q0 := (Bwq.cell (p := ⟨rb, roff + r, none⟩) hrb).trans p0
          have hrbq : rb < wq.heap.size := by have := Bwq.size; omega
          have HDR : Hid (((t.rows.drop r).all fun r => rowS r t.cols) = (rowS row t.cols && (t.rows.drop (r + 1)).all fun r => rowS r t.cols)) := by
            rw [Hid, List.drop_eq_getElem_cons hlr', List.all_cons, ← hrow]
          have HSZ : Hid _ := hsz
          have HP0 : Hid _ := p0
          clear hrc p0 hrow hsz
          by_cases hle : row.length = i
          · have hne : ((row.length : Int) != (i : Int)) = false := by rw [hle]; simp
            have HLE : Hid _ := hle
            clear hle
            go_wp2_with fail
            go_region
            all_goals (try go_wp2_with fail)
            go_loopg [9] i (fun gk jv wx => ∃ j : Nat, gk = i - j ∧ j ≤ i ∧ jv = .int .i64 j ∧ Below wq.heap.size wq wx ∧ Hid (rowS row t.cols = rowS (row.drop j) (t.cols.drop j)))
            case atStart => exact ⟨0, rfl, Nat.zero_le _, rfl, (Below.refl _ wq).drew, rfl⟩
            case round =>
              clear y1 y2 hbo q0
              obtain ⟨j, hgk, hj, rfl, hBj, HJ⟩ := hrel
              subst hgk
              generalize hwj : wr = wj at *
              clear hwj
              have BWj : Below W.heap.size W wj := hBr.trans (hBj.mono hBr.size)
              have Bwj : Below w.heap.size w wj := Bwq.trans (hBj.mono Bwq.size)
              obtain ⟨y1, y2, hbo⟩ := HKEEP wj BWj
              by_cases hlj : j < i
              · have hjc : j < t.cols.length := by have := HNC.out; omega
                have hjr : j < row.length := by have := HLE.out; omega
                obtain ⟨c, hce⟩ : ∃ c, c = t.cols[j] := ⟨_, rfl⟩
                obtain ⟨⟨_, p1, _⟩, _⟩ := HC.out j c (by rw [hce]; exact List.getElem?_eq_getElem hjc)
                have hco := HCOLS.out c (by rw [hce]; exact List.getElem_mem hjc)
                rw [isCol_parts] at hco
                simp only [Bool.and_eq_true, decide_eq_true_eq] at hco
                obtain ⟨ch, hch⟩ : ∃ ch, c.2.1 = [ch] := by
                  have := hco.1.1.2.2
                  match c.2.1, this with
                  | [ch], _ => exact ⟨ch, rfl⟩
                have htl : tyLet ch = true := by have := hco.1.1.2.1; rw [hch] at this; simpa using this
                obtain ⟨sb, soff, rfl, hsb, hsc⟩ : ∃ b off, so = some ⟨b, off, none⟩ ∧ b < w.heap.size ∧ ∀ (i : Nat) (c : CellT), row[i]? = some c → w.cell? ⟨b, off + i * 3, none⟩ = some (.int .i64 c.1) ∧ w.cell? ⟨b, off + i * 3 + 1, none⟩ = some (.int .i64 c.2.1) ∧ w.cell? ⟨b, off + i * 3 + 2, none⟩ = some (.string (ofBs c.2.2)) := by
                  rcases HSZ.out with h | h
                  · rw [h] at hjr; simp at hjr
                  · exact h
                obtain ⟨ce, hcell⟩ : ∃ ce, ce = row[j] := ⟨_, rfl⟩
                obtain ⟨s0, s1, s2⟩ := hsc j ce (by rw [hcell]; exact List.getElem?_eq_getElem hjr)
                have t0 := (Bwj.cell (p := ⟨sb, soff + j * 3, none⟩) hsb).trans s0
                have t1 := (Bwj.cell (p := ⟨sb, soff + j * 3 + 1, none⟩) hsb).trans s1
                have t2 := (Bwj.cell (p := ⟨sb, soff + j * 3 + 2, none⟩) hsb).trans s2
                have u1 := (Bwj.cell (p := ⟨b, off + j * 3 + 1, none⟩) hb).trans p1
                rw [hch, show ofBs [ch] = ⟨#[ch]⟩ from rfl] at u1
                obtain ⟨so', sn', sc', p0', hcs'⟩ : ∃ ro rn rc, w.cell? ⟨rb, roff + r, none⟩ = some (.slice ro rn rc) ∧ (Value.slice ro rn rc = .slice (some ⟨sb, soff, none⟩) row.length sc) := ⟨_, _, _, HP0.out, rfl⟩
                cases hcs'
                have q0 := (Bwj.cell (p := ⟨rb, roff + r, none⟩) hrb).trans p0'
                have hlt1 : sb < wj.heap.size := by have := Bwj.size; omega
                have hlt2 : b < wj.heap.size := by have := Bwj.size; omega
                have hlt3 : rb < wj.heap.size := by have := Bwj.size; omega
                have hty : colTyS c = typeB ch.toNat := by obtain ⟨n, l, d⟩ := c; have : l = [ch] := hch; subst this; rfl
                have HD : Hid (rowS (row.drop j) (t.cols.drop j) = (fitsS (ce.1, ce.2.1, ce.2.2) (typeB ch.toNat) && rowS (row.drop (j + 1)) (t.cols.drop (j + 1)))) := by
                  rw [Hid, List.drop_eq_getElem_cons hjr, List.drop_eq_getElem_cons hjc, rowS, ← hcell, ← hce, hty]
                have HIC : ∀ x : World, Below wj.heap.size wj x → Calls Tryz.prog 190 #[.agg #[.int .i64 ce.1, .int .i64 ce.2.1, .string (ofBs ce.2.2)], .int .u8 (ch.toNat : Int)] x fun e w' => e = .returned (.bool (fitsS (ce.1, ce.2.1, ce.2.2) (typeB ch.toNat))) ∧ Below wj.heap.size wj w' := by
                  intro x hx
                  have := refIsCell_any ce.1 ce.2.1 (ofBs ce.2.2) ch htl x
                  rw [ofBs_toList] at this
                  exact this.mono fun e w' h => ⟨h.1, hx.trans (h.2.mono hx.size)⟩
                obtain ⟨ok, hok⟩ : ∃ b, b = fitsS (ce.1, ce.2.1, ce.2.2) (typeB ch.toNat) := ⟨_, rfl⟩
                rw [← hok] at HD
                simp only [← hok] at HIC
                have hrl2 : j < row.length := hjr
                have HLE3 : row.length = i := HLE.out
                rw [HLE3] at q0
                clear hok hty hcell hce hco p1 s0 s1 s2 p0' hsc htl hch hrl2 HLE3 hjr hjc
                go_upto_region 24 with fail
                go_cut [10] (fun s10 wx => s10 = .bool ok ∧ Below wj.heap.size wj wx)
                case first =>
                  have HKP : ∀ x : World, Below wj.heap.size wj x → x.cell? ⟨w.heap.size, 1, none⟩ = some (.slice (some ⟨b, off, none⟩) i cc) ∧ x.cell? ⟨w.heap.size, 2, none⟩ = some (.slice (some ⟨rb, roff, none⟩) nr rc) ∧ x.cell? ⟨rb, roff + r, none⟩ = some (.slice (some ⟨sb, soff, none⟩) i sc) ∧ x.cell? ⟨sb, soff + j * 3, none⟩ = some (.int .i64 ce.1) ∧ x.cell? ⟨sb, soff + j * 3 + 1, none⟩ = some (.int .i64 ce.2.1) ∧ x.cell? ⟨sb, soff + j * 3 + 2, none⟩ = some (.string (ofBs ce.2.2)) ∧ x.cell? ⟨b, off + j * 3 + 1, none⟩ = some (.string ⟨#[ch]⟩) := fun x hx => ⟨(hx.cell (p := ⟨w.heap.size, 1, none⟩) hbo).trans y1, (hx.cell (p := ⟨w.heap.size, 2, none⟩) hbo).trans y2, (hx.cell (p := ⟨rb, roff + r, none⟩) hlt3).trans q0, (hx.cell (p := ⟨sb, soff + j * 3, none⟩) hlt1).trans t0, (hx.cell (p := ⟨sb, soff + j * 3 + 1, none⟩) hlt1).trans t1, (hx.cell (p := ⟨sb, soff + j * 3 + 2, none⟩) hlt1).trans t2, (hx.cell (p := ⟨b, off + j * 3 + 1, none⟩) hlt2).trans u1⟩
                  go_region_held2 (fun x => x.cell? ⟨w.heap.size, 1, none⟩ = some (.slice (some ⟨b, off, none⟩) i cc) ∧ x.cell? ⟨w.heap.size, 2, none⟩ = some (.slice (some ⟨rb, roff, none⟩) nr rc) ∧ x.cell? ⟨rb, roff + r, none⟩ = some (.slice (some ⟨sb, soff, none⟩) i sc) ∧ x.cell? ⟨sb, soff + j * 3, none⟩ = some (.int .i64 ce.1) ∧ x.cell? ⟨sb, soff + j * 3 + 1, none⟩ = some (.int .i64 ce.2.1) ∧ x.cell? ⟨sb, soff + j * 3 + 2, none⟩ = some (.string (ofBs ce.2.2)) ∧ x.cell? ⟨b, off + j * 3 + 1, none⟩ = some (.string ⟨#[ch]⟩)) (go_keep) (first | (go_at_call 190; refine (HIC _ ?_).mono ?_; (first | exact Below.refl _ wj | exact (Below.refl _ wj).drew); rintro e w3 ⟨rfl, hb3⟩; obtain ⟨g1, g2, g3, g4, g5, g6, g7⟩ := HKP w3 hb3))
                  all_goals (go_wp2_with fail; go_meet)
                  all_goals exact ⟨rfl, by first | exact hb3 | exact hb3.drew⟩
                case rest =>
                  obtain ⟨rfl, hBc⟩ := hcut
                  have BF : Below w.heap.size w wc := Bwj.trans (hBc.mono Bwj.size)
                  have BQ : Below wq.heap.size wq wc := hBj.trans (hBc.mono hBj.size)
                  cases ok with
                  | true =>
                    have HJ2 : Hid (rowS row t.cols = rowS (row.drop (j + 1)) (t.cols.drop (j + 1))) := by rw [Hid, HJ.out, HD.out]; rfl
                    clear HD HJ
                    go_wp2_with fail
                    go_roundg (i - (j + 1))
                    case measure => omega
                    case rel => exact ⟨j + 1, rfl, by omega, by go_num, BQ, HJ2⟩
                  | false =>
                    have HIF : Hid (isTabS t = false) := by rw [Hid, HF2.out, HRR.out, HDR.out, HJ.out, HD.out]; rfl
                    clear HD HJ
                    go_wp2_with fail
                    go_ret
                    exact ⟨ret_bool HIF.out.symm, BF⟩
              · have HR2 : Hid (((t.rows.all fun r => rowS r t.cols)) = (t.rows.drop (r + 1)).all fun r => rowS r t.cols) := by
                  have hrt : rowS row t.cols = true := by
                    rw [HJ.out, List.drop_of_length_le (by have := HLE.out; omega), List.drop_of_length_le (by have := HNC.out; omega)]; rfl
                  rw [Hid, HRR.out, HDR.out, hrt, Bool.true_and]
                clear HJ HDR HRR
                go_wp2_with fail
                go_roundg (nr - (r + 1))
                case measure => omega
                case rel => exact ⟨r + 1, rfl, by omega, by go_num, BWj, HR2⟩
          · have HIF : Hid (isTabS t = false) := by
              rw [Hid, HF2.out, HRR.out, HDR.out, rowS_len row t.cols (by rw [← HNC.out]; exact hle)]; rfl
            have hne : ((row.length : Int) != (i : Int)) = true := by simp; omega
            clear HDR HRR
            go_wp2_with fail
            go_region
            all_goals (try go_wp2_with fail)
            all_goals go_ret
            all_goals exact ⟨ret_bool HIF.out.symm, by first | exact Bwq | exact Bwq.drew⟩
        · have HIF : Hid (isTabS t = true) := by rw [Hid, HF2.out, HRR.out, List.drop_of_length_le (by have := HNR.out; omega)]; rfl
          clear HRR
          go_wp2_with fail
          go_ret
          exact ⟨ret_bool HIF.out.symm, Bwq⟩
end Go.Proofs.YtilfjpmeededmaaGreatDoor

namespace Go.Proofs.YtilfjpmeededmaaGreatDoor
open Go.RowKit
theorem refIsTable_any (w : World) (t : TabT) (co : Option Addr) (cn cc : Nat) (ro : Option Addr) (rn rc : Nat) (uo : Option Addr) (un uc : Nat) (hC : ColsIn w (.slice co cn cc) t.cols) (hR : RowsIn w (.slice ro rn rc) t.rows) :
    Calls Tryz.prog 271 #[.agg #[.string (ofBs t.name), .slice co cn cc, .slice ro rn rc, .int .i64 t.count, .string (ofBs t.policy), .slice uo un uc]] w fun e w' => e = .returned (.bool (isTabS t)) ∧ Below w.heap.size w w' := by
  have hcn : cn = t.cols.length := by obtain ⟨_, _, e, _⟩ := hC; cases e; rfl
  have hrn : rn = t.rows.length := by obtain ⟨_, _, e, _⟩ := hR; cases e; rfl
  subst hcn hrn
  by_cases h : 1 ≤ t.cols.length ∧ t.cols.length ≤ 4 ∧ 0 ≤ t.count ∧ t.count ≤ 1000000 ∧ t.rows.length ≤ 10
  · exact refIsTable_good w t co cc ro rc uo un uc hC hR h
  · exact refIsTable_bad w t co cc ro rc uo un uc h
end Go.Proofs.YtilfjpmeededmaaGreatDoor

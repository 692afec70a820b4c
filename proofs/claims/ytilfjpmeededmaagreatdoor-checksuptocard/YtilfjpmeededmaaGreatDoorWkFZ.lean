import Derived.Test.YtilfjpmeededmaaGreatDoorDecoQZ
import Derived.Test.YtilfjpmeededmaaGreatDoorTyGZ
import Derived.Test.YtilfjpmeededmaaGreatDoorTyMZ
set_option linter.unusedVariables false
set_option linter.unusedSimpArgs false
namespace Go.Proofs.YtilfjpmeededmaaGreatDoor
theorem add_strA (a b : Bs) : ofBs a ++ ofBs b = ofBs (a ++ b) := by
  apply ByteArray.ext; rw [ByteArray.data_append]; simp [ofBs]
theorem add_litA (l : List UInt8) (b : Bs) : (ByteArray.mk l.toArray) ++ ofBs b = ofBs (l ++ b) := add_strA l b
end Go.Proofs.YtilfjpmeededmaaGreatDoor

namespace Go.Proofs.YtilfjpmeededmaaGreatDoor
open Go.RowKit
def inRangeS (n : Int) : Bool := decide (-1000000000 ≤ n) && decide (n ≤ 1000000000)
set_option maxHeartbeats 400000 in
set_option maxRecDepth 100000 in
theorem inRange_any (n : Int) (w : World) : Calls Tryz.prog 215 #[.int .i64 n] w fun e w' => e = .returned (.bool (inRangeS n)) ∧ w' = w := by
  by_cases h : -1000000000 ≤ n
  · have hd : decide (-1000000000 ≤ n) = true := by simpa using h
    have HR : Hid (inRangeS n = decide (n ≤ 1000000000)) := by rw [Hid, inRangeS, hd, Bool.true_and]
    go_enter Tryz.func215, Tryz.ntmps215
    go_wp2_with fail
    go_ret
    exact ⟨by rw [HR.out]; rfl, rfl⟩
  · have hd : decide (-1000000000 ≤ n) = false := by simpa using h
    have HR : Hid (inRangeS n = false) := by rw [Hid, inRangeS, hd, Bool.false_and]
    go_enter Tryz.func215, Tryz.ntmps215
    go_wp2_with fail
    go_ret
    exact ⟨by rw [HR.out]; rfl, rfl⟩
def isCellS (k n : Int) (l : Bs) : Bool :=
  if k = 0 then (n == 0) && l.isEmpty else if k = 1 then inRangeS n && l.isEmpty else if k = 2 then (n == 0) && decide (l.length ≤ 30) else if k = 3 then ((n == 0) || (n == 1)) && l.isEmpty else false
set_option maxHeartbeats 4000000 in
set_option maxRecDepth 100000 in
theorem isCell_any (k n : Int) (s : ByteArray) (w : World) : Calls Tryz.prog 143 #[.agg #[.int .i64 k, .int .i64 n, .string s]] w fun e w' => e = .returned (.bool (isCellS k n s.toList)) ∧ Below w.heap.size w w' := by
  have hbx := below_box w (.cells #[.int .i64 k, .int .i64 n, .string s] 50)
  by_cases h0 : k = 0
  · subst h0
    have HR : Hid (isCellS 0 n s.toList = ((n == 0) && s.toList.isEmpty)) := by rw [Hid, isCellS, if_pos rfl]
    cases hn : (n == 0) <;> rw [hn] at HR <;>
    · go_enter Tryz.func143, Tryz.ntmps143
      go_wp2_with fail
      go_ret
      exact ⟨by rw [HR.out]; rfl, hbx⟩
  · by_cases h1 : k = 1
    · subst h1
      have HR : Hid (isCellS 1 n s.toList = (inRangeS n && s.toList.isEmpty)) := by rw [Hid, isCellS, if_neg (by omega), if_pos rfl]
      have HI : ∀ x : World, Calls Tryz.prog 215 #[.int .i64 n] x fun e w' => e = .returned (.bool (inRangeS n)) ∧ w' = x := fun x => inRange_any n x
      obtain ⟨d, hd⟩ : ∃ d, d = inRangeS n := ⟨_, rfl⟩
      rw [← hd] at HR HI
      clear hd
      cases d <;>
      · go_enter Tryz.func143, Tryz.ntmps143
        go_wp2_with (go_at_call 215; refine (HI _).mono ?_; rintro e w2 ⟨rfl, rfl⟩)
        go_ret
        exact ⟨by rw [HR.out]; rfl, hbx⟩
    · by_cases h2 : k = 2
      · subst h2
        have HR : Hid (isCellS 2 n s.toList = ((n == 0) && decide ((s.size : Int) ≤ 30))) := by
          rw [Hid, isCellS, if_neg (by omega), if_neg (by omega), if_pos rfl, toList_length]
          congr 1; simp; omega
        cases hn : (n == 0) <;> rw [hn] at HR <;>
        · go_enter Tryz.func143, Tryz.ntmps143
          go_wp2_with fail
          go_ret
          exact ⟨by rw [HR.out]; rfl, hbx⟩
      · by_cases h3 : k = 3
        · subst h3
          have HR : Hid (isCellS 3 n s.toList = (((n == 0) || (n == 1)) && s.toList.isEmpty)) := by rw [Hid, isCellS, if_neg (by omega), if_neg (by omega), if_neg (by omega), if_pos rfl]
          cases hn : (n == 0) <;> cases hm : (n == 1) <;> rw [hn, hm] at HR <;>
          · go_enter Tryz.func143, Tryz.ntmps143
            go_wp2_with fail
            go_ret
            exact ⟨by rw [HR.out]; rfl, hbx⟩
        · have HR : Hid (isCellS k n s.toList = false) := by rw [Hid, isCellS, if_neg h0, if_neg h1, if_neg h2, if_neg h3]
          have e0 : (k == 0) = false := by simpa using h0
          have e1 : (k == 1) = false := by simpa using h1
          have e2 : (k == 2) = false := by simpa using h2
          have e3 : (k == 3) = false := by simpa using h3
          go_enter Tryz.func143, Tryz.ntmps143
          go_wp2_with fail
          go_ret
          exact ⟨by rw [HR.out]; rfl, hbx⟩
end Go.Proofs.YtilfjpmeededmaaGreatDoor

namespace Go.Proofs.YtilfjpmeededmaaGreatDoor
open Go.RowKit
abbrev CellT := Int × Int × Bs
def fitsS (c : CellT) (t : Int) : Bool := isCellS c.1 c.2.1 c.2.2 && ((c.1 == 0) || (c.1 == t))
set_option maxHeartbeats 1600000 in
set_option maxRecDepth 100000 in
theorem fits_any (k n : Int) (l : Bs) (t : Int) (w : World) : Calls Tryz.prog 81 #[.agg #[.int .i64 k, .int .i64 n, .string (ofBs l)], .int .i64 t] w fun e w' => e = .returned (.bool (fitsS (k, n, l) t)) ∧ Below w.heap.size w w' := by
  have hbx := below_box w (.cells #[.int .i64 k, .int .i64 n, .string (ofBs l)] 50)
  have HI : ∀ x : World, Calls Tryz.prog 143 #[.agg #[.int .i64 k, .int .i64 n, .string (ofBs l)]] x fun e w' => e = .returned (.bool (isCellS k n l)) ∧ Below x.heap.size x w' := by
    intro x; have := isCell_any k n (ofBs l) x; rw [ofBs_toList] at this; exact this
  have HR : Hid (fitsS (k, n, l) t = (isCellS k n l && ((k == 0) || (k == t)))) := rfl
  obtain ⟨d, hd⟩ : ∃ d, d = isCellS k n l := ⟨_, rfl⟩
  rw [← hd] at HI HR
  clear hd
  have key : ∀ w2 : World, Below (w.alloc (.cells #[.int .i64 k, .int .i64 n, .string (ofBs l)] 50)).heap.size (w.alloc (.cells #[.int .i64 k, .int .i64 n, .string (ofBs l)] 50)) w2 → w2.cell? ⟨w.heap.size, 0, none⟩ = some (.int .i64 k) ∧ w2.cell? ⟨w.heap.size, 1, none⟩ = some (.int .i64 n) ∧ w2.cell? ⟨w.heap.size, 2, none⟩ = some (.string (ofBs l)) := by
    intro w2 h
    have hb := (h.block w.heap.size (by simp [World.size_alloc])).trans (heap_alloc_new w _)
    exact ⟨(blk_at hb).trans rfl, (blk_at hb).trans rfl, (blk_at hb).trans rfl⟩
  cases d
  · go_enter Tryz.func81, Tryz.ntmps81
    go_wp2_with (go_at_call 143; refine (HI _).mono ?_; rintro e w2 ⟨rfl, hb2⟩)
    go_ret
    exact ⟨by rw [HR.out]; rfl, hbx.trans (hb2.mono hbx.size)⟩
  · cases h0 : (k == 0)
    · rw [h0] at HR
      go_enter Tryz.func81, Tryz.ntmps81
      go_wp2_with (first
        | (go_at_call 143; refine (HI _).mono ?_; rintro e w2 ⟨rfl, hb2⟩; obtain ⟨a0, a1, a2⟩ := key w2 hb2)
        | (go_at_call 144; refine (isNothing_any _ _ _ _).mono ?_; rw [h0]; rintro e w3 ⟨rfl, hb3⟩; obtain ⟨b0, b1, b2⟩ := key w3 (hb2.trans (hb3.mono hb2.size))))
      go_ret
      exact ⟨by rw [HR.out]; rfl, (hbx.trans (hb2.mono hbx.size)).trans (hb3.mono (Nat.le_trans hbx.size hb2.size))⟩
    · rw [h0] at HR
      go_enter Tryz.func81, Tryz.ntmps81
      go_wp2_with (first
        | (go_at_call 143; refine (HI _).mono ?_; rintro e w2 ⟨rfl, hb2⟩; obtain ⟨a0, a1, a2⟩ := key w2 hb2)
        | (go_at_call 144; refine (isNothing_any _ _ _ _).mono ?_; rw [h0]; rintro e w3 ⟨rfl, hb3⟩; obtain ⟨b0, b1, b2⟩ := key w3 (hb2.trans (hb3.mono hb2.size))))
      go_ret
      exact ⟨by rw [HR.out]; rfl, (hbx.trans (hb2.mono hbx.size)).trans (hb3.mono (Nat.le_trans hbx.size hb2.size))⟩
def CellsIn (w : World) (v : Value) (cs : List CellT) : Prop := ∃ ao cap, v = .slice ao cs.length cap ∧ cs.length ≤ maxLen ∧ (cs = [] ∨ ∃ b off, ao = some ⟨b, off, none⟩ ∧ b < w.heap.size ∧ ∀ (i : Nat) (c : CellT), cs[i]? = some c →
  w.cell? ⟨b, off + i * 3, none⟩ = some (.int .i64 c.1) ∧ w.cell? ⟨b, off + i * 3 + 1, none⟩ = some (.int .i64 c.2.1) ∧ w.cell? ⟨b, off + i * 3 + 2, none⟩ = some (.string (ofBs c.2.2)))
theorem CellsIn.keep {w x : World} {v : Value} {cs : List CellT} (h : CellsIn w v cs) (hb : Below w.heap.size w x) : CellsIn x v cs := by
  obtain ⟨ao, cap, h1, h2, h3⟩ := h
  refine ⟨ao, cap, h1, h2, ?_⟩
  rcases h3 with h | ⟨b, off, e, hl, hc⟩
  · exact .inl h
  · refine .inr ⟨b, off, e, by have := hb.size; omega, fun i f hf => ?_⟩
    obtain ⟨a, b', c⟩ := hc i f hf
    exact ⟨(hb.cell (p := ⟨b, _, none⟩) hl).trans a, (hb.cell (p := ⟨b, _, none⟩) hl).trans b', (hb.cell (p := ⟨b, _, none⟩) hl).trans c⟩
end Go.Proofs.YtilfjpmeededmaaGreatDoor

namespace Go.Proofs.YtilfjpmeededmaaGreatDoor
open Go.RowKit
end Go.Proofs.YtilfjpmeededmaaGreatDoor

namespace Go.Proofs.YtilfjpmeededmaaGreatDoor
open Go.RowKit
theorem cells3w {x : World} {b : Nat} {a0 a1 a2 : Value} {T : TypeId} (h : x.heap[b]? = some (.cells #[a0, a1, a2] T (0, 0))) :
    (x.cell? ⟨b, 0, none⟩ = some a0 ∧ x.cell? ⟨b, 1, none⟩ = some a1 ∧ x.cell? ⟨b, 2, none⟩ = some a2) ∧ (x.frozen? ⟨b, 0, none⟩ = false ∧ x.frozen? ⟨b, 1, none⟩ = false ∧ x.frozen? ⟨b, 2, none⟩ = false) := by
  simp [World.cell?, World.frozen?, h]
end Go.Proofs.YtilfjpmeededmaaGreatDoor

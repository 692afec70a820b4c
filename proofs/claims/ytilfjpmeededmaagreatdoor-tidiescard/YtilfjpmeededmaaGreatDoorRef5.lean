/- What skip of package curtainref's reader does. -/
import Derived.Test.YtilfjpmeededmaaGreatDoorRef4
import Derived.Deep.LoopGhost
import Derived.Deep.DeepCutAuto
namespace Go.Proofs.YtilfjpmeededmaaGreatDoor
open Go.RowKit

def isBl (c : UInt8) : Bool := blankB c.toNat
def skN (l : Bs) : Nat := (l.takeWhile isBl).length
/-- Block rb holds a reader of s, at place k. -/
def RdIs (w : World) (rb : Nat) (s : ByteArray) (k : Nat) (v : Value) : Prop := w.heap[rb]? = some (.cells #[.string s, .int .i64 k, v] 357 (0, 0))
theorem cells3 {x : World} {b : Nat} {a0 a1 a2 : Value} {T : TypeId} (h : x.heap[b]? = some (.cells #[a0, a1, a2] T (0, 0))) :
    (x.cell? ⟨b, 0, none⟩ = some a0 ∧ x.cell? ⟨b, 1, none⟩ = some a1 ∧ x.cell? ⟨b, 2, none⟩ = some a2) ∧ (x.frozen? ⟨b, 1, none⟩ = false ∧ x.frozen? ⟨b, 2, none⟩ = false) := by
  simp [World.cell?, World.frozen?, h]
theorem RdIs.set {w : World} {rb : Nat} {s : ByteArray} {k : Nat} {v : Value} (h : RdIs w rb s k v) (k' : Nat) : RdIs (w.setCell ⟨rb, 1, none⟩ (.int .i64 k')) rb s k' v := by
  unfold RdIs at *; simp [World.setCell, Array.getElem?_modify, h]
theorem RdIs.inc {w : World} {rb : Nat} {s : ByteArray} {k : Nat} {v : Value} (h : RdIs w rb s k v) : RdIs (w.setCell ⟨rb, 1, none⟩ (.int .i64 ((k : Int) + 1))) rb s (k + 1) v := h.set (k + 1)
theorem RdIs.lt {w : World} {rb : Nat} {s : ByteArray} {k : Nat} {v : Value} (h : RdIs w rb s k v) : rb < w.heap.size := block_lt h
theorem grown_drewN {a w : World} {row : Option Nat} (h : a.grownBy w row) (n : Nat) : a.grownBy (w.drewN n) row := ⟨h.os, h.tape, h.output, h.size, h.block⟩
theorem RdIs.drewN {w : World} {rb : Nat} {s : ByteArray} {k : Nat} {v : Value} (h : RdIs w rb s k v) (n : Nat) : RdIs (w.drewN n) rb s k v := h

theorem sk_drop (s : ByteArray) (k : Nat) (h : k < s.size) : skN (s.toList.drop k) = if isBl s[k] then skN (s.toList.drop (k + 1)) + 1 else 0 := by
  unfold skN; rw [drop_cons s k h, List.takeWhile_cons]; split <;> simp
theorem sk_end (s : ByteArray) (k : Nat) (h : s.size ≤ k) : skN (s.toList.drop k) = 0 := by
  unfold skN; rw [List.drop_of_length_le (by rw [toList_length]; exact h)]; rfl

set_option maxHeartbeats 1600000 in
set_option maxRecDepth 100000 in
theorem skip_any (s : ByteArray) (hs : s.size ≤ 400) (w : World) (rb k0 : Nat) (v : Value) (h : RdIs w rb s k0 v) (hk0 : k0 ≤ s.size) :
    Calls Tryz.prog 259 #[.pointer (some ⟨rb, 0, none⟩)] w fun e w' => e = .returned (.bool (decide (0 < skN (s.toList.drop k0)))) ∧ k0 + skN (s.toList.drop k0) ≤ s.size ∧ w.grownBy w' (some rb) ∧ RdIs w' rb s (k0 + skN (s.toList.drop k0)) v := by
  obtain ⟨⟨y0, y1, y2⟩, f1, f2⟩ := cells3 h
  go_enter Tryz.func259, Tryz.ntmps259
  go_wp2_with fail
  go_loopg [8] (s.size - k0) (fun gk _ wr => ∃ k : Nat, gk = s.size - k ∧ k ≤ s.size ∧ k0 ≤ k ∧ Hid (k0 + skN (s.toList.drop k0) = k + skN (s.toList.drop k)) ∧ w.grownBy wr (some rb) ∧ RdIs wr rb s k v)
  case atStart => exact ⟨k0, rfl, hk0, Nat.le_refl _, rfl, grown_refl _ _, h⟩
  case round =>
    clear y0 y1 y2 f1 f2
    obtain ⟨k, hgk, hk, hkk, HA, hg, hR⟩ := hrel
    subst hgk
    obtain ⟨⟨y0, y1, y2⟩, f1, f2⟩ := cells3 hR
    by_cases hlt : k < s.size
    · have HS := sk_drop s k hlt
      replace HS : Hid _ := HS
      by_cases hb : blankB s[k].toNat = true
      · have HN : Hid (k0 + skN (s.toList.drop k0) = (k + 1) + skN (s.toList.drop (k + 1))) := by
          rw [Hid, HA.out, HS.out, isBl, hb]; simp; omega
        go_wp2_with fail
        go_quiet ((go_at_call 334; exact Calls.quiet_of_same (refBlank_any _ _)))
        go_wp2_with fail
        go_roundg (s.size - (k + 1))
        case measure => omega
        case rel => exact ⟨k + 1, rfl, by omega, by omega, HN, grown_drewN (grown_trans hg (grown_setCell _ _ _ _)) _, (hR.inc).drewN _⟩
      · rw [Bool.not_eq_true] at hb
        have HN : Hid (skN (s.toList.drop k) = 0) := by rw [Hid, HS.out, isBl, hb]; rfl
        have HT : Hid (k0 + skN (s.toList.drop k0) = k) := by rw [Hid, HA.out, HN.out]; rfl
        have HD : Hid (decide (0 < skN (s.toList.drop k0)) = decide (k0 < k)) := by rw [Hid, decide_eq_decide]; have := HT.out; omega
        clear HA HS HN
        go_wp2_with fail
        go_quiet ((go_at_call 334; exact Calls.quiet_of_same (refBlank_any _ _)))
        go_wp2_with fail
        go_ret
        exact ⟨ret_bool HD.out.symm, by rw [HT.out]; exact hk, grown_drewN hg _, by rw [HT.out]; exact hR⟩
    · have HN : Hid (skN (s.toList.drop k) = 0) := sk_end s k (by omega)
      have HT : Hid (k0 + skN (s.toList.drop k0) = k) := by rw [Hid, HA.out, HN.out]; rfl
      have HD : Hid (decide (0 < skN (s.toList.drop k0)) = decide (k0 < k)) := by rw [Hid, decide_eq_decide]; have := HT.out; omega
      have hge : decide ((k : Int) < (s.size : Int)) = false := by simp; omega
      clear HA HN
      go_wp2_with fail
      go_quiet ((go_at_call 334; exact Calls.quiet_of_same (refBlank_any _ _)))
      go_wp2_with fail
      go_ret
      exact ⟨ret_bool HD.out.symm, by rw [HT.out]; exact hk, grown_drewN hg _, by rw [HT.out]; exact hR⟩
end Go.Proofs.YtilfjpmeededmaaGreatDoor

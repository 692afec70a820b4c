/- A script as it comes in, and the statement Tidies walked. -/
import Derived.Test.YtilfjpmeededmaaGreatDoorLawP
import Derived.Deep.Slices
import Derived.WalkKit
import Derived.ProofKit
import Derived.OpenShut
import Derived.ShutString
import Derived.ChangeOld
import Derived.Below
namespace Go.Proofs.YtilfjpmeededmaaGreatDoor
open Go.ChangeShapes Go.WideShapes Go.ChangeAt Go.RowKit
open Go.ChangeMaps (open_string shut_string)
set_option linter.unusedVariables false

theorem td_own : ownKnob Tryz.prog.godebug = none := by kernel_rfl
theorem td_laid : laidOutB Tryz.prog = true := by kernel_rfl
theorem td_c1 : Tryz.prog.cellsOf 3 = 1 := by kernel_rfl
theorem td_c2 : Tryz.prog.cellsOf 9 = 1 := by kernel_rfl
theorem td_c3 : Tryz.prog.cellsOf 30 = 1 := by kernel_rfl
theorem td_c4 : Tryz.prog.cellsOf 103 = 6 := by kernel_rfl
theorem td_c5 : Tryz.prog.cellsOf 22 = 1 := by kernel_rfl
theorem td_c6 : Tryz.prog.cellsOf 23 = 1 := by kernel_rfl
theorem td_c7 : Tryz.prog.cellsOf 24 = 1 := by kernel_rfl

theorem td_lt {w : World} {b off : Nat} {v : Value} (h : w.cell? ⟨b, off, none⟩ = some v) : b < w.heap.size := by
  rcases Nat.lt_or_ge b w.heap.size with h' | h'
  · exact h'
  · simp [World.cell?, Array.getElem?_eq_none h'] at h

theorem list3 {α : Type} {l : List α} (h : l.length = 3) : ∃ a b c, l = [a, b, c] := by
  match l, h with
  | [a, b, c], _ => exact ⟨a, b, c, rfl⟩
theorem list6 {α : Type} {l : List α} (h : l.length = 6) : ∃ a b c d e f, l = [a, b, c, d, e, f] := by
  match l, h with
  | [a, b, c, d, e, f], _ => exact ⟨a, b, c, d, e, f, rfl⟩
section
variable {H : Type} {enc : TypeId × Value → H} {w : World} {base : Nat} {sp : Nat → Bool} {hd : Bool} {fuel : Nat}

theorem slice_of_trod {t e : TypeId} {cs : List Value} {x : DataW H × List MemPlace} (ht : Tryz.prog.underlying t = some (.slice e)) (h : DataW.trod enc Tryz.prog w base sp hd fuel t cs = some x) : ∃ a l c, cs = [.slice a l c] := by
  rcases DataW.trod_slice ht h with ⟨rfl, _⟩ | ⟨a, len, cap, _, _, _, _, rfl, _⟩ <;> exact ⟨_, _, _, rfl⟩

theorem goods_of_trod {cs : List Value} {x : DataW H × List MemPlace} (h : DataW.trod enc Tryz.prog w base sp hd fuel 26 cs = some x) (h3 : cs.length = 3) :
    ∃ a0 l0 c0 a1 l1 c1 a2 l2 c2, cs = [.slice a0 l0 c0, .slice a1 l1 c1, .slice a2 l2 c2] := by
  obtain ⟨xs, n, _, _, _, hxl, hf⟩ := DataW.trod_struct Tryz.underlying26 h
  obtain ⟨y0, y1, y2, rfl⟩ := list3 (show xs.length = 3 from hxl)
  obtain ⟨v0, v1, v2, rfl⟩ := list3 h3
  have g0 := hf 0 _ rfl
  have g1 := hf 1 _ rfl
  have g2 := hf 2 _ rfl
  simp [td_c5, td_c6, td_c7] at g0 g1 g2
  obtain ⟨a0, l0, c0, e0⟩ := slice_of_trod Tryz.underlying22 g0
  obtain ⟨a1, l1, c1, e1⟩ := slice_of_trod Tryz.underlying23 g1
  obtain ⟨a2, l2, c2, e2⟩ := slice_of_trod Tryz.underlying24 g2
  simp only [List.cons.injEq, and_true] at e0 e1 e2
  subst e0 e1 e2
  exact ⟨_, _, _, _, _, _, _, _, _, rfl⟩

theorem ops_of_trod {a0 : Option Addr} {len cap : Nat} {x : DataW H × List MemPlace} (h : DataW.trod enc Tryz.prog w base sp hd fuel 27 [.slice a0 len cap] = some x) :
    len ≤ maxLen ∧ (len = 0 ∨ ∃ b off, a0 = some ⟨b, off, none⟩ ∧ b < w.heap.size ∧ OpsAt w b off len) := by
  rcases Go.Deep.open_slice Tryz.underlying27 h with ⟨h0, _⟩ | ⟨a, l, c, m, n, D, Pl, hcs, hb, hl, hm, hmm, _, hx⟩
  · simp at h0
    obtain ⟨rfl, rfl, rfl⟩ := h0
    exact ⟨Nat.zero_le _, .inl rfl⟩
  · simp at hcs
    obtain ⟨rfl, rfl, rfl⟩ := hcs
    refine ⟨by omega, ?_⟩
    have hlm : len ≤ m := by rw [hmm]; split <;> omega
    by_cases h0 : len = 0
    · exact .inl h0
    · right
      have each : ∀ i, i < len → ∃ (k x y : Int) (s t : ByteArray) (lo : Option Addr) (ln lc : Nat), w.cell? (a.add (i * 6)) = some (.int .i64 k) ∧ w.cell? (a.add (i * 6 + 1)) = some (.int .i64 x) ∧ w.cell? (a.add (i * 6 + 2)) = some (.int .i64 y) ∧
          w.cell? (a.add (i * 6 + 3)) = some (.string s) ∧ w.cell? (a.add (i * 6 + 4)) = some (.string t) ∧ w.cell? (a.add (i * 6 + 5)) = some (.slice lo ln lc) ∧ s.size ≤ maxLen := by
        intro i hi
        obtain ⟨cs', h1, h2⟩ := hx i (by omega)
        rw [td_c4] at h1
        obtain ⟨_, hlen, hcell⟩ := World.cells?_some h1
        obtain ⟨xs, k, _, _, _, hxl, hf⟩ := DataW.trod_struct Tryz.underlying103 h2
        obtain ⟨y0, y1, y2, y3, y4, y5, rfl⟩ := list6 (show xs.length = 6 from hxl)
        obtain ⟨v0, v1, v2, v3, v4, v5, rfl⟩ := list6 hlen
        have g0 := hf 0 _ rfl
        have g1 := hf 1 _ rfl
        have g2 := hf 2 _ rfl
        have g3 := hf 3 _ rfl
        have g4 := hf 4 _ rfl
        have g5 := hf 5 _ rfl
        simp [td_c1, td_c2, td_c3] at g0 g1 g2 g3 g4 g5
        have e0 := hcell 0 (by omega)
        have e1 := hcell 1 (by omega)
        have e2 := hcell 2 (by omega)
        have e3 := hcell 3 (by omega)
        have e4 := hcell 4 (by omega)
        have e5 := hcell 5 (by omega)
        rw [Go.Deep.add_add] at e0 e1 e2 e3 e4 e5
        obtain ⟨k0, u0, _⟩ := DataW.trod_int Tryz.underlying3 g0
        obtain ⟨k1, u1, _⟩ := DataW.trod_int Tryz.underlying3 g1
        obtain ⟨k2, u2, _⟩ := DataW.trod_int Tryz.underlying3 g2
        obtain ⟨s3, u3, _, hs3⟩ := DataW.trod_string Tryz.underlying9 g3
        obtain ⟨s4, u4, _⟩ := DataW.trod_string Tryz.underlying9 g4
        obtain ⟨lo, ln, lc, u5⟩ := slice_of_trod Tryz.underlying30 g5
        simp only [List.cons.injEq, and_true] at u0 u1 u2 u3 u4 u5
        subst u0 u1 u2 u3 u4 u5
        exact ⟨k0, k1, k2, s3, s4, lo, ln, lc, by simpa using e0, by simpa using e1, by simpa using e2, by simpa using e3, by simpa using e4, by simpa using e5, hs3⟩
      obtain ⟨b, off, spot⟩ := a
      obtain ⟨_, _, _, _, _, _, _, _, hc0, _⟩ := each 0 (by omega)
      have hspot : spot = none := by simpa [Addr.add] using World.cell?_spot hc0
      subst hspot
      refine ⟨b, off, rfl, by rw [Addr.add_lit] at hc0; exact td_lt hc0, fun i hi => ?_⟩
      have := each i hi
      simpa only [Addr.add_lit, Nat.add_assoc] using this
end

set_option maxRecDepth 100000 in
theorem tidies_step (w : World) (a0 a1 a2 ao : Option Addr) (l0 c0 l1 c1 l2 c2 n cap : Nat) (hn : n ≤ maxLen) (hops : n = 0 ∨ ∃ b off, ao = some ⟨b, off, none⟩ ∧ b < w.heap.size ∧ OpsAt w b off n) :
    Calls Tryz.prog 3 #[.agg #[.slice a0 l0 c0, .slice a1 l1 c1, .slice a2 l2 c2], .slice ao n cap] w fun e w' => e = .returned (.bool true) ∧ Below w.heap.size w w' := by
  have HP : ∀ x : World, Below w.heap.size w x → Calls Tryz.prog 14 #[.agg #[.slice a0 l0 c0, .slice a1 l1 c1, .slice a2 l2 c2], .slice ao n cap, .int .i64 1, .int .i64 1] x fun e w' => e = .returned (.bool true) ∧ Below x.heap.size x w' := by
    intro x hx
    refine plays_tidy x a0 a1 a2 ao l0 c0 l1 c1 l2 c2 n cap hn ?_
    rcases hops with h | ⟨b, off, h1, h2, h3⟩
    · exact .inl h
    · exact .inr ⟨b, off, h1, by have := hx.size; omega, h3.keep hx h2⟩
  clear hops
  go_enter Tryz.func3, Tryz.ntmps3
  go_wp2_with (go_at_call 14; refine (HP _ ?c1).mono ?_)
  case c1 => first | exact Below.refl _ _ | exact (Below.refl _ _).alloc (Nat.le_refl _) _
  rintro e w2 ⟨rfl, hb2⟩
  go_wp2_with fail
  go_ret
  first | exact ⟨rfl, hb2⟩ | exact ⟨rfl, ((Below.refl _ w).alloc (Nat.le_refl _) _).trans (hb2.mono (by simp [World.size_alloc]))⟩

end Go.Proofs.YtilfjpmeededmaaGreatDoor

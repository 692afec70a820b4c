/- What comes in at Hushed. -/
import Derived.Test.YtilfjpmeededmaaGreatDoorRows
import Derived.Test.YtilfjpmeededmaaGreatDoorHuD
import Derived.Deep.Slices
import Derived.WalkKit
import Derived.ProofKit
import Derived.OpenShut
import Derived.ShutString
import Derived.ChangeOld
import Derived.Below
import Derived.LaidSub
import Derived.MakeChecks
import Derived.Lib.LaidTab
namespace Go.Proofs.YtilfjpmeededmaaGreatDoor
open Go.ChangeShapes Go.WideShapes Go.ChangeAt Go.RowKit
open Go.ChangeMaps (open_string shut_string)
set_option linter.unusedVariables false

theorem hu_own : ownKnob Tryz.prog.godebug = none := by kernel_rfl
theorem hu_laid : laidOutB Tryz.prog = true := by kernel_rfl
theorem hu_c1 : Tryz.prog.cellsOf 3 = 1 := by kernel_rfl
theorem hu_c2 : Tryz.prog.cellsOf 9 = 1 := by kernel_rfl
theorem hu_c3 : Tryz.prog.cellsOf 49 = 3 := by kernel_rfl
/-- A slice of integers that came in: nil, or a row of cells. -/
def IsRowH (k : IntKind) (w : World) (a : Option Addr) (len cap : Nat) (zs : List Int) : Prop :=
  (a = none ∧ len = 0 ∧ cap = 0 ∧ zs = []) ∨
  ∃ x, a = some x ∧ len ≤ cap ∧ cap ≤ maxLen ∧ zs.length = cap ∧ (∀ i, i < zs.length → w.cell? (x.add i) = some (.int k (zs.getD i 0))) ∧ ∀ n ∈ zs, (Lit.int k n).wf = true
theorem cell_ltH {w : World} {b off : Nat} {v : Value} (h : w.cell? ⟨b, off, none⟩ = some v) : b < w.heap.size := by
  rcases Nat.lt_or_ge b w.heap.size with h' | h'
  · exact h'
  · simp [World.cell?, Array.getElem?_eq_none h'] at h
theorem ints_of_rowH {w : World} {a : Option Addr} {len cap : Nat} {zs : List Int} (h : IsRowH .i64 w a len cap zs) (x : World) (mb : Nat) (hb : Below w.heap.size w x) (hm : w.heap.size ≤ mb) : IntsAt x mb (.slice a len cap) := by
  rcases h with ⟨rfl, rfl, rfl, rfl⟩ | ⟨ad, rfl, hl, hc, hz, hcell, hwf⟩
  · exact .inl ⟨_, _, rfl⟩
  · by_cases h0 : len = 0
    · subst h0; exact .inl ⟨_, _, rfl⟩
    · obtain ⟨b, off, spot⟩ := ad
      have hc0 := hcell 0 (by omega)
      have hspot : spot = none := by simpa [Addr.add] using World.cell?_spot hc0
      subst hspot
      have hlt : b < w.heap.size := by
        rw [Addr.add_lit] at hc0; exact cell_ltH hc0
      unfold maxLen at hc
      refine .inr ⟨b, off, len, cap, rfl, by omega, by omega, by omega, by have := hb.size; omega, fun i hi => ?_⟩
      have hci := hcell i (by omega)
      rw [Addr.add_lit] at hci
      have hw : (Lit.int .i64 (zs.getD i 0)).wf = true := by
        have hil : i < zs.length := by omega
        rw [List.getD_eq_getElem?_getD, List.getElem?_eq_getElem hil]
        exact hwf _ (List.getElem_mem hil)
      refine ⟨zs.getD i 0, (hb.cell (p := ⟨b, off + i, none⟩) hlt).trans hci, ?_, ?_⟩
      · have := bounds_i64 hw; omega
      · have := bounds_i64 hw; omega
theorem list3H {α : Type} {l : List α} (h : l.length = 3) : ∃ a b c, l = [a, b, c] := by
  match l, h with
  | [a, b, c], _ => exact ⟨a, b, c, rfl⟩
section
variable {H : Type} {enc : TypeId × Value → H} {w : World} {base : Nat} {sp : Nat → Bool} {hd : Bool} {fuel : Nat}
theorem int_of_trod {cs : List Value} {x : DataW H × List MemPlace} (h : DataW.trod enc Tryz.prog w base sp hd fuel 3 cs = some x) : ∃ n, cs = [.int .i64 n] ∧ -9223372036854775808 ≤ n ∧ n ≤ 9223372036854775807 := by
  obtain ⟨n, u, _, hw⟩ := DataW.trod_int Tryz.underlying3 h
  have := bounds_i64 hw
  exact ⟨n, u, by omega, by omega⟩
theorem args_of_trod {a0 : Option Addr} {len cap : Nat} {x : DataW H × List MemPlace} (h : DataW.trod enc Tryz.prog w base sp hd fuel 31 [.slice a0 len cap] = some x) : ArgsAt w a0 len := by
  rcases Go.Deep.open_slice Tryz.underlying31 h with ⟨h0, _⟩ | ⟨a, l, c, m, n, D, Pl, hcs, hb, hl, hm, hmm, _, hx⟩
  · simp at h0
    obtain ⟨rfl, rfl, rfl⟩ := h0
    exact ⟨Nat.zero_le _, .inl rfl⟩
  · simp at hcs
    obtain ⟨rfl, rfl, rfl⟩ := hcs
    refine ⟨by omega, ?_⟩
    have hlm : len ≤ m := by rw [hmm]; split <;> omega
    by_cases h0 : len = 0
    · exact .inl h0
    · right
      have each : ∀ i, i < len → ∃ (k n : Int) (l : Bs), (w.cell? (a.add (i * 3)) = some (.int .i64 k) ∧ w.cell? (a.add (i * 3 + 1)) = some (.int .i64 n) ∧ w.cell? (a.add (i * 3 + 2)) = some (.string (ofBs l))) ∧ (-9223372036854775808 ≤ k ∧ k ≤ 9223372036854775807) ∧ -9223372036854775808 ≤ n ∧ n ≤ 9223372036854775807 := by
        intro i hi
        obtain ⟨cs', h1, h2⟩ := hx i (by omega)
        rw [hu_c3] at h1
        obtain ⟨_, hlen, hcell⟩ := World.cells?_some h1
        obtain ⟨xs, k, _, _, _, hxl, hf⟩ := DataW.trod_struct Tryz.underlying49 h2
        obtain ⟨y0, y1, y2, rfl⟩ := list3H (show xs.length = 3 from hxl)
        obtain ⟨v0, v1, v2, rfl⟩ := list3H hlen
        have g0 := hf 0 _ rfl
        have g1 := hf 1 _ rfl
        have g2 := hf 2 _ rfl
        simp [hu_c1, hu_c2] at g0 g1 g2
        have e0 := hcell 0 (by omega)
        have e1 := hcell 1 (by omega)
        have e2 := hcell 2 (by omega)
        rw [Go.Deep.add_add] at e0 e1 e2
        obtain ⟨k0, u0, b0, b0'⟩ := int_of_trod g0
        obtain ⟨k1, u1, b1, b1'⟩ := int_of_trod g1
        obtain ⟨s2, u2, _⟩ := DataW.trod_string Tryz.underlying9 g2
        simp only [List.cons.injEq, and_true] at u0 u1 u2
        subst u0 u1 u2
        refine ⟨k0, k1, s2.toList, ⟨by simpa using e0, by simpa using e1, ?_⟩, ⟨b0, b0'⟩, b1, b1'⟩
        rw [← ba_eq]; simpa using e2
      obtain ⟨b, off, spot⟩ := a
      obtain ⟨_, _, _, ⟨hc0, _, _⟩, _⟩ := each 0 (by omega)
      have hspot : spot = none := by simpa [Addr.add] using World.cell?_spot hc0
      subst hspot
      refine ⟨b, off, rfl, by rw [Addr.add_lit] at hc0; exact cell_ltH hc0, fun i hi => ?_⟩
      have := each i hi
      simpa only [Addr.add_lit, Nat.add_assoc] using this
end
theorem tab_of_laid {W : World} (hL : laidMetH Tryz.prog Rows.hushedRow.laid W) : TabP W := by
  have h1 := laidMetH.filter (fun x => x.1 == "internal/strconv.uint64pow10") hL
  have h2 : (Rows.hushedRow.laid.filter fun x => x.1 == "internal/strconv.uint64pow10") = [("internal/strconv.uint64pow10", Lib.tabData .u64 Lib.pow10Tab)] := by rfl
  rw [h2, Go.MakeChecks.laidMetH_plain _ _ _ (by rfl)] at h1
  exact Lib.tabIs_of_head (g := 3) (t := 580) (e := 324) (n := 20) (by kernel_rfl) (by kernel_rfl) (by kernel_rfl) (by kernel_rfl) (by kernel_rfl) (by kernel_rfl) h1
end Go.Proofs.YtilfjpmeededmaaGreatDoor

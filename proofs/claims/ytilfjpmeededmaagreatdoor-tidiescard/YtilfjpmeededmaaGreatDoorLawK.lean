/- known of package curtainlaw: it makes new memory alone. -/
import Derived.Test.YtilfjpmeededmaaGreatDoorLeaf
import Derived.Below
namespace Go.Proofs.YtilfjpmeededmaaGreatDoor
open Go.RowKit

set_option maxHeartbeats 4000000 in
set_option maxRecDepth 100000 in
theorem known_any (w : World) : Calls Tryz.prog 34 #[] w fun e w' => e = .returned (.agg #[.slice (some ⟨w.heap.size + 16, 0, none⟩) 2 2, .slice (some ⟨w.heap.size + 17, 0, none⟩) 1 1, .slice (some ⟨w.heap.size + 19, 0, none⟩) 1 1]) ∧ Below w.heap.size w w' := by
  go_enter Tryz.func34, Tryz.ntmps34
  go_wp2_with fail
  refine bodyPost_ret (v := .agg #[.slice (some ⟨w.heap.size + 16, 0, none⟩) 2 2, .slice (some ⟨w.heap.size + 17, 0, none⟩) 1 1, .slice (some ⟨w.heap.size + 19, 0, none⟩) 1 1]) (by simp [results, Tryz.results34, go_sem]) rfl ⟨rfl, ?_⟩
  iterate 20 (refine Below.alloc ?_ (by simp [World.size_alloc]; try omega) _)
  exact Below.refl _ _

/-- n steps stand from place off of block b on. -/
def OpsAt (w : World) (b off n : Nat) : Prop := ∀ i, i < n → ∃ (k x y : Int) (s t : ByteArray) (lo : Option Addr) (ln lc : Nat),
  w.cell? ⟨b, off + i * 6, none⟩ = some (.int .i64 k) ∧ w.cell? ⟨b, off + i * 6 + 1, none⟩ = some (.int .i64 x) ∧ w.cell? ⟨b, off + i * 6 + 2, none⟩ = some (.int .i64 y) ∧
  w.cell? ⟨b, off + i * 6 + 3, none⟩ = some (.string s) ∧ w.cell? ⟨b, off + i * 6 + 4, none⟩ = some (.string t) ∧ w.cell? ⟨b, off + i * 6 + 5, none⟩ = some (.slice lo ln lc) ∧ s.size ≤ maxLen
theorem OpsAt.keep {w x : World} {b off n : Nat} (h : OpsAt w b off n) {B : Nat} (hb : Below B w x) (hlt : b < B) : OpsAt x b off n := by
  intro i hi
  obtain ⟨k, y, z, s, t, lo, ln, lc, h0, h1, h2, h3, h4, h5, h6⟩ := h i hi
  exact ⟨k, y, z, s, t, lo, ln, lc, (hb.cell (p := ⟨b, _, none⟩) hlt).trans h0, (hb.cell (p := ⟨b, _, none⟩) hlt).trans h1, (hb.cell (p := ⟨b, _, none⟩) hlt).trans h2, (hb.cell (p := ⟨b, _, none⟩) hlt).trans h3, (hb.cell (p := ⟨b, _, none⟩) hlt).trans h4, (hb.cell (p := ⟨b, _, none⟩) hlt).trans h5, h6⟩
theorem cells_at {x : World} {b j : Nat} {cs : Array Value} {T : TypeId} {fz : Nat × Nat} (h : x.heap[b]? = some (.cells cs T fz)) : x.cell? ⟨b, j, none⟩ = cs[j]? := by simp [World.cell?, h]
theorem opsAt_new (x : World) (cs : Array Value) (T : TypeId) {b n : Nat} (hb : b = x.heap.size) (h : ∀ i, i < n → ∃ (k x y : Int) (s t : ByteArray) (lo : Option Addr) (ln lc : Nat), cs[i * 6]? = some (.int .i64 k) ∧ cs[i * 6 + 1]? = some (.int .i64 x) ∧ cs[i * 6 + 2]? = some (.int .i64 y) ∧
    cs[i * 6 + 3]? = some (.string s) ∧ cs[i * 6 + 4]? = some (.string t) ∧ cs[i * 6 + 5]? = some (.slice lo ln lc) ∧ s.size ≤ maxLen) : OpsAt (x.alloc (.cells cs T)) b 0 n := by
  subst hb
  have hc : ∀ j, (x.alloc (.cells cs T)).cell? ⟨x.heap.size, j, none⟩ = cs[j]? := fun j => cells_at (heap_alloc_new x _)
  intro i hi
  obtain ⟨k, y, z, s, t, lo, ln, lc, h0, h1, h2, h3, h4, h5, h6⟩ := h i hi
  simp only [Nat.zero_add]
  exact ⟨k, y, z, s, t, lo, ln, lc, (hc _).trans h0, (hc _).trans h1, (hc _).trans h2, (hc _).trans h3, (hc _).trans h4, (hc _).trans h5, h6⟩

set_option maxHeartbeats 4000000 in
set_option maxRecDepth 100000 in
theorem opening_any (w : World) : Calls Tryz.prog 35 #[] w fun e w' => e = .returned (.slice (some ⟨w.heap.size + 1, 0, none⟩) 9 9) ∧ Below w.heap.size w w' ∧ w.heap.size + 1 < w'.heap.size ∧ OpsAt w' (w.heap.size + 1) 0 9 := by
  go_enter Tryz.func35, Tryz.ntmps35
  go_wp2_with fail
  go_ret
  refine ⟨rfl, ?_, ?_, ?_⟩
  · iterate 2 (refine Below.alloc ?_ (by simp [World.size_alloc]; try omega) _)
    exact Below.refl _ _
  · simp [World.size_alloc]
  · refine opsAt_new (w.alloc _) _ _ (by simp [World.size_alloc]) fun i hi => ?_
    match i, hi with
    | 0, _ | 1, _ | 2, _ | 3, _ | 4, _ | 5, _ | 6, _ | 7, _ | 8, _ => exact ⟨_, _, _, _, _, _, _, _, rfl, rfl, rfl, rfl, rfl, rfl, by unfold maxLen; decide⟩
end Go.Proofs.YtilfjpmeededmaaGreatDoor

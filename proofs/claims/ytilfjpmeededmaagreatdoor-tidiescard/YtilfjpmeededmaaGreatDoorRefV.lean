/- What Tidy of package curtainref answers. -/
import Derived.Test.YtilfjpmeededmaaGreatDoorRefU
namespace Go.Proofs.YtilfjpmeededmaaGreatDoor
open Go.RowKit

theorem print_any (N : Nat) : PrintSpec N := by
  induction N using Nat.strongRecOn with
  | ind N ih =>
    intro t w B g cap m i cs hsz hrep hlen hm hmc hB hg hcell hl
    have hi := hrep.lt hlen
    obtain ⟨k, tx, br, ops, v, is, rfl, h0, h1, h2, h3, hown, hv, hL⟩ := hrep.inv
    rw [Nat.mul_comm] at h0 h1 h2 h3
    have c0 := hcell _ _ h0
    have c1 := hcell _ _ h1
    have c2 := hcell _ _ h2
    have c3 := hcell _ _ h3
    have hin : ∀ t ∈ ops, SizeOf.sizeOf t ≤ SizeOf.sizeOf (Tr.mk k tx br ops) - 1 := by
      intro t ht
      have := List.sizeOf_lt_of_mem ht
      simp only [Tr.mk.sizeOf_spec]; omega
    cases br with
    | false =>
      have e : render (.mk k tx false ops) = tx := by rw [render]; rfl
      rw [e]
      obtain ⟨ao, n2, cap2, rfl⟩ : ∃ ao n2 cap2, v = .slice ao n2 cap2 := by
        rcases hown.2 with ⟨rfl, _⟩ | ⟨g', cap', cur, rfl, _⟩ <;> exact ⟨_, _, _, rfl⟩
      exact print_leaf w g cap m i tx ao n2 cap2 hi hm hmc (by omega) c0 c1 c2 c3
    | true =>
      have e : render (.mk k tx true ops) = 40 :: (tx ++ renders ops ++ [41]) := by rw [render]; rfl
      rw [e] at hl ⊢
      have hz : 0 < SizeOf.sizeOf (Tr.mk k tx true ops) := by simp only [Tr.mk.sizeOf_spec]; omega
      rcases hown.2 with ⟨rfl, hz0⟩ | ⟨g', cap', cur, rfl, _, hblk, hcp, _⟩
      · have : ops = [] := List.length_eq_zero_iff.mp hz0
        subst this
        simpa [renders] using print_br0 w g cap m i tx hi hm hmc (by omega) (by simp at hl; omega) c0 c1 c2 c3
      · have hrl := renders_len ops
        refine print_br (SizeOf.sizeOf (Tr.mk k tx true ops) - 1) (ih _ (by omega)) w B g cap m i cs tx ops is g' cap' hin hL hlen hi hm hmc hB hg (hv g' rfl) hcell hcp (by simp at hl; omega) (fun j u hj => ?_) hl c0 c1 c2 c3
        have := hown.cells (g := g') rfl j (.int .i64 (u : Int)) (by simp [hj])
        rw [Addr.add_lit] at this
        simpa using this

set_option maxHeartbeats 1600000 in
set_option maxRecDepth 100000 in
theorem refTidy_any (s : ByteArray) (w : World) :
    Calls Tryz.prog 67 #[.string s] w fun e w' => Below w.heap.size w w' ∧
      ((tidyS s.toList = none ∧ e = .returned (.tuple #[.string ⟨#[]⟩, .int .i64 1])) ∨ (∃ l, tidyS s.toList = some l ∧ e = .returned (.tuple #[.string (ofBs l), .int .i64 0]))) := by
  go_enter Tryz.func67, Tryz.ntmps67
  go_wp2_with (go_at_call 108; refine (refParse_any s _).mono ?_)
  rintro e w2 ⟨hb2, hres⟩
  rcases hres with ⟨ho, ao, m, cap, rfl⟩ | ⟨g, cap, n, cs, t, ho, hn, rfl, hown, hrep⟩
  · have HO : Hid (tidyS s.toList = none) := by rw [Hid, tidyS, ho]; rfl
    clear ho
    go_wp2_with fail
    go_ret2
    exact ⟨hb2.trans ((Below.refl _ _).alloc (Nat.le_refl _) _ |>.mono hb2.size), .inl ⟨HO.out, rfl⟩⟩
  · have hlen := parseS_len _ _ ho
    have HO : Hid (tidyS s.toList = some (render t)) := by rw [Hid, tidyS, ho]; rfl
    have hgl := hown.lt g rfl
    have hcl : cs.length = (n + 1) * 4 := hown.1
    have hcc : n + 1 ≤ cap := by
      rcases hown.2 with ⟨h, _⟩ | ⟨g', cap', cur, h, _, _, hcp, _⟩
      · cases h
      · cases h; exact hcp
    have HT : ∀ o : Obj, Calls Tryz.prog 109 #[.agg #[.slice (some ⟨g, 0, none⟩) (n + 1) cap], .int .i64 n] (w2.alloc o) fun e w' => e = .returned (.string (ofBs (render t))) ∧ Below (w2.alloc o).heap.size (w2.alloc o) w' := by
      intro o
      have h1 : Rep w2 (fun q => q < w2.heap.size) cs n t := hrep.bounded.move0 fun _ h => h.2
      have hb : Below w2.heap.size w2 (w2.alloc o) := (Below.refl _ _).alloc (Nat.le_refl _) _
      refine print_any _ t (w2.alloc o) w2.heap.size g cap (n + 1) n cs (Nat.le_refl _) (h1.keep hb (fun _ h => h)) hcl (by omega) hcc hb.size hgl.2 (fun j u hj => ?_) (by omega)
      have := hown.cells (g := g) rfl j u hj
      rw [Addr.add_lit] at this
      rw [hb.cell (p := ⟨g, j, none⟩) hgl.2]
      simpa using this
    clear ho hrep hown hcl
    go_wp2_with (go_at_call 109; refine (HT _).mono ?_; rintro e w3 ⟨rfl, hb3⟩)
    go_ret2
    have B3 : Below w2.heap.size w2 w3 := ((Below.refl _ _).alloc (Nat.le_refl _) _).trans (hb3.mono (by simp))
    exact ⟨hb2.trans (B3.mono hb2.size), .inr ⟨_, HO.out, rfl⟩⟩
end Go.Proofs.YtilfjpmeededmaaGreatDoor

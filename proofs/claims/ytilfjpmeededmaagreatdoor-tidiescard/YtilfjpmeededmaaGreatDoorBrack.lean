/- What the reader's bracket reads: a head, operands, the closing bracket. -/
import Derived.Test.YtilfjpmeededmaaGreatDoorTree
namespace Go.Proofs.YtilfjpmeededmaaGreatDoor
open Go.RowKit

set_option maxHeartbeats 1600000 in
set_option maxRecDepth 100000 in
theorem bracket_nil (w : World) (rb deep : Nat) (h : RestIs w rb []) :
    Calls Tryz.prog 255 #[.pointer (some ⟨rb, 0, none⟩), .int .i64 deep] w fun e w' => Reads w rb [] none e w' := by
  have hlt := h.lt
  have hne : w.heap.size ≠ rb := by omega
  have hA : headS 0 [] = false := by rfl
  have hr := h
  clear h
  by_cases hd : deep ≤ 20
  · go_enter Tryz.func255, Tryz.ntmps255
    go_wp2_with (first
      | (go_at_call 254; refine (next_nil _ _ (hr.alloc _)).mono ?_; rintro e w2 ⟨rfl, hb2⟩; have hk2 := blk_below (blk_new w _) hb2)
      | (go_at_call 331; refine (isHead_any _ _ _).mono ?_; rintro e w3 ⟨rfl, hb3⟩; have hk3 := blk_below (blk_alloc hk2 _) hb3; obtain ⟨⟨z0, z1, z2, z3⟩, f0, f1, f2, f3⟩ := cells4 hk3))
    have G3 : w.grownBy w3 (some rb) := grown_trans (grown_alloc (grown_trans (grown_alloc (grown_refl w _) _) (grown_below hb2 _)) _) (grown_below hb3 _)
    refine bodyPost_ret (v := .tuple #[.agg #[.int .i64 0, .string ⟨#[]⟩, .bool false, .slice none 0 0], .bool false]) (by simp [results, Tryz.results255, go_sem, z0, z1, z2, z3]) rfl ⟨?_, .inl ⟨rfl, rfl⟩⟩
    repeat (refine grown_new ?_ (Nat.le_refl _) _ _)
    exact G3
  · go_enter Tryz.func255, Tryz.ntmps255
    go_wp2_with (first
      | (go_at_call 254; refine (next_nil _ _ (hr.alloc _)).mono ?_; rintro e w2 ⟨rfl, hb2⟩; have hk2 := blk_below (blk_new w _) hb2; have hs2 := block_lt hk2; obtain ⟨⟨z0, z1, z2, z3⟩, f0, f1, f2, f3⟩ := cells4 hk2))
    have G3 : w.grownBy w2 (some rb) := grown_trans (grown_alloc (grown_refl w _) _) (grown_below hb2 _)
    refine bodyPost_ret (v := .tuple #[.agg #[.int .i64 0, .string ⟨#[]⟩, .bool false, .slice none 0 0], .bool false]) (by simp [results, Tryz.results255, go_sem, z0, z1, z2, z3, hs2]) rfl ⟨?_, .inl ⟨rfl, rfl⟩⟩
    refine grown_alloc ?_ _
    repeat (refine grown_new ?_ (Nat.le_refl _) _ _)
    exact G3

set_option maxHeartbeats 1600000 in
set_option maxRecDepth 100000 in
theorem bracket_bad (w : World) (rb deep : Nat) (t : Tk) (ts : List Tk) (h : RestIs w rb (t :: ts)) (hbad : 20 < deep ∨ headS t.1 t.2 = false) :
    Calls Tryz.prog 255 #[.pointer (some ⟨rb, 0, none⟩), .int .i64 deep] w fun e w' => Reads w rb (t :: ts) none e w' := by
  have hlt := h.lt
  have hne : w.heap.size ≠ rb := by omega
  have hr := h
  clear h
  by_cases hd : deep ≤ 20
  · have hA : headS t.1 t.2 = false := by rcases hbad with h | h; omega; exact h
    have HS : ∀ x : World, Calls Tryz.prog 331 #[.agg #[.int .i64 t.1, .string (ofBs t.2)]] x fun e w' => e = .returned (.bool false) ∧ Below x.heap.size x w' := by
      intro x; rw [← hA, ← ofBs_toList t.2]; simpa only [ofBs_toList] using isHead_any t.1 (ofBs t.2) x
    clear hA hbad
    go_enter Tryz.func255, Tryz.ntmps255
    go_wp2_with (first
      | (go_at_call 254; refine (next_cons _ _ t ts (hr.alloc _)).mono ?_; rintro e w2 ⟨rfl, hg2, hr2⟩; have hk2 := blk_grown (blk_new w _) hg2 hne)
      | (go_at_call 331; refine (HS _).mono ?_; rintro e w3 ⟨rfl, hb3⟩; have hk3 := blk_below (blk_alloc hk2 _) hb3; obtain ⟨⟨z0, z1, z2, z3⟩, f0, f1, f2, f3⟩ := cells4 hk3))
    have G3 : w.grownBy w3 (some rb) := grown_trans (grown_alloc (grown_trans (grown_alloc (grown_refl w _) _) hg2) _) (grown_below hb3 _)
    refine bodyPost_ret (v := .tuple #[.agg #[.int .i64 0, .string ⟨#[]⟩, .bool false, .slice none 0 0], .bool false]) (by simp [results, Tryz.results255, go_sem, z0, z1, z2, z3]) rfl ⟨?_, .inl ⟨rfl, rfl⟩⟩
    repeat (refine grown_new ?_ (Nat.le_refl _) _ _)
    exact G3
  · clear hbad
    go_enter Tryz.func255, Tryz.ntmps255
    go_wp2_with (first
      | (go_at_call 254; refine (next_cons _ _ t ts (hr.alloc _)).mono ?_; rintro e w2 ⟨rfl, hg2, hr2⟩; have hk2 := blk_grown (blk_new w _) hg2 hne; have hs2 := block_lt hk2; obtain ⟨⟨z0, z1, z2, z3⟩, f0, f1, f2, f3⟩ := cells4 hk2))
    have G3 : w.grownBy w2 (some rb) := grown_trans (grown_alloc (grown_refl w _) _) hg2
    refine bodyPost_ret (v := .tuple #[.agg #[.int .i64 0, .string ⟨#[]⟩, .bool false, .slice none 0 0], .bool false]) (by simp [results, Tryz.results255, go_sem, z0, z1, z2, z3, hs2]) rfl ⟨?_, .inl ⟨rfl, rfl⟩⟩
    refine grown_alloc ?_ _
    repeat (refine grown_new ?_ (Nat.le_refl _) _ _)
    exact G3
end Go.Proofs.YtilfjpmeededmaaGreatDoor

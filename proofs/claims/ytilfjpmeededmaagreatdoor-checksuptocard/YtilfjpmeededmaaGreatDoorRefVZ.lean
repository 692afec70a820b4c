import Derived.Test.YtilfjpmeededmaaGreatDoorRefAZ
import Derived.Deep.RegionWith
import Derived.Deep.CutRange
set_option linter.unusedVariables false
set_option linter.unusedSimpArgs false
namespace Go.Proofs.YtilfjpmeededmaaGreatDoor
open Go.RowKit
def Prsd (w : World) (o : Option Tr) (e : Ending) (w' : World) : Prop := Below w.heap.size w w' ∧
  ((o = none ∧ ∃ ao m cap, e = .returned (.tuple #[.agg #[.slice ao m cap], .bool false])) ∨
   (∃ g cap n cs t, o = some t ∧ n ≤ 400 ∧ e = .returned (.tuple #[.agg #[.slice (some ⟨g, 0, none⟩) (n + 1) cap], .bool true]) ∧
      w'.ownsRow w.heap.size 359 4 (.slice (some ⟨g, 0, none⟩) (n + 1) cap) (n + 1) cs ∧ Rep w' (fun _ => True) cs 0 n t))
def wholeO (o : Option (Tr × Bs)) : Option Tr := match o with | some (t, []) => some t | _ => none
theorem refS_whole (l : Bs) : refS l = wholeO (oneS (2 * l.length + 1) 0 l) := rfl
theorem below_frm {w w' : World} {o o' : Obj} (F : Frm ((w.alloc o).alloc o') w' (w.heap.size + 1) none) (v : Value) : Below w.heap.size w (w'.setCell ⟨w.heap.size, 0, none⟩ v) := by
  have h := F.size
  simp only [World.size_alloc] at h
  suffices hB : Below w.heap.size w w' from hB.setCell (Nat.le_refl _) _
  refine ⟨F.os, F.tape, F.output, by omega, fun g hg => ?_⟩
  rw [F.block g (by simp only [World.size_alloc]; omega) (by omega) (by intro h; cases h), Below.heap_alloc _ _ _ (by simp only [World.size_alloc]; omega), Below.heap_alloc _ _ _ hg]
theorem res_frm {w w' : World} {o o' : Obj} (F : Frm ((w.alloc o).alloc o') w' (w.heap.size + 1) none) : w'.heap[w.heap.size]? = some o := by
  rw [F.block _ (by simp only [World.size_alloc]; omega) (by omega) (by intro h; cases h), Below.heap_alloc _ _ _ (by simp only [World.size_alloc]; omega)]
  exact heap_alloc_new w o
theorem cells1 {x : World} {b : Nat} {a0 : Value} {T : TypeId} (h : x.heap[b]? = some (.cells #[a0] T (0, 0))) : x.cell? ⟨b, 0, none⟩ = some a0 ∧ x.frozen? ⟨b, 0, none⟩ = false := by
  simp [World.cell?, World.frozen?, h]
theorem new1_cell {x : World} {b : Nat} {a0 v : Value} {T : TypeId} (h : x.heap[b]? = some (.cells #[a0] T (0, 0))) : (x.setCell ⟨b, 0, none⟩ v).cell? ⟨b, 0, none⟩ = some v := by
  simp [World.cell?, World.setCell, Array.getElem?_modify, h]
theorem wholeO_some {t : Tr} {s : ByteArray} {k : Nat} (hk : k = s.size) : wholeO (some (t, s.toList.drop k)) = some t := by
  have e : s.toList.drop k = [] := List.drop_of_length_le (by rw [toList_length]; omega)
  rw [e]; rfl
theorem wholeO_none {t : Tr} {s : ByteArray} {k : Nat} (hk : k < s.size) : wholeO (some (t, s.toList.drop k)) = none := by
  rw [drop_cons s k hk]; rfl
set_option maxHeartbeats 4000000 in
set_option maxRecDepth 100000 in
theorem refParse_short (s : ByteArray) (w : World) (hs : s.size ≤ 400) (o : Option (Tr × Bs))
    (HC : ∀ (w : World) (rb : Nat), RdIs w rb s 0 (.slice none 0 0) → Calls Tryz.prog 181 #[.pointer (some ⟨rb, 0, none⟩), .int .i64 0] w fun e w' => Ones w rb s 0 (.slice none 0 0) 0 [] o e w') :
    Calls Tryz.prog 108 #[.string s] w fun e w' => Prsd w (wholeO o) e w' := by
  have hd : decide ((s.size : Int) ≤ 400) = true := by simp; omega
  have hrd : RdIs ((w.alloc (.cells #[.slice none 0 0] 242)).alloc (.cells #[.string s, .int .i64 0, .slice none 0 0] 357)) (w.heap.size + 1) s 0 (.slice none 0 0) := by
    have := blk_new (w.alloc (.cells #[.slice none 0 0] 242)) (.cells #[.string s, .int .i64 0, .slice none 0 0] 357)
    rw [World.size_alloc] at this; exact this
  go_enter Tryz.func108, Tryz.ntmps108
  go_wp2_with (go_at_call 181; refine (HC _ _ hrd).mono ?_)
  clear HC
  rintro e w2 ⟨F, ⟨rfl, rfl, k', ao, m, cap, hr⟩ | ⟨t, k', g, cap, n', ds, rfl, hk0, hk, hn0, hn, rfl, hr, hown, hg, hrep⟩⟩
  · obtain ⟨⟨y0, y1, y2⟩, f1, f2⟩ := cells3R hr
    obtain ⟨z0, g0⟩ := cells1 (res_frm F)
    have HB : Hid (Below w.heap.size w (w2.setCell ⟨w.heap.size, 0, none⟩ (.slice ao m cap))) := below_frm F _
    have q0 := new1_cell (res_frm F) (v := .slice ao m cap)
    clear hrd F
    go_wp2_with fail
    go_region
    go_wp2_with fail
    exact bodyPost_ret (v := .tuple #[.agg #[.slice ao m cap], .bool false]) (by simp [results, Tryz.results108, go_sem, q0]) rfl ⟨HB.out.drew, .inl ⟨rfl, _, _, _, rfl⟩⟩
  · obtain ⟨⟨y0, y1, y2⟩, f1, f2⟩ := cells3R hr
    obtain ⟨z0, g0⟩ := cells1 (res_frm F)
    have HB : Hid (Below w.heap.size w (w2.setCell ⟨w.heap.size, 0, none⟩ (.slice (some ⟨g, 0, none⟩) (n' + 1) cap))) := below_frm F _
    have q0 := new1_cell (res_frm F) (v := .slice (some ⟨g, 0, none⟩) (n' + 1) cap)
    have hnn : decide ((0 : Int) ≤ (n' : Int)) = true := by simp
    by_cases hks : k' = s.size
    · have HX : Hid (Prsd w (wholeO (some (t, s.toList.drop k'))) (.returned (.tuple #[.agg #[.slice (some ⟨g, 0, none⟩) (n' + 1) cap], .bool true])) (w2.setCell ⟨w.heap.size, 0, none⟩ (.slice (some ⟨g, 0, none⟩) (n' + 1) cap)).drew) := by
        rw [Hid, wholeO_some hks]
        have hs2 := F.size
        simp only [World.size_alloc] at hs2
        have hg2 : w.heap.size + 2 ≤ g := by
          rcases hg with h | h
          · cases h
          · simpa only [World.size_alloc] using h
        refine ⟨HB.out.drew, .inr ⟨g, cap, n', [] ++ ds, t, rfl, by omega, rfl, ?_, ?_⟩⟩
        · exact owns_base (ownsRow_setCell_below hown (by show w.heap.size < w.heap.size + 1 + 1; omega) _) fun q hq => by have : g = q := Option.some.inj hq; omega
        · have := hrep.move (x := (w2.setCell ⟨w.heap.size, 0, none⟩ (.slice (some ⟨g, 0, none⟩) (n' + 1) cap)).drew) (S' := fun _ => True) [] (fun q hq => Below.heap_setCell _ _ _ _ (by have := hq.1; simp only [World.size_alloc] at this; show q ≠ w.heap.size; omega)) (fun _ _ => trivial)
          rwa [List.append_nil] at this
      have hke : ((k' : Int) == (s.size : Int)) = true := by rw [hks]; simp
      clear hrd F hown hrep HB hg hks
      go_wp2_with fail
      go_region
      all_goals (try go_wp2_with fail)
      all_goals exact bodyPost_ret (v := .tuple #[.agg #[.slice (some ⟨g, 0, none⟩) (n' + 1) cap], .bool true]) (by simp [results, Tryz.results108, go_sem, q0]) rfl HX.out
    · have HX : Hid (Prsd w (wholeO (some (t, s.toList.drop k'))) (.returned (.tuple #[.agg #[.slice (some ⟨g, 0, none⟩) (n' + 1) cap], .bool false])) (w2.setCell ⟨w.heap.size, 0, none⟩ (.slice (some ⟨g, 0, none⟩) (n' + 1) cap)).drew) := by
        rw [Hid, wholeO_none (by omega)]
        exact ⟨HB.out.drew, .inl ⟨rfl, _, _, _, rfl⟩⟩
      have hke : ((k' : Int) == (s.size : Int)) = false := by simp; omega
      clear hrd F hown hrep HB hg hks
      go_wp2_with fail
      go_region
      all_goals (try go_wp2_with fail)
      all_goals exact bodyPost_ret (v := .tuple #[.agg #[.slice (some ⟨g, 0, none⟩) (n' + 1) cap], .bool false]) (by simp [results, Tryz.results108, go_sem, q0]) rfl HX.out
theorem long_frm (w : World) (o o' : Obj) : Frm ((w.alloc o).alloc o') ((w.alloc o).alloc o') (w.heap.size + 1) none := ⟨rfl, rfl, rfl, Nat.le_refl _, fun _ _ _ _ => rfl⟩
set_option maxHeartbeats 4000000 in
set_option maxRecDepth 100000 in
theorem refParse_long (s : ByteArray) (w : World) (h4 : 400 < s.size) :
    Calls Tryz.prog 108 #[.string s] w fun e w' => Prsd w none e w' := by
  have hd : decide ((s.size : Int) ≤ 400) = false := by simp; omega
  obtain ⟨w2, hw2⟩ : ∃ w2, w2 = (w.alloc (.cells #[.slice none 0 0] 242)).alloc (.cells #[.string s, .int .i64 0, .slice none 0 0] 357) := ⟨_, rfl⟩
  have F := long_frm w (.cells #[.slice none 0 0] 242) (.cells #[.string s, .int .i64 0, .slice none 0 0] 357)
  have hrd : RdIs ((w.alloc (.cells #[.slice none 0 0] 242)).alloc (.cells #[.string s, .int .i64 0, .slice none 0 0] 357)) (w.heap.size + 1) s 0 (.slice none 0 0) := by
    have := blk_new (w.alloc (.cells #[.slice none 0 0] 242)) (.cells #[.string s, .int .i64 0, .slice none 0 0] 357)
    rw [World.size_alloc] at this; exact this
  obtain ⟨⟨y0, y1, y2⟩, f1, f2⟩ := cells3R hrd
  obtain ⟨z0, g0⟩ := cells1 (res_frm F)
  clear hrd F
  go_enter Tryz.func108, Tryz.ntmps108
  go_wp2_with fail
  go_region
  all_goals (try go_wp2_with fail)
  all_goals exact bodyPost_ret (v := .tuple #[.agg #[.slice none 0 0], .bool false]) (by simp [results, Tryz.results108, go_sem]) rfl ⟨(((Below.refl _ w).alloc (Nat.le_refl _) _).alloc (by simp [World.size_alloc]) _).drew, .inl ⟨rfl, _, _, _, rfl⟩⟩
theorem refParse_any (s : ByteArray) (w : World) : Calls Tryz.prog 108 #[.string s] w fun e w' => Prsd w (parseS s.toList) e w' := by
  by_cases h : s.size ≤ 400
  · rw [← ref_same _ (by rw [toList_length]; exact h), refS_whole]
    refine refParse_short s w h _ fun w rb hr => ?_
    have := one_any s h (2 * s.toList.length + 1) w rb 0 0 0 none 0 [] hr (Nat.zero_le _) (by rw [toList_length]; omega) (by omega) ⟨rfl, .inl ⟨rfl, rfl⟩⟩ (Nat.le_refl _)
    exact this
  · have e : parseS s.toList = none := by unfold parseS; rw [if_pos (by rw [toList_length]; omega)]
    rw [e]
    exact refParse_long s w (by omega)
end Go.Proofs.YtilfjpmeededmaaGreatDoor

namespace Go.Proofs.YtilfjpmeededmaaGreatDoor
open Go.RowKit
end Go.Proofs.YtilfjpmeededmaaGreatDoor

namespace Go.Proofs.YtilfjpmeededmaaGreatDoor
open Go.RowKit
end Go.Proofs.YtilfjpmeededmaaGreatDoor

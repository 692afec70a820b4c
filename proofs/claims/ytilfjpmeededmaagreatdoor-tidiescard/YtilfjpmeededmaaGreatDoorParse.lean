/- What Parse answers: a tree in new memory, or ErrText. -/
import Derived.Test.YtilfjpmeededmaaGreatDoorOps
namespace Go.Proofs.YtilfjpmeededmaaGreatDoor
open Go.RowKit

def parseT (ts : List Tk) : Option Tr := match treeF (2 * ts.length) 0 ts with | some (t, []) => some t | _ => none
def parseS (l : Bs) : Option Tr := if 400 < l.length then none else (scanS l).bind parseT

theorem rest_new {w : World} {b : Nat} {v : Value} {ts : List Tk} (h : w.ownsRow b 233 2 v ts.length (toksCells ts)) : RestIs (w.alloc (.cells #[v] 347)) w.heap.size ts := by
  refine ⟨v, blk_new w _, ?_⟩
  rcases h.2 with ⟨rfl, h0⟩ | ⟨g, cap, cur, rfl, _, hg, hn, hm, hc, ht⟩
  · exact .inl ⟨List.length_eq_zero_iff.mp h0, _, _, rfl⟩
  · have hlt := block_lt hg
    refine .inr ⟨g, 0, cap, rfl, hlt, hn, hm, fun j u hj => ?_⟩
    rw [World.cell?_of_block (w := w) (Below.heap_alloc _ _ _ hlt)]
    have := h.cells (g := g) rfl j u hj
    rw [Addr.add_lit] at this; exact this

theorem below_grown {B : Nat} {a x y : World} {rb : Nat} (h : Below B a x) (hg : x.grownBy y (some rb)) (hB : B ≤ rb) (hx : B ≤ x.heap.size) : Below B a y :=
  h.trans ⟨hg.os, hg.tape, hg.output, hg.size, fun k hk => hg.block k (by omega) (by simp; omega)⟩
theorem RestIs.cell {w : World} {rb : Nat} {ts : List Tk} (h : RestIs w rb ts) : ∃ ao cap, w.cell? ⟨rb, 0, none⟩ = some (.slice ao ts.length cap) := by
  obtain ⟨v, hb, h⟩ := h
  have hc : w.cell? ⟨rb, 0, none⟩ = some v := by simp [World.cell?, hb]
  rcases h with ⟨rfl, ao, cap, rfl⟩ | ⟨g, off, cap, rfl, _⟩
  · exact ⟨_, _, hc⟩
  · exact ⟨_, _, hc⟩

/-- What Parse leaves. -/
def Parsed (w : World) (o : Option Tr) (e : Ending) (w' : World) : Prop :=
  Below w.heap.size w w' ∧
    ((o = none ∧ e = .returned (.tuple #[.agg #[.int .i64 0, .string ⟨#[]⟩, .bool false, .slice none 0 0], .int .i64 1])) ∨
     (∃ k tx br ao n cap t, o = some t ∧ e = .returned (.tuple #[.agg #[.int .i64 k, .string (ofBs tx), .bool br, .slice ao n cap], .int .i64 0]) ∧
        IsTr w' (fun g => w.heap.size ≤ g) [.int .i64 k, .string (ofBs tx), .bool br, .slice ao n cap] t))

theorem below_new {B : Nat} {a w : World} (h : Below B a w) {b : Nat} (hb : B ≤ b) (o : Nat) (v : Value) : Below B a (w.setCell ⟨b, o, none⟩ v) := h.setCell (p := ⟨b, o, none⟩) hb v

set_option maxHeartbeats 1600000 in
set_option maxRecDepth 100000 in
theorem parse_long (s : ByteArray) (w : World) (hs : s.size ≤ maxLen) (hl : 400 < s.size) :
    Calls Tryz.prog 106 #[.string s] w fun e w' => Parsed w none e w' := by
  unfold maxLen at hs
  go_enter Tryz.func106, Tryz.ntmps106
  go_wp2_with fail
  exact bodyPost_ret (v := .tuple #[.agg #[.int .i64 0, .string ⟨#[]⟩, .bool false, .slice none 0 0], .int .i64 1]) (by simp [results, Tryz.results106, go_sem]) rfl ⟨(Below.refl _ _).alloc (Nat.le_refl _) _, .inl ⟨rfl, rfl⟩⟩

set_option maxHeartbeats 1600000 in
set_option maxRecDepth 100000 in
theorem parse_short (s : ByteArray) (w : World) (hl : s.size ≤ 400) :
    Calls Tryz.prog 106 #[.string s] w fun e w' => Parsed w ((scanS s.toList).bind parseT) e w' := by
  go_enter Tryz.func106, Tryz.ntmps106
  go_wp2_with (go_at_call 177; refine (scan_any s _ hl).mono ?_)
  rintro e w2 ⟨hb2, hres⟩
  have hk2 := blk_below (blk_new w _) hb2
  have hs2 := block_lt hk2
  have B2 : Below w.heap.size w w2 := ((Below.refl _ _).alloc (Nat.le_refl _) _).trans (hb2.mono (by simp))
  obtain ⟨⟨z0, z1, z2, z3⟩, f0, f1, f2, f3⟩ := cells4 hk2
  rcases hres with ⟨ho, rfl⟩ | ⟨ts, v, ho, hl4, rfl, hown⟩
  · have HO : Hid ((scanS s.toList).bind parseT = none) := by rw [Hid, ho]; rfl
    clear ho
    go_wp2_with fail
    refine bodyPost_ret (v := .tuple #[.agg #[.int .i64 0, .string ⟨#[]⟩, .bool false, .slice none 0 0], .int .i64 1]) (by simp [results, Tryz.results106, go_sem, z0, z1, z2, z3]) rfl ⟨?_, .inl ⟨HO.out, rfl⟩⟩
    repeat (refine below_new ?_ (Nat.le_refl _) _ _)
    exact B2
  · have HO : Hid ((scanS s.toList).bind parseT = parseT ts) := by rw [Hid, ho]; rfl
    clear ho
    obtain ⟨ao0, n0, cap0, rfl⟩ : ∃ ao n cap, v = .slice ao n cap := by
      rcases hown.2 with ⟨e, _⟩ | ⟨q, cap, cur, e, _⟩
      · exact ⟨_, _, _, e⟩
      · exact ⟨_, _, _, e⟩
    have hR := rest_new hown
    clear hown
    have HT : ∀ x : World, RestIs x w2.heap.size ts → Calls Tryz.prog 178 #[.pointer (some ⟨w2.heap.size, 0, none⟩), .int .i64 0] x fun e w' => Reads x w2.heap.size ts (treeF (2 * ts.length) 0 ts) e w' :=
      fun x hx => tree_any (2 * ts.length) x w2.heap.size 0 ts hx (by omega) hl4 (by omega)
    go_wp2_with (go_at_call 178; refine (HT _ hR).mono ?_)
    rintro e w3 ⟨hg3, hres⟩
    have hk3 := blk_grown (blk_alloc hk2 _) hg3 (by omega)
    have hs3 := block_lt hk3
    obtain ⟨⟨z0, z1, z2, z3⟩, f0, f1, f2, f3⟩ := cells4 hk3
    have B3 : Below w.heap.size w w3 := below_grown (B2.alloc (by omega) _) hg3 (by omega) (by simp; omega)
    rcases hres with ⟨ho, rfl⟩ | ⟨k, tx, br, ao, n, cap, x, r, ho, hrl, rfl, hr3, hx⟩
    · have HP : Hid (parseT ts = none) := by rw [Hid, parseT, ho]
      clear ho HT
      go_wp2_with fail
      refine bodyPost_ret (v := .tuple #[.agg #[.int .i64 0, .string ⟨#[]⟩, .bool false, .slice none 0 0], .int .i64 1]) (by simp [results, Tryz.results106, go_sem, z0, z1, z2, z3, hs3]) rfl ⟨?_, .inl ⟨by rw [HO.out, HP.out], rfl⟩⟩
      refine Below.alloc ?_ (by simp [World.setCell]; omega) _
      repeat (refine below_new ?_ (Nat.le_refl _) _ _)
      exact B3
    · obtain ⟨ar, cr, hcr⟩ := hr3.cell
      have hgs := hg3.size
      simp only [World.size_alloc] at hgs
      have hgs2 : w2.heap.size < w3.heap.size := by omega
      cases r with
      | nil =>
        have HP : Hid (parseT ts = some x) := by rw [Hid, parseT, ho]
        have HX : Hid _ := hx
        clear ho HT hx
        simp only [List.length_nil] at hcr
        go_wp2_with fail
        refine bodyPost_ret (v := .tuple #[.agg #[.int .i64 k, .string (ofBs tx), .bool br, .slice ao n cap], .int .i64 0]) (by simp [results, Tryz.results106, go_sem, z0, z1, z2, z3, hs3]) rfl ⟨?_, .inr ⟨_, _, _, _, _, _, x, by rw [HO.out, HP.out], rfl, HX.out.bounded.move (fun g hg => ?_) (fun g hg => by have := hg.1; simp at this; omega)⟩⟩
        · refine Below.alloc ?_ (by simp [World.setCell]; omega) _
          repeat (refine below_new ?_ (Nat.le_refl _) _ _)
          exact B3
        · have h1 := hg.1; simp at h1
          rw [Below.heap_alloc _ _ _ (by simp [World.setCell]; exact hg.2)]
          repeat rw [Below.heap_setCell _ _ _ _ (by show g ≠ w.heap.size; omega)]
      | cons c r =>
        have HP : Hid (parseT ts = none) := by rw [Hid, parseT, ho]
        have hcr2 : w3.cell? ⟨w2.heap.size, 0, none⟩ = some (.slice ar (r.length + 1) cr) := hcr
        clear ho HT hx hcr
        go_wp2_with fail
        refine bodyPost_ret (v := .tuple #[.agg #[.int .i64 0, .string ⟨#[]⟩, .bool false, .slice none 0 0], .int .i64 1]) (by simp [results, Tryz.results106, go_sem, z0, z1, z2, z3, hs3]) rfl ⟨?_, .inl ⟨by rw [HO.out, HP.out], rfl⟩⟩
        refine Below.alloc ?_ (by simp [World.setCell]; omega) _
        repeat (refine below_new ?_ (Nat.le_refl _) _ _)
        exact B3

theorem parse_any (s : ByteArray) (w : World) (hs : s.size ≤ maxLen) :
    Calls Tryz.prog 106 #[.string s] w fun e w' => Parsed w (parseS s.toList) e w' := by
  unfold parseS
  rw [toList_length]
  by_cases hl : 400 < s.size
  · rw [if_pos hl]; exact parse_long s w hs hl
  · rw [if_neg hl]; exact parse_short s w (by omega)
end Go.Proofs.YtilfjpmeededmaaGreatDoor

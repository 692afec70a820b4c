/- Package work: choose, and what a note may change. -/
import Derived.Test.YtilfjpmeededmaaGreatDoorWvB
namespace Go.Proofs.YtilfjpmeededmaaGreatDoor
open Go.RowKit

/-- So many notes has the worker. -/
def WkN (w : World) (wb : Nat) (user : Bs) (m : Nat) : Prop := ∃ no nc, w.heap[wb]? = some (.cells #[.string (ofBs user), .slice no m nc] 128 (0, 0))
/-- Nothing old is changed (q), or the worker alone, who has so many notes then. -/
def Kp (q : Bool) (wb : Nat) (user : Bs) (m : Nat) (w w' : World) : Prop := Below wb w w' ∧ (∀ g, g < w.heap.size → g ≠ wb → w'.heap[g]? = w.heap[g]?) ∧ (q = true → w'.heap[wb]? = w.heap[wb]?) ∧ (q = false → WkN w' wb user m)
theorem Kp.size {q : Bool} {wb : Nat} {user : Bs} {m : Nat} {w w' : World} (h : Kp q wb user m w w') : w.heap.size ≤ w'.heap.size := h.1.size
theorem Kp.below {wb : Nat} {user : Bs} {m : Nat} {w w' : World} (h : Kp true wb user m w w') : Below w.heap.size w w' :=
  ⟨h.1.os, h.1.tape, h.1.output, h.1.size, fun g hg => by
    by_cases e : g = wb
    · subst e; exact h.2.2.1 rfl
    · exact h.2.1 g hg e⟩
theorem Below.kp {wb : Nat} {user : Bs} {m : Nat} {w w' : World} (h : Below w.heap.size w w') (hw : wb < w.heap.size) : Kp true wb user m w w' :=
  ⟨h.mono (by omega), fun g hg _ => h.block g hg, fun _ => h.block wb hw, fun e => by cases e⟩
theorem Kp.pre {q : Bool} {wb : Nat} {user : Bs} {m : Nat} {w x w' : World} (hb : Below w.heap.size w x) (hw : wb < w.heap.size) (h : Kp q wb user m x w') : Kp q wb user m w w' := by
  have hs := hb.size
  exact ⟨(hb.mono (by omega)).trans h.1, fun g hg hne => (h.2.1 g (by omega) hne).trans (hb.block g hg), fun e => (h.2.2.1 e).trans (hb.block wb hw), h.2.2.2⟩
theorem Kp.set3 {q : Bool} {wb : Nat} {user : Bs} {m : Nat} {w w' : World} (h : Kp q wb user m w w') (hw : wb < w.heap.size) {b : Nat} (hb : w.heap.size ≤ b) (a0 a1 a2 : Value) : Kp q wb user m w (((w'.setCell ⟨b, 0, none⟩ a0).setCell ⟨b, 1, none⟩ a1).setCell ⟨b, 2, none⟩ a2) := by
  have key : ∀ g, g ≠ b → (((w'.setCell ⟨b, 0, none⟩ a0).setCell ⟨b, 1, none⟩ a1).setCell ⟨b, 2, none⟩ a2).heap[g]? = w'.heap[g]? := fun g hg => by
    rw [Below.heap_setCell _ _ _ _ hg, Below.heap_setCell _ _ _ _ hg, Below.heap_setCell _ _ _ _ hg]
  exact ⟨set3_below h.1 (by omega) _ _ _, fun g hg hne => (key g (by omega)).trans (h.2.1 g hg hne), fun e => (key wb (by omega)).trans (h.2.2.1 e), fun e => by
    obtain ⟨no, nc, hk⟩ := h.2.2.2 e
    exact ⟨no, nc, (key wb (by omega)).trans hk⟩⟩
theorem below6 (w : World) (a b c d e f : Obj) : Below w.heap.size w ((((((w.alloc a).alloc b).alloc c).alloc d).alloc e).alloc f) :=
  (below5 w a b c d e).alloc (by simp [World.size_alloc]; omega) _
def Noted (q : Bool) (wb : Nat) (user : Bs) (m : Nat) (v : CellT) (w : World) (e : Ending) (w' : World) : Prop := e = .returned (.tuple #[.agg #[.int .i64 v.1, .int .i64 v.2.1, .string (ofBs v.2.2)], .int .i64 0]) ∧ Kp q wb user m w w'
abbrev exO (sort ty size : Int) (quiet : Bool) (vk vn : Int) (vs : Bs) (place : Int) (head : Bs) (fp xo : Option Addr) (xn xc : Nat) : Array Value := #[.int .i64 sort, .int .i64 ty, .int .i64 size, .bool quiet, .int .i64 vk, .int .i64 vn, .string (ofBs vs), .int .i64 place, .string (ofBs head), .pointer fp, .slice xo xn xc]

def IsTru (b : Bool) (v : CellT) : Prop := b = true ↔ v = truC true
set_option maxHeartbeats 4000000 in
set_option maxRecDepth 100000 in
theorem choose_any (q : Bool) (m : Nat) (user : Bs) (w : World) (wb : Nat) (hwb : wb < w.heap.size) (co : Option Addr) (cn cc : Nat) (ao : Option Addr) (an ac : Nat)
    {sort ty size : Int} {quiet : Bool} {vk vn : Int} {vs : Bs} {place : Int} {head : Bs} {fp xo : Option Addr} {xn xc : Nat} {sort' ty' size' : Int} {quiet' : Bool} {vk' vn' : Int} {vs' : Bs} {place' : Int} {head' : Bs} {fp' xo' : Option Addr} {xn' xc' : Nat} {sort2 ty2 size2 : Int} {quiet2 : Bool} {vk2 vn2 : Int} {vs2 : Bs} {place2 : Int} {head2 : Bs} {fp2 xo2 : Option Addr} {xn2 xc2 : Nat} (v r : CellT)
    (HC : ∀ x : World, Below w.heap.size w x → Calls Tryz.prog 82 #[.agg #[.pointer (some ⟨wb, 0, none⟩), .slice co cn cc, .slice ao an ac], .agg (exO sort ty size quiet vk vn vs place head fp xo xn xc)] x fun e w' => Vald x v e w')
    (HT : v = truC true → ∀ x : World, Below w.heap.size w x → Calls Tryz.prog 82 #[.agg #[.pointer (some ⟨wb, 0, none⟩), .slice co cn cc, .slice ao an ac], .agg (exO sort' ty' size' quiet' vk' vn' vs' place' head' fp' xo' xn' xc')] x fun e w' => Noted q wb user m r x e w')
    (HE : v ≠ truC true → ∀ x : World, Below w.heap.size w x → Calls Tryz.prog 82 #[.agg #[.pointer (some ⟨wb, 0, none⟩), .slice co cn cc, .slice ao an ac], .agg (exO sort2 ty2 size2 quiet2 vk2 vn2 vs2 place2 head2 fp2 xo2 xn2 xc2)] x fun e w' => Noted q wb user m r x e w') :
    Calls Tryz.prog 218 #[.agg #[.pointer (some ⟨wb, 0, none⟩), .slice co cn cc, .slice ao an ac], .agg (exO sort ty size quiet vk vn vs place head fp xo xn xc), .agg (exO sort' ty' size' quiet' vk' vn' vs' place' head' fp' xo' xn' xc'), .agg (exO sort2 ty2 size2 quiet2 vk2 vn2 vs2 place2 head2 fp2 xo2 xn2 xc2)] w fun e w' => Noted q wb user m r w e w' := by
  have hW0 := below5 w (.cells #[.pointer (some ⟨wb, 0, none⟩), .slice co cn cc, .slice ao an ac] 193) (.cells (exO sort ty size quiet vk vn vs place head fp xo xn xc) 122) (.cells (exO sort' ty' size' quiet' vk' vn' vs' place' head' fp' xo' xn' xc') 122) (.cells (exO sort2 ty2 size2 quiet2 vk2 vn2 vs2 place2 head2 fp2 xo2 xn2 xc2) 122) (cellO 0 0 ⟨#[]⟩)
  obtain ⟨k0, _, k2, k3, k4⟩ := box5 w (.cells #[.pointer (some ⟨wb, 0, none⟩), .slice co cn cc, .slice ao an ac] 193) (.cells (exO sort ty size quiet vk vn vs place head fp xo xn xc) 122) (.cells (exO sort' ty' size' quiet' vk' vn' vs' place' head' fp' xo' xn' xc') 122) (.cells (exO sort2 ty2 size2 quiet2 vk2 vn2 vs2 place2 head2 fp2 xo2 xn2 xc2) 122) (cellO 0 0 ⟨#[]⟩)
  have HC0 := HC _ hW0
  go_enter Tryz.func218, Tryz.ntmps218
  go_upto_region 4 with (go_at_call 82; refine HC0.mono ?_; rintro e w2 ⟨rfl, hb2⟩)
  have hs2 := hb2.size
  simp only [World.size_alloc] at hs2
  have B2 : Below w.heap.size w w2 := hW0.trans (hb2.mono (by simp [World.size_alloc]; omega))
  obtain ⟨vk1, vn1, vs1⟩ := v
  go_cut [24] (fun s24 wx => (∃ b : Bool, s24 = .bool b ∧ IsTru b (vk1, vn1, vs1)) ∧ Hid (Below w2.heap.size w2 wx))
  case first =>
    by_cases h3 : vk1 = 3
    · subst h3
      by_cases h1 : vn1 = 1
      · subst h1
        by_cases he : (ofBs vs1).toList = []
        · have HB : IsTru true (3, 1, vs1) := by
            rw [ofBs_toList] at he; rw [IsTru, he]; exact ⟨fun _ => rfl, fun _ => rfl⟩
          go_region_with (go_at_call 105; refine (cellTruthX _ _).mono ?_; rintro e w3 ⟨rfl, rfl⟩)
          all_goals (go_wp2_with fail; go_meet)
          all_goals exact ⟨⟨true, rfl, HB⟩, (show Below w2.heap.size w2 _ from by first | exact (below_box2 w2 _ _).drew | exact below_box2 w2 _ _)⟩
        · have HB : IsTru false (3, 1, vs1) := by
            refine ⟨fun h => (by cases h), fun h => ?_⟩
            rw [ofBs_toList] at he; cases h; exact absurd rfl he
          go_region_with (go_at_call 105; refine (cellTruthX _ _).mono ?_; rintro e w3 ⟨rfl, rfl⟩)
          all_goals (go_wp2_with fail; go_meet)
          all_goals exact ⟨⟨false, rfl, HB⟩, (show Below w2.heap.size w2 _ from by first | exact (below_box2 w2 _ _).drew | exact below_box2 w2 _ _)⟩
      · have HB : IsTru false (3, vn1, vs1) := ⟨fun h => (by cases h), fun h => absurd (congrArg (fun p : CellT => p.2.1) h) h1⟩
        go_region_with (go_at_call 105; refine (cellTruthX _ _).mono ?_; rintro e w3 ⟨rfl, rfl⟩)
        all_goals (go_wp2_with fail; go_meet)
        all_goals exact ⟨⟨false, rfl, HB⟩, (show Below w2.heap.size w2 _ from by first | exact (below_box2 w2 _ _).drew | exact below_box2 w2 _ _)⟩
    · have HB : IsTru false (vk1, vn1, vs1) := ⟨fun h => (by cases h), fun h => absurd (congrArg (fun p : CellT => p.1) h) h3⟩
      go_region_with (go_at_call 105; refine (cellTruthX _ _).mono ?_; rintro e w3 ⟨rfl, rfl⟩)
      all_goals (go_wp2_with fail; go_meet)
      all_goals exact ⟨⟨false, rfl, HB⟩, (show Below w2.heap.size w2 _ from by first | exact (below_box2 w2 _ _).drew | exact below_box2 w2 _ _)⟩
  case rest =>
    obtain ⟨⟨b, rfl, HB⟩, HW⟩ := hcut
    have B3 : Below w.heap.size w wc := B2.trans (HW.out.mono B2.size)
    have KB : ∀ (g : Nat) {o : Obj}, g < w.heap.size + 5 → (((((w.alloc (.cells #[.pointer (some ⟨wb, 0, none⟩), .slice co cn cc, .slice ao an ac] 193)).alloc (.cells (exO sort ty size quiet vk vn vs place head fp xo xn xc) 122)).alloc (.cells (exO sort' ty' size' quiet' vk' vn' vs' place' head' fp' xo' xn' xc') 122)).alloc (.cells (exO sort2 ty2 size2 quiet2 vk2 vn2 vs2 place2 head2 fp2 xo2 xn2 xc2) 122)).alloc (cellO 0 0 ⟨#[]⟩)).heap[g]? = some o → wc.heap[g]? = some o :=
      fun g o hg h => (HW.out.block g (by omega)).trans ((hb2.block g (by simp only [World.size_alloc]; omega)).trans h)
    obtain ⟨⟨f0, f1, f2⟩, _⟩ := cells3 (KB w.heap.size (by omega) k0)
    have k4' := KB (w.heap.size + 4) (by omega) k4
    have hsc := B3.size
    have hl4 : w.heap.size + 4 < wc.heap.size := block_lt k4'
    have hl0 : w.heap.size < wc.heap.size := by omega
    have hl2 : w.heap.size + 2 < wc.heap.size := by omega
    have hl3 : w.heap.size + 3 < wc.heap.size := by omega
    clear hb2 hs2 hW0 HW B2
    cases b with
    | true =>
      have HN := HT (HB.mp rfl) wc B3
      obtain ⟨⟨y0, y1, y2, y3, y4, y5, y6, y7, y8, y9, y10⟩, _⟩ := cells11 (KB (w.heap.size + 2) (by omega) k2)
      clear HB HT HE HC HC0 KB
      go_wp2_with (go_at_call 82; refine HN.mono ?_)
      clear HN
      rintro e w4 ⟨rfl, hk4⟩
      have hk := Kp.pre B3 hwb hk4
      obtain ⟨⟨r0, r1, r2⟩, rf0, rf1, rf2⟩ := cells3 ((hk4.2.1 _ hl4 (by omega)).trans k4')
      have hl5 : w.heap.size + 4 < w4.heap.size := Nat.lt_of_lt_of_le hl4 hk4.size
      clear hk4 k4'
      go_wp2_with fail
      refine bodyPost_ret (v := .tuple #[.agg #[.int .i64 r.1, .int .i64 r.2.1, .string (ofBs r.2.2)], .int .i64 0]) (by simp [results, Tryz.results218, go_sem, r0, r1, r2]) rfl ⟨rfl, ?_⟩
      exact hk.set3 hwb (by omega) _ _ _
    | false =>
      have HN := HE (fun h => Bool.false_ne_true (HB.mpr h)) wc B3
      obtain ⟨⟨y0, y1, y2, y3, y4, y5, y6, y7, y8, y9, y10⟩, _⟩ := cells11 (KB (w.heap.size + 3) (by omega) k3)
      clear HB HT HE HC HC0 KB
      go_wp2_with (go_at_call 82; refine HN.mono ?_)
      clear HN
      rintro e w4 ⟨rfl, hk4⟩
      have hk := Kp.pre B3 hwb hk4
      obtain ⟨⟨r0, r1, r2⟩, rf0, rf1, rf2⟩ := cells3 ((hk4.2.1 _ hl4 (by omega)).trans k4')
      have hl5 : w.heap.size + 4 < w4.heap.size := Nat.lt_of_lt_of_le hl4 hk4.size
      clear hk4 k4'
      go_wp2_with fail
      refine bodyPost_ret (v := .tuple #[.agg #[.int .i64 r.1, .int .i64 r.2.1, .string (ofBs r.2.2)], .int .i64 0]) (by simp [results, Tryz.results218, go_sem, r0, r1, r2]) rfl ⟨rfl, ?_⟩
      exact hk.set3 hwb (by omega) _ _ _
end Go.Proofs.YtilfjpmeededmaaGreatDoor

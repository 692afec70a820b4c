/- Package work: apply, of heads that are quiet. -/
import Derived.Test.YtilfjpmeededmaaGreatDoorWvD
import Derived.Deep.RegionHeld2
namespace Go.Proofs.YtilfjpmeededmaaGreatDoor
open Go.RowKit

theorem cellsIn_one {w : World} {v : Value} {c : CellT} (h : CellsIn w v [c]) : ∃ b off cap, v = .slice (some ⟨b, off, none⟩) 1 cap ∧ b < w.heap.size ∧ ∀ x : World, Below w.heap.size w x → x.cell? ⟨b, off, none⟩ = some (.int .i64 c.1) ∧ x.cell? ⟨b, off + 1, none⟩ = some (.int .i64 c.2.1) ∧ x.cell? ⟨b, off + 2, none⟩ = some (.string (ofBs c.2.2)) := by
  obtain ⟨ao, cap, rfl, _, h | ⟨b, off, rfl, hb, hc⟩⟩ := h
  · simp at h
  · obtain ⟨p0, p1, p2⟩ := hc 0 c rfl
    simp only [Nat.zero_mul, Nat.add_zero] at p0 p1 p2
    exact ⟨b, off, cap, rfl, hb, fun x hx => ⟨(hx.cell (p := ⟨b, off, none⟩) hb).trans p0, (hx.cell (p := ⟨b, off + 1, none⟩) hb).trans p1, (hx.cell (p := ⟨b, off + 2, none⟩) hb).trans p2⟩⟩
theorem cellsIn_two {w : World} {v : Value} {c d : CellT} (h : CellsIn w v [c, d]) : ∃ b off cap, v = .slice (some ⟨b, off, none⟩) 2 cap ∧ b < w.heap.size ∧ ∀ x : World, Below w.heap.size w x → (x.cell? ⟨b, off, none⟩ = some (.int .i64 c.1) ∧ x.cell? ⟨b, off + 1, none⟩ = some (.int .i64 c.2.1) ∧ x.cell? ⟨b, off + 2, none⟩ = some (.string (ofBs c.2.2))) ∧ (x.cell? ⟨b, off + 3, none⟩ = some (.int .i64 d.1) ∧ x.cell? ⟨b, off + 4, none⟩ = some (.int .i64 d.2.1) ∧ x.cell? ⟨b, off + 5, none⟩ = some (.string (ofBs d.2.2))) := by
  obtain ⟨ao, cap, rfl, _, h | ⟨b, off, rfl, hb, hc⟩⟩ := h
  · simp at h
  · obtain ⟨p0, p1, p2⟩ := hc 0 c rfl
    obtain ⟨r0, r1, r2⟩ := hc 1 d rfl
    simp only [Nat.zero_mul, Nat.add_zero, Nat.one_mul, Nat.add_assoc] at p0 p1 p2 r0 r1 r2
    exact ⟨b, off, cap, rfl, hb, fun x hx => ⟨⟨(hx.cell (p := ⟨b, off, none⟩) hb).trans p0, (hx.cell (p := ⟨b, off + 1, none⟩) hb).trans p1, (hx.cell (p := ⟨b, off + 2, none⟩) hb).trans p2⟩, ⟨(hx.cell (p := ⟨b, off + 3, none⟩) hb).trans r0, (hx.cell (p := ⟨b, off + 4, none⟩) hb).trans r1, (hx.cell (p := ⟨b, off + 5, none⟩) hb).trans r2⟩⟩⟩
theorem new1 (w : World) (o : Obj) : Below w.heap.size w (w.alloc o) ∧ (w.alloc o).heap[w.heap.size]? = some o := ⟨below_box w o, heap_alloc_new w o⟩

theorem below3 (w : World) (a b c : Obj) : Below w.heap.size w (((w.alloc a).alloc b).alloc c) :=
  (((Below.refl _ w).alloc (Nat.le_refl _) _).alloc (by simp [World.size_alloc]) _).alloc (by simp [World.size_alloc]; omega) _
set_option maxHeartbeats 400000 in
set_option maxRecDepth 100000 in
theorem cellNumberX (n : Int) (w : World) : Calls Tryz.prog 302 #[.int .i64 n] w fun e w' => e = .returned (.agg #[.int .i64 1, .int .i64 n, .string ⟨#[]⟩]) ∧ w' = w.alloc (.cells #[.int .i64 1, .int .i64 n, .string ⟨#[]⟩] 50) := by
  go_enter Tryz.func302, Tryz.ntmps302
  go_wp2_with fail
  exact bodyPost_ret (v := .agg #[.int .i64 1, .int .i64 n, .string ⟨#[]⟩]) (by simp [results, Tryz.results302, go_sem]) rfl ⟨rfl, rfl⟩

set_option maxHeartbeats 2000000 in
set_option maxRecDepth 100000 in
theorem apply_null (w : World) (v : Value) (c : CellT) (h : CellsIn w v [c]) :
    Calls Tryz.prog 221 #[.string (ofBs hNull), v] w fun e w' => Vald w (truC (c.1 == 0)) e w' := by
  obtain ⟨b, off, cap, rfl, hb, hc⟩ := cellsIn_one h
  obtain ⟨B0, k0⟩ := new1 w (cellO 0 0 ⟨#[]⟩)
  obtain ⟨q0, q1, q2⟩ := hc _ B0
  obtain ⟨ck, cn, cs⟩ := c
  obtain ⟨d, hd⟩ : ∃ d, d = (ck == 0) := ⟨_, rfl⟩
  simp only at q0 q1 q2 ⊢
  rw [← hd]
  have HN := fun x : World => isNothingX ck cn (ofBs cs) x
  rw [← hd] at HN
  have e1 : ofBs hNull = ⟨#[105, 115, 110, 117, 108, 108]⟩ := rfl
  rw [e1]
  clear hc h hd
  obtain ⟨z, hz⟩ : ∃ z, z = truN d := ⟨_, rfl⟩
  have HT := fun x : World => cellTruthX d x
  have HV : Hid (Value.agg #[.int .i64 (truC d).1, .int .i64 (truC d).2.1, .string (ofBs (truC d).2.2)] = .agg #[.int .i64 3, .int .i64 z, .string ⟨#[]⟩]) := by rw [hz]; rfl
  rw [← hz] at HT
  clear hz
  go_enter Tryz.func221, Tryz.ntmps221
  go_wp2_with (first
    | (go_at_call 144; refine (HN _).mono ?_; rintro e w2 ⟨rfl, rfl⟩)
    | (go_at_call 105; refine (HT _).mono ?_; rintro e w2 ⟨rfl, rfl⟩))
  refine bodyPost_ret (v := .tuple #[.agg #[.int .i64 3, .int .i64 z, .string ⟨#[]⟩], .int .i64 0]) (by simp [results, Tryz.results221, go_sem]) rfl ⟨by rw [HV.out], ?_⟩
  exact below3 w _ _ _
theorem fiveHeads {h : Bs} (hh : h = hNot ∨ h = hLen ∨ h = [61] ∨ h = [60] ∨ h = [60, 61]) : ofBs h = ⟨#[110, 111, 116]⟩ ∨ ofBs h = ⟨#[108, 101, 110]⟩ ∨ ofBs h = ⟨#[61]⟩ ∨ ofBs h = ⟨#[60]⟩ ∨ ofBs h = ⟨#[60, 61]⟩ := by
  rcases hh with rfl | rfl | rfl | rfl | rfl
  · exact .inl rfl
  · exact .inr (.inl rfl)
  · exact .inr (.inr (.inl rfl))
  · exact .inr (.inr (.inr (.inl rfl)))
  · exact .inr (.inr (.inr (.inr rfl)))
theorem nilBox {w w2 : World} (hb2 : Below (w.alloc (cellO 0 0 ⟨#[]⟩)).heap.size (w.alloc (cellO 0 0 ⟨#[]⟩)) w2) : Below w.heap.size w w2 ∧ w2.heap[w.heap.size]? = some (cellO 0 0 ⟨#[]⟩) ∧ w.heap.size < w2.heap.size := by
  have hs := hb2.size
  rw [World.size_alloc] at hs
  exact ⟨(below_box w _).trans (hb2.mono (by rw [World.size_alloc]; omega)), (hb2.block _ (by rw [World.size_alloc]; omega)).trans (heap_alloc_new w _), by omega⟩

set_option maxHeartbeats 2000000 in
set_option maxRecDepth 100000 in
theorem apply_nil (w : World) (v : Value) (cs : List CellT) (h : CellsIn w v cs) (hn : anyNil cs = true) (hd : Bs) (hh : hd = hNot ∨ hd = hLen ∨ hd = [61] ∨ hd = [60] ∨ hd = [60, 61]) :
    Calls Tryz.prog 221 #[.string (ofBs hd), v] w fun e w' => Vald w nilC e w' := by
  have HC := nilContainsFunc_any (w.alloc (cellO 0 0 ⟨#[]⟩)) v cs (h.keep (below_box w _))
  rw [hn] at HC
  obtain ⟨ao, cap, rfl, _, _⟩ := h
  clear hn
  rcases fiveHeads hh with e1 | e1 | e1 | e1 | e1 <;> rw [e1] <;> clear e1 hh
  all_goals
    go_enter Tryz.func221, Tryz.ntmps221
    go_wp2_with (go_at_call 299; refine HC.mono ?_; rintro e w2 ⟨rfl, hb2⟩; obtain ⟨B2, k2, l2⟩ := nilBox hb2; obtain ⟨⟨r0, r1, r2⟩, rf0, rf1, rf2⟩ := cells3 k2)
    refine bodyPost_ret (v := .tuple #[.agg #[.int .i64 0, .int .i64 0, .string ⟨#[]⟩], .int .i64 0]) (by simp [results, Tryz.results221, go_sem, r0, r1, r2]) rfl ⟨rfl, ?_⟩
    exact set3_below B2 (Nat.le_refl _) _ _ _

set_option maxHeartbeats 2000000 in
set_option maxRecDepth 100000 in
theorem apply_len (w : World) (v : Value) (c : CellT) (h : CellsIn w v [c]) (h0 : c.1 ≠ 0) :
    Calls Tryz.prog 221 #[.string (ofBs hLen), v] w fun e w' => Vald w (1, (c.2.2.length : Int), []) e w' := by
  have HC := nilContainsFunc_any (w.alloc (cellO 0 0 ⟨#[]⟩)) v [c] (h.keep (below_box w _))
  have hn : anyNil [c] = false := by simp [anyNil, h0]
  rw [hn] at HC
  obtain ⟨b, off, cap, rfl, hb, hc⟩ := cellsIn_one h
  obtain ⟨ck, cn, cs⟩ := c
  have e1 : ofBs hLen = ⟨#[108, 101, 110]⟩ := rfl
  have hsz : (ofBs cs).size = cs.length := ofBs_size cs
  rw [e1]
  have HNu := fun x : World => cellNumberX (cs.length : Int) x
  clear hn h h0 e1
  simp only
  go_enter Tryz.func221, Tryz.ntmps221
  go_wp2_with (first
    | (go_at_call 299; refine HC.mono ?_; rintro e w2 ⟨rfl, hb2⟩; obtain ⟨B2, k2, l2⟩ := nilBox hb2; obtain ⟨⟨r0, r1, r2⟩, rf0, rf1, rf2⟩ := cells3 k2; obtain ⟨q0, q1, q2⟩ := hc w2 B2; have hb' := Nat.lt_of_lt_of_le hb B2.size)
    | (go_at_call 302; refine (HNu _).mono ?_; rintro e w3 ⟨rfl, rfl⟩))
  refine bodyPost_ret (v := .tuple #[.agg #[.int .i64 1, .int .i64 (cs.length : Int), .string ⟨#[]⟩], .int .i64 0]) (by simp [results, Tryz.results221, go_sem, r0, r1, r2, l2]) rfl ⟨rfl, ?_⟩
  exact (set3_below B2 (Nat.le_refl _) _ _ _).alloc (by simp only [World.size_setCell]; exact B2.size) _

def notC (c : CellT) : CellT := truC (c == truC false)
set_option maxHeartbeats 4000000 in
set_option maxRecDepth 100000 in
theorem apply_not (w : World) (v : Value) (c : CellT) (h : CellsIn w v [c]) (h0 : c.1 ≠ 0) :
    Calls Tryz.prog 221 #[.string (ofBs hNot), v] w fun e w' => Vald w (notC c) e w' := by
  have HC := nilContainsFunc_any (w.alloc (cellO 0 0 ⟨#[]⟩)) v [c] (h.keep (below_box w _))
  have hn : anyNil [c] = false := by simp [anyNil, h0]
  rw [hn] at HC
  obtain ⟨b, off, cap, rfl, hb, hc⟩ := cellsIn_one h
  obtain ⟨ck, cn, cs⟩ := c
  have e1 : ofBs hNot = ⟨#[110, 111, 116]⟩ := rfl
  rw [e1]
  clear hn h e1
  simp only at h0
  by_cases h3 : ck = 3
  · subst h3
    by_cases h1 : cn = 0
    · subst h1
      by_cases he : (ofBs cs).toList = []
      · have HR : Hid (notC (3, 0, cs) = truC true) := by
          rw [ofBs_toList] at he; subst he; rfl
        go_enter Tryz.func221, Tryz.ntmps221
        go_upto_region 14 with (go_at_call 299; refine HC.mono ?_; rintro e w2 ⟨rfl, hb2⟩; obtain ⟨B2, k2, l2⟩ := nilBox hb2; obtain ⟨⟨r0, r1, r2⟩, rf0, rf1, rf2⟩ := cells3 k2; obtain ⟨q0, q1, q2⟩ := hc w2 B2; have hb' := Nat.lt_of_lt_of_le hb B2.size)
        go_region_with (go_at_call 105; refine (cellTruthX _ _).mono ?_; rintro e w3 ⟨rfl, rfl⟩)
        all_goals (go_wp2_with fail)
        all_goals
          refine bodyPost_ret (v := .tuple #[.agg #[.int .i64 3, .int .i64 (truN true), .string ⟨#[]⟩], .int .i64 0]) (by first | (simp [results, Tryz.results221, go_sem, r0, r1, r2, l2]; done) | simp [results, Tryz.results221, go_sem, r0, r1, r2, l2, truN]) rfl ⟨by rw [HR.out]; rfl, ?_⟩
          first
            | exact ((set3_below B2 (Nat.le_refl _) _ _ _).alloc (by simp only [World.size_setCell]; exact B2.size) _).alloc (by simp only [World.size_alloc, World.size_setCell]; have := B2.size; omega) _
            | exact (((set3_below B2 (Nat.le_refl _) _ _ _).alloc (by simp only [World.size_setCell]; exact B2.size) _).alloc (by simp only [World.size_alloc, World.size_setCell]; have := B2.size; omega) _).drew
      · have HR : Hid (notC (3, 0, cs) = truC false) := by
          rw [ofBs_toList] at he
          have : (((3, 0, cs) : CellT) == truC false) = false := by simp [truC, truN, he]
          rw [Hid, notC, this]
        go_enter Tryz.func221, Tryz.ntmps221
        go_upto_region 14 with (go_at_call 299; refine HC.mono ?_; rintro e w2 ⟨rfl, hb2⟩; obtain ⟨B2, k2, l2⟩ := nilBox hb2; obtain ⟨⟨r0, r1, r2⟩, rf0, rf1, rf2⟩ := cells3 k2; obtain ⟨q0, q1, q2⟩ := hc w2 B2; have hb' := Nat.lt_of_lt_of_le hb B2.size)
        go_region_with (go_at_call 105; refine (cellTruthX _ _).mono ?_; rintro e w3 ⟨rfl, rfl⟩)
        all_goals (go_wp2_with fail)
        all_goals
          refine bodyPost_ret (v := .tuple #[.agg #[.int .i64 3, .int .i64 (truN false), .string ⟨#[]⟩], .int .i64 0]) (by first | (simp [results, Tryz.results221, go_sem, r0, r1, r2, l2]; done) | simp [results, Tryz.results221, go_sem, r0, r1, r2, l2, truN]) rfl ⟨by rw [HR.out]; rfl, ?_⟩
          first
            | exact ((set3_below B2 (Nat.le_refl _) _ _ _).alloc (by simp only [World.size_setCell]; exact B2.size) _).alloc (by simp only [World.size_alloc, World.size_setCell]; have := B2.size; omega) _
            | exact (((set3_below B2 (Nat.le_refl _) _ _ _).alloc (by simp only [World.size_setCell]; exact B2.size) _).alloc (by simp only [World.size_alloc, World.size_setCell]; have := B2.size; omega) _).drew
    · have HR : Hid (notC (3, cn, cs) = truC false) := by
        have : (((3, cn, cs) : CellT) == truC false) = false := by simp [truC, truN, h1]
        rw [Hid, notC, this]
      go_enter Tryz.func221, Tryz.ntmps221
      go_upto_region 14 with (go_at_call 299; refine HC.mono ?_; rintro e w2 ⟨rfl, hb2⟩; obtain ⟨B2, k2, l2⟩ := nilBox hb2; obtain ⟨⟨r0, r1, r2⟩, rf0, rf1, rf2⟩ := cells3 k2; obtain ⟨q0, q1, q2⟩ := hc w2 B2; have hb' := Nat.lt_of_lt_of_le hb B2.size)
      go_region_with (go_at_call 105; refine (cellTruthX _ _).mono ?_; rintro e w3 ⟨rfl, rfl⟩)
      all_goals (go_wp2_with fail)
      all_goals
        refine bodyPost_ret (v := .tuple #[.agg #[.int .i64 3, .int .i64 (truN false), .string ⟨#[]⟩], .int .i64 0]) (by first | (simp [results, Tryz.results221, go_sem, r0, r1, r2, l2]; done) | simp [results, Tryz.results221, go_sem, r0, r1, r2, l2, truN]) rfl ⟨by rw [HR.out]; rfl, ?_⟩
        first
          | exact ((set3_below B2 (Nat.le_refl _) _ _ _).alloc (by simp only [World.size_setCell]; exact B2.size) _).alloc (by simp only [World.size_alloc, World.size_setCell]; have := B2.size; omega) _
          | exact (((set3_below B2 (Nat.le_refl _) _ _ _).alloc (by simp only [World.size_setCell]; exact B2.size) _).alloc (by simp only [World.size_alloc, World.size_setCell]; have := B2.size; omega) _).drew
  · have HR : Hid (notC (ck, cn, cs) = truC false) := by
      have : (((ck, cn, cs) : CellT) == truC false) = false := by simp [truC, truN, h3]
      rw [Hid, notC, this]
    go_enter Tryz.func221, Tryz.ntmps221
    go_upto_region 14 with (go_at_call 299; refine HC.mono ?_; rintro e w2 ⟨rfl, hb2⟩; obtain ⟨B2, k2, l2⟩ := nilBox hb2; obtain ⟨⟨r0, r1, r2⟩, rf0, rf1, rf2⟩ := cells3 k2; obtain ⟨q0, q1, q2⟩ := hc w2 B2; have hb' := Nat.lt_of_lt_of_le hb B2.size)
    go_region_with (go_at_call 105; refine (cellTruthX _ _).mono ?_; rintro e w3 ⟨rfl, rfl⟩)
    all_goals (go_wp2_with fail)
    all_goals
      refine bodyPost_ret (v := .tuple #[.agg #[.int .i64 3, .int .i64 (truN false), .string ⟨#[]⟩], .int .i64 0]) (by first | (simp [results, Tryz.results221, go_sem, r0, r1, r2, l2]; done) | simp [results, Tryz.results221, go_sem, r0, r1, r2, l2, truN]) rfl ⟨by rw [HR.out]; rfl, ?_⟩
      first
        | exact ((set3_below B2 (Nat.le_refl _) _ _ _).alloc (by simp only [World.size_setCell]; exact B2.size) _).alloc (by simp only [World.size_alloc, World.size_setCell]; have := B2.size; omega) _
        | exact (((set3_below B2 (Nat.le_refl _) _ _ _).alloc (by simp only [World.size_setCell]; exact B2.size) _).alloc (by simp only [World.size_alloc, World.size_setCell]; have := B2.size; omega) _).drew
end Go.Proofs.YtilfjpmeededmaaGreatDoor

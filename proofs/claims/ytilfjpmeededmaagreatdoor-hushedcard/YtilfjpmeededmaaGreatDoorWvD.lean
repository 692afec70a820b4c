/- Package work: compare, apply (of heads that are quiet). -/
import Derived.Test.YtilfjpmeededmaaGreatDoorWvB
import Derived.Test.YtilfjpmeededmaaGreatDoorWkFZ
namespace Go.Proofs.YtilfjpmeededmaaGreatDoor
open Go.RowKit

def anyNil : List CellT → Bool
  | [] => false
  | c :: cs => (c.1 == 0) || anyNil cs

set_option maxHeartbeats 1600000 in
set_option maxRecDepth 100000 in
theorem nilIndexFunc_any (w : World) (v : Value) (cs : List CellT) (h : CellsIn w v cs) :
    Calls Tryz.prog 360 #[v, .func (Fn.func 144) #[] #[]] w fun e w' => (∃ i : Int, e = .returned (.int .i64 i) ∧ decide (0 ≤ i) = anyNil cs) ∧ Below w.heap.size w w' := by
  obtain ⟨ao, cap, rfl, hl, hz⟩ := h
  unfold maxLen at hl
  go_enter Tryz.func360, Tryz.ntmps360
  go_wp2_with fail
  go_loopw [8] (fun iv wx => ∃ i : Nat, i ≤ cs.length ∧ iv = .int .i64 i ∧ Below w.heap.size w wx ∧ Hid (anyNil cs = anyNil (cs.drop i))) (fun iv _ => cs.length - (intOf iv).toNat)
  case atStart => exact ⟨0, Nat.zero_le _, rfl, Below.refl _ _, rfl⟩
  case round =>
    obtain ⟨i, hi, rfl, hB, HE⟩ := hrel
    have hsB := hB.size
    by_cases hlt : i < cs.length
    · obtain ⟨b, off, rfl, hb, hc⟩ : ∃ b off, ao = some ⟨b, off, none⟩ ∧ b < w.heap.size ∧ ∀ (i : Nat) (c : CellT), cs[i]? = some c → w.cell? ⟨b, off + i * 3, none⟩ = some (.int .i64 c.1) ∧ w.cell? ⟨b, off + i * 3 + 1, none⟩ = some (.int .i64 c.2.1) ∧ w.cell? ⟨b, off + i * 3 + 2, none⟩ = some (.string (ofBs c.2.2)) := by
        rcases hz with h | h
        · subst h; simp at hlt
        · exact h
      obtain ⟨p0, p1, p2⟩ := hc i cs[i] (List.getElem?_eq_getElem hlt)
      have q0 := (hB.cell (p := ⟨b, off + i * 3, none⟩) hb).trans p0
      have q1 := (hB.cell (p := ⟨b, off + i * 3 + 1, none⟩) hb).trans p1
      have q2 := (hB.cell (p := ⟨b, off + i * 3 + 2, none⟩) hb).trans p2
      have HA : Hid (anyNil cs = ((cs[i].1 == 0) || anyNil (cs.drop (i + 1)))) := by rw [Hid, HE.out, List.drop_eq_getElem_cons hlt, anyNil]
      obtain ⟨ck, hck⟩ : ∃ c, c = cs[i] := ⟨_, rfl⟩
      rw [← hck] at q0 q1 q2 HA
      obtain ⟨k, n, l⟩ := ck
      simp only at q0 q1 q2 HA
      have hbr : b < wr.heap.size := by omega
      clear hc hz hck HE p0 p1 p2
      cases h0 : (k == 0) with
      | false =>
        have HN : Hid (anyNil cs = anyNil (cs.drop (i + 1))) := by rw [Hid, HA.out, h0]; rfl
        clear HA
        go_wp2_with (go_at_call 144; refine (isNothing_any _ _ _ _).mono ?_; rw [h0]; rintro e w2 ⟨rfl, hb2⟩)
        go_roundw
        case rel => exact ⟨i + 1, by omega, by go_num, hB.trans (hb2.mono hsB), HN⟩
        case measure => simp [intOf]; omega
      | true =>
        have HN : Hid (anyNil cs = true) := by rw [Hid, HA.out, h0]; rfl
        clear HA
        go_wp2_with (go_at_call 144; refine (isNothing_any _ _ _ _).mono ?_; rw [h0]; rintro e w2 ⟨rfl, hb2⟩)
        go_ret
        exact ⟨⟨_, rfl, by rw [HN.out]; simp⟩, hB.trans (hb2.mono hsB)⟩
    · have HN : Hid (anyNil cs = false) := by rw [Hid, HE.out, List.drop_of_length_le (by omega)]; rfl
      clear HE hz
      go_wp2_with fail
      go_ret
      exact ⟨⟨_, rfl, by rw [HN.out]; rfl⟩, hB⟩

set_option maxHeartbeats 400000 in
set_option maxRecDepth 100000 in
theorem nilContainsFunc_any (w : World) (v : Value) (cs : List CellT) (h : CellsIn w v cs) :
    Calls Tryz.prog 299 #[v, .func (Fn.func 144) #[] #[]] w fun e w' => e = .returned (.bool (anyNil cs)) ∧ Below w.heap.size w w' := by
  have HC := nilIndexFunc_any w v cs h
  go_enter Tryz.func299, Tryz.ntmps299
  go_wp2_with (go_at_call 360; refine HC.mono ?_; rintro e w2 ⟨⟨i, rfl, hi⟩, hb2⟩)
  go_ret
  exact ⟨rfl, hb2⟩

set_option maxHeartbeats 4000000 in
set_option maxRecDepth 100000 in
theorem compare_any (h : Bs) (hh : h = [61] ∨ h = [60] ∨ h = [60, 61]) (a b : CellT) (w : World) :
    Calls Tryz.prog 303 #[.string (ofBs h), .agg #[.int .i64 a.1, .int .i64 a.2.1, .string (ofBs a.2.2)], .agg #[.int .i64 b.1, .int .i64 b.2.1, .string (ofBs b.2.2)]] w fun e w' => (∃ t : Bool, cmpQ h (cmpS a b) = truC t ∧ e = .returned (.agg #[.int .i64 3, .int .i64 (truN t), .string ⟨#[]⟩])) ∧ Below w.heap.size w w' := by
  have HC := fun x : World => cmp_any a b x
  obtain ⟨n, hn⟩ : ∃ n, n = cmpS a b := ⟨_, rfl⟩
  simp only [← hn] at HC ⊢
  clear hn
  have hbx := ((below_box2 w (.cells #[.int .i64 a.1, .int .i64 a.2.1, .string (ofBs a.2.2)] 50) (.cells #[.int .i64 b.1, .int .i64 b.2.1, .string (ofBs b.2.2)] 50)).alloc (by simp [World.size_alloc]; omega) (cellO 0 0 ⟨#[]⟩))
  have hnew := heap_alloc_new ((w.alloc (.cells #[.int .i64 a.1, .int .i64 a.2.1, .string (ofBs a.2.2)] 50)).alloc (.cells #[.int .i64 b.1, .int .i64 b.2.1, .string (ofBs b.2.2)] 50)) (cellO 0 0 ⟨#[]⟩)
  simp only [World.size_alloc] at hnew
  rcases hh with rfl | rfl | rfl
  · have e1 : ofBs [61] = ⟨#[61]⟩ := rfl
    rw [e1]
    have HR : Hid (cmpQ [61] n = truC (n == 0)) := rfl
    go_enter Tryz.func303, Tryz.ntmps303
    go_wp2_with (first
      | (go_at_call 249; refine (HC _).mono ?_; rintro e w2 ⟨rfl, hb2⟩; have hs2 := hb2.size; simp only [World.size_alloc] at hs2; have hR2 := (hb2.block _ (by simp only [World.size_alloc]; omega)).trans hnew; have B2 : Below w.heap.size w w2 := hbx.trans (hb2.mono (by simp only [World.size_alloc]; omega)))
      | (go_at_call 105; refine (cellTruthX _ _).mono ?_; rintro e w3 ⟨rfl, rfl⟩; obtain ⟨⟨z0, z1, z2⟩, g0, g1, g2⟩ := cells3 hR2; have hlt2 := block_lt hR2))
    refine bodyPost_ret (v := .agg #[.int .i64 3, .int .i64 (truN (n == 0)), .string ⟨#[]⟩]) (by simp [results, Tryz.results303, go_sem, z0, z1, z2, hlt2]) rfl ⟨⟨n == 0, HR.out, rfl⟩, ?_⟩
    exact (set3_below B2 (by omega) _ _ _).alloc (by simp only [World.size_setCell]; exact B2.size) _
  · have e1 : ofBs [60] = ⟨#[60]⟩ := rfl
    rw [e1]
    have HR : Hid (cmpQ [60] n = truC (decide (n < 0))) := rfl
    go_enter Tryz.func303, Tryz.ntmps303
    go_wp2_with (first
      | (go_at_call 249; refine (HC _).mono ?_; rintro e w2 ⟨rfl, hb2⟩; have hs2 := hb2.size; simp only [World.size_alloc] at hs2; have hR2 := (hb2.block _ (by simp only [World.size_alloc]; omega)).trans hnew; have B2 : Below w.heap.size w w2 := hbx.trans (hb2.mono (by simp only [World.size_alloc]; omega)))
      | (go_at_call 105; refine (cellTruthX _ _).mono ?_; rintro e w3 ⟨rfl, rfl⟩; obtain ⟨⟨z0, z1, z2⟩, g0, g1, g2⟩ := cells3 hR2; have hlt2 := block_lt hR2))
    refine bodyPost_ret (v := .agg #[.int .i64 3, .int .i64 (truN (decide (n < 0))), .string ⟨#[]⟩]) (by simp [results, Tryz.results303, go_sem, z0, z1, z2, hlt2]) rfl ⟨⟨decide (n < 0), HR.out, rfl⟩, ?_⟩
    exact (set3_below B2 (by omega) _ _ _).alloc (by simp only [World.size_setCell]; exact B2.size) _
  · have e1 : ofBs [60, 61] = ⟨#[60, 61]⟩ := rfl
    rw [e1]
    have HR : Hid (cmpQ [60, 61] n = truC (decide (n ≤ 0))) := rfl
    go_enter Tryz.func303, Tryz.ntmps303
    go_wp2_with (first
      | (go_at_call 249; refine (HC _).mono ?_; rintro e w2 ⟨rfl, hb2⟩; have hs2 := hb2.size; simp only [World.size_alloc] at hs2; have hR2 := (hb2.block _ (by simp only [World.size_alloc]; omega)).trans hnew; have B2 : Below w.heap.size w w2 := hbx.trans (hb2.mono (by simp only [World.size_alloc]; omega)))
      | (go_at_call 105; refine (cellTruthX _ _).mono ?_; rintro e w3 ⟨rfl, rfl⟩; obtain ⟨⟨z0, z1, z2⟩, g0, g1, g2⟩ := cells3 hR2; have hlt2 := block_lt hR2))
    refine bodyPost_ret (v := .agg #[.int .i64 3, .int .i64 (truN (decide (n ≤ 0))), .string ⟨#[]⟩]) (by simp [results, Tryz.results303, go_sem, z0, z1, z2, hlt2]) rfl ⟨⟨decide (n ≤ 0), HR.out, rfl⟩, ?_⟩
    exact (set3_below B2 (by omega) _ _ _).alloc (by simp only [World.size_setCell]; exact B2.size) _
end Go.Proofs.YtilfjpmeededmaaGreatDoor

/- Spaced, walked: whatever the numbers, it answers true and writes nothing that was there. -/
import Derived.Test.YtilfjpmeededmaaMadeW
import Derived.OpenShut
namespace Go.Proofs.Ytilfjpmeededmaa
open Go.RowKit

/-- A slice of integers that came in: nil, or a row of cells. -/
def IsRow (k : IntKind) (w : World) (a : Option Addr) (len cap : Nat) (zs : List Int) : Prop :=
  (a = none ∧ len = 0 ∧ cap = 0 ∧ zs = []) ∨
  ∃ x, a = some x ∧ len ≤ cap ∧ cap ≤ maxLen ∧ zs.length = cap ∧ (∀ i, i < zs.length → w.cell? (x.add i) = some (.int k (zs.getD i 0))) ∧ ∀ n ∈ zs, (Lit.int k n).wf = true

theorem cell1 {x : World} {b : Nat} {a0 : Value} {T : TypeId} (h : x.heap[b]? = some (.cells #[a0] T (0, 0))) : x.cell? ⟨b, 0, none⟩ = some a0 := by
  simp [World.cell?, h]
theorem cell_lt {w : World} {b off : Nat} {v : Value} (h : w.cell? ⟨b, off, none⟩ = some v) : b < w.heap.size := by
  rcases Nat.lt_or_ge b w.heap.size with h' | h'
  · exact h'
  · simp [World.cell?, Array.getElem?_eq_none h'] at h
theorem ints_of_row {w : World} {a : Option Addr} {len cap : Nat} {zs : List Int} (h : IsRow .i64 w a len cap zs) (x : World) (mb : Nat) (hb : Below w.heap.size w x) (hm : w.heap.size ≤ mb) : IntsAt x mb (.slice a len cap) := by
  rcases h with ⟨rfl, rfl, rfl, rfl⟩ | ⟨ad, rfl, hl, hc, hz, hcell, hwf⟩
  · exact .inl ⟨_, _, rfl⟩
  · by_cases h0 : len = 0
    · subst h0; exact .inl ⟨_, _, rfl⟩
    · obtain ⟨b, off, spot⟩ := ad
      have hc0 := hcell 0 (by omega)
      have hspot : spot = none := by simpa [Addr.add] using World.cell?_spot hc0
      subst hspot
      have hlt : b < w.heap.size := by
        rw [Addr.add_lit] at hc0; exact cell_lt hc0
      unfold maxLen at hc
      refine .inr ⟨b, off, len, cap, rfl, by omega, by omega, by omega, by have := hb.size; omega, fun i hi => ?_⟩
      have hci := hcell i (by omega)
      rw [Addr.add_lit] at hci
      have hw : (Lit.int .i64 (zs.getD i 0)).wf = true := by
        have hil : i < zs.length := by omega
        rw [List.getD_eq_getElem?_getD, List.getElem?_eq_getElem hil]
        exact hwf _ (List.getElem_mem hil)
      refine ⟨zs.getD i 0, (hb.cell (p := ⟨b, off + i, none⟩) hlt).trans hci, ?_, ?_⟩
      · have := bounds_i64 hw; omega
      · have := bounds_i64 hw; omega

def cfgS : Cfg := ⟨true, [], [[97, 46, 107], [36, 49]], [[98, 46, 115]], [[114, 111, 119, 46, 104]]⟩
theorem cfgS_ok : CfgOK cfgS := ⟨by decide, by decide, by decide, by decide⟩
theorem cfgS_good : CfgGood cfgS := ⟨by decide, by decide, by decide, .inl rfl⟩

theorem makerS_new (w : World) (rv : Value) (hr : ∀ x : World, Below w.heap.size w x → IntsAt x (w.heap.size + 3) rv) :
    MakerIs ((((w.alloc (.cells #[.string ⟨#[97, 46, 107]⟩, .string ⟨#[36, 49]⟩] 9)).alloc (.cells #[.string ⟨#[98, 46, 115]⟩] 9)).alloc (.cells #[.string ⟨#[114, 111, 119, 46, 104]⟩] 9)).alloc
      (.cells #[rv, .int .i64 0, .int .i64 20, .bool true, .string ⟨#[]⟩, .slice (some ⟨w.heap.size, 0, none⟩) 2 2, .slice (some ⟨w.heap.size + 1, 0, none⟩) 1 1, .slice (some ⟨w.heap.size + 2, 0, none⟩) 1 1] 26)) (w.heap.size + 3) cfgS 0 20 := by
  have k0 : ∀ (x : World) (b : Nat) (o : Obj), x.heap[b]? = some o → ∀ o', (x.alloc o').heap[b]? = some o := fun x b o h o' => blk_alloc h o'
  have b0 := k0 _ _ _ (k0 _ _ _ (k0 _ _ _ (blk_new w (.cells #[.string ⟨#[97, 46, 107]⟩, .string ⟨#[36, 49]⟩] 9)) (.cells #[.string ⟨#[98, 46, 115]⟩] 9)) (.cells #[.string ⟨#[114, 111, 119, 46, 104]⟩] 9))
    (.cells #[rv, .int .i64 0, .int .i64 20, .bool true, .string ⟨#[]⟩, .slice (some ⟨w.heap.size, 0, none⟩) 2 2, .slice (some ⟨w.heap.size + 1, 0, none⟩) 1 1, .slice (some ⟨w.heap.size + 2, 0, none⟩) 1 1] 26)
  have b1 := k0 _ _ _ (k0 _ _ _ (blk_new (w.alloc (.cells #[.string ⟨#[97, 46, 107]⟩, .string ⟨#[36, 49]⟩] 9)) (.cells #[.string ⟨#[98, 46, 115]⟩] 9)) (.cells #[.string ⟨#[114, 111, 119, 46, 104]⟩] 9))
    (.cells #[rv, .int .i64 0, .int .i64 20, .bool true, .string ⟨#[]⟩, .slice (some ⟨w.heap.size, 0, none⟩) 2 2, .slice (some ⟨w.heap.size + 1, 0, none⟩) 1 1, .slice (some ⟨w.heap.size + 2, 0, none⟩) 1 1] 26)
  have b2 := k0 _ _ _ (blk_new ((w.alloc (.cells #[.string ⟨#[97, 46, 107]⟩, .string ⟨#[36, 49]⟩] 9)).alloc (.cells #[.string ⟨#[98, 46, 115]⟩] 9)) (.cells #[.string ⟨#[114, 111, 119, 46, 104]⟩] 9))
    (.cells #[rv, .int .i64 0, .int .i64 20, .bool true, .string ⟨#[]⟩, .slice (some ⟨w.heap.size, 0, none⟩) 2 2, .slice (some ⟨w.heap.size + 1, 0, none⟩) 1 1, .slice (some ⟨w.heap.size + 2, 0, none⟩) 1 1] 26)
  have b3 := blk_new (((w.alloc (.cells #[.string ⟨#[97, 46, 107]⟩, .string ⟨#[36, 49]⟩] 9)).alloc (.cells #[.string ⟨#[98, 46, 115]⟩] 9)).alloc (.cells #[.string ⟨#[114, 111, 119, 46, 104]⟩] 9))
    (.cells #[rv, .int .i64 0, .int .i64 20, .bool true, .string ⟨#[]⟩, .slice (some ⟨w.heap.size, 0, none⟩) 2 2, .slice (some ⟨w.heap.size + 1, 0, none⟩) 1 1, .slice (some ⟨w.heap.size + 2, 0, none⟩) 1 1] 26)
  simp only [World.size_alloc] at b1 b2 b3
  refine ⟨_, _, _, _, b3, hr _ ((((((Below.refl _ _).alloc (Nat.le_refl _) _).alloc (by simp) _).alloc (by simp <;> omega) _).alloc (by simp <;> omega) _)), .inr ⟨_, 0, 2, rfl, by decide, by decide, by omega, by simp <;> omega, ?_⟩, .inr ⟨_, 0, 1, rfl, by decide, by decide, by omega, by simp <;> omega, ?_⟩, .inr ⟨_, 0, 1, rfl, by decide, by decide, by omega, by simp <;> omega, ?_⟩⟩
  · intro i hi
    have hi' : i < 2 := hi
    match i, hi' with
    | 0, _ => exact (cells2 b0).1.1
    | 1, _ => exact (cells2 b0).1.2
  · intro i hi
    have hi' : i < 1 := hi
    match i, hi' with
    | 0, _ => exact cell1 b1
  · intro i hi
    have hi' : i < 1 := hi
    match i, hi' with
    | 0, _ => exact cell1 b2

theorem render_head {x : Tr} (h : Wf x) : (render x).headD 0 ≠ 32 := by
  cases h with
  | leaf h1 h2 h3 h4 h5 h6 =>
    rw [render]
    have := good_head h5
    intro e
    simp only [Bool.false_eq_true, if_false] at e
    rw [e] at this
    cases this
  | node h1 h2 h3 h4 h5 => rw [render]; simp

set_option maxHeartbeats 8000000 in
set_option maxRecDepth 100000 in
theorem spaced_walk (rv bv : Value) (w : World) (hr : ∀ x mb, Below w.heap.size w x → w.heap.size ≤ mb → IntsAt x mb rv) (hbv : ∀ x mb, Below w.heap.size w x → w.heap.size ≤ mb → IntsAt x mb bv) :
    Calls Try.prog 3 #[rv, bv] w fun e w' => e = .returned (.bool true) ∧ Below w.heap.size w w' := by
  obtain ⟨ra, rn, rc, rfl⟩ : ∃ ra rn rc, rv = .slice ra rn rc := by
    rcases hr w w.heap.size (Below.refl _ _) (Nat.le_refl _) with ⟨ao, cap, rfl⟩ | ⟨b, off, n, cap, rfl, _⟩
    · exact ⟨_, _, _, rfl⟩
    · exact ⟨_, _, _, rfl⟩
  go_enter Try.func3, Try.ntmps3
  go_wp2_with (go_at_call 5; refine (number_any _ _ (w.heap.size + 3) cfgS 0 20 (by decide) (by decide) (by decide) (by decide) ?hm).mono ?_)
  case hm => exact makerS_new w _ (fun x hx => hr x _ hx (by omega))
  rintro e w2 ⟨r, a', rfl, hr0, hr1, ha0, ha1, hg2, hM2⟩
  have B2 : Below w.heap.size w w2 := below_grown (((((Below.refl _ _).alloc (Nat.le_refl _) _).alloc (by simp) _).alloc (by simp; omega) _).alloc (by simp; omega) _) hg2 (by omega) (by simp; omega)
  have hcA : a' ≤ 1000 * (((0 : Nat) : Int) + 1) := by simp; omega
  have hr3 : r = 0 ∨ r = 1 ∨ r = 2 := by omega
  clear hr0 hr1
  rcases hr3 with rfl | rfl | rfl
  · go_wp2_with (go_at_call 4; refine (of_any cfgS cfgS_ok 4 0 rfl _ (w.heap.size + 3) a' 20 110 hM2 (.inl rfl) (by omega) hcA (by decide) (by decide)).mono ?_)
    rintro e w3 ⟨x, a3, rfl, hx, hxd, hx1, hx2, _, _, hg3, _⟩
    have hn : nodes x ≤ 28 := by have := hx2 (by omega); simp at this; omega
    have hlen := made_len cfgS_ok hx
    have hw := made_wf cfgS_good hx
    obtain ⟨s, hse⟩ : ∃ s, s = render x := ⟨_, rfl⟩
    have hsl : s.length ≤ 335 := by rw [hse]; omega
    have T1 : Hid (tidyS s = some s) := by rw [Hid, hse]; exact tidy_same hw (by omega) (by omega)
    have T2 : Hid (∀ o, Spd none false s o → o.length ≤ 400 → tidyS o = some s) := by rw [Hid, hse]; exact fun o ho hl => tidy_spaced hw (by omega) ho hl
    have T3 : Hid (tidyS (s ++ [32, 49]) = none) := by rw [Hid, hse]; exact tidy_more hw (by omega)
    have T4 : Hid (tidyS ([40, 110, 111, 116, 32] ++ s) = none) := by rw [Hid, hse]; exact tidy_open hw (by omega)
    have H0 : Hid (∀ h : 0 < (ofBs s).size, (ofBs s)[0] ≠ 32) := by
      rw [hse]; intro h; rw [← head_get _ h, ofBs_toList]; exact render_head hw
    rw [← hse]
    have B3 : Below w.heap.size w w3 := below_grown B2 hg3 (by omega) B2.size
    clear hse hx hxd hx1 hx2 hlen hw hg3 hn hM2 B2 hg2
    have hss : (ofBs s).size ≤ 335 := by rw [ofBs_size]; exact hsl
    have hsm : (ofBs s).size ≤ maxLen := by unfold maxLen; omega
    go_wp2_with (go_at_call 6; refine (tidy_any _ _ hsm).mono ?_)
    rintro e w4 ⟨hb4, hres⟩
    rw [ofBs_toList, T1.out] at hres
    have B4 : Below w.heap.size w w4 := B3.trans (hb4.mono B3.size)
    rcases hres with ⟨h, _⟩ | ⟨l4, h, _, rfl⟩
    · cases h
    obtain rfl : s = l4 := by simpa using h
    clear h hb4
    have h390 : (ofBs s).size ≤ 390 := by omega
    have hbv4 : ∀ x : World, Below w4.heap.size w4 x → IntsAt x w4.heap.size bv := fun x hx => hbv x _ (B4.trans (hx.mono B4.size)) B4.size
    go_wp2_with (go_at_call 7; refine (spaced_any _ h390 H0.out _ bv hbv4).mono ?_)
    rintro e w5 ⟨hb5, o, rfl, hol, hspd⟩
    rw [ofBs_toList] at hspd
    have B5 : Below w.heap.size w w5 := B4.trans (hb5.mono B4.size)
    have T5 : Hid (tidyS o = some s) := T2.out o hspd hol
    have hom : (ofBs o).size ≤ maxLen := by rw [ofBs_size]; unfold maxLen; omega
    clear hb5 hspd hbv4 T2 H0
    go_wp2_with (go_at_call 6; refine (tidy_any _ _ hom).mono ?_)
    rintro e w6 ⟨hb6, hres⟩
    rw [ofBs_toList, T5.out] at hres
    have B6 : Below w.heap.size w w6 := B5.trans (hb6.mono B5.size)
    rcases hres with ⟨h, _⟩ | ⟨l6, h, _, rfl⟩
    · cases h
    obtain rfl : s = l6 := by simpa using h
    clear h hb6 T5 hom hol
    have e1 : ofBs s ++ ⟨#[32, 49]⟩ = ofBs (s ++ [32, 49]) := add_str s [32, 49]
    have e2 : (ByteArray.mk #[40, 110, 111, 116, 32]) ++ ofBs s = ofBs ([40, 110, 111, 116, 32] ++ s) := add_str [40, 110, 111, 116, 32] s
    have HT3 : ∀ x : World, Calls Try.prog 6 #[.string (ofBs s ++ ⟨#[32, 49]⟩)] x fun e w' => e = .returned (.tuple #[.string ⟨#[]⟩, .int .i64 1]) ∧ Below x.heap.size x w' := by
      intro x
      rw [e1]
      refine (tidy_any _ x (by rw [ofBs_size]; unfold maxLen; simp; omega)).mono ?_
      rintro e w' ⟨hb, hres⟩
      rw [ofBs_toList, T3.out] at hres
      rcases hres with ⟨_, h⟩ | ⟨_, h, _⟩
      · exact ⟨h, hb⟩
      · cases h
    have HT4 : ∀ x : World, Calls Try.prog 6 #[.string ((ByteArray.mk #[40, 110, 111, 116, 32]) ++ ofBs s)] x fun e w' => e = .returned (.tuple #[.string ⟨#[]⟩, .int .i64 1]) ∧ Below x.heap.size x w' := by
      intro x
      rw [e2]
      refine (tidy_any _ x (by rw [ofBs_size]; unfold maxLen; simp; omega)).mono ?_
      rintro e w' ⟨hb, hres⟩
      rw [ofBs_toList, T4.out] at hres
      rcases hres with ⟨_, h⟩ | ⟨_, h, _⟩
      · exact ⟨h, hb⟩
      · cases h
    clear e1 e2
    have s1 : (ByteArray.mk #[32, 49]).size = 2 := rfl
    have s2 : (ByteArray.mk #[40, 110, 111, 116, 32]).size = 5 := rfl
    go_wp2_with (go_at_call 6; refine (HT3 _).mono ?_)
    rintro e w7 ⟨rfl, hb7⟩
    have B7 : Below w.heap.size w w7 := B6.trans (hb7.mono B6.size)
    clear hb7
    go_wp2_with (go_at_call 6; refine (HT4 _).mono ?_)
    rintro e w8 ⟨rfl, hb8⟩
    have B8 : Below w.heap.size w w8 := B7.trans (hb8.mono B7.size)
    clear hb8 HT3 HT4
    go_wp2_with fail
    go_ret
    exact ⟨rfl, B8⟩
  · go_wp2_with (go_at_call 4; refine (of_any cfgS cfgS_ok 4 0 rfl _ (w.heap.size + 3) a' 20 116 hM2 (.inr (.inl rfl)) (by omega) hcA (by decide) (by decide)).mono ?_)
    rintro e w3 ⟨x, a3, rfl, hx, hxd, hx1, hx2, _, _, hg3, _⟩
    have hn : nodes x ≤ 28 := by have := hx2 (by omega); simp at this; omega
    have hlen := made_len cfgS_ok hx
    have hw := made_wf cfgS_good hx
    obtain ⟨s, hse⟩ : ∃ s, s = render x := ⟨_, rfl⟩
    have hsl : s.length ≤ 335 := by rw [hse]; omega
    have T1 : Hid (tidyS s = some s) := by rw [Hid, hse]; exact tidy_same hw (by omega) (by omega)
    have T2 : Hid (∀ o, Spd none false s o → o.length ≤ 400 → tidyS o = some s) := by rw [Hid, hse]; exact fun o ho hl => tidy_spaced hw (by omega) ho hl
    have T3 : Hid (tidyS (s ++ [32, 49]) = none) := by rw [Hid, hse]; exact tidy_more hw (by omega)
    have T4 : Hid (tidyS ([40, 110, 111, 116, 32] ++ s) = none) := by rw [Hid, hse]; exact tidy_open hw (by omega)
    have H0 : Hid (∀ h : 0 < (ofBs s).size, (ofBs s)[0] ≠ 32) := by
      rw [hse]; intro h; rw [← head_get _ h, ofBs_toList]; exact render_head hw
    rw [← hse]
    have B3 : Below w.heap.size w w3 := below_grown B2 hg3 (by omega) B2.size
    clear hse hx hxd hx1 hx2 hlen hw hg3 hn hM2 B2 hg2
    have hss : (ofBs s).size ≤ 335 := by rw [ofBs_size]; exact hsl
    have hsm : (ofBs s).size ≤ maxLen := by unfold maxLen; omega
    go_wp2_with (go_at_call 6; refine (tidy_any _ _ hsm).mono ?_)
    rintro e w4 ⟨hb4, hres⟩
    rw [ofBs_toList, T1.out] at hres
    have B4 : Below w.heap.size w w4 := B3.trans (hb4.mono B3.size)
    rcases hres with ⟨h, _⟩ | ⟨l4, h, _, rfl⟩
    · cases h
    obtain rfl : s = l4 := by simpa using h
    clear h hb4
    have h390 : (ofBs s).size ≤ 390 := by omega
    have hbv4 : ∀ x : World, Below w4.heap.size w4 x → IntsAt x w4.heap.size bv := fun x hx => hbv x _ (B4.trans (hx.mono B4.size)) B4.size
    go_wp2_with (go_at_call 7; refine (spaced_any _ h390 H0.out _ bv hbv4).mono ?_)
    rintro e w5 ⟨hb5, o, rfl, hol, hspd⟩
    rw [ofBs_toList] at hspd
    have B5 : Below w.heap.size w w5 := B4.trans (hb5.mono B4.size)
    have T5 : Hid (tidyS o = some s) := T2.out o hspd hol
    have hom : (ofBs o).size ≤ maxLen := by rw [ofBs_size]; unfold maxLen; omega
    clear hb5 hspd hbv4 T2 H0
    go_wp2_with (go_at_call 6; refine (tidy_any _ _ hom).mono ?_)
    rintro e w6 ⟨hb6, hres⟩
    rw [ofBs_toList, T5.out] at hres
    have B6 : Below w.heap.size w w6 := B5.trans (hb6.mono B5.size)
    rcases hres with ⟨h, _⟩ | ⟨l6, h, _, rfl⟩
    · cases h
    obtain rfl : s = l6 := by simpa using h
    clear h hb6 T5 hom hol
    have e1 : ofBs s ++ ⟨#[32, 49]⟩ = ofBs (s ++ [32, 49]) := add_str s [32, 49]
    have e2 : (ByteArray.mk #[40, 110, 111, 116, 32]) ++ ofBs s = ofBs ([40, 110, 111, 116, 32] ++ s) := add_str [40, 110, 111, 116, 32] s
    have HT3 : ∀ x : World, Calls Try.prog 6 #[.string (ofBs s ++ ⟨#[32, 49]⟩)] x fun e w' => e = .returned (.tuple #[.string ⟨#[]⟩, .int .i64 1]) ∧ Below x.heap.size x w' := by
      intro x
      rw [e1]
      refine (tidy_any _ x (by rw [ofBs_size]; unfold maxLen; simp; omega)).mono ?_
      rintro e w' ⟨hb, hres⟩
      rw [ofBs_toList, T3.out] at hres
      rcases hres with ⟨_, h⟩ | ⟨_, h, _⟩
      · exact ⟨h, hb⟩
      · cases h
    have HT4 : ∀ x : World, Calls Try.prog 6 #[.string ((ByteArray.mk #[40, 110, 111, 116, 32]) ++ ofBs s)] x fun e w' => e = .returned (.tuple #[.string ⟨#[]⟩, .int .i64 1]) ∧ Below x.heap.size x w' := by
      intro x
      rw [e2]
      refine (tidy_any _ x (by rw [ofBs_size]; unfold maxLen; simp; omega)).mono ?_
      rintro e w' ⟨hb, hres⟩
      rw [ofBs_toList, T4.out] at hres
      rcases hres with ⟨_, h⟩ | ⟨_, h, _⟩
      · exact ⟨h, hb⟩
      · cases h
    clear e1 e2
    have s1 : (ByteArray.mk #[32, 49]).size = 2 := rfl
    have s2 : (ByteArray.mk #[40, 110, 111, 116, 32]).size = 5 := rfl
    go_wp2_with (go_at_call 6; refine (HT3 _).mono ?_)
    rintro e w7 ⟨rfl, hb7⟩
    have B7 : Below w.heap.size w w7 := B6.trans (hb7.mono B6.size)
    clear hb7
    go_wp2_with (go_at_call 6; refine (HT4 _).mono ?_)
    rintro e w8 ⟨rfl, hb8⟩
    have B8 : Below w.heap.size w w8 := B7.trans (hb8.mono B7.size)
    clear hb8 HT3 HT4
    go_wp2_with fail
    go_ret
    exact ⟨rfl, B8⟩
  · go_wp2_with (go_at_call 4; refine (of_any cfgS cfgS_ok 4 0 rfl _ (w.heap.size + 3) a' 20 98 hM2 (.inr (.inr rfl)) (by omega) hcA (by decide) (by decide)).mono ?_)
    rintro e w3 ⟨x, a3, rfl, hx, hxd, hx1, hx2, _, _, hg3, _⟩
    have hn : nodes x ≤ 28 := by have := hx2 (by omega); simp at this; omega
    have hlen := made_len cfgS_ok hx
    have hw := made_wf cfgS_good hx
    obtain ⟨s, hse⟩ : ∃ s, s = render x := ⟨_, rfl⟩
    have hsl : s.length ≤ 335 := by rw [hse]; omega
    have T1 : Hid (tidyS s = some s) := by rw [Hid, hse]; exact tidy_same hw (by omega) (by omega)
    have T2 : Hid (∀ o, Spd none false s o → o.length ≤ 400 → tidyS o = some s) := by rw [Hid, hse]; exact fun o ho hl => tidy_spaced hw (by omega) ho hl
    have T3 : Hid (tidyS (s ++ [32, 49]) = none) := by rw [Hid, hse]; exact tidy_more hw (by omega)
    have T4 : Hid (tidyS ([40, 110, 111, 116, 32] ++ s) = none) := by rw [Hid, hse]; exact tidy_open hw (by omega)
    have H0 : Hid (∀ h : 0 < (ofBs s).size, (ofBs s)[0] ≠ 32) := by
      rw [hse]; intro h; rw [← head_get _ h, ofBs_toList]; exact render_head hw
    rw [← hse]
    have B3 : Below w.heap.size w w3 := below_grown B2 hg3 (by omega) B2.size
    clear hse hx hxd hx1 hx2 hlen hw hg3 hn hM2 B2 hg2
    have hss : (ofBs s).size ≤ 335 := by rw [ofBs_size]; exact hsl
    have hsm : (ofBs s).size ≤ maxLen := by unfold maxLen; omega
    go_wp2_with (go_at_call 6; refine (tidy_any _ _ hsm).mono ?_)
    rintro e w4 ⟨hb4, hres⟩
    rw [ofBs_toList, T1.out] at hres
    have B4 : Below w.heap.size w w4 := B3.trans (hb4.mono B3.size)
    rcases hres with ⟨h, _⟩ | ⟨l4, h, _, rfl⟩
    · cases h
    obtain rfl : s = l4 := by simpa using h
    clear h hb4
    have h390 : (ofBs s).size ≤ 390 := by omega
    have hbv4 : ∀ x : World, Below w4.heap.size w4 x → IntsAt x w4.heap.size bv := fun x hx => hbv x _ (B4.trans (hx.mono B4.size)) B4.size
    go_wp2_with (go_at_call 7; refine (spaced_any _ h390 H0.out _ bv hbv4).mono ?_)
    rintro e w5 ⟨hb5, o, rfl, hol, hspd⟩
    rw [ofBs_toList] at hspd
    have B5 : Below w.heap.size w w5 := B4.trans (hb5.mono B4.size)
    have T5 : Hid (tidyS o = some s) := T2.out o hspd hol
    have hom : (ofBs o).size ≤ maxLen := by rw [ofBs_size]; unfold maxLen; omega
    clear hb5 hspd hbv4 T2 H0
    go_wp2_with (go_at_call 6; refine (tidy_any _ _ hom).mono ?_)
    rintro e w6 ⟨hb6, hres⟩
    rw [ofBs_toList, T5.out] at hres
    have B6 : Below w.heap.size w w6 := B5.trans (hb6.mono B5.size)
    rcases hres with ⟨h, _⟩ | ⟨l6, h, _, rfl⟩
    · cases h
    obtain rfl : s = l6 := by simpa using h
    clear h hb6 T5 hom hol
    have e1 : ofBs s ++ ⟨#[32, 49]⟩ = ofBs (s ++ [32, 49]) := add_str s [32, 49]
    have e2 : (ByteArray.mk #[40, 110, 111, 116, 32]) ++ ofBs s = ofBs ([40, 110, 111, 116, 32] ++ s) := add_str [40, 110, 111, 116, 32] s
    have HT3 : ∀ x : World, Calls Try.prog 6 #[.string (ofBs s ++ ⟨#[32, 49]⟩)] x fun e w' => e = .returned (.tuple #[.string ⟨#[]⟩, .int .i64 1]) ∧ Below x.heap.size x w' := by
      intro x
      rw [e1]
      refine (tidy_any _ x (by rw [ofBs_size]; unfold maxLen; simp; omega)).mono ?_
      rintro e w' ⟨hb, hres⟩
      rw [ofBs_toList, T3.out] at hres
      rcases hres with ⟨_, h⟩ | ⟨_, h, _⟩
      · exact ⟨h, hb⟩
      · cases h
    have HT4 : ∀ x : World, Calls Try.prog 6 #[.string ((ByteArray.mk #[40, 110, 111, 116, 32]) ++ ofBs s)] x fun e w' => e = .returned (.tuple #[.string ⟨#[]⟩, .int .i64 1]) ∧ Below x.heap.size x w' := by
      intro x
      rw [e2]
      refine (tidy_any _ x (by rw [ofBs_size]; unfold maxLen; simp; omega)).mono ?_
      rintro e w' ⟨hb, hres⟩
      rw [ofBs_toList, T4.out] at hres
      rcases hres with ⟨_, h⟩ | ⟨_, h, _⟩
      · exact ⟨h, hb⟩
      · cases h
    clear e1 e2
    have s1 : (ByteArray.mk #[32, 49]).size = 2 := rfl
    have s2 : (ByteArray.mk #[40, 110, 111, 116, 32]).size = 5 := rfl
    go_wp2_with (go_at_call 6; refine (HT3 _).mono ?_)
    rintro e w7 ⟨rfl, hb7⟩
    have B7 : Below w.heap.size w w7 := B6.trans (hb7.mono B6.size)
    clear hb7
    go_wp2_with (go_at_call 6; refine (HT4 _).mono ?_)
    rintro e w8 ⟨rfl, hb8⟩
    have B8 : Below w.heap.size w w8 := B7.trans (hb8.mono B7.size)
    clear hb8 HT3 HT4
    go_wp2_with fail
    go_ret
    exact ⟨rfl, B8⟩
end Go.Proofs.Ytilfjpmeededmaa

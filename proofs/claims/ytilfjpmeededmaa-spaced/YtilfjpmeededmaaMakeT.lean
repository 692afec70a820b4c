/- The maker's tokens. -/
import Derived.Test.YtilfjpmeededmaaMakeN
namespace Go.Proofs.Ytilfjpmeededmaa
open Go.RowKit

def numToks : List Bs := [[48], [49], [55], [45, 51], [50], [49, 48, 48, 48, 48, 48, 48, 48, 48, 48]]
def textToks : List Bs := [[39, 97, 39], [39, 98, 39], [39, 39], [117, 115, 101, 114], [39, 108, 111, 110, 103, 32, 116, 101, 120, 116, 39]]
def boolToks : List Bs := [[116, 114, 117, 101], [102, 97, 108, 115, 101]]
def litToks (t : Int) : List Bs := if t = 116 then textToks else if t = 98 then boolToks else numToks
def ownToks (c : Cfg) (t : Int) : List Bs := if t = 116 then c.texts else if t = 98 then c.bools else c.nums
def IsTok (c : Cfg) (t : Int) (tx : Bs) : Prop := tx ∈ litToks t ∨ tx ∈ ownToks c t

def Tokened (w : World) (mb : Nat) (c : Cfg) (a l : Int) (t : Int) (e : Ending) (w' : World) : Prop :=
  ∃ (tx : Bs) (a' : Int), e = .returned (.string (ofBs tx)) ∧ IsTok c t tx ∧ a ≤ a' ∧ a' ≤ a + 2 ∧ w.grownBy w' (some mb) ∧ MakerIs w' mb c a' l

theorem grown_blk {x y : World} {b mb : Nat} {o : Obj} (h : x.heap[b]? = some o) (hb : x.grownBy y (some mb)) (hne : b ≠ mb) : y.heap[b]? = some o := blk_grown h hb hne
/-- A row of texts that lies in a block: the text at a place. -/
theorem row_at {x : World} {b : Nat} {ts : List Bs} {T : TypeId} (h : x.heap[b]? = some (.cells (ts.map fun t => Value.string (ofBs t)).toArray T (0, 0))) {r : Int} (h0 : 0 ≤ r) (h1 : r < ts.length) :
    ∃ tx, tx ∈ ts ∧ x.cell? ⟨b, r.toNat, none⟩ = some (.string (ofBs tx)) := by
  have hr : r.toNat < ts.length := by omega
  refine ⟨ts[r.toNat], List.getElem_mem hr, ?_⟩
  simp [World.cell?, h, hr]
theorem strs_at {x y : World} {mb : Nat} {b off : Nat} {l : List Bs} (hg : x.grownBy y (some mb)) (hb : b ≠ mb) (hlt : b < x.heap.size) (hc : ∀ i (h : i < l.length), x.cell? ⟨b, off + i, none⟩ = some (.string (ofBs l[i]))) {r : Int} (h0 : 0 ≤ r) (h1 : r < l.length) :
    ∃ tx, tx ∈ l ∧ y.cell? ⟨b, off + r.toNat, none⟩ = some (.string (ofBs tx)) := by
  have hr : r.toNat < l.length := by omega
  refine ⟨l[r.toNat], List.getElem_mem hr, ?_⟩
  rw [World.cell?_of_block (w := x) (hg.block b hlt (by simpa using hb))]
  exact hc _ hr

set_option maxHeartbeats 1600000 in
set_option maxRecDepth 100000 in
theorem token_n (w : World) (mb : Nat) (c : Cfg) (a l : Int) (ha : 0 ≤ a) (ha2 : a ≤ 100000) (h : MakerIs w mb c a l) :
    Calls Try.prog 8 #[.pointer (some ⟨mb, 0, none⟩), .int .u8 110] w fun e w' => Tokened w mb c a l 110 e w' := by
  have hM := h
  have hlt := h.lt
  have hne : w.heap.size ≠ mb := by omega
  have hne1 : w.heap.size + 1 ≠ mb := by omega
  obtain ⟨rv, nv, tv, bv, hk, h1, h2, h3, h4⟩ := h
  obtain ⟨⟨y0, y1, y2, y3, y4, y5, y6, y7⟩, f1, f2⟩ := cells8 hk
  rcases h2 with ⟨hnil, ao, cap, rfl⟩ | ⟨b, off, cap, rfl, hl0, hl1, hb, hbl, hc⟩
  · clear h1 h3 h4 hk
    go_enter Try.func8, Try.ntmps8
    go_wp2_with (go_at_call 5; refine (number_any _ _ mb c a l ?c1 ?c2 ha ?c3 (hM.alloc _)).mono ?_)
    case c1 => decide
    case c2 => decide
    case c3 => omega
    rintro e w2 ⟨r, a', rfl, hr0, hr1, ha0, ha1, hg2, hM2⟩
    obtain ⟨tx, htx, hcell⟩ := row_at (ts := numToks) (grown_blk (blk_new w _) hg2 hne) hr0 hr1
    go_wp2
    go_ret
    exact ⟨tx, a', rfl, .inl htx, ha0, by omega, grown_trans (grown_alloc (grown_refl w _) _) hg2, hM2⟩
  · clear h1 h3 h4 hk
    go_enter Try.func8, Try.ntmps8
    go_wp2_with (go_at_call 5; refine (number_any _ _ mb c a l ?c1 ?c2 ha ?c3 (hM.alloc _)).mono ?_)
    case c1 => decide
    case c2 => decide
    case c3 => omega
    rintro e w2 ⟨r, a', rfl, hr0, hr1, ha0, ha1, hg2, hM2⟩
    have hkl := grown_blk (blk_new w _) hg2 hne
    have G2 : w.grownBy w2 (some mb) := grown_trans (grown_alloc (grown_refl w _) _) hg2
    have hbl2 : b < w2.heap.size := Nat.lt_of_lt_of_le hbl G2.size
    by_cases hr : 0 < r
    · go_wp2_with (go_at_call 5; refine (number_any _ _ mb c a' l ?c1 ?c2 ?c4 ?c3 hM2).mono ?_)
      case c1 => omega
      case c2 => omega
      case c3 => omega
      case c4 => omega
      rintro e w3 ⟨r3, a3, rfl, hr30, hr31, ha30, ha31, hg3, hM3⟩
      obtain ⟨tx, htx, hcell⟩ := strs_at (grown_trans G2 hg3) hb hbl hc hr30 hr31
      go_wp2
      go_ret
      exact ⟨tx, a3, rfl, .inr htx, by omega, by omega, grown_trans G2 hg3, hM3⟩
    · go_wp2_with (go_at_call 5; refine (number_any _ _ mb c a' l ?c1 ?c2 ?c4 ?c3 hM2).mono ?_)
      case c1 => omega
      case c2 => omega
      case c3 => omega
      case c4 => omega
      rintro e w3 ⟨r3, a3, rfl, hr30, hr31, ha30, ha31, hg3, hM3⟩
      obtain ⟨tx, htx, hcell⟩ := row_at (ts := numToks) (grown_blk hkl hg3 hne) hr30 hr31
      go_wp2
      go_ret
      exact ⟨tx, a3, rfl, .inl htx, by omega, by omega, grown_trans G2 hg3, hM3⟩

set_option maxHeartbeats 1600000 in
set_option maxRecDepth 100000 in
theorem token_t (w : World) (mb : Nat) (c : Cfg) (a l : Int) (ha : 0 ≤ a) (ha2 : a ≤ 100000) (h : MakerIs w mb c a l) :
    Calls Try.prog 8 #[.pointer (some ⟨mb, 0, none⟩), .int .u8 116] w fun e w' => Tokened w mb c a l 116 e w' := by
  have hM := h
  have hlt := h.lt
  have hne : w.heap.size ≠ mb := by omega
  have hne1 : w.heap.size + 1 ≠ mb := by omega
  obtain ⟨rv, nv, tv, bv, hk, h1, h2, h3, h4⟩ := h
  obtain ⟨⟨y0, y1, y2, y3, y4, y5, y6, y7⟩, f1, f2⟩ := cells8 hk
  rcases h3 with ⟨hnil, ao, cap, rfl⟩ | ⟨b, off, cap, rfl, hl0, hl1, hb, hbl, hc⟩
  · clear h1 h2 h4 hk
    go_enter Try.func8, Try.ntmps8
    go_wp2_with (go_at_call 5; refine (number_any _ _ mb c a l ?c1 ?c2 ha ?c3 ((hM.alloc _).alloc _)).mono ?_)
    case c1 => decide
    case c2 => decide
    case c3 => omega
    rintro e w2 ⟨r, a', rfl, hr0, hr1, ha0, ha1, hg2, hM2⟩
    obtain ⟨tx, htx, hcell⟩ := row_at (ts := textToks) (grown_blk (blk_new (w.alloc _) _) hg2 (by simpa using hne1)) hr0 hr1
    simp only [World.size_alloc] at hcell
    go_wp2
    go_ret
    exact ⟨tx, a', rfl, .inl htx, ha0, by omega, grown_trans (grown_alloc (grown_alloc (grown_refl w _) _) _) hg2, hM2⟩
  · clear h1 h2 h4 hk
    go_enter Try.func8, Try.ntmps8
    go_wp2_with (go_at_call 5; refine (number_any _ _ mb c a l ?c1 ?c2 ha ?c3 ((hM.alloc _).alloc _)).mono ?_)
    case c1 => decide
    case c2 => decide
    case c3 => omega
    rintro e w2 ⟨r, a', rfl, hr0, hr1, ha0, ha1, hg2, hM2⟩
    have hkl := grown_blk (blk_new (w.alloc _) _) hg2 (by simpa using hne1)
    have G2 : w.grownBy w2 (some mb) := grown_trans (grown_alloc (grown_alloc (grown_refl w _) _) _) hg2
    have hbl2 : b < w2.heap.size := Nat.lt_of_lt_of_le hbl G2.size
    by_cases hr : 0 < r
    · go_wp2_with (go_at_call 5; refine (number_any _ _ mb c a' l ?c1 ?c2 ?c4 ?c3 hM2).mono ?_)
      case c1 => omega
      case c2 => omega
      case c3 => omega
      case c4 => omega
      rintro e w3 ⟨r3, a3, rfl, hr30, hr31, ha30, ha31, hg3, hM3⟩
      obtain ⟨tx, htx, hcell⟩ := strs_at (grown_trans G2 hg3) hb hbl hc hr30 hr31
      go_wp2
      go_ret
      exact ⟨tx, a3, rfl, .inr htx, by omega, by omega, grown_trans G2 hg3, hM3⟩
    · go_wp2_with (go_at_call 5; refine (number_any _ _ mb c a' l ?c1 ?c2 ?c4 ?c3 hM2).mono ?_)
      case c1 => omega
      case c2 => omega
      case c3 => omega
      case c4 => omega
      rintro e w3 ⟨r3, a3, rfl, hr30, hr31, ha30, ha31, hg3, hM3⟩
      obtain ⟨tx, htx, hcell⟩ := row_at (ts := textToks) (grown_blk hkl hg3 (by simpa using hne1)) hr30 hr31
      simp only [World.size_alloc] at hcell
      go_wp2
      go_ret
      exact ⟨tx, a3, rfl, .inl htx, by omega, by omega, grown_trans G2 hg3, hM3⟩

set_option maxHeartbeats 1600000 in
set_option maxRecDepth 100000 in
theorem token_b (w : World) (mb : Nat) (c : Cfg) (a l : Int) (ha : 0 ≤ a) (ha2 : a ≤ 100000) (h : MakerIs w mb c a l) :
    Calls Try.prog 8 #[.pointer (some ⟨mb, 0, none⟩), .int .u8 98] w fun e w' => Tokened w mb c a l 98 e w' := by
  have hM := h
  have hlt := h.lt
  have hne : w.heap.size ≠ mb := by omega
  have hne1 : w.heap.size + 1 ≠ mb := by omega
  obtain ⟨rv, nv, tv, bv, hk, h1, h2, h3, h4⟩ := h
  obtain ⟨⟨y0, y1, y2, y3, y4, y5, y6, y7⟩, f1, f2⟩ := cells8 hk
  rcases h4 with ⟨hnil, ao, cap, rfl⟩ | ⟨b, off, cap, rfl, hl0, hl1, hb, hbl, hc⟩
  · clear h1 h2 h3 hk
    go_enter Try.func8, Try.ntmps8
    go_wp2_with (go_at_call 5; refine (number_any _ _ mb c a l ?c1 ?c2 ha ?c3 ((hM.alloc _).alloc _)).mono ?_)
    case c1 => decide
    case c2 => decide
    case c3 => omega
    rintro e w2 ⟨r, a', rfl, hr0, hr1, ha0, ha1, hg2, hM2⟩
    obtain ⟨tx, htx, hcell⟩ := row_at (ts := boolToks) (grown_blk (blk_new (w.alloc _) _) hg2 (by simpa using hne1)) hr0 hr1
    simp only [World.size_alloc] at hcell
    go_wp2
    go_ret
    exact ⟨tx, a', rfl, .inl htx, ha0, by omega, grown_trans (grown_alloc (grown_alloc (grown_refl w _) _) _) hg2, hM2⟩
  · clear h1 h2 h3 hk
    go_enter Try.func8, Try.ntmps8
    go_wp2_with (go_at_call 5; refine (number_any _ _ mb c a l ?c1 ?c2 ha ?c3 ((hM.alloc _).alloc _)).mono ?_)
    case c1 => decide
    case c2 => decide
    case c3 => omega
    rintro e w2 ⟨r, a', rfl, hr0, hr1, ha0, ha1, hg2, hM2⟩
    have hkl := grown_blk (blk_new (w.alloc _) _) hg2 (by simpa using hne1)
    have G2 : w.grownBy w2 (some mb) := grown_trans (grown_alloc (grown_alloc (grown_refl w _) _) _) hg2
    have hbl2 : b < w2.heap.size := Nat.lt_of_lt_of_le hbl G2.size
    by_cases hr : 0 < r
    · go_wp2_with (go_at_call 5; refine (number_any _ _ mb c a' l ?c1 ?c2 ?c4 ?c3 hM2).mono ?_)
      case c1 => omega
      case c2 => omega
      case c3 => omega
      case c4 => omega
      rintro e w3 ⟨r3, a3, rfl, hr30, hr31, ha30, ha31, hg3, hM3⟩
      obtain ⟨tx, htx, hcell⟩ := strs_at (grown_trans G2 hg3) hb hbl hc hr30 hr31
      go_wp2
      go_ret
      exact ⟨tx, a3, rfl, .inr htx, by omega, by omega, grown_trans G2 hg3, hM3⟩
    · go_wp2_with (go_at_call 5; refine (number_any _ _ mb c a' l ?c1 ?c2 ?c4 ?c3 hM2).mono ?_)
      case c1 => omega
      case c2 => omega
      case c3 => omega
      case c4 => omega
      rintro e w3 ⟨r3, a3, rfl, hr30, hr31, ha30, ha31, hg3, hM3⟩
      obtain ⟨tx, htx, hcell⟩ := row_at (ts := boolToks) (grown_blk hkl hg3 (by simpa using hne1)) hr30 hr31
      simp only [World.size_alloc] at hcell
      go_wp2
      go_ret
      exact ⟨tx, a3, rfl, .inl htx, by omega, by omega, grown_trans G2 hg3, hM3⟩

theorem token_any (w : World) (mb : Nat) (c : Cfg) (a l : Int) (t : Int) (ht : t = 110 ∨ t = 116 ∨ t = 98) (ha : 0 ≤ a) (ha2 : a ≤ 100000) (h : MakerIs w mb c a l) :
    Calls Try.prog 8 #[.pointer (some ⟨mb, 0, none⟩), .int .u8 t] w fun e w' => Tokened w mb c a l t e w' := by
  rcases ht with rfl | rfl | rfl
  · exact token_n w mb c a l ha ha2 h
  · exact token_t w mb c a l ha ha2 h
  · exact token_b w mb c a l ha ha2 h
end Go.Proofs.Ytilfjpmeededmaa

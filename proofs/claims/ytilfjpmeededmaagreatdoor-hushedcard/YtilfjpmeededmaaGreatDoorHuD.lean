/- Hushed, walked. -/
import Derived.Test.YtilfjpmeededmaaGreatDoorHuC
import Derived.Test.YtilfjpmeededmaaGreatDoorMadeVZ
import Derived.Deep.RegionHeld2
import Derived.Deep.QuietTactic
import Derived.BigQuiet
namespace Go.Proofs.YtilfjpmeededmaaGreatDoor
open Go.RowKit

theorem hcfg_ok : CfgOK hcfg := ⟨by decide, by decide, by decide, by decide⟩
theorem hcfg_good : CfgGood hcfg := ⟨by decide, by decide, by decide, .inl rfl⟩
theorem cell1h {x : World} {b : Nat} {a0 : Value} {T : TypeId} (h : x.heap[b]? = some (.cells #[a0] T (0, 0))) : x.cell? ⟨b, 0, none⟩ = some a0 := by
  simp [World.cell?, h]
theorem makerH_new (w : World) (rv : Value) (hr : ∀ x : World, Below w.heap.size w x → IntsAt x (w.heap.size + 3) rv) :
    MakerIs ((((w.alloc (.cells #[.string ⟨#[36, 49]⟩, .string ⟨#[36, 50]⟩] 9)).alloc (.cells #[.string ⟨#[36, 51]⟩] 9)).alloc (.cells #[.string ⟨#[36, 52]⟩] 9)).alloc
      (.cells #[rv, .int .i64 0, .int .i64 20, .bool false, .string ⟨#[]⟩, .slice (some ⟨w.heap.size, 0, none⟩) 2 2, .slice (some ⟨w.heap.size + 1, 0, none⟩) 1 1, .slice (some ⟨w.heap.size + 2, 0, none⟩) 1 1] 36)) (w.heap.size + 3) hcfg 0 20 := by
  have k0 : ∀ (x : World) (b : Nat) (o : Obj), x.heap[b]? = some o → ∀ o', (x.alloc o').heap[b]? = some o := fun x b o h o' => blk_alloc h o'
  have b0 := k0 _ _ _ (k0 _ _ _ (k0 _ _ _ (blk_new w (.cells #[.string ⟨#[36, 49]⟩, .string ⟨#[36, 50]⟩] 9)) (.cells #[.string ⟨#[36, 51]⟩] 9)) (.cells #[.string ⟨#[36, 52]⟩] 9))
    (.cells #[rv, .int .i64 0, .int .i64 20, .bool false, .string ⟨#[]⟩, .slice (some ⟨w.heap.size, 0, none⟩) 2 2, .slice (some ⟨w.heap.size + 1, 0, none⟩) 1 1, .slice (some ⟨w.heap.size + 2, 0, none⟩) 1 1] 36)
  have b1 := k0 _ _ _ (k0 _ _ _ (blk_new (w.alloc (.cells #[.string ⟨#[36, 49]⟩, .string ⟨#[36, 50]⟩] 9)) (.cells #[.string ⟨#[36, 51]⟩] 9)) (.cells #[.string ⟨#[36, 52]⟩] 9))
    (.cells #[rv, .int .i64 0, .int .i64 20, .bool false, .string ⟨#[]⟩, .slice (some ⟨w.heap.size, 0, none⟩) 2 2, .slice (some ⟨w.heap.size + 1, 0, none⟩) 1 1, .slice (some ⟨w.heap.size + 2, 0, none⟩) 1 1] 36)
  have b2 := k0 _ _ _ (blk_new ((w.alloc (.cells #[.string ⟨#[36, 49]⟩, .string ⟨#[36, 50]⟩] 9)).alloc (.cells #[.string ⟨#[36, 51]⟩] 9)) (.cells #[.string ⟨#[36, 52]⟩] 9))
    (.cells #[rv, .int .i64 0, .int .i64 20, .bool false, .string ⟨#[]⟩, .slice (some ⟨w.heap.size, 0, none⟩) 2 2, .slice (some ⟨w.heap.size + 1, 0, none⟩) 1 1, .slice (some ⟨w.heap.size + 2, 0, none⟩) 1 1] 36)
  have b3 := blk_new (((w.alloc (.cells #[.string ⟨#[36, 49]⟩, .string ⟨#[36, 50]⟩] 9)).alloc (.cells #[.string ⟨#[36, 51]⟩] 9)).alloc (.cells #[.string ⟨#[36, 52]⟩] 9))
    (.cells #[rv, .int .i64 0, .int .i64 20, .bool false, .string ⟨#[]⟩, .slice (some ⟨w.heap.size, 0, none⟩) 2 2, .slice (some ⟨w.heap.size + 1, 0, none⟩) 1 1, .slice (some ⟨w.heap.size + 2, 0, none⟩) 1 1] 36)
  simp only [World.size_alloc] at b1 b2 b3
  refine ⟨_, _, _, _, b3, hr _ ((((((Below.refl _ _).alloc (Nat.le_refl _) _).alloc (by simp) _).alloc (by simp <;> omega) _).alloc (by simp <;> omega) _)), .inr ⟨_, 0, 2, rfl, by decide, by decide, by omega, by simp <;> omega, ?_⟩, .inr ⟨_, 0, 1, rfl, by decide, by decide, by omega, by simp <;> omega, ?_⟩, .inr ⟨_, 0, 1, rfl, by decide, by decide, by omega, by simp <;> omega, ?_⟩⟩
  · intro i hi
    have hi' : i < 2 := hi
    match i, hi' with
    | 0, _ => exact (cells2 b0).1.1
    | 1, _ => exact (cells2 b0).1.2
  · intro i hi
    have hi' : i < 1 := hi
    match i, hi' with
    | 0, _ => exact cell1h b1
  · intro i hi
    have hi' : i < 1 := hi
    match i, hi' with
    | 0, _ => exact cell1h b2
/-- The raw cells that came in. -/
def ArgsAt (w : World) (ao : Option Addr) (an : Nat) : Prop := an ≤ maxLen ∧ (an = 0 ∨ ∃ b off, ao = some ⟨b, off, none⟩ ∧ b < w.heap.size ∧ ∀ i, i < an → ∃ (k n : Int) (l : Bs), (w.cell? ⟨b, off + i * 3, none⟩ = some (.int .i64 k) ∧ w.cell? ⟨b, off + i * 3 + 1, none⟩ = some (.int .i64 n) ∧ w.cell? ⟨b, off + i * 3 + 2, none⟩ = some (.string (ofBs l))) ∧ (-9223372036854775808 ≤ k ∧ k ≤ 9223372036854775807) ∧ -9223372036854775808 ≤ n ∧ n ≤ 9223372036854775807)
def tyAt (j : Nat) : Int := if j = 0 then 110 else if j = 1 then 110 else if j = 2 then 116 else 98
theorem texts_at {w : World} {b : Nat} {s : Bs} {T : TypeId} (h : w.heap[b]? = some (.cells #[.string ⟨#[102]⟩, .string ⟨#[110, 110, 116, 98]⟩, .string (ofBs s), .string ⟨#[103]⟩, .string ⟨#[110, 110, 116, 98]⟩, .string (ofBs gText)] T (0, 0))) (hl : s.length ≤ 400) : TextsIn w (.slice (some ⟨b, 0, none⟩) 2 2) [(nF, hargs, s), (nG, hargs, gText)] := by
  refine ⟨_, _, rfl, by simp [maxLen], .inr ⟨b, 0, rfl, block_lt h, fun i f hf => ?_⟩⟩
  match i, hf with
  | 0, hf =>
    simp at hf; subst hf
    exact ⟨⟨(blk_at h).trans rfl, (blk_at h).trans rfl, (blk_at h).trans rfl⟩, by simp [nF, maxLen], by simp only [maxLen]; omega⟩
  | 1, hf =>
    simp at hf; subst hf
    exact ⟨⟨(blk_at h).trans rfl, (blk_at h).trans rfl, (blk_at h).trans rfl⟩, by simp [nG, maxLen], by simp [gText, maxLen]⟩
  | (i + 2), hf => simp at hf
/-- What the two functions do, for a made body. -/
structure HFacts (t : Int) (s : Bs) (e : Ex) : Prop where
  len : s.length ≤ 400
  read : readFs [] [(nF, hargs, s), (nG, hargs, gText)] = .ok [fnF e, fnG e]
  quiet : e.quiet = true
  ev : ∀ (fns : List Fn) (user : Bs) (args : List CellT), user.length ≤ 1000 → ArgsOK args → ∃ v, evQ fns user 30 [] args e = some v ∧ OkC t v
theorem hfacts {t : Int} {x : Tr} (ht : isTy t) (hx : Made hcfg t x) (hd : dep x ≤ 5) (hn : nodes x ≤ 28) : ∃ e, HFacts t (render x) e := by
  obtain ⟨e, hq⟩ := made_q hx ht
  have hlen := made_len hcfg_ok hx
  have hw := made_wf hcfg_good hx
  have hl : (render x).length ≤ 400 := by omega
  exact ⟨e, hl, fns_read ht hw (by omega) hl (by omega) hq, hq.quiet, fun fns user args hu ha => hq.ev fns user args hu ha 30 (by omega)⟩

theorem quiet_f {t : Int} {s : Bs} {e : Ex} (HF : HFacts t s e) : quietS [(nF, hargs, s), (nG, hargs, gText)] nF = (true, 0) := by
  rw [quietS, HF.read]; simp only [find_f, List.getElem?_cons_zero]; rw [show (fnF e).body = e from rfl, HF.quiet]
theorem quiet_g {t : Int} {s : Bs} {e : Ex} (HF : HFacts t s e) : quietS [(nF, hargs, s), (nG, hargs, gText)] nG = (false, 0) := by
  rw [quietS, HF.read]; simp only [find_g, List.getElem?_cons_succ, List.getElem?_cons_zero]; rfl
theorem len_snoc {cs : List CellT} {i : Nat} {c : CellT} (h : Hid (cs.length = i)) : Hid ((cs ++ [c]).length = i + 1) := by
  have := h.out; rw [Hid, List.length_append, this]; rfl
theorem fit_snoc {cs : List CellT} {i : Nat} {c : CellT} (h : Hid (∀ (j : Nat) (c : CellT), cs[j]? = some c → FitC (tyAt j) c)) (hl : Hid (cs.length = i)) (hc : FitC (tyAt i) c) : Hid (∀ (j : Nat) (d : CellT), (cs ++ [c])[j]? = some d → FitC (tyAt j) d) := by
  intro j d hd
  rcases Nat.lt_or_ge j cs.length with hj | hj
  · rw [List.getElem?_append_left hj] at hd; exact h.out j d hd
  · rw [List.getElem?_append_right hj] at hd
    have hj0 : j - cs.length = 0 := by
      have := (List.getElem?_eq_some_iff.mp hd).1; simp at this; omega
    rw [hj0] at hd
    simp at hd
    subst hd
    have : j = i := by have := hl.out; omega
    subst this; exact hc
theorem own_snoc {w9 : World} {B i g9 cap9 : Nat} {cs : List CellT} {c : CellT} (h : w9.ownsRow B 50 3 (.slice (some ⟨g9, 0, none⟩) (i + 1) cap9) (i + 1) (cellCells cs ++ [.int .i64 c.1, .int .i64 c.2.1, .string (ofBs c.2.2)])) : w9.ownsRow B 50 3 (.slice (some ⟨g9, 0, none⟩) (i + 1) cap9) (i + 1) (cellCells (cs ++ [c])) := by
  rw [cellCells_append]; exact h
theorem round_below {w5 wr WR w8 w9 : World} {o : Obj} {row : Option Nat} (hB : Below w5.heap.size w5 wr) (hWr : Below wr.heap.size wr WR) (hWs : WR.heap.size = wr.heap.size + 1) (hb8 : Below WR.heap.size WR w8) (hg : (w8.alloc o).grownBy w9 row) (hr : ∀ k, row = some k → w5.heap.size ≤ k) : Below w5.heap.size w5 w9 := by
  have h1 := hB.size
  have h8 := hb8.size
  exact (((hB.trans (hWr.mono h1)).trans (hb8.mono (by omega))).alloc (by omega) o).grown hg (by rw [World.size_alloc]; omega) hr
set_option maxHeartbeats 16000000 in
set_option maxRecDepth 100000 in
theorem hushed_walk (rv : Value) (w : World) (hr : ∀ x mb, Below w.heap.size w x → w.heap.size ≤ mb → IntsAt x mb rv) (kind : Int) (hk1 : -9223372036854775808 ≤ kind) (hk2 : kind ≤ 9223372036854775807) (ao : Option Addr) (an ac : Nat) (hA : ArgsAt w ao an) (hT : TabP w) :
    Calls Tryz.prog 6 #[rv, .slice ao an ac, .int .i64 kind] w fun e w' => e = .returned (.bool true) ∧ Below w.heap.size w w' := by
  obtain ⟨ra, rn, rc, rfl⟩ : ∃ ra rn rc, rv = .slice ra rn rc := by
    rcases hr w w.heap.size (Below.refl _ _) (Nat.le_refl _) with ⟨ao, cap, rfl⟩ | ⟨b, off, n, cap, rfl, _⟩
    · exact ⟨_, _, _, rfl⟩
    · exact ⟨_, _, _, rfl⟩
  have HP := fun (x : World) => pick_any kind 3 x (by decide) (by decide) hk1 hk2
  obtain ⟨z1, z2⟩ := pickR_bd kind 3 (by decide)
  obtain ⟨z, hz⟩ : ∃ z, z = pickR kind 3 := ⟨_, rfl⟩
  rw [← hz] at HP z1 z2
  clear hz
  obtain ⟨i0, hi, hz0, hz1, hz2⟩ := info_parts infoCell
  obtain ⟨t, ht, htz, hz3⟩ : ∃ t, isTy t ∧ typeB t = z + 1 ∧ ((z = 0 ∧ t = 110) ∨ (z = 1 ∧ t = 116) ∨ (z = 2 ∧ t = 98)) := by
    have z3 : z = 0 ∨ z = 1 ∨ z = 2 := by omega
    rcases z3 with rfl | rfl | rfl
    · exact ⟨110, .inl rfl, rfl, .inl ⟨rfl, rfl⟩⟩
    · exact ⟨116, .inr (.inl rfl), rfl, .inr (.inl ⟨rfl, rfl⟩)⟩
    · exact ⟨98, .inr (.inr rfl), rfl, .inr (.inr ⟨rfl, rfl⟩)⟩
  go_enter Tryz.func6, Tryz.ntmps6
  go_upto_region 1 with fail
  go_cut [7] (fun s7 wx => s7 = .int .u8 t ∧ wx = w)
  case first =>
    clear htz ht
    rcases hz3 with ⟨rfl, rfl⟩ | ⟨rfl, rfl⟩ | ⟨rfl, rfl⟩
    all_goals
      go_wp2_with (go_at_call 15; refine (HP _).mono ?_; rintro e w2 ⟨rfl, h2⟩)
      go_meet
      exact ⟨rfl, rfl⟩
  case rest =>
    obtain ⟨rfl, hwc⟩ := hcut
    subst hwc
    clear hz3
    go_wp2_with (go_at_call 16; refine (of_any hcfg hcfg_ok 4 0 rfl _ (wc.heap.size + 3) 0 20 t ?hm ht (by omega) (by simp) (by decide) (by decide)).mono ?_)
    case hm => exact makerH_new wc _ (fun x hx => hr x _ hx (by omega))
    rintro e w3 ⟨x, a3, rfl, hx, hxd, hx1, hx2, _, _, hg3, _⟩
    have hn : nodes x ≤ 28 := by have := hx2 (by omega); simp at this; omega
    obtain ⟨e, HF⟩ := hfacts ht hx (by omega) hn
    have B3 : Below wc.heap.size wc w3 := below_grown (((((Below.refl _ _).alloc (Nat.le_refl _) _).alloc (by simp) _).alloc (by simp; omega) _).alloc (by simp; omega) _) hg3 (by omega) (by simp; omega)
    obtain ⟨s, hs⟩ : ∃ s, s = render x := ⟨_, rfl⟩
    rw [← hs] at HF ⊢
    clear hs hx hxd hx1 hx2 hg3 hn
    have e8 : (ByteArray.mk #[40, 105, 102, 32, 40, 105, 115, 110, 117, 108, 108, 32, 36, 49, 41, 32, 40, 110, 111, 116, 101, 32, 40, 102, 32, 36, 49, 32, 36, 50, 32, 36, 51, 32, 36, 52, 41, 41, 32, 40, 102, 32, 36, 49, 32, 36, 50, 32, 36, 51, 32, 36, 52, 41, 41]) = ofBs gText := rfl
    obtain ⟨FO, hFO⟩ : ∃ o, o = Obj.cells #[.string ⟨#[102]⟩, .string ⟨#[110, 110, 116, 98]⟩, .string (ofBs s), .string ⟨#[103]⟩, .string ⟨#[110, 110, 116, 98]⟩, .string (ofBs gText)] 39 := ⟨_, rfl⟩
    have kT := heap_alloc_new w3 FO
    have hbx := below_box2 w3 FO (.cells #[.slice (some ⟨w3.heap.size, 0, none⟩) 2 2, .slice none 0 0] 43)
    have kB : ((w3.alloc FO).alloc (.cells #[.slice (some ⟨w3.heap.size, 0, none⟩) 2 2, .slice none 0 0] 43)).heap[w3.heap.size + 1]? = some (.cells #[.slice (some ⟨w3.heap.size, 0, none⟩) 2 2, .slice none 0 0] 43) := by
      have := heap_alloc_new (w3.alloc FO) (.cells #[.slice (some ⟨w3.heap.size, 0, none⟩) 2 2, .slice none 0 0] 43)
      rw [World.size_alloc] at this; exact this
    have HTX : TextsIn ((w3.alloc FO).alloc (.cells #[.slice (some ⟨w3.heap.size, 0, none⟩) 2 2, .slice none 0 0] 43)) (.slice (some ⟨w3.heap.size, 0, none⟩) 2 2) [(nF, hargs, s), (nG, hargs, gText)] := by
      refine texts_at (T := 39) ?_ HF.len
      rw [Below.heap_alloc _ _ _ (by simp [World.size_alloc]), kT, hFO]
    have HQ1 := quiet_any _ _ (by simp) _ _ _ HTX none 0 nF
    rw [quiet_f HF] at HQ1
    have B4 := B3.trans (hbx.mono B3.size)
    rw [hFO] at HQ1 kB B4 HTX hbx
    clear kT hFO
    go_wp2_with (go_at_call 17; refine HQ1.mono ?_)
    rintro e' w4 ⟨rfl, hb4⟩
    have hs4 := hb4.size
    simp only [World.size_alloc] at hs4
    have kB4 := (hb4.block (w3.heap.size + 1) (by simp only [World.size_alloc]; omega)).trans kB
    have HTX4 := HTX.keep hb4
    have B5 := B4.trans (hb4.mono B4.size)
    obtain ⟨v0, _, v1, _⟩ := cellsB kB4
    have HQ2 := quiet_any _ _ (by simp) _ _ _ HTX4 none 0 nG
    rw [quiet_g HF] at HQ2
    clear HQ1 HTX hb4 kB hbx B4 B3
    go_wp2_with (go_at_call 17; refine HQ2.mono ?_)
    rintro e' w5 ⟨rfl, hb5⟩
    have kB5 := (hb5.block (w3.heap.size + 1) (by omega)).trans kB4
    have HTX5 := HTX4.keep hb5
    have B6 := B5.trans (hb5.mono B5.size)
    clear HQ2 HTX4 hb5 kB4 B5 v0 v1
    go_wp2_with fail
    go_loopw [15, 16] (fun lv iv wr => ∃ (i kn kc : Nat) (ko : Option Addr) (cs : List CellT), i ≤ 4 ∧ Hid (cs.length = i) ∧ lv = .slice ko kn kc ∧ iv = .int .i64 i ∧ Hid (∀ (j : Nat) (c : CellT), cs[j]? = some c → FitC (tyAt j) c) ∧ wr.ownsRow w5.heap.size 50 3 (.slice ko kn kc) i (cellCells cs) ∧ Below w5.heap.size w5 wr) (fun _ iv _ => 4 - (intOf iv).toNat)
    case atStart => exact ⟨0, 0, 0, none, [], by simp, rfl, rfl, rfl, (fun j c h => by simp at h), World.ownsRow_nil _ _ _ _, Below.refl _ _⟩
    case round =>
      obtain ⟨i, kn, kc, ko, cs, hc4, Hlen, rfl, rfl, HFit, hko, hB⟩ := hrel
      have hsz := hB.size
      by_cases hlt : i < 4
      · have hBw := B6.trans (hB.mono B6.size)
        obtain ⟨hal, hA2⟩ := hA
        unfold maxLen at hal
        by_cases hia : i < an
        · obtain ⟨b, off, rfl, hb, hc⟩ : ∃ b off, ao = some ⟨b, off, none⟩ ∧ b < wc.heap.size ∧ ∀ i, i < an → ∃ (k n : Int) (l : Bs), (wc.cell? ⟨b, off + i * 3, none⟩ = some (.int .i64 k) ∧ wc.cell? ⟨b, off + i * 3 + 1, none⟩ = some (.int .i64 n) ∧ wc.cell? ⟨b, off + i * 3 + 2, none⟩ = some (.string (ofBs l))) ∧ (-9223372036854775808 ≤ k ∧ k ≤ 9223372036854775807) ∧ -9223372036854775808 ≤ n ∧ n ≤ 9223372036854775807 := by
            rcases hA2 with h | h
            · omega
            · exact h
          obtain ⟨k, m, l, ⟨q0, q1, q2⟩, ⟨hk1', hk2'⟩, hm1, hm2⟩ := hc i hia
          replace q0 := (hBw.cell (p := ⟨b, off + i * 3, none⟩) hb).trans q0
          replace q1 := (hBw.cell (p := ⟨b, off + i * 3 + 1, none⟩) hb).trans q1
          replace q2 := (hBw.cell (p := ⟨b, off + i * 3 + 2, none⟩) hb).trans q2
          have hbr : b < wr.heap.size := by have := hBw.size; omega
          clear hc hA2
          go_upto_region 14 with fail
          have h4 : i = 0 ∨ i = 1 ∨ i = 2 ∨ i = 3 := by omega
          have hWr := below_box wr (.cells #[.int .i64 k, .int .i64 m, .string (ofBs l)] 49)
          obtain ⟨WR, hWR⟩ : ∃ x, x = wr.alloc (.cells #[.int .i64 k, .int .i64 m, .string (ofBs l)] 49) := ⟨_, rfl⟩
          rw [← hWR] at hWr ⊢
          have kx : WR.heap[wr.heap.size]? = some (.cells #[.int .i64 k, .int .i64 m, .string (ofBs l)] 49) := by rw [hWR]; exact heap_alloc_new wr _
          obtain ⟨⟨x0, x1, x2⟩, _⟩ := cells3 kx
          have hWs : WR.heap.size = wr.heap.size + 1 := by rw [hWR]; simp
          have HOWN : ∀ (w8 : World), Below WR.heap.size WR w8 → ∀ o : Obj, (w8.alloc o).drew.ownsRow w5.heap.size 50 3 (.slice ko kn kc) i (cellCells cs) := fun w8 hb8 o =>
            World.ownsRow.drew (World.ownsRow.alloc (owns_keep hko fun g hg => (hb8.block g (by have := (hko.lt g hg).2; omega)).trans (hWr.block g (hko.lt g hg).2)) o)
          clear hWR
          rcases h4 with rfl | rfl | rfl | rfl
          · have HK := fun x : World => keepCell_any k m l 110 x hk1' hk2' hm1 hm2 (.inl rfl)
            go_region_law (first
              | (refine step_append_lies _ rfl (.tmp 65) (.tmp 70) 47 rfl w5.heap.size 50 i0 _ 3 32 Tryz.underlying47 hi hz0 hz1 hz2 rfl (by decide) (.slice ko kn kc) _ (cellCells cs) (by simp [Act.eval]) (HOWN _ hb8 _) ⟨w8.heap.size, 0, none⟩ 1 1 [.int .i64 c.1, .int .i64 c.2.1, .string (ofBs c.2.2)] (by simp [Act.eval]) rfl (World.news_of_block (blk1_drew w8 _)) (by intro u hu; simp at hu; rcases hu with rfl | rfl | rfl <;> rfl) (by decide) (by unfold maxLen; omega) (by omega) (by simp; omega) (w8.heap.size + 1) (by simp) ?_; intro g9 cap9 w9 hown9 hgrow9 hat9 hlt9)
              | (go_simp; go_at_call 18; refine (HK _).mono ?_; rintro e' w8 ⟨⟨c, hfc, rfl⟩, hb8⟩; replace hb8 := undrewB hb8; have hs8 := hb8.size))
            all_goals go_wp2_with fail
            all_goals
              go_roundw
              case rel => exact ⟨1, _, _, _, cs ++ [c], by omega, len_snoc Hlen, rfl, rfl, fit_snoc HFit Hlen (show FitC (tyAt 0) c from hfc), own_snoc hown9, round_below hB hWr hWs hb8 hgrow9 (fun k hk => (hko.lt k hk).1)⟩
              case measure => simp [intOf]
          · have HK := fun x : World => keepCell_any k m l 110 x hk1' hk2' hm1 hm2 (.inl rfl)
            go_region_law (first
              | (refine step_append_lies _ rfl (.tmp 65) (.tmp 70) 47 rfl w5.heap.size 50 i0 _ 3 32 Tryz.underlying47 hi hz0 hz1 hz2 rfl (by decide) (.slice ko kn kc) _ (cellCells cs) (by simp [Act.eval]) (HOWN _ hb8 _) ⟨w8.heap.size, 0, none⟩ 1 1 [.int .i64 c.1, .int .i64 c.2.1, .string (ofBs c.2.2)] (by simp [Act.eval]) rfl (World.news_of_block (blk1_drew w8 _)) (by intro u hu; simp at hu; rcases hu with rfl | rfl | rfl <;> rfl) (by decide) (by unfold maxLen; omega) (by omega) (by simp; omega) (w8.heap.size + 1) (by simp) ?_; intro g9 cap9 w9 hown9 hgrow9 hat9 hlt9)
              | (go_simp; go_at_call 18; refine (HK _).mono ?_; rintro e' w8 ⟨⟨c, hfc, rfl⟩, hb8⟩; replace hb8 := undrewB hb8; have hs8 := hb8.size))
            all_goals go_wp2_with fail
            all_goals
              go_roundw
              case rel => exact ⟨2, _, _, _, cs ++ [c], by omega, len_snoc Hlen, rfl, rfl, fit_snoc HFit Hlen (show FitC (tyAt 1) c from hfc), own_snoc hown9, round_below hB hWr hWs hb8 hgrow9 (fun k hk => (hko.lt k hk).1)⟩
              case measure => simp [intOf]
          · have HK := fun x : World => keepCell_any k m l 116 x hk1' hk2' hm1 hm2 (.inr (.inl rfl))
            go_region_law (first
              | (refine step_append_lies _ rfl (.tmp 65) (.tmp 70) 47 rfl w5.heap.size 50 i0 _ 3 32 Tryz.underlying47 hi hz0 hz1 hz2 rfl (by decide) (.slice ko kn kc) _ (cellCells cs) (by simp [Act.eval]) (HOWN _ hb8 _) ⟨w8.heap.size, 0, none⟩ 1 1 [.int .i64 c.1, .int .i64 c.2.1, .string (ofBs c.2.2)] (by simp [Act.eval]) rfl (World.news_of_block (blk1_drew w8 _)) (by intro u hu; simp at hu; rcases hu with rfl | rfl | rfl <;> rfl) (by decide) (by unfold maxLen; omega) (by omega) (by simp; omega) (w8.heap.size + 1) (by simp) ?_; intro g9 cap9 w9 hown9 hgrow9 hat9 hlt9)
              | (go_simp; go_at_call 18; refine (HK _).mono ?_; rintro e' w8 ⟨⟨c, hfc, rfl⟩, hb8⟩; replace hb8 := undrewB hb8; have hs8 := hb8.size))
            all_goals go_wp2_with fail
            all_goals
              go_roundw
              case rel => exact ⟨3, _, _, _, cs ++ [c], by omega, len_snoc Hlen, rfl, rfl, fit_snoc HFit Hlen (show FitC (tyAt 2) c from hfc), own_snoc hown9, round_below hB hWr hWs hb8 hgrow9 (fun k hk => (hko.lt k hk).1)⟩
              case measure => simp [intOf]
          · have HK := fun x : World => keepCell_any k m l 98 x hk1' hk2' hm1 hm2 (.inr (.inr rfl))
            go_region_law (first
              | (refine step_append_lies _ rfl (.tmp 65) (.tmp 70) 47 rfl w5.heap.size 50 i0 _ 3 32 Tryz.underlying47 hi hz0 hz1 hz2 rfl (by decide) (.slice ko kn kc) _ (cellCells cs) (by simp [Act.eval]) (HOWN _ hb8 _) ⟨w8.heap.size, 0, none⟩ 1 1 [.int .i64 c.1, .int .i64 c.2.1, .string (ofBs c.2.2)] (by simp [Act.eval]) rfl (World.news_of_block (blk1_drew w8 _)) (by intro u hu; simp at hu; rcases hu with rfl | rfl | rfl <;> rfl) (by decide) (by unfold maxLen; omega) (by omega) (by simp; omega) (w8.heap.size + 1) (by simp) ?_; intro g9 cap9 w9 hown9 hgrow9 hat9 hlt9)
              | (go_simp; go_at_call 18; refine (HK _).mono ?_; rintro e' w8 ⟨⟨c, hfc, rfl⟩, hb8⟩; replace hb8 := undrewB hb8; have hs8 := hb8.size))
            all_goals go_wp2_with fail
            all_goals
              go_roundw
              case rel => exact ⟨4, _, _, _, cs ++ [c], by omega, len_snoc Hlen, rfl, rfl, fit_snoc HFit Hlen (show FitC (tyAt 3) c from hfc), own_snoc hown9, round_below hB hWr hWs hb8 hgrow9 (fun k hk => (hko.lt k hk).1)⟩
              case measure => simp [intOf]
        · clear hA2
          go_upto_region 14 with fail
          have h4 : i = 0 ∨ i = 1 ∨ i = 2 ∨ i = 3 := by omega
          have hWr := below_box wr (.cells #[.int .i64 0, .int .i64 0, .string ⟨#[]⟩] 49)
          obtain ⟨WR, hWR⟩ : ∃ x, x = wr.alloc (.cells #[.int .i64 0, .int .i64 0, .string ⟨#[]⟩] 49) := ⟨_, rfl⟩
          rw [← hWR] at hWr ⊢
          have kx : WR.heap[wr.heap.size]? = some (.cells #[.int .i64 0, .int .i64 0, .string ⟨#[]⟩] 49) := by rw [hWR]; exact heap_alloc_new wr _
          obtain ⟨⟨x0, x1, x2⟩, _⟩ := cells3 kx
          have hWs : WR.heap.size = wr.heap.size + 1 := by rw [hWR]; simp
          have HOWN : ∀ (w8 : World), Below WR.heap.size WR w8 → ∀ o : Obj, (w8.alloc o).drew.ownsRow w5.heap.size 50 3 (.slice ko kn kc) i (cellCells cs) := fun w8 hb8 o =>
            World.ownsRow.drew (World.ownsRow.alloc (owns_keep hko fun g hg => (hb8.block g (by have := (hko.lt g hg).2; omega)).trans (hWr.block g (hko.lt g hg).2)) o)
          clear hWR
          rcases h4 with rfl | rfl | rfl | rfl
          · have HK := fun x : World => keepCell_any 0 0 [] 110 x (by decide) (by decide) (by decide) (by decide) (.inl rfl)
            go_region_law (first
              | (refine step_append_lies _ rfl (.tmp 65) (.tmp 70) 47 rfl w5.heap.size 50 i0 _ 3 32 Tryz.underlying47 hi hz0 hz1 hz2 rfl (by decide) (.slice ko kn kc) _ (cellCells cs) (by simp [Act.eval]) (HOWN _ hb8 _) ⟨w8.heap.size, 0, none⟩ 1 1 [.int .i64 c.1, .int .i64 c.2.1, .string (ofBs c.2.2)] (by simp [Act.eval]) rfl (World.news_of_block (blk1_drew w8 _)) (by intro u hu; simp at hu; rcases hu with rfl | rfl | rfl <;> rfl) (by decide) (by unfold maxLen; omega) (by omega) (by simp; omega) (w8.heap.size + 1) (by simp) ?_; intro g9 cap9 w9 hown9 hgrow9 hat9 hlt9)
              | (go_simp; go_at_call 18; refine (HK _).mono ?_; rintro e' w8 ⟨⟨c, hfc, rfl⟩, hb8⟩; replace hb8 := undrewB hb8; have hs8 := hb8.size))
            all_goals go_wp2_with fail
            all_goals
              go_roundw
              case rel => exact ⟨1, _, _, _, cs ++ [c], by omega, len_snoc Hlen, rfl, rfl, fit_snoc HFit Hlen (show FitC (tyAt 0) c from hfc), own_snoc hown9, round_below hB hWr hWs hb8 hgrow9 (fun k hk => (hko.lt k hk).1)⟩
              case measure => simp [intOf]
          · have HK := fun x : World => keepCell_any 0 0 [] 110 x (by decide) (by decide) (by decide) (by decide) (.inl rfl)
            go_region_law (first
              | (refine step_append_lies _ rfl (.tmp 65) (.tmp 70) 47 rfl w5.heap.size 50 i0 _ 3 32 Tryz.underlying47 hi hz0 hz1 hz2 rfl (by decide) (.slice ko kn kc) _ (cellCells cs) (by simp [Act.eval]) (HOWN _ hb8 _) ⟨w8.heap.size, 0, none⟩ 1 1 [.int .i64 c.1, .int .i64 c.2.1, .string (ofBs c.2.2)] (by simp [Act.eval]) rfl (World.news_of_block (blk1_drew w8 _)) (by intro u hu; simp at hu; rcases hu with rfl | rfl | rfl <;> rfl) (by decide) (by unfold maxLen; omega) (by omega) (by simp; omega) (w8.heap.size + 1) (by simp) ?_; intro g9 cap9 w9 hown9 hgrow9 hat9 hlt9)
              | (go_simp; go_at_call 18; refine (HK _).mono ?_; rintro e' w8 ⟨⟨c, hfc, rfl⟩, hb8⟩; replace hb8 := undrewB hb8; have hs8 := hb8.size))
            all_goals go_wp2_with fail
            all_goals
              go_roundw
              case rel => exact ⟨2, _, _, _, cs ++ [c], by omega, len_snoc Hlen, rfl, rfl, fit_snoc HFit Hlen (show FitC (tyAt 1) c from hfc), own_snoc hown9, round_below hB hWr hWs hb8 hgrow9 (fun k hk => (hko.lt k hk).1)⟩
              case measure => simp [intOf]
          · have HK := fun x : World => keepCell_any 0 0 [] 116 x (by decide) (by decide) (by decide) (by decide) (.inr (.inl rfl))
            go_region_law (first
              | (refine step_append_lies _ rfl (.tmp 65) (.tmp 70) 47 rfl w5.heap.size 50 i0 _ 3 32 Tryz.underlying47 hi hz0 hz1 hz2 rfl (by decide) (.slice ko kn kc) _ (cellCells cs) (by simp [Act.eval]) (HOWN _ hb8 _) ⟨w8.heap.size, 0, none⟩ 1 1 [.int .i64 c.1, .int .i64 c.2.1, .string (ofBs c.2.2)] (by simp [Act.eval]) rfl (World.news_of_block (blk1_drew w8 _)) (by intro u hu; simp at hu; rcases hu with rfl | rfl | rfl <;> rfl) (by decide) (by unfold maxLen; omega) (by omega) (by simp; omega) (w8.heap.size + 1) (by simp) ?_; intro g9 cap9 w9 hown9 hgrow9 hat9 hlt9)
              | (go_simp; go_at_call 18; refine (HK _).mono ?_; rintro e' w8 ⟨⟨c, hfc, rfl⟩, hb8⟩; replace hb8 := undrewB hb8; have hs8 := hb8.size))
            all_goals go_wp2_with fail
            all_goals
              go_roundw
              case rel => exact ⟨3, _, _, _, cs ++ [c], by omega, len_snoc Hlen, rfl, rfl, fit_snoc HFit Hlen (show FitC (tyAt 2) c from hfc), own_snoc hown9, round_below hB hWr hWs hb8 hgrow9 (fun k hk => (hko.lt k hk).1)⟩
              case measure => simp [intOf]
          · have HK := fun x : World => keepCell_any 0 0 [] 98 x (by decide) (by decide) (by decide) (by decide) (.inr (.inr rfl))
            go_region_law (first
              | (refine step_append_lies _ rfl (.tmp 65) (.tmp 70) 47 rfl w5.heap.size 50 i0 _ 3 32 Tryz.underlying47 hi hz0 hz1 hz2 rfl (by decide) (.slice ko kn kc) _ (cellCells cs) (by simp [Act.eval]) (HOWN _ hb8 _) ⟨w8.heap.size, 0, none⟩ 1 1 [.int .i64 c.1, .int .i64 c.2.1, .string (ofBs c.2.2)] (by simp [Act.eval]) rfl (World.news_of_block (blk1_drew w8 _)) (by intro u hu; simp at hu; rcases hu with rfl | rfl | rfl <;> rfl) (by decide) (by unfold maxLen; omega) (by omega) (by simp; omega) (w8.heap.size + 1) (by simp) ?_; intro g9 cap9 w9 hown9 hgrow9 hat9 hlt9)
              | (go_simp; go_at_call 18; refine (HK _).mono ?_; rintro e' w8 ⟨⟨c, hfc, rfl⟩, hb8⟩; replace hb8 := undrewB hb8; have hs8 := hb8.size))
            all_goals go_wp2_with fail
            all_goals
              go_roundw
              case rel => exact ⟨4, _, _, _, cs ++ [c], by omega, len_snoc Hlen, rfl, rfl, fit_snoc HFit Hlen (show FitC (tyAt 3) c from hfc), own_snoc hown9, round_below hB hWr hWs hb8 hgrow9 (fun k hk => (hko.lt k hk).1)⟩
              case measure => simp [intOf]
      · have hi4 : i = 4 := by omega
        subst hi4
        obtain ⟨a, b, c, d, rfl⟩ : ∃ a b c d, cs = [a, b, c, d] := by
          have h := Hlen.out
          match cs, h with
          | [a, b, c, d], _ => exact ⟨a, b, c, d, rfl⟩
        have fa : FitC 110 a := HFit.out 0 a rfl
        have fb : FitC 110 b := HFit.out 1 b rfl
        have fc : FitC 116 c := HFit.out 2 c rfl
        have fd : FitC 98 d := HFit.out 3 d rfl
        have hcs : CellsIn wr (.slice ko kn kc) [a, b, c, d] := cellsIn_own hko (by simp)
        have hargs : ArgsOK [a, b, c, d] := ⟨a, b, c, d, rfl, fa.2, fb.2, fc.2, fd.2⟩
        have htk : takesS [a, b, c, d] hps = true := by
          have g1 : fitsS a 1 = true := fa.1
          have g2 : fitsS b 1 = true := fb.1
          have g3 : fitsS c 2 = true := fc.1
          have g4 : fitsS d 3 = true := fd.1
          simp [takesS, hps, g1, g2, g3, g4]
        obtain ⟨v, hv, hok⟩ := HF.ev [fnF e, fnG e] [109, 101] [a, b, c, d] (by simp) hargs
        have hTr : TabP wr := tabP_keep hT (B6.trans (hB.mono B6.size))
        have HC1 : Calls Tryz.prog 19 #[.agg #[.slice (some ⟨w3.heap.size, 0, none⟩) 2 2, .slice none 0 0], .string ⟨#[109, 101]⟩, .string ⟨#[102]⟩, .slice ko kn kc] wr fun e w' => (∃ no nc, e = .returned (.tuple #[.agg #[.int .i64 v.1, .int .i64 v.2.1, .string (ofBs v.2.2)], .slice no 0 nc, .int .i64 0])) ∧ Below wr.heap.size wr w' :=
          curtainCall_any true 0 wr _ (by simp) _ _ _ (HTX5.keep hB) none 0 [109, 101] (by simp) nF [fnF e, fnG e] HF.read 0 (find_f e _) (fnF e) rfl [a, b, c, d] ko kn kc hcs htk v hok.2.2.2 fun x FB wb cv hx hwb hE hk hxc =>
            (valSpec [fnF e, fnG e] [109, 101] 30 e v x FB wb [] [a, b, c, d] none 0 0 ko kn kc cv hv ⟨hE, ⟨none, 0, rfl, by simp, .inl rfl⟩, hcs.keep hx⟩ hxc).mono fun _ _ h => h.noted (by obtain ⟨_, _, _, hk'⟩ := hE.wk; exact block_lt hk')
        have HC2 : ∀ x : World, Below wr.heap.size wr x → Calls Tryz.prog 19 #[.agg #[.slice (some ⟨w3.heap.size, 0, none⟩) 2 2, .slice none 0 0], .string ⟨#[109, 101]⟩, .string ⟨#[103]⟩, .slice ko kn kc] x fun e w' => (∃ no nc, e = .returned (.tuple #[.agg #[.int .i64 v.1, .int .i64 v.2.1, .string (ofBs v.2.2)], .slice no (cntQ (!(a.1 == 0)) 1) nc, .int .i64 0])) ∧ Below x.heap.size x w' := fun x0 hx0 =>
          curtainCall_any (!(a.1 == 0)) 1 x0 _ (by simp) _ _ _ ((HTX5.keep hB).keep hx0) none 0 [109, 101] (by simp) nG [fnF e, fnG e] HF.read 1 (find_g e) (fnG e) rfl [a, b, c, d] ko kn kc (hcs.keep hx0) htk v hok.2.2.2 fun x FB wb cv hx hwb hE hk hxc =>
            value_g e [fnF e, fnG e] [109, 101] 29 a b c d v rfl hv hok.2 x FB wb ko kn kc cv ⟨hE, ⟨none, 0, rfl, by simp, .inl rfl⟩, (hcs.keep hx0).keep hx⟩ hxc hk (tabP_keep (tabP_keep hTr hx0) hx)
        have kB6 := (hB.block (w3.heap.size + 1) (block_lt kB5)).trans kB5
        obtain ⟨o0, _, o1, _⟩ := cellsB kB6
        have lB6 := block_lt kB6
        obtain ⟨gb, go, hgo, hgl, hgc⟩ : ∃ gb go, ko = some ⟨gb, go, none⟩ ∧ gb < wr.heap.size ∧ wr.cell? ⟨gb, go, none⟩ = some (.int .i64 a.1) := by
          obtain ⟨ao', cap', e', hl', h | ⟨b', off', e2, hb', hc'⟩⟩ := hcs
          · simp at h
          · cases e'
            exact ⟨b', off', e2, hb', by have := (hc' 0 a rfl).1; simpa using this⟩
        have hkn : kn = 4 := by obtain ⟨_, _, e', _⟩ := hcs; cases e'; rfl
        subst hgo hkn
        have BW := B6.trans (hB.mono B6.size)
        have hok1 : v.1 = 0 ∨ v.1 = z + 1 := by rw [← htz]; exact hok.1
        obtain ⟨vk, vn, vl⟩ := v
        simp only at HC1 HC2 hok1
        clear hv hok hargs htk hcs hko HFit Hlen HF HTX5 hA hT hTr fa fb fc fd kB5 B6 hB hr
        go_wp2_with (go_at_call 19; refine HC1.mono ?_)
        clear HC1
        rintro e' w7 ⟨⟨no7, nc7, rfl⟩, hb7⟩
        have hb7' := hb7.trans ((below_box w7 (cellO vk vn (ofBs vl))).mono hb7.size)
        have HC3 := HC2 _ hb7'
        have kB7 := (hb7'.block (w3.heap.size + 1) lB6).trans kB6
        obtain ⟨p0, _, p1, _⟩ := cellsB kB7
        have k7 := heap_alloc_new w7 (cellO vk vn (ofBs vl))
        have s7 := hb7.size
        clear HC2 o0 o1
        go_wp2_with (go_at_call 19; refine HC3.mono ?_)
        clear HC3
        rintro e' w8 ⟨⟨no8, nc8, rfl⟩, hb8⟩
        have s8 := hb8.size
        rw [World.size_alloc] at s8
        have B8 : Below wr.heap.size wr w8 := hb7'.trans (hb8.mono hb7'.size)
        have g8 := (B8.cell (p := ⟨gb, go, none⟩) hgl).trans hgc
        obtain ⟨⟨c0, c1, c2⟩, _⟩ := cells3 ((hb8.block w7.heap.size (by rw [World.size_alloc]; omega)).trans k7)
        have l8 : w7.heap.size < w8.heap.size := by omega
        have lg8 : gb < w8.heap.size := by omega
        have BF : Below wc.heap.size wc (w8.alloc (cellO vk vn (ofBs vl))) := (BW.trans (B8.mono BW.size)).alloc (Nat.le_trans BW.size B8.size) _
        clear hb7 hb7' hb8 kB7 k7 p0 p1
        cases ha : (a.1 == 0) with
        | true =>
          have hcn : cntQ (!true) 1 = 1 := rfl
          have haH : Hid ((a.1 == 0) = true) := ha
          rw [hcn]
          clear ha hcn
          rcases hok1 with rfl | rfl
          · go_upto_region 19 with fail
            go_quiet (fail)
            all_goals (go_wp2_with fail)
            all_goals go_ret
            all_goals exact ⟨by first | rfl | (rw [haH.out]; rfl), BF.trans ⟨rfl, rfl, rfl, Nat.le_refl _, fun _ _ => rfl⟩⟩
          · have hz0' : (z + 1 == 0) = false := by have : z + 1 ≠ 0 := (by omega); simpa using this
            go_upto_region 19 with fail
            go_quiet (first | (go_at_call 15; refine Calls.quiet_of_same (HP _)))
            all_goals (go_wp2_with fail)
            all_goals go_ret
            all_goals exact ⟨by first | rfl | (rw [haH.out]; rfl), BF.trans ⟨rfl, rfl, rfl, Nat.le_refl _, fun _ _ => rfl⟩⟩
        | false =>
          have hcn : cntQ (!false) 1 = 0 := rfl
          have haH : Hid ((a.1 == 0) = false) := ha
          rw [hcn]
          clear ha hcn
          rcases hok1 with rfl | rfl
          · go_upto_region 19 with fail
            go_quiet (fail)
            all_goals (go_wp2_with fail)
            all_goals go_ret
            all_goals exact ⟨by first | rfl | (rw [haH.out]; rfl), BF.trans ⟨rfl, rfl, rfl, Nat.le_refl _, fun _ _ => rfl⟩⟩
          · have hz0' : (z + 1 == 0) = false := by have : z + 1 ≠ 0 := (by omega); simpa using this
            go_upto_region 19 with fail
            go_quiet (first | (go_at_call 15; refine Calls.quiet_of_same (HP _)))
            all_goals (go_wp2_with fail)
            all_goals go_ret
            all_goals exact ⟨by first | rfl | (rw [haH.out]; rfl), BF.trans ⟨rfl, rfl, rfl, Nat.le_refl _, fun _ _ => rfl⟩⟩
end Go.Proofs.YtilfjpmeededmaaGreatDoor

/- The maker's count. -/
import Derived.Test.YtilfjpmeededmaaMakeA
namespace Go.Proofs.Ytilfjpmeededmaa
open Go.RowKit

theorem MakerIs.cells {w : World} {mb : Nat} {c : Cfg} {a l : Int} (h : MakerIs w mb c a l) : w.cell? ⟨mb, 3, none⟩ = some (.bool c.loud) ∧ w.cell? ⟨mb, 4, none⟩ = some (.string (ofBs c.call)) ∧ w.cell? ⟨mb, 2, none⟩ = some (.int .i64 l) ∧ w.frozen? ⟨mb, 2, none⟩ = false := by
  obtain ⟨rv, nv, tv, bv, hk, _⟩ := h
  obtain ⟨⟨y0, y1, y2, y3, y4, y5, y6, y7⟩, f1, f2⟩ := cells8 hk
  exact ⟨y3, y4, y2, f2⟩

set_option maxHeartbeats 4000000 in
set_option maxRecDepth 100000 in
theorem count_any (c : Cfg) (hc : CfgOK c) (deep : Nat) (hd : deep ≤ 3) (hO : OfSpec c (deep + 1)) (w : World) (mb : Nat) (a l : Int) (h : MakerIs w mb c a l) (ha : 0 ≤ a) (ha2 : a ≤ 1000 * (deep + 1) + 1) (hl : l ≤ 30) (hl2 : 1 ≤ l) :
    Calls Try.prog 11 #[.pointer (some ⟨mb, 0, none⟩), .int .i64 deep] w fun e w' => Expd w mb c a l deep 110 e w' := by
  have HR : ∀ (x : World) (a t : Int) (n : Nat) (hd' : Bs), MakerIs x mb c a l → isTy t → 0 ≤ a → a ≤ 1000 * (deep + 1) + 5 → n ≤ 3 → hd'.length ≤ 100 →
      Calls Try.prog 10 #[.pointer (some ⟨mb, 0, none⟩), .string (ofBs hd'), .int .u8 t, .int .i64 n, .int .i64 deep] x fun e w' => Rowed x mb c a l deep hd' (List.replicate n t) e w' :=
    fun x a t n hd' h1 h2 h3 h4 h5 h6 => row_is c hc deep hd hO x mb a l t h1 h2 h3 h4 hl hl2 n h5 hd' h6
  have HRl : ∀ (x : World) (a : Int), MakerIs x mb c a l → 0 ≤ a → a ≤ 1000 * (deep + 1) + 5 →
      Calls Try.prog 10 #[.pointer (some ⟨mb, 0, none⟩), .string ⟨#[108, 101, 110]⟩, .int .u8 116, .int .i64 1, .int .i64 deep] x fun e w' => Rowed x mb c a l deep hLen [116] e w' :=
    fun x a h1 h2 h3 => HR x a 116 1 hLen h1 (.inr (.inl rfl)) h2 h3 (by omega) (by decide)
  clear hO
  obtain ⟨y3, y4, _, _⟩ := h.cells
  have hlt := h.lt
  cases hloud : c.loud with
  | false =>
    rw [hloud] at y3
    go_enter Try.func11, Try.ntmps11
    go_wp2_with (go_at_call 10; refine (HRl _ a h ha ?c1).mono ?_)
    case c1 => omega
    intro e w4 hrow
    have HX : Hid _ := Rowed.expd (a := a) .len (by omega) (by omega) (grown_refl _ _) hrow
    obtain ⟨xs, a4, rfl, _⟩ := hrow
    go_wp2
    go_ret
    exact HX.out
  | true =>
    rw [hloud] at y3
    by_cases hcall : c.call = []
    · have hce : (ofBs c.call).toList.isEmpty = true := by rw [ofBs_toList, hcall]; rfl
      clear hcall
      go_enter Try.func11, Try.ntmps11
      go_wp2_with (go_at_call 5; refine (number_any _ _ mb c a l ?c1 ?c2 ?c4 ?c3 h).mono ?_)
      case c1 => decide
      case c2 => decide
      case c3 => omega
      case c4 => omega
      rintro e w5 ⟨r5, a5, rfl, hr50, hr51, ha50, ha51, hg5, hM5⟩
      have hlt5 := hM5.lt
      by_cases hr5 : 0 < r5
      · go_wp2_with (go_at_call 5; refine (number_any _ _ mb c a5 l ?c1 ?c2 ?c4 ?c3 (hM5.alloc _)).mono ?_)
        case c1 => decide
        case c2 => decide
        case c3 => omega
        case c4 => omega
        rintro e w6 ⟨r6, a6, rfl, hr60, hr61, ha60, ha61, hg6, hM6⟩
        obtain ⟨tx, htx, hcell⟩ := row_at (ts := ariths) (grown_blk (blk_new w5 _) hg6 (by omega)) hr60 hr61
        have htl : tx.length ≤ 100 := by
          have : tx.length ≤ 1 := by simpa using List.all_eq_true.mp (show (ariths.all fun x => decide (x.length ≤ 1)) = true by decide) tx htx
          omega
        have HR1 := HR w6 a6 110 2 tx hM6 (.inl rfl) (by omega) (by omega) (by omega) htl
        rw [show ((2 : Nat) : Int) = 2 from rfl] at HR1
        go_wp2_with (go_at_call 10; refine HR1.mono ?_)
        intro e w7 hrow
        have HX : Hid _ := Rowed.expd (a := a) (.arith hloud htx) (by omega) (by omega) (grown_trans (grown_refl _ _) (grown_trans hg5 (grown_trans (grown_alloc (grown_refl _ _) _) hg6))) hrow
        obtain ⟨xs, a7, rfl, _⟩ := hrow
        go_wp2
        go_ret
        exact HX.out
      · go_wp2_with (go_at_call 10; refine (HRl _ a5 hM5 ?c2 ?c1).mono ?_)
        case c1 => omega
        case c2 => omega
        intro e w7 hrow
        have HX : Hid _ := Rowed.expd (a := a) .len (by omega) (by omega) (grown_trans (grown_refl _ _) hg5) hrow
        obtain ⟨xs, a7, rfl, _⟩ := hrow
        go_wp2
        go_ret
        exact HX.out
    · have hce : (ofBs c.call).toList.isEmpty = false := by
        rw [ofBs_toList]; cases hcc : c.call with | nil => exact absurd hcc hcall | cons _ _ => rfl
      go_enter Try.func11, Try.ntmps11
      go_wp2_with (go_at_call 5; refine (number_any _ _ mb c a l ?c1 ?c2 ha ?c3 h).mono ?_)
      case c1 => decide
      case c2 => decide
      case c3 => omega
      rintro e w2 ⟨r, a', rfl, hr0, hr1, ha0, ha1, hg2, hM2⟩
      obtain ⟨z3, z4, _, _⟩ := hM2.cells
      rw [hloud] at z3
      by_cases hr : r = 0
      · subst hr
        have HR1 := HR w2 a' 110 1 c.call hM2 (.inl rfl) (by omega) (by omega) (by omega) (by have := hc.call; omega)
        rw [show ((1 : Nat) : Int) = 1 from rfl] at HR1
        go_wp2_with (go_at_call 10; refine HR1.mono ?_)
        intro e w7 hrow
        have HX : Hid _ := Rowed.expd (a := a) (.call hloud hcall) (by omega) (by omega) hg2 hrow
        obtain ⟨xs, a7, rfl, _⟩ := hrow
        go_wp2
        go_ret
        exact HX.out
      · have hrb : (r == 0) = false := by simpa using hr
        go_wp2_with (go_at_call 5; refine (number_any _ _ mb c a' l ?c1 ?c2 ?c4 ?c3 hM2).mono ?_)
        case c1 => decide
        case c2 => decide
        case c3 => omega
        case c4 => omega
        rintro e w5 ⟨r5, a5, rfl, hr50, hr51, ha50, ha51, hg5, hM5⟩
        have hlt5 := hM5.lt
        by_cases hr5 : 0 < r5
        · go_wp2_with (go_at_call 5; refine (number_any _ _ mb c a5 l ?c1 ?c2 ?c4 ?c3 (hM5.alloc _)).mono ?_)
          case c1 => decide
          case c2 => decide
          case c3 => omega
          case c4 => omega
          rintro e w6 ⟨r6, a6, rfl, hr60, hr61, ha60, ha61, hg6, hM6⟩
          obtain ⟨tx, htx, hcell⟩ := row_at (ts := ariths) (grown_blk (blk_new w5 _) hg6 (by omega)) hr60 hr61
          have htl : tx.length ≤ 100 := by
            have : tx.length ≤ 1 := by simpa using List.all_eq_true.mp (show (ariths.all fun x => decide (x.length ≤ 1)) = true by decide) tx htx
            omega
          have HR1 := HR w6 a6 110 2 tx hM6 (.inl rfl) (by omega) (by omega) (by omega) htl
          rw [show ((2 : Nat) : Int) = 2 from rfl] at HR1
          go_wp2_with (go_at_call 10; refine HR1.mono ?_)
          intro e w7 hrow
          have HX : Hid _ := Rowed.expd (a := a) (.arith hloud htx) (by omega) (by omega) (grown_trans hg2 (grown_trans hg5 (grown_trans (grown_alloc (grown_refl _ _) _) hg6))) hrow
          obtain ⟨xs, a7, rfl, _⟩ := hrow
          go_wp2
          go_ret
          exact HX.out
        · go_wp2_with (go_at_call 10; refine (HRl _ a5 hM5 ?c2 ?c1).mono ?_)
          case c1 => omega
          case c2 => omega
          intro e w7 hrow
          have HX : Hid _ := Rowed.expd (a := a) .len (by omega) (by omega) (grown_trans hg2 hg5) hrow
          obtain ⟨xs, a7, rfl, _⟩ := hrow
          go_wp2
          go_ret
          exact HX.out
end Go.Proofs.Ytilfjpmeededmaa

/- The maker's count. -/
/- The maker's of: an expression of a type is made, whatever the numbers. -/
/- What a maker makes is an expression. -/
import Derived.Test.YtilfjpmeededmaaGreatDoorMakeAZ
import Derived.Test.YtilfjpmeededmaaGreatDoorMadePZ
namespace Go.Proofs.YtilfjpmeededmaaGreatDoor
open Go.RowKit

theorem MakerIs.cells {w : World} {mb : Nat} {c : Cfg} {a l : Int} (h : MakerIs w mb c a l) : w.cell? ⟨mb, 3, none⟩ = some (.bool c.loud) ∧ w.cell? ⟨mb, 4, none⟩ = some (.string (ofBs c.call)) ∧ w.cell? ⟨mb, 2, none⟩ = some (.int .i64 l) ∧ w.frozen? ⟨mb, 2, none⟩ = false := by
  obtain ⟨rv, nv, tv, bv, hk, _⟩ := h
  obtain ⟨⟨y0, y1, y2, y3, y4, y5, y6, y7⟩, f1, f2⟩ := cells8 hk
  exact ⟨y3, y4, y2, f2⟩

set_option maxHeartbeats 4000000 in
set_option maxRecDepth 100000 in
theorem count_any (c : Cfg) (hc : CfgOK c) (deep : Nat) (hd : deep ≤ 3) (hO : OfSpec c (deep + 1)) (w : World) (mb : Nat) (a l : Int) (h : MakerIs w mb c a l) (ha : 0 ≤ a) (ha2 : a ≤ 1000 * (deep + 1) + 1) (hl : l ≤ 30) (hl2 : 1 ≤ l) :
    Calls Tryz.prog 42 #[.pointer (some ⟨mb, 0, none⟩), .int .i64 deep] w fun e w' => Expd w mb c a l deep 110 e w' := by
  have HR : ∀ (x : World) (a t : Int) (n : Nat) (hd' : Bs), MakerIs x mb c a l → isTy t → 0 ≤ a → a ≤ 1000 * (deep + 1) + 5 → n ≤ 3 → hd'.length ≤ 100 →
      Calls Tryz.prog 41 #[.pointer (some ⟨mb, 0, none⟩), .string (ofBs hd'), .int .u8 t, .int .i64 n, .int .i64 deep] x fun e w' => Rowed x mb c a l deep hd' (List.replicate n t) e w' :=
    fun x a t n hd' h1 h2 h3 h4 h5 h6 => row_is c hc deep hd hO x mb a l t h1 h2 h3 h4 hl hl2 n h5 hd' h6
  have HRl : ∀ (x : World) (a : Int), MakerIs x mb c a l → 0 ≤ a → a ≤ 1000 * (deep + 1) + 5 →
      Calls Tryz.prog 41 #[.pointer (some ⟨mb, 0, none⟩), .string ⟨#[108, 101, 110]⟩, .int .u8 116, .int .i64 1, .int .i64 deep] x fun e w' => Rowed x mb c a l deep hLen [116] e w' :=
    fun x a h1 h2 h3 => HR x a 116 1 hLen h1 (.inr (.inl rfl)) h2 h3 (by omega) (by decide)
  clear hO
  obtain ⟨y3, y4, _, _⟩ := h.cells
  have hlt := h.lt
  cases hloud : c.loud with
  | false =>
    rw [hloud] at y3
    go_enter Tryz.func42, Tryz.ntmps42
    go_wp2_with (go_at_call 41; refine (HRl _ a h ha ?c1).mono ?_)
    case c1 => omega
    intro e w4 hrow
    have HX : Hid _ := Rowed.expd (a := a) .len (by omega) (by omega) (grown_refl _ _) hrow
    obtain ⟨xs, a4, rfl, _⟩ := hrow
    go_wp2
    go_ret
    exact HX.out
  | true =>
    rw [hloud] at y3
    by_cases hcall : c.call = []
    · have hce : (ofBs c.call).toList.isEmpty = true := by rw [ofBs_toList, hcall]; rfl
      clear hcall
      go_enter Tryz.func42, Tryz.ntmps42
      go_wp2_with (go_at_call 38; refine (number_any _ _ mb c a l ?c1 ?c2 ?c4 ?c3 h).mono ?_)
      case c1 => decide
      case c2 => decide
      case c3 => omega
      case c4 => omega
      rintro e w5 ⟨r5, a5, rfl, hr50, hr51, ha50, ha51, hg5, hM5⟩
      have hlt5 := hM5.lt
      by_cases hr5 : 0 < r5
      · go_wp2_with (go_at_call 38; refine (number_any _ _ mb c a5 l ?c1 ?c2 ?c4 ?c3 (hM5.alloc _)).mono ?_)
        case c1 => decide
        case c2 => decide
        case c3 => omega
        case c4 => omega
        rintro e w6 ⟨r6, a6, rfl, hr60, hr61, ha60, ha61, hg6, hM6⟩
        obtain ⟨tx, htx, hcell⟩ := row_at (ts := ariths) (grown_blk (blk_new w5 _) hg6 (by omega)) hr60 hr61
        have htl : tx.length ≤ 100 := by
          have : tx.length ≤ 1 := by simpa using List.all_eq_true.mp (show (ariths.all fun x => decide (x.length ≤ 1)) = true by decide) tx htx
          omega
        have HR1 := HR w6 a6 110 2 tx hM6 (.inl rfl) (by omega) (by omega) (by omega) htl
        rw [show ((2 : Nat) : Int) = 2 from rfl] at HR1
        go_wp2_with (go_at_call 41; refine HR1.mono ?_)
        intro e w7 hrow
        have HX : Hid _ := Rowed.expd (a := a) (.arith hloud htx) (by omega) (by omega) (grown_trans (grown_refl _ _) (grown_trans hg5 (grown_trans (grown_alloc (grown_refl _ _) _) hg6))) hrow
        obtain ⟨xs, a7, rfl, _⟩ := hrow
        go_wp2
        go_ret
        exact HX.out
      · go_wp2_with (go_at_call 41; refine (HRl _ a5 hM5 ?c2 ?c1).mono ?_)
        case c1 => omega
        case c2 => omega
        intro e w7 hrow
        have HX : Hid _ := Rowed.expd (a := a) .len (by omega) (by omega) (grown_trans (grown_refl _ _) hg5) hrow
        obtain ⟨xs, a7, rfl, _⟩ := hrow
        go_wp2
        go_ret
        exact HX.out
    · have hce : (ofBs c.call).toList.isEmpty = false := by
        rw [ofBs_toList]; cases hcc : c.call with | nil => exact absurd hcc hcall | cons _ _ => rfl
      go_enter Tryz.func42, Tryz.ntmps42
      go_wp2_with (go_at_call 38; refine (number_any _ _ mb c a l ?c1 ?c2 ha ?c3 h).mono ?_)
      case c1 => decide
      case c2 => decide
      case c3 => omega
      rintro e w2 ⟨r, a', rfl, hr0, hr1, ha0, ha1, hg2, hM2⟩
      obtain ⟨z3, z4, _, _⟩ := hM2.cells
      rw [hloud] at z3
      by_cases hr : r = 0
      · subst hr
        have HR1 := HR w2 a' 110 1 c.call hM2 (.inl rfl) (by omega) (by omega) (by omega) (by have := hc.call; omega)
        rw [show ((1 : Nat) : Int) = 1 from rfl] at HR1
        go_wp2_with (go_at_call 41; refine HR1.mono ?_)
        intro e w7 hrow
        have HX : Hid _ := Rowed.expd (a := a) (.call hloud hcall) (by omega) (by omega) hg2 hrow
        obtain ⟨xs, a7, rfl, _⟩ := hrow
        go_wp2
        go_ret
        exact HX.out
      · have hrb : (r == 0) = false := by simpa using hr
        go_wp2_with (go_at_call 38; refine (number_any _ _ mb c a' l ?c1 ?c2 ?c4 ?c3 hM2).mono ?_)
        case c1 => decide
        case c2 => decide
        case c3 => omega
        case c4 => omega
        rintro e w5 ⟨r5, a5, rfl, hr50, hr51, ha50, ha51, hg5, hM5⟩
        have hlt5 := hM5.lt
        by_cases hr5 : 0 < r5
        · go_wp2_with (go_at_call 38; refine (number_any _ _ mb c a5 l ?c1 ?c2 ?c4 ?c3 (hM5.alloc _)).mono ?_)
          case c1 => decide
          case c2 => decide
          case c3 => omega
          case c4 => omega
          rintro e w6 ⟨r6, a6, rfl, hr60, hr61, ha60, ha61, hg6, hM6⟩
          obtain ⟨tx, htx, hcell⟩ := row_at (ts := ariths) (grown_blk (blk_new w5 _) hg6 (by omega)) hr60 hr61
          have htl : tx.length ≤ 100 := by
            have : tx.length ≤ 1 := by simpa using List.all_eq_true.mp (show (ariths.all fun x => decide (x.length ≤ 1)) = true by decide) tx htx
            omega
          have HR1 := HR w6 a6 110 2 tx hM6 (.inl rfl) (by omega) (by omega) (by omega) htl
          rw [show ((2 : Nat) : Int) = 2 from rfl] at HR1
          go_wp2_with (go_at_call 41; refine HR1.mono ?_)
          intro e w7 hrow
          have HX : Hid _ := Rowed.expd (a := a) (.arith hloud htx) (by omega) (by omega) (grown_trans hg2 (grown_trans hg5 (grown_trans (grown_alloc (grown_refl _ _) _) hg6))) hrow
          obtain ⟨xs, a7, rfl, _⟩ := hrow
          go_wp2
          go_ret
          exact HX.out
        · go_wp2_with (go_at_call 41; refine (HRl _ a5 hM5 ?c2 ?c1).mono ?_)
          case c1 => omega
          case c2 => omega
          intro e w7 hrow
          have HX : Hid _ := Rowed.expd (a := a) .len (by omega) (by omega) (grown_trans hg2 hg5) hrow
          obtain ⟨xs, a7, rfl, _⟩ := hrow
          go_wp2
          go_ret
          exact HX.out
end Go.Proofs.YtilfjpmeededmaaGreatDoor

namespace Go.Proofs.YtilfjpmeededmaaGreatDoor
open Go.RowKit

theorem Expd.ofd {w w1 w' : World} {mb : Nat} {c : Cfg} {a a1 l : Int} {deep : Nat} {t : Int} {e : Ending} (hl : 2 ≤ l) (ha : a ≤ a1) (ha1 : a1 ≤ a + 1) (hg : w.grownBy w1 (some mb)) (h : Expd w1 mb c a1 (l - 1) deep t e w') : Ofd w mb c a l t deep e w' := by
  obtain ⟨x, a', he, hm, hd, hn, h1, h2, hg2, hM⟩ := h
  refine ⟨x, a', he, hm, hd, fun h => by omega, fun _ => by omega, by omega, by omega, grown_trans hg hg2, ?_⟩
  have e : l - (nodes x : Int) = l - 1 + 1 - nodes x := by omega
  rw [e]; exact hM
theorem Tokened.ofd {w w1 w' : World} {mb : Nat} {c : Cfg} {a a1 l : Int} {deep : Nat} {t : Int} {e : Ending} (hd : deep ≤ 4) (ha : a ≤ a1) (ha1 : a1 ≤ a + 1) (hg : w.grownBy w1 (some mb)) (h : Tokened w1 mb c a1 (l - 1) t e w') : Ofd w mb c a l t deep e w' := by
  obtain ⟨tx, a', he, ht, h1, h2, hg2, hM⟩ := h
  refine ⟨leafT tx, a', by rw [render_leaf]; exact he, .tok ht, by rw [dep_leaf]; omega, fun _ => nodes_leaf tx, fun h => by rw [nodes_leaf]; simp; omega, by omega, by rw [nodes_leaf]; simp; omega, grown_trans hg hg2, ?_⟩
  rw [nodes_leaf]; exact hM

set_option maxHeartbeats 4000000 in
set_option maxRecDepth 100000 in
theorem of_token (c : Cfg) (deep : Nat) (hd : deep ≤ 4) (w : World) (mb : Nat) (a l t : Int) (h : MakerIs w mb c a l) (ht : isTy t) (ha : 0 ≤ a) (ha2 : a ≤ 1000 * (deep + 1)) (hl : l ≤ 30) (hl2 : -(100 * (deep + 1)) ≤ l) (hcase : l ≤ 1 ∨ deep = 4) :
    Calls Tryz.prog 16 #[.pointer (some ⟨mb, 0, none⟩), .int .u8 t, .int .i64 deep] w fun e w' => Ofd w mb c a l t deep e w' := by
  obtain ⟨_, _, y2, f2⟩ := h.cells
  have hlt := h.lt
  have G1 : w.grownBy (w.setCell ⟨mb, 2, none⟩ (.int .i64 (l - 1))) (some mb) := grown_setCell w mb 2 _
  by_cases hl1 : l ≤ 1
  · go_enter Tryz.func16, Tryz.ntmps16
    go_wp2_with (go_at_call 38; refine (number_any _ _ mb c a (l - 1) ?c1 ?c2 ha ?c3 (h.setLeft _)).mono ?_)
    case c1 => decide
    case c2 => decide
    case c3 => omega
    rintro e w2 ⟨k, a', rfl, hk0, hk1, ha0, ha1, hg2, hM2⟩
    obtain ⟨_, _, z2, _⟩ := hM2.cells
    go_wp2_with (go_at_call 39; refine (token_any _ mb c a' (l - 1) t ht ?c1 ?c2 hM2).mono ?_)
    case c1 => omega
    case c2 => omega
    intro e w4 hT
    have HX : Hid _ := Tokened.ofd (a := a) (deep := deep) hd ha0 ha1 (grown_trans G1 hg2) hT
    obtain ⟨tx, a4, rfl, _⟩ := hT
    go_wp2
    go_ret
    exact HX.out
  · have hd4 : 3 < deep := by rcases hcase with h | h; omega; omega
    clear hcase
    go_enter Tryz.func16, Tryz.ntmps16
    go_wp2_with (go_at_call 38; refine (number_any _ _ mb c a (l - 1) (by decide) (by decide) ha ?d3 (h.setLeft _)).mono ?_)
    case d3 => omega
    rintro e w2 ⟨k, a', rfl, hk0, hk1, ha0, ha1, hg2, hM2⟩
    obtain ⟨_, _, z2, _⟩ := hM2.cells
    go_wp2_with (go_at_call 39; refine (token_any _ mb c a' (l - 1) t ht ?c1 ?c2 hM2).mono ?_)
    case c1 => omega
    case c2 => omega
    intro e w4 hT
    have HX : Hid _ := Tokened.ofd (a := a) (deep := deep) hd ha0 ha1 (grown_trans G1 hg2) hT
    obtain ⟨tx, a4, rfl, _⟩ := hT
    go_wp2
    go_ret
    exact HX.out

set_option maxHeartbeats 8000000 in
set_option maxRecDepth 100000 in
theorem of_step (c : Cfg) (hc : CfgOK c) (deep : Nat) (hd : deep ≤ 3) (hO : OfSpec c (deep + 1)) (w : World) (mb : Nat) (a l t : Int) (h : MakerIs w mb c a l) (ht : isTy t) (ha : 0 ≤ a) (ha2 : a ≤ 1000 * (deep + 1)) (hl : l ≤ 30) (hl2 : 2 ≤ l) :
    Calls Tryz.prog 16 #[.pointer (some ⟨mb, 0, none⟩), .int .u8 t, .int .i64 deep] w fun e w' => Ofd w mb c a l t deep e w' := by
  obtain ⟨_, _, y2, f2⟩ := h.cells
  have hlt := h.lt
  have G1 : w.grownBy (w.setCell ⟨mb, 2, none⟩ (.int .i64 (l - 1))) (some mb) := grown_setCell w mb 2 _
  go_enter Tryz.func16, Tryz.ntmps16
  go_wp2_with (go_at_call 38; refine (number_any _ _ mb c a (l - 1) ?c1 ?c2 ha ?c3 (h.setLeft _)).mono ?_)
  case c1 => decide
  case c2 => decide
  case c3 => omega
  rintro e w2 ⟨k, a', rfl, hk0, hk1, ha0, ha1, hg2, hM2⟩
  obtain ⟨z3, z4, z2, _⟩ := hM2.cells
  have G2 := grown_trans G1 hg2
  clear y2 f2 h hg2 G1
  by_cases hk4 : 4 < k
  · go_wp2_with (go_at_call 39; refine (token_any _ mb c a' (l - 1) t ht ?c1 ?c2 hM2).mono ?_)
    case c1 => omega
    case c2 => omega
    intro e w4 hT
    have HX : Hid _ := Tokened.ofd (a := a) (deep := deep) (by omega) ha0 ha1 G2 hT
    obtain ⟨tx, a4, rfl, _⟩ := hT
    go_wp2
    go_ret
    exact HX.out
  · by_cases hk00 : k = 0
    · subst hk00
      go_wp2_with (go_at_call 40; refine (choice_any c hc deep hd hO _ mb a' (l - 1) t hM2 ht ?c1 ?c2 ?c3 ?c4).mono ?_)
      case c1 => omega
      case c2 => omega
      case c3 => omega
      case c4 => omega
      intro e w4 hT
      have HX : Hid _ := (Rowed.expd (a := a') (.ifs ht) (by omega) (by omega) (grown_refl _ _) hT).ofd (a := a) hl2 ha0 ha1 G2
      obtain ⟨xs, a4, rfl, _⟩ := hT
      go_wp2
      go_ret
      exact HX.out
    · have hk0b : (k == 0) = false := by simpa using hk00
      by_cases hnote : k = 1 ∧ c.loud = true
      · obtain ⟨rfl, hloud⟩ := hnote
        rw [hloud] at z3
        have HR1 := row_is c hc deep hd hO w2 mb a' (l - 1) t hM2 ht (by omega) (by omega) (by omega) (by omega) 1 (by omega) hNote (by decide)
        rw [show ((1 : Nat) : Int) = 1 from rfl] at HR1
        go_wp2_with (go_at_call 41; refine HR1.mono ?_)
        intro e w4 hT
        have HX : Hid _ := (Rowed.expd (a := a') (.note hloud ht) (by omega) (by omega) (grown_refl _ _) hT).ofd (a := a) hl2 ha0 ha1 G2
        obtain ⟨xs, a4, rfl, _⟩ := hT
        go_wp2
        go_ret
        exact HX.out
      · have HK : k = 1 → c.loud = false := fun e => by
          cases hl : c.loud with
          | false => rfl
          | true => exact absurd ⟨e, hl⟩ hnote
        rcases ht with rfl | rfl | rfl
        · have fin : ∀ (e : Ending) (w4 : World), Expd w2 mb c a' (l - 1) deep 110 e w4 → Ofd w mb c a l 110 deep e w4 := fun e w4 h => h.ofd (a := a) hl2 ha0 ha1 G2
          have HC := count_any c hc deep hd hO w2 mb a' (l - 1) hM2 (by omega) (by omega) (by omega) (by omega)
          clear hnote
          by_cases hk11 : k = 1
          · have hloud := HK hk11
            rw [hloud] at z3
            subst hk11
            clear HK
            go_wp2_with (go_at_call 42; refine HC.mono ?_)
            intro e w4 hT
            have HX : Hid _ := fin _ _ hT
            obtain ⟨xs, a4, rfl, _⟩ := hT
            go_wp2
            go_ret
            exact HX.out
          · have hk1b : (k == 1) = false := by simpa using hk11
            clear HK
            go_wp2_with (go_at_call 42; refine HC.mono ?_)
            intro e w4 hT
            have HX : Hid _ := fin _ _ hT
            obtain ⟨xs, a4, rfl, _⟩ := hT
            go_wp2
            go_ret
            exact HX.out
        · clear hnote
          cases hloud : c.loud with
          | true =>
            rw [hloud] at z3
            have hk11 : ¬ k = 1 := fun e => by have := HK e; rw [hloud] at this; cases this
            have hk1b : (k == 1) = false := by simpa using hk11
            clear HK
            go_wp2_with (go_at_call 38; refine (number_any _ _ mb c a' (l - 1) ?c1 ?c2 ?c4 ?c3 hM2).mono ?_)
            case c1 => decide
            case c2 => decide
            case c3 => omega
            case c4 => omega
            rintro e w3 ⟨r3, a3, rfl, hr30, hr31, ha30, ha31, hg3, hM3⟩
            obtain ⟨n, rfl⟩ : ∃ n : Nat, r3 = n := ⟨r3.toNat, by omega⟩
            have HR1 := row_is c hc deep hd hO w3 mb a3 (l - 1) 116 hM3 (.inr (.inl rfl)) (by omega) (by omega) (by omega) (by omega) (1 + n) (by omega) hCat (by decide)
            rw [show ((1 + n : Nat) : Int) = 1 + (n : Int) by omega] at HR1
            go_wp2_with (go_at_call 41; refine HR1.mono ?_)
            intro e w4 hT
            have HX : Hid _ := (Rowed.expd (a := a') (.cat hloud (by omega) (by omega)) (by omega) (by omega) hg3 hT).ofd (a := a) hl2 ha0 ha1 G2
            obtain ⟨xs, a4, rfl, _⟩ := hT
            go_wp2
            go_ret
            exact HX.out
          | false =>
            rw [hloud] at z3
            clear HK
            have HC := choice_any c hc deep hd hO w2 mb a' (l - 1) 116 hM2 (.inr (.inl rfl)) (by omega) (by omega) (by omega) (by omega)
            by_cases hk11 : k = 1
            · subst hk11
              go_wp2_with (go_at_call 40; refine HC.mono ?_)
              intro e w4 hT
              have HX : Hid _ := (Rowed.expd (a := a') (.ifs (.inr (.inl rfl))) (by omega) (by omega) (grown_refl _ _) hT).ofd (a := a) hl2 ha0 ha1 G2
              obtain ⟨xs, a4, rfl, _⟩ := hT
              go_wp2
              go_ret
              exact HX.out
            · have hk1b : (k == 1) = false := by simpa using hk11
              go_wp2_with (go_at_call 40; refine HC.mono ?_)
              intro e w4 hT
              have HX : Hid _ := (Rowed.expd (a := a') (.ifs (.inr (.inl rfl))) (by omega) (by omega) (grown_refl _ _) hT).ofd (a := a) hl2 ha0 ha1 G2
              obtain ⟨xs, a4, rfl, _⟩ := hT
              go_wp2
              go_ret
              exact HX.out
        · have fin : ∀ (e : Ending) (w4 : World), Expd w2 mb c a' (l - 1) deep 98 e w4 → Ofd w mb c a l 98 deep e w4 := fun e w4 h => h.ofd (a := a) hl2 ha0 ha1 G2
          have HC := ask_any c hc deep hd hO w2 mb a' (l - 1) hM2 (by omega) (by omega) (by omega) (by omega)
          clear hnote
          by_cases hk11 : k = 1
          · have hloud := HK hk11
            rw [hloud] at z3
            subst hk11
            clear HK
            go_wp2_with (go_at_call 43; refine HC.mono ?_)
            intro e w4 hT
            have HX : Hid _ := fin _ _ hT
            obtain ⟨xs, a4, rfl, _⟩ := hT
            go_wp2
            go_ret
            exact HX.out
          · have hk1b : (k == 1) = false := by simpa using hk11
            clear HK
            go_wp2_with (go_at_call 43; refine HC.mono ?_)
            intro e w4 hT
            have HX : Hid _ := fin _ _ hT
            obtain ⟨xs, a4, rfl, _⟩ := hT
            go_wp2
            go_ret
            exact HX.out

theorem of_any (c : Cfg) (hc : CfgOK c) : ∀ j deep : Nat, deep + j = 4 → OfSpec c deep := by
  intro j
  induction j with
  | zero =>
    intro deep hd w mb a l t h ht ha ha2 hl hl2
    exact of_token c deep (by omega) w mb a l t h ht ha ha2 hl hl2 (.inr (by omega))
  | succ j ih =>
    intro deep hd w mb a l t h ht ha ha2 hl hl2
    by_cases h1 : l ≤ 1
    · exact of_token c deep (by omega) w mb a l t h ht ha ha2 hl hl2 (.inl h1)
    · exact of_step c hc deep (by omega) (ih (deep + 1) (by omega)) w mb a l t h ht ha ha2 hl (by omega)
end Go.Proofs.YtilfjpmeededmaaGreatDoor

namespace Go.Proofs.YtilfjpmeededmaaGreatDoor

def goodB (tx : Bs) : Bool := (!tx.isEmpty && tx.all fun c => !sepB c && c != 39) || (decide (2 ≤ tx.length) && (tx.headD 0 == 39) && (tx.getLastD 0 == 39) && ((tx.drop 1).dropLast).all fun c => c != 39)
theorem good_of {tx : Bs} (h : goodB tx = true) : Good tx := by
  unfold goodB at h
  rw [Bool.or_eq_true] at h
  rcases h with h | h
  · rw [Bool.and_eq_true] at h
    exact .inl ⟨(by have := h.1; intro e; subst e; cases this), h.2⟩
  · simp only [Bool.and_eq_true, decide_eq_true_eq] at h
    obtain ⟨⟨⟨h1, h2⟩, h3⟩, h4⟩ := h
    cases tx with
    | nil => simp at h1
    | cons c r =>
      cases hr : r.reverse with
      | nil => rw [List.reverse_eq_nil_iff] at hr; subst hr; simp at h1
      | cons d m =>
        have e : r = m.reverse ++ [d] := by have := congrArg List.reverse hr; simpa using this
        subst e
        have h3' : d = 39 := by
          rw [← List.cons_append, List.getLastD_concat] at h3; simpa using h3
        clear h3
        simp at h2 h4
        refine .inr ⟨m.reverse, ?_, ?_⟩
        · rw [h2, h3']
        · rw [List.all_eq_true]; intro x hx; have := h4 x (by simpa using hx); simpa using this
def leafOK (tx : Bs) : Bool := (kindS tx != 0) && (kindS tx != 1) && (kindS tx != 2) && goodB tx && aloneS (kindS tx) tx
def headOK (tx : Bs) : Bool := (kindS tx != 0) && goodB tx && headS (kindS tx) tx
theorem leaf_wf {tx : Bs} (h : leafOK tx = true) : Wf (leafT tx) := by
  unfold leafOK at h
  simp only [Bool.and_eq_true, bne_iff_ne, ne_eq] at h
  obtain ⟨⟨⟨⟨h1, h2⟩, h3⟩, h4⟩, h5⟩ := h
  exact .leaf rfl h1 h2 h3 (good_of h4) h5
theorem node_wf {tx : Bs} {ops : List Tr} (h : headOK tx = true) (ho : WfL ops) : Wf (nodeT tx ops) := by
  unfold headOK at h
  simp only [Bool.and_eq_true, bne_iff_ne, ne_eq] at h
  obtain ⟨⟨h1, h2⟩, h3⟩ := h
  exact .node rfl h1 (good_of h2) h3 ho
structure CfgGood (c : Cfg) : Prop where
  nums : c.nums.all leafOK = true
  texts : c.texts.all leafOK = true
  bools : c.bools.all leafOK = true
  call : c.call = [] ∨ headOK c.call = true
theorem lits_ok (t : Int) : (litToks t).all leafOK = true := by
  unfold litToks
  split
  · decide
  · split
    · decide
    · decide
theorem mtok_ok {c : Cfg} (hc : CfgGood c) {t : Int} {tx : Bs} (h : IsTok c t tx) : leafOK tx = true := by
  rcases h with h | h
  · exact List.all_eq_true.mp (lits_ok t) tx h
  · unfold ownToks at h
    split at h
    · exact List.all_eq_true.mp hc.texts tx h
    · split at h
      · exact List.all_eq_true.mp hc.bools tx h
      · exact List.all_eq_true.mp hc.nums tx h
theorem sig_ok {c : Cfg} (hc : CfgGood c) {h : Bs} {ts : List Int} {t : Int} (hs : Sig c h ts t) : headOK h = true := by
  cases hs with
  | call _ h0 => rcases hc.call with h | h; exact absurd h h0; exact h
  | arith _ hm => exact List.all_eq_true.mp (show ariths.all headOK = true by decide) _ hm
  | cmp hm _ => exact List.all_eq_true.mp (show cmps.all headOK = true by decide) _ hm
  | _ => decide
mutual
theorem made_wf {c : Cfg} (hc : CfgGood c) : ∀ {t : Int} {x : Tr}, Made c t x → Wf x
  | _, _, .tok h => leaf_wf (mtok_ok hc h)
  | _, _, .node hs ho => node_wf (sig_ok hc hs) (madeL_wf hc ho)
theorem madeL_wf {c : Cfg} (hc : CfgGood c) : ∀ {ts : List Int} {xs : List Tr}, MadeL c ts xs → WfL xs
  | _, _, .nil => .nil
  | _, _, .cons a b => .cons (made_wf hc a) (madeL_wf hc b)
end

theorem parse_same {x : Tr} (hw : Wf x) (hd : dep x ≤ 20) (hl : (render x).length ≤ 400) : parseS (render x) = some x := by
  have h0 := deco_tree (ts := []) (r := []) hw (.nil rfl) (fun _ => .inl rfl)
  rw [List.append_nil, List.append_nil] at h0
  have h1 := scan_deco h0
  have h2 := parse_tree (f := 2 * (toks x).length) (deep := 0) (r := []) hw (by omega) (Nat.le_refl _)
  rw [List.append_nil] at h2
  unfold parseS
  rw [if_neg (by omega), h1]
  simp only [Option.bind_some]
  unfold parseT
  rw [h2]
end Go.Proofs.YtilfjpmeededmaaGreatDoor

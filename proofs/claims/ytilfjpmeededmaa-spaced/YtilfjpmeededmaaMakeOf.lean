/- The maker's of: an expression of a type is made, whatever the numbers. -/
import Derived.Test.YtilfjpmeededmaaMakeK
namespace Go.Proofs.Ytilfjpmeededmaa
open Go.RowKit

theorem Expd.ofd {w w1 w' : World} {mb : Nat} {c : Cfg} {a a1 l : Int} {deep : Nat} {t : Int} {e : Ending} (hl : 2 ≤ l) (ha : a ≤ a1) (ha1 : a1 ≤ a + 1) (hg : w.grownBy w1 (some mb)) (h : Expd w1 mb c a1 (l - 1) deep t e w') : Ofd w mb c a l t deep e w' := by
  obtain ⟨x, a', he, hm, hd, hn, h1, h2, hg2, hM⟩ := h
  refine ⟨x, a', he, hm, hd, fun h => by omega, fun _ => by omega, by omega, by omega, grown_trans hg hg2, ?_⟩
  have e : l - (nodes x : Int) = l - 1 + 1 - nodes x := by omega
  rw [e]; exact hM
theorem Tokened.ofd {w w1 w' : World} {mb : Nat} {c : Cfg} {a a1 l : Int} {deep : Nat} {t : Int} {e : Ending} (hd : deep ≤ 4) (ha : a ≤ a1) (ha1 : a1 ≤ a + 1) (hg : w.grownBy w1 (some mb)) (h : Tokened w1 mb c a1 (l - 1) t e w') : Ofd w mb c a l t deep e w' := by
  obtain ⟨tx, a', he, ht, h1, h2, hg2, hM⟩ := h
  refine ⟨leafT tx, a', by rw [render_leaf]; exact he, .tok ht, by rw [dep_leaf]; omega, fun _ => nodes_leaf tx, fun h => by rw [nodes_leaf]; simp; omega, by omega, by rw [nodes_leaf]; simp; omega, grown_trans hg hg2, ?_⟩
  rw [nodes_leaf]; exact hM

set_option maxHeartbeats 4000000 in
set_option maxRecDepth 100000 in
theorem of_token (c : Cfg) (deep : Nat) (hd : deep ≤ 4) (w : World) (mb : Nat) (a l t : Int) (h : MakerIs w mb c a l) (ht : isTy t) (ha : 0 ≤ a) (ha2 : a ≤ 1000 * (deep + 1)) (hl : l ≤ 30) (hl2 : -(100 * (deep + 1)) ≤ l) (hcase : l ≤ 1 ∨ deep = 4) :
    Calls Try.prog 4 #[.pointer (some ⟨mb, 0, none⟩), .int .u8 t, .int .i64 deep] w fun e w' => Ofd w mb c a l t deep e w' := by
  obtain ⟨_, _, y2, f2⟩ := h.cells
  have hlt := h.lt
  have G1 : w.grownBy (w.setCell ⟨mb, 2, none⟩ (.int .i64 (l - 1))) (some mb) := grown_setCell w mb 2 _
  by_cases hl1 : l ≤ 1
  · go_enter Try.func4, Try.ntmps4
    go_wp2_with (go_at_call 5; refine (number_any _ _ mb c a (l - 1) ?c1 ?c2 ha ?c3 (h.setLeft _)).mono ?_)
    case c1 => decide
    case c2 => decide
    case c3 => omega
    rintro e w2 ⟨k, a', rfl, hk0, hk1, ha0, ha1, hg2, hM2⟩
    obtain ⟨_, _, z2, _⟩ := hM2.cells
    go_wp2_with (go_at_call 8; refine (token_any _ mb c a' (l - 1) t ht ?c1 ?c2 hM2).mono ?_)
    case c1 => omega
    case c2 => omega
    intro e w4 hT
    have HX : Hid _ := Tokened.ofd (a := a) (deep := deep) hd ha0 ha1 (grown_trans G1 hg2) hT
    obtain ⟨tx, a4, rfl, _⟩ := hT
    go_wp2
    go_ret
    exact HX.out
  · have hd4 : 3 < deep := by rcases hcase with h | h; omega; omega
    clear hcase
    go_enter Try.func4, Try.ntmps4
    go_wp2_with (go_at_call 5; refine (number_any _ _ mb c a (l - 1) (by decide) (by decide) ha ?d3 (h.setLeft _)).mono ?_)
    case d3 => omega
    rintro e w2 ⟨k, a', rfl, hk0, hk1, ha0, ha1, hg2, hM2⟩
    obtain ⟨_, _, z2, _⟩ := hM2.cells
    go_wp2_with (go_at_call 8; refine (token_any _ mb c a' (l - 1) t ht ?c1 ?c2 hM2).mono ?_)
    case c1 => omega
    case c2 => omega
    intro e w4 hT
    have HX : Hid _ := Tokened.ofd (a := a) (deep := deep) hd ha0 ha1 (grown_trans G1 hg2) hT
    obtain ⟨tx, a4, rfl, _⟩ := hT
    go_wp2
    go_ret
    exact HX.out

set_option maxHeartbeats 8000000 in
set_option maxRecDepth 100000 in
theorem of_step (c : Cfg) (hc : CfgOK c) (deep : Nat) (hd : deep ≤ 3) (hO : OfSpec c (deep + 1)) (w : World) (mb : Nat) (a l t : Int) (h : MakerIs w mb c a l) (ht : isTy t) (ha : 0 ≤ a) (ha2 : a ≤ 1000 * (deep + 1)) (hl : l ≤ 30) (hl2 : 2 ≤ l) :
    Calls Try.prog 4 #[.pointer (some ⟨mb, 0, none⟩), .int .u8 t, .int .i64 deep] w fun e w' => Ofd w mb c a l t deep e w' := by
  obtain ⟨_, _, y2, f2⟩ := h.cells
  have hlt := h.lt
  have G1 : w.grownBy (w.setCell ⟨mb, 2, none⟩ (.int .i64 (l - 1))) (some mb) := grown_setCell w mb 2 _
  go_enter Try.func4, Try.ntmps4
  go_wp2_with (go_at_call 5; refine (number_any _ _ mb c a (l - 1) ?c1 ?c2 ha ?c3 (h.setLeft _)).mono ?_)
  case c1 => decide
  case c2 => decide
  case c3 => omega
  rintro e w2 ⟨k, a', rfl, hk0, hk1, ha0, ha1, hg2, hM2⟩
  obtain ⟨z3, z4, z2, _⟩ := hM2.cells
  have G2 := grown_trans G1 hg2
  clear y2 f2 h hg2 G1
  by_cases hk4 : 4 < k
  · go_wp2_with (go_at_call 8; refine (token_any _ mb c a' (l - 1) t ht ?c1 ?c2 hM2).mono ?_)
    case c1 => omega
    case c2 => omega
    intro e w4 hT
    have HX : Hid _ := Tokened.ofd (a := a) (deep := deep) (by omega) ha0 ha1 G2 hT
    obtain ⟨tx, a4, rfl, _⟩ := hT
    go_wp2
    go_ret
    exact HX.out
  · by_cases hk00 : k = 0
    · subst hk00
      go_wp2_with (go_at_call 9; refine (choice_any c hc deep hd hO _ mb a' (l - 1) t hM2 ht ?c1 ?c2 ?c3 ?c4).mono ?_)
      case c1 => omega
      case c2 => omega
      case c3 => omega
      case c4 => omega
      intro e w4 hT
      have HX : Hid _ := (Rowed.expd (a := a') (.ifs ht) (by omega) (by omega) (grown_refl _ _) hT).ofd (a := a) hl2 ha0 ha1 G2
      obtain ⟨xs, a4, rfl, _⟩ := hT
      go_wp2
      go_ret
      exact HX.out
    · have hk0b : (k == 0) = false := by simpa using hk00
      by_cases hnote : k = 1 ∧ c.loud = true
      · obtain ⟨rfl, hloud⟩ := hnote
        rw [hloud] at z3
        have HR1 := row_is c hc deep hd hO w2 mb a' (l - 1) t hM2 ht (by omega) (by omega) (by omega) (by omega) 1 (by omega) hNote (by decide)
        rw [show ((1 : Nat) : Int) = 1 from rfl] at HR1
        go_wp2_with (go_at_call 10; refine HR1.mono ?_)
        intro e w4 hT
        have HX : Hid _ := (Rowed.expd (a := a') (.note hloud ht) (by omega) (by omega) (grown_refl _ _) hT).ofd (a := a) hl2 ha0 ha1 G2
        obtain ⟨xs, a4, rfl, _⟩ := hT
        go_wp2
        go_ret
        exact HX.out
      · have HK : k = 1 → c.loud = false := fun e => by
          cases hl : c.loud with
          | false => rfl
          | true => exact absurd ⟨e, hl⟩ hnote
        rcases ht with rfl | rfl | rfl
        · have fin : ∀ (e : Ending) (w4 : World), Expd w2 mb c a' (l - 1) deep 110 e w4 → Ofd w mb c a l 110 deep e w4 := fun e w4 h => h.ofd (a := a) hl2 ha0 ha1 G2
          have HC := count_any c hc deep hd hO w2 mb a' (l - 1) hM2 (by omega) (by omega) (by omega) (by omega)
          clear hnote
          by_cases hk11 : k = 1
          · have hloud := HK hk11
            rw [hloud] at z3
            subst hk11
            clear HK
            go_wp2_with (go_at_call 11; refine HC.mono ?_)
            intro e w4 hT
            have HX : Hid _ := fin _ _ hT
            obtain ⟨xs, a4, rfl, _⟩ := hT
            go_wp2
            go_ret
            exact HX.out
          · have hk1b : (k == 1) = false := by simpa using hk11
            clear HK
            go_wp2_with (go_at_call 11; refine HC.mono ?_)
            intro e w4 hT
            have HX : Hid _ := fin _ _ hT
            obtain ⟨xs, a4, rfl, _⟩ := hT
            go_wp2
            go_ret
            exact HX.out
        · clear hnote
          cases hloud : c.loud with
          | true =>
            rw [hloud] at z3
            have hk11 : ¬ k = 1 := fun e => by have := HK e; rw [hloud] at this; cases this
            have hk1b : (k == 1) = false := by simpa using hk11
            clear HK
            go_wp2_with (go_at_call 5; refine (number_any _ _ mb c a' (l - 1) ?c1 ?c2 ?c4 ?c3 hM2).mono ?_)
            case c1 => decide
            case c2 => decide
            case c3 => omega
            case c4 => omega
            rintro e w3 ⟨r3, a3, rfl, hr30, hr31, ha30, ha31, hg3, hM3⟩
            obtain ⟨n, rfl⟩ : ∃ n : Nat, r3 = n := ⟨r3.toNat, by omega⟩
            have HR1 := row_is c hc deep hd hO w3 mb a3 (l - 1) 116 hM3 (.inr (.inl rfl)) (by omega) (by omega) (by omega) (by omega) (1 + n) (by omega) hCat (by decide)
            rw [show ((1 + n : Nat) : Int) = 1 + (n : Int) by omega] at HR1
            go_wp2_with (go_at_call 10; refine HR1.mono ?_)
            intro e w4 hT
            have HX : Hid _ := (Rowed.expd (a := a') (.cat hloud (by omega) (by omega)) (by omega) (by omega) hg3 hT).ofd (a := a) hl2 ha0 ha1 G2
            obtain ⟨xs, a4, rfl, _⟩ := hT
            go_wp2
            go_ret
            exact HX.out
          | false =>
            rw [hloud] at z3
            clear HK
            have HC := choice_any c hc deep hd hO w2 mb a' (l - 1) 116 hM2 (.inr (.inl rfl)) (by omega) (by omega) (by omega) (by omega)
            by_cases hk11 : k = 1
            · subst hk11
              go_wp2_with (go_at_call 9; refine HC.mono ?_)
              intro e w4 hT
              have HX : Hid _ := (Rowed.expd (a := a') (.ifs (.inr (.inl rfl))) (by omega) (by omega) (grown_refl _ _) hT).ofd (a := a) hl2 ha0 ha1 G2
              obtain ⟨xs, a4, rfl, _⟩ := hT
              go_wp2
              go_ret
              exact HX.out
            · have hk1b : (k == 1) = false := by simpa using hk11
              go_wp2_with (go_at_call 9; refine HC.mono ?_)
              intro e w4 hT
              have HX : Hid _ := (Rowed.expd (a := a') (.ifs (.inr (.inl rfl))) (by omega) (by omega) (grown_refl _ _) hT).ofd (a := a) hl2 ha0 ha1 G2
              obtain ⟨xs, a4, rfl, _⟩ := hT
              go_wp2
              go_ret
              exact HX.out
        · have fin : ∀ (e : Ending) (w4 : World), Expd w2 mb c a' (l - 1) deep 98 e w4 → Ofd w mb c a l 98 deep e w4 := fun e w4 h => h.ofd (a := a) hl2 ha0 ha1 G2
          have HC := ask_any c hc deep hd hO w2 mb a' (l - 1) hM2 (by omega) (by omega) (by omega) (by omega)
          clear hnote
          by_cases hk11 : k = 1
          · have hloud := HK hk11
            rw [hloud] at z3
            subst hk11
            clear HK
            go_wp2_with (go_at_call 12; refine HC.mono ?_)
            intro e w4 hT
            have HX : Hid _ := fin _ _ hT
            obtain ⟨xs, a4, rfl, _⟩ := hT
            go_wp2
            go_ret
            exact HX.out
          · have hk1b : (k == 1) = false := by simpa using hk11
            clear HK
            go_wp2_with (go_at_call 12; refine HC.mono ?_)
            intro e w4 hT
            have HX : Hid _ := fin _ _ hT
            obtain ⟨xs, a4, rfl, _⟩ := hT
            go_wp2
            go_ret
            exact HX.out

theorem of_any (c : Cfg) (hc : CfgOK c) : ∀ j deep : Nat, deep + j = 4 → OfSpec c deep := by
  intro j
  induction j with
  | zero =>
    intro deep hd w mb a l t h ht ha ha2 hl hl2
    exact of_token c deep (by omega) w mb a l t h ht ha ha2 hl hl2 (.inr (by omega))
  | succ j ih =>
    intro deep hd w mb a l t h ht ha ha2 hl hl2
    by_cases h1 : l ≤ 1
    · exact of_token c deep (by omega) w mb a l t h ht ha ha2 hl hl2 (.inl h1)
    · exact of_step c hc deep (by omega) (ih (deep + 1) (by omega)) w mb a l t h ht ha ha2 hl (by omega)
end Go.Proofs.Ytilfjpmeededmaa

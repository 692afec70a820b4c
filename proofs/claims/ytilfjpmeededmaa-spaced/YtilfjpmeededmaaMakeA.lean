/- The maker's ask and count. -/
import Derived.Test.YtilfjpmeededmaaMakeC
namespace Go.Proofs.Ytilfjpmeededmaa
open Go.RowKit

/-- An expression with a head, made where its own place has been counted already. -/
def Expd (w : World) (mb : Nat) (c : Cfg) (a l : Int) (deep : Nat) (t : Int) (e : Ending) (w' : World) : Prop :=
  ∃ (x : Tr) (a' : Int), e = .returned (.string (ofBs (render x))) ∧ Made c t x ∧ dep x + deep ≤ 4 ∧ (nodes x : Int) ≤ l + 1 + 2 * (4 - deep) ∧ a ≤ a' ∧ a' + 1 ≤ a + 5 * nodes x ∧ w.grownBy w' (some mb) ∧ MakerIs w' mb c a' (l + 1 - nodes x)
theorem Rowed.expd {w w1 w' : World} {mb : Nat} {c : Cfg} {a a1 l : Int} {deep : Nat} {h : Bs} {ts : List Int} {t : Int} {e : Ending} (hs : Sig c h ts t) (ha : a ≤ a1) (ha1 : a1 ≤ a + 3) (hg : w.grownBy w1 (some mb)) (hr : Rowed w1 mb c a1 l deep h ts e w') : Expd w mb c a l deep t e w' := by
  obtain ⟨xs, a', he, hm, hd, hn, h1, h2, hg2, hM⟩ := hr
  refine ⟨nodeT h xs, a', he, .node hs hm, by rw [dep_node]; omega, by rw [nodes_node]; simp; omega, by omega, by rw [nodes_node]; simp; omega, grown_trans hg hg2, ?_⟩
  rw [nodes_node]
  have e : l + 1 - ((1 + nodesL xs : Nat) : Int) = l - nodesL xs := by omega
  rw [e]; exact hM

set_option maxHeartbeats 4000000 in
set_option maxRecDepth 100000 in
theorem ask_any (c : Cfg) (hc : CfgOK c) (deep : Nat) (hd : deep ≤ 3) (hO : OfSpec c (deep + 1)) (w : World) (mb : Nat) (a l : Int) (h : MakerIs w mb c a l) (ha : 0 ≤ a) (ha2 : a ≤ 1000 * (deep + 1) + 1) (hl : l ≤ 30) (hl2 : 1 ≤ l) :
    Calls Try.prog 12 #[.pointer (some ⟨mb, 0, none⟩), .int .i64 deep] w fun e w' => Expd w mb c a l deep 98 e w' := by
  have HR : ∀ (x : World) (a t : Int) (n : Nat) (hd' : Bs), MakerIs x mb c a l → isTy t → 0 ≤ a → a ≤ 1000 * (deep + 1) + 5 → n ≤ 3 → hd'.length ≤ 100 →
      Calls Try.prog 10 #[.pointer (some ⟨mb, 0, none⟩), .string (ofBs hd'), .int .u8 t, .int .i64 n, .int .i64 deep] x fun e w' => Rowed x mb c a l deep hd' (List.replicate n t) e w' :=
    fun x a t n hd' h1 h2 h3 h4 h5 h6 => row_is c hc deep hd hO x mb a l t h1 h2 h3 h4 hl hl2 n h5 hd' h6
  have HA : ∀ (x : World) (a : Int), MakerIs x mb c a l → 0 ≤ a → a ≤ 100000 → Calls Try.prog 16 #[.pointer (some ⟨mb, 0, none⟩)] x fun e w' => ∃ t a' : Int, e = .returned (.int .u8 t) ∧ isTy t ∧ a ≤ a' ∧ a' ≤ a + 1 ∧ x.grownBy w' (some mb) ∧ MakerIs w' mb c a' l :=
    fun x a h1 h2 h3 => any_any x mb c a l h1 h2 h3
  clear hO
  go_enter Try.func12, Try.ntmps12
  go_wp2_with (go_at_call 5; refine (number_any _ _ mb c a l ?c1 ?c2 ha ?c3 h).mono ?_)
  case c1 => decide
  case c2 => decide
  case c3 => omega
  rintro e w2 ⟨r, a', rfl, hr0, hr1, ha0, ha1, hg2, hM2⟩
  have hr7 : r = 0 ∨ r = 1 ∨ r = 2 ∨ r = 3 ∨ r = 4 ∨ r = 5 ∨ r = 6 := by omega
  clear hr0 hr1
  rcases hr7 with rfl | rfl | rfl | rfl | rfl | rfl | rfl
  · go_wp2_with (go_at_call 5; refine (number_any _ _ mb c a' l ?c1 ?c2 ?c4 ?c3 hM2).mono ?_)
    case c1 => decide
    case c2 => decide
    case c3 => omega
    case c4 => omega
    rintro e w3 ⟨r3, a3, rfl, hr30, hr31, ha30, ha31, hg3, hM3⟩
    obtain ⟨n, rfl⟩ : ∃ n : Nat, r3 = n := ⟨r3.toNat, by omega⟩
    have HR1 := HR w3 a3 98 (1 + n) hAnd hM3 (.inr (.inr rfl)) (by omega) (by omega) (by omega) (by decide)
    rw [show ((1 + n : Nat) : Int) = 1 + (n : Int) by omega] at HR1
    go_wp2_with (go_at_call 10; refine HR1.mono ?_)
    intro e w4 hrow
    have HX : Hid _ := Rowed.expd (a := a) (.and (by omega) (by omega)) (by omega) (by omega) (grown_trans hg2 hg3) hrow
    obtain ⟨xs, a4, rfl, _⟩ := hrow
    go_wp2
    go_ret
    exact HX.out
  · go_wp2_with (go_at_call 5; refine (number_any _ _ mb c a' l ?c1 ?c2 ?c4 ?c3 hM2).mono ?_)
    case c1 => decide
    case c2 => decide
    case c3 => omega
    case c4 => omega
    rintro e w3 ⟨r3, a3, rfl, hr30, hr31, ha30, ha31, hg3, hM3⟩
    obtain ⟨n, rfl⟩ : ∃ n : Nat, r3 = n := ⟨r3.toNat, by omega⟩
    have HR1 := HR w3 a3 98 (1 + n) hOr hM3 (.inr (.inr rfl)) (by omega) (by omega) (by omega) (by decide)
    rw [show ((1 + n : Nat) : Int) = 1 + (n : Int) by omega] at HR1
    go_wp2_with (go_at_call 10; refine HR1.mono ?_)
    intro e w4 hrow
    have HX : Hid _ := Rowed.expd (a := a) (.or (by omega) (by omega)) (by omega) (by omega) (grown_trans hg2 hg3) hrow
    obtain ⟨xs, a4, rfl, _⟩ := hrow
    go_wp2
    go_ret
    exact HX.out
  · have HR1 := HR w2 a' 98 1 hNot hM2 (.inr (.inr rfl)) (by omega) (by omega) (by omega) (by decide)
    rw [show ((1 : Nat) : Int) = 1 from rfl] at HR1
    go_wp2_with (go_at_call 10; refine HR1.mono ?_)
    intro e w4 hrow
    have HX : Hid _ := Rowed.expd (a := a) .not (by omega) (by omega) hg2 hrow
    obtain ⟨xs, a4, rfl, _⟩ := hrow
    go_wp2
    go_ret
    exact HX.out
  · go_wp2_with (go_at_call 16; refine (HA _ a' hM2 ?c1 ?c2).mono ?_)
    case c1 => omega
    case c2 => omega
    rintro e w3 ⟨t, a3, rfl, hty, ha30, ha31, hg3, hM3⟩
    have HR1 := HR w3 a3 t 1 hNull hM3 hty (by omega) (by omega) (by omega) (by decide)
    rw [show ((1 : Nat) : Int) = 1 from rfl] at HR1
    go_wp2_with (go_at_call 10; refine HR1.mono ?_)
    intro e w4 hrow
    have HX : Hid _ := Rowed.expd (a := a) (.null hty) (by omega) (by omega) (grown_trans hg2 hg3) hrow
    obtain ⟨xs, a4, rfl, _⟩ := hrow
    go_wp2
    go_ret
    exact HX.out
  · go_wp2_with (go_at_call 16; refine (HA _ a' hM2 ?c1 ?c2).mono ?_)
    case c1 => omega
    case c2 => omega
    rintro e w3 ⟨t, a3, rfl, hty, ha30, ha31, hg3, hM3⟩
    have HR1 := HR w3 a3 t 2 [60, 61] hM3 hty (by omega) (by omega) (by omega) (by decide)
    rw [show ((2 : Nat) : Int) = 2 from rfl] at HR1
    go_wp2_with (go_at_call 10; refine HR1.mono ?_)
    intro e w4 hrow
    have HX : Hid _ := Rowed.expd (a := a) (.cmp (by decide) hty) (by omega) (by omega) (grown_trans hg2 hg3) hrow
    obtain ⟨xs, a4, rfl, _⟩ := hrow
    go_wp2
    go_ret
    exact HX.out
  · go_wp2_with (go_at_call 16; refine (HA _ a' hM2 ?c1 ?c2).mono ?_)
    case c1 => omega
    case c2 => omega
    rintro e w3 ⟨t, a3, rfl, hty, ha30, ha31, hg3, hM3⟩
    have HR1 := HR w3 a3 t 2 [60] hM3 hty (by omega) (by omega) (by omega) (by decide)
    rw [show ((2 : Nat) : Int) = 2 from rfl] at HR1
    go_wp2_with (go_at_call 10; refine HR1.mono ?_)
    intro e w4 hrow
    have HX : Hid _ := Rowed.expd (a := a) (.cmp (by decide) hty) (by omega) (by omega) (grown_trans hg2 hg3) hrow
    obtain ⟨xs, a4, rfl, _⟩ := hrow
    go_wp2
    go_ret
    exact HX.out
  · go_wp2_with (go_at_call 16; refine (HA _ a' hM2 ?c1 ?c2).mono ?_)
    case c1 => omega
    case c2 => omega
    rintro e w3 ⟨t, a3, rfl, hty, ha30, ha31, hg3, hM3⟩
    have HR1 := HR w3 a3 t 2 [61] hM3 hty (by omega) (by omega) (by omega) (by decide)
    rw [show ((2 : Nat) : Int) = 2 from rfl] at HR1
    go_wp2_with (go_at_call 10; refine HR1.mono ?_)
    intro e w4 hrow
    have HX : Hid _ := Rowed.expd (a := a) (.cmp (by decide) hty) (by omega) (by omega) (grown_trans hg2 hg3) hrow
    obtain ⟨xs, a4, rfl, _⟩ := hrow
    go_wp2
    go_ret
    exact HX.out
end Go.Proofs.Ytilfjpmeededmaa

/- The maker's of, and what it calls: an expression is made. -/
/- The maker's choice, count, any, ask. -/
/- The maker's ask and count. -/
import Derived.Test.YtilfjpmeededmaaGreatDoorMadePZ
namespace Go.Proofs.YtilfjpmeededmaaGreatDoor
open Go.RowKit

/-- What a call that makes an expression leaves. -/
def Ofd (w : World) (mb : Nat) (c : Cfg) (a l : Int) (t : Int) (deep : Nat) (e : Ending) (w' : World) : Prop :=
  ∃ (x : Tr) (a' : Int), e = .returned (.string (ofBs (render x))) ∧ Made c t x ∧ dep x + deep ≤ 4 ∧ (l ≤ 1 → nodes x = 1) ∧ (2 ≤ l → nodes x ≤ l + 2 * (4 - deep)) ∧
    a ≤ a' ∧ a' ≤ a + 5 * nodes x ∧ w.grownBy w' (some mb) ∧ MakerIs w' mb c a' (l - nodes x)
def OfSpec (c : Cfg) (deep : Nat) : Prop := ∀ (w : World) (mb : Nat) (a l t : Int), MakerIs w mb c a l → isTy t → 0 ≤ a → a ≤ 1000 * (deep + 1) → l ≤ 30 → -(100 * (deep + 1)) ≤ l →
  Calls Tryz.prog 16 #[.pointer (some ⟨mb, 0, none⟩), .int .u8 t, .int .i64 deep] w fun e w' => Ofd w mb c a l t deep e w'

theorem add_str (a b : Bs) : ofBs a ++ ofBs b = ofBs (a ++ b) := by
  apply ByteArray.ext; rw [ByteArray.data_append]; simp [ofBs]
theorem add_lit (l : List UInt8) (b : Bs) : (ByteArray.mk l.toArray) ++ ofBs b = ofBs (l ++ b) := add_str l b

set_option maxHeartbeats 1600000 in
set_option maxRecDepth 100000 in
theorem row_any (c : Cfg) (hc : CfgOK c) (deep : Nat) (hd : deep ≤ 3) (hO : OfSpec c (deep + 1)) (w : World) (mb : Nat) (a l t : Int) (h : MakerIs w mb c a l) (ht : isTy t) (ha : 0 ≤ a) (ha2 : a ≤ 1000 * (deep + 1) + 5) (hl : l ≤ 30) (hl2 : 1 ≤ l) (n : Nat) (hn3 : n ≤ 3) (hd' : Bs) (hhl : hd'.length ≤ 100) :
    Calls Tryz.prog 41 #[.pointer (some ⟨mb, 0, none⟩), .string (ofBs hd'), .int .u8 t, .int .i64 n, .int .i64 deep] w fun e w' =>
      ∃ (xs : List Tr) (a' : Int), e = .returned (.string (ofBs (render (nodeT hd' xs)))) ∧ MadeL c (List.replicate n t) xs ∧ depL xs + deep + 1 ≤ 4 ∧ (nodesL xs : Int) ≤ l + 2 * (3 - deep) + 2 ∧ a ≤ a' ∧ a' ≤ a + 5 * nodesL xs ∧ w.grownBy w' (some mb) ∧ MakerIs w' mb c a' (l - nodesL xs) := by
  have hsz : (ofBs hd').size ≤ 100 := by rw [ofBs_size]; exact hhl
  go_enter Tryz.func41, Tryz.ntmps41
  go_wp2_with fail
  go_loopw [11, 12] (fun sv iv wr => ∃ (i : Nat) (xs : List Tr) (a1 : Int) (s : ByteArray), i ≤ n ∧ iv = .int .i64 i ∧ sv = .string s ∧ s.size ≤ 110 + 12 * nodesL xs ∧ Hid (s = ofBs (40 :: (hd' ++ renders xs))) ∧ MadeL c (List.replicate i t) xs ∧ depL xs + deep + 1 ≤ 4 ∧
      (i = 0 → nodesL xs = 0) ∧ (1 ≤ i → (nodesL xs : Int) ≤ l + 2 * (3 - deep) + (i - 1)) ∧ a ≤ a1 ∧ a1 ≤ a + 5 * nodesL xs ∧ w.grownBy wr (some mb) ∧ MakerIs wr mb c a1 (l - nodesL xs))
    (fun _ iv _ => n - (intOf iv).toNat)
  case atStart => exact ⟨0, [], a, _, Nat.zero_le _, rfl, rfl, by have h1 : (ByteArray.mk #[40]).size = 1 := rfl; simp [nodesL]; omega, by rw [Hid]; simpa [renders] using add_lit [40] hd', .nil, by simp [depL]; omega, fun _ => by simp [nodesL], fun h => by omega, Int.le_refl _, by simp [nodesL], grown_refl _ _, by simpa [nodesL] using h⟩
  case round =>
    obtain ⟨i, xs, a1, s, hi, rfl, rfl, hss, HS, hmade, hdep, hz, hb, ha3, ha4, hg, hM⟩ := hrel
    have hN : (nodesL xs : Int) ≤ 38 := by by_cases h0 : i = 0; have := hz h0; omega; have := hb (by omega); omega
    by_cases hlt : i < n
    · have HO : Calls Tryz.prog 16 #[.pointer (some ⟨mb, 0, none⟩), .int .u8 t, .int .i64 ((deep : Int) + 1)] wr fun e w' => Ofd wr mb c a1 (l - nodesL xs) t (deep + 1) e w' :=
        hO wr mb a1 (l - nodesL xs) t hM ht (by omega) (by simp; omega) (by omega) (by simp; omega)
      go_wp2_with (go_at_call 16; refine HO.mono ?_)
      rintro e w2 ⟨x, a2, rfl, hx, hxd, hx1, hx2, ha5, ha6, hg2, hM2⟩
      have hxn := nodes_pos x
      have hxl := made_len hc hx
      have hxs : (ofBs (render x)).size + 1 ≤ 12 * nodes x := by rw [ofBs_size]; omega
      have hxn2 : (nodes x : Int) ≤ 38 := by
        by_cases h1 : l - nodesL xs ≤ 1
        · have := hx1 h1; omega
        · have := hx2 (by omega); omega
      have HS2 : Hid (s ++ ⟨#[32]⟩ ++ ofBs (render x) = ofBs (40 :: (hd' ++ renders (xs ++ [x])))) := by
        have e1 : (ByteArray.mk #[32]) = ofBs [32] := rfl
        rw [Hid, HS.out, e1, add_str, add_str, renders_append]; simp [renders]
      have h32 : (ByteArray.mk #[32]).size = 1 := rfl
      have en : nodesL (xs ++ [x]) = nodesL xs + nodes x := by rw [nodesL_append]; simp [nodesL]
      have ed : depL (xs ++ [x]) + deep + 1 ≤ 4 := by rw [depL_append]; simp [depL]; omega
      have hM3 : MakerIs w2 mb c a2 (l - nodesL (xs ++ [x])) := by
        rw [en]
        have e : l - ((nodesL xs + nodes x : Nat) : Int) = l - nodesL xs - nodes x := by omega
        rw [e]; exact hM2
      have hB : ((nodesL xs + nodes x : Nat) : Int) ≤ l + 2 * (3 - deep) + i := by
        by_cases h1 : l - nodesL xs ≤ 1
        · have := hx1 h1
          by_cases h0 : i = 0
          · have := hz h0; omega
          · have := hb (by omega); omega
        · have := hx2 (by omega); simp at this; omega
      have hm2 : MadeL c (List.replicate (i + 1) t) (xs ++ [x]) := by rw [List.replicate_succ']; exact hmade.snoc hx
      clear hM hM2 HO hmade hx HS
      go_wp2_with fail
      go_roundw
      case rel => exact ⟨i + 1, xs ++ [x], a2, _, by omega, by go_num, rfl, by rw [en]; simp; omega, HS2, hm2, ed, fun h => by omega, fun _ => by rw [en]; simp; simp at hB; omega, by omega, by rw [en]; simp; omega, grown_trans hg hg2, hM3⟩
      case measure => simp [intOf]; omega
    · have hin : i = n := by omega
      have HE : Hid (s ++ ⟨#[41]⟩ = ofBs (render (nodeT hd' xs))) := by
        have e1 : (ByteArray.mk #[41]) = ofBs [41] := rfl
        rw [Hid, HS.out, e1, add_str, render_node]; simp
      have HM : Hid (MadeL c (List.replicate n t) xs) := by rw [Hid, ← hin]; exact hmade
      have hN2 : (nodesL xs : Int) ≤ l + 2 * (3 - deep) + 2 := by by_cases h0 : i = 0; have := hz h0; omega; have := hb (by omega); omega
      clear hin hmade
      go_wp2_with fail
      go_ret
      exact ⟨xs, a1, by rw [← HE.out]; rfl, HM.out, hdep, hN2, ha3, ha4, hg, hM⟩
end Go.Proofs.YtilfjpmeededmaaGreatDoor

namespace Go.Proofs.YtilfjpmeededmaaGreatDoor
open Go.RowKit

def Rowed (w : World) (mb : Nat) (c : Cfg) (a l : Int) (deep : Nat) (h : Bs) (ts : List Int) (e : Ending) (w' : World) : Prop :=
  ∃ (xs : List Tr) (a' : Int), e = .returned (.string (ofBs (render (nodeT h xs)))) ∧ MadeL c ts xs ∧ depL xs + deep + 1 ≤ 4 ∧ (nodesL xs : Int) ≤ l + 2 * (3 - deep) + 2 ∧ a ≤ a' ∧ a' ≤ a + 5 * nodesL xs ∧ w.grownBy w' (some mb) ∧ MakerIs w' mb c a' (l - nodesL xs)

theorem row_is (c : Cfg) (hc : CfgOK c) (deep : Nat) (hd : deep ≤ 3) (hO : OfSpec c (deep + 1)) (w : World) (mb : Nat) (a l t : Int) (h : MakerIs w mb c a l) (ht : isTy t) (ha : 0 ≤ a) (ha2 : a ≤ 1000 * (deep + 1) + 5) (hl : l ≤ 30) (hl2 : 1 ≤ l) (n : Nat) (hn3 : n ≤ 3) (hd' : Bs) (hhl : hd'.length ≤ 100) :
    Calls Tryz.prog 41 #[.pointer (some ⟨mb, 0, none⟩), .string (ofBs hd'), .int .u8 t, .int .i64 n, .int .i64 deep] w fun e w' => Rowed w mb c a l deep hd' (List.replicate n t) e w' :=
  row_any c hc deep hd hO w mb a l t h ht ha ha2 hl hl2 n hn3 hd' hhl

set_option maxHeartbeats 1600000 in
set_option maxRecDepth 100000 in
theorem choice_any (c : Cfg) (hc : CfgOK c) (deep : Nat) (hd : deep ≤ 3) (hO : OfSpec c (deep + 1)) (w : World) (mb : Nat) (a l t : Int) (h : MakerIs w mb c a l) (ht : isTy t) (ha : 0 ≤ a) (ha2 : a ≤ 1000 * (deep + 1) + 5) (hl : l ≤ 30) (hl2 : 1 ≤ l) :
    Calls Tryz.prog 40 #[.pointer (some ⟨mb, 0, none⟩), .int .u8 t, .int .i64 deep] w fun e w' => Rowed w mb c a l deep hIf [98, t, t] e w' := by
  have HO : ∀ (x : World) (a l t : Int), MakerIs x mb c a l → isTy t → 0 ≤ a → a ≤ 1000 * (deep + 2) → l ≤ 30 → -(100 * (deep + 2)) ≤ l →
      Calls Tryz.prog 16 #[.pointer (some ⟨mb, 0, none⟩), .int .u8 t, .int .i64 ((deep : Int) + 1)] x fun e w' => Ofd x mb c a l t (deep + 1) e w' :=
    fun x a l t h1 h2 h3 h4 h5 h6 => hO x mb a l t h1 h2 h3 (by simp; omega) h5 (by simp; omega)
  go_enter Tryz.func40, Tryz.ntmps40
  go_wp2_with (go_at_call 16; refine (HO _ a l 98 h (.inr (.inr rfl)) ha ?c1 hl ?c2).mono ?_)
  case c1 => omega
  case c2 => omega
  rintro e w2 ⟨x, a2, rfl, hx, hxd, hx1, hx2, ha5, ha6, hg2, hM2⟩
  have hxn := nodes_pos x
  have hxl := made_len hc hx
  have hxs : (ofBs (render x)).size + 1 ≤ 12 * nodes x := by rw [ofBs_size]; omega
  have hB1 : (nodes x : Int) ≤ l + 2 * (3 - deep) := by
    by_cases h1 : l ≤ 1
    · have := hx1 h1; omega
    · have := hx2 (by omega); simp at this; omega
  go_wp2_with (go_at_call 16; refine (HO _ a2 (l - nodes x) t hM2 ht ?c0 ?c1 ?c3 ?c2).mono ?_)
  case c0 => omega
  case c1 => omega
  case c2 => omega
  case c3 => omega
  rintro e w3 ⟨y, a3, rfl, hy, hyd, hy1, hy2, ha7, ha8, hg3, hM3⟩
  have hyn := nodes_pos y
  have hyl := made_len hc hy
  have hys : (ofBs (render y)).size + 1 ≤ 12 * nodes y := by rw [ofBs_size]; omega
  have hB2 : (nodes x : Int) + nodes y ≤ l + 2 * (3 - deep) + 1 := by
    by_cases h1 : l - nodes x ≤ 1
    · have := hy1 h1; omega
    · have := hy2 (by omega); simp at this; omega
  go_wp2_with (go_at_call 16; refine (HO _ a3 (l - nodes x - nodes y) t hM3 ht ?c0 ?c1 ?c3 ?c2).mono ?_)
  case c0 => omega
  case c1 => omega
  case c2 => omega
  case c3 => omega
  rintro e w4 ⟨z, a4, rfl, hz, hzd, hz1, hz2, ha9, ha10, hg4, hM4⟩
  have hzn := nodes_pos z
  have hzl := made_len hc hz
  have hzs : (ofBs (render z)).size + 1 ≤ 12 * nodes z := by rw [ofBs_size]; omega
  have hB3 : (nodes x : Int) + nodes y + nodes z ≤ l + 2 * (3 - deep) + 2 := by
    by_cases h1 : l - nodes x - nodes y ≤ 1
    · have := hz1 h1; omega
    · have := hz2 (by omega); simp at this; omega
  have e32 : (ByteArray.mk #[32]).size = 1 := rfl
  have e41 : (ByteArray.mk #[41]).size = 1 := rfl
  have eif : (ByteArray.mk #[40, 105, 102, 32]).size = 4 := rfl
  have HE : Hid (((((((ByteArray.mk #[40, 105, 102, 32]) ++ ofBs (render x)) ++ (ByteArray.mk #[32])) ++ ofBs (render y)) ++ (ByteArray.mk #[32])) ++ ofBs (render z)) ++ (ByteArray.mk #[41]) = ofBs (render (nodeT hIf [x, y, z]))) := by
    have q1 : (ByteArray.mk #[40, 105, 102, 32]) = ofBs [40, 105, 102, 32] := rfl
    have q2 : (ByteArray.mk #[32]) = ofBs [32] := rfl
    have q3 : (ByteArray.mk #[41]) = ofBs [41] := rfl
    rw [Hid, q1, q2, q3]; simp only [add_str]; rw [render_node]; simp [renders, hIf]
  have en : nodesL [x, y, z] = nodes x + nodes y + nodes z := by simp only [nodesL]; omega
  have hM5 : MakerIs w4 mb c a4 (l - nodesL [x, y, z]) := by
    rw [en]
    have e : l - ((nodes x + nodes y + nodes z : Nat) : Int) = l - nodes x - nodes y - nodes z := by omega
    rw [e]; exact hM4
  have hdp : depL [x, y, z] + deep + 1 ≤ 4 := by simp only [depL]; omega
  have hn4 : (nodesL [x, y, z] : Int) ≤ l + 2 * (3 - deep) + 2 := by rw [en]; simp; omega
  have hn5 : a4 ≤ a + 5 * (nodesL [x, y, z] : Int) := by rw [en]; simp; omega
  clear hM2 hM3 hM4 HO
  go_wp2_with fail
  go_ret
  exact ⟨[x, y, z], a4, by rw [← HE.out]; rfl, .cons hx (.cons hy (.cons hz .nil)), hdp, hn4, by omega, hn5, grown_trans hg2 (grown_trans hg3 hg4), hM5⟩

set_option maxHeartbeats 800000 in
set_option maxRecDepth 100000 in
theorem any_any (w : World) (mb : Nat) (c : Cfg) (a l : Int) (h : MakerIs w mb c a l) (ha : 0 ≤ a) (ha2 : a ≤ 100000) :
    Calls Tryz.prog 54 #[.pointer (some ⟨mb, 0, none⟩)] w fun e w' => ∃ t a' : Int, e = .returned (.int .u8 t) ∧ isTy t ∧ a ≤ a' ∧ a' ≤ a + 1 ∧ w.grownBy w' (some mb) ∧ MakerIs w' mb c a' l := by
  go_enter Tryz.func54, Tryz.ntmps54
  go_wp2_with (go_at_call 38; refine (number_any _ _ mb c a l ?c1 ?c2 ha ?c3 h).mono ?_)
  case c1 => decide
  case c2 => decide
  case c3 => omega
  rintro e w2 ⟨r, a', rfl, hr0, hr1, ha0, ha1, hg2, hM2⟩
  have hr3 : r = 0 ∨ r = 1 ∨ r = 2 := by omega
  rcases hr3 with rfl | rfl | rfl
  · go_wp2
    go_ret
    exact ⟨110, a', rfl, .inl rfl, ha0, ha1, hg2, hM2⟩
  · go_wp2
    go_ret
    exact ⟨116, a', rfl, .inr (.inl rfl), ha0, ha1, hg2, hM2⟩
  · go_wp2
    go_ret
    exact ⟨98, a', rfl, .inr (.inr rfl), ha0, ha1, hg2, hM2⟩
end Go.Proofs.YtilfjpmeededmaaGreatDoor

namespace Go.Proofs.YtilfjpmeededmaaGreatDoor
open Go.RowKit

/-- An expression with a head, made where its own place has been counted already. -/
def Expd (w : World) (mb : Nat) (c : Cfg) (a l : Int) (deep : Nat) (t : Int) (e : Ending) (w' : World) : Prop :=
  ∃ (x : Tr) (a' : Int), e = .returned (.string (ofBs (render x))) ∧ Made c t x ∧ dep x + deep ≤ 4 ∧ (nodes x : Int) ≤ l + 1 + 2 * (4 - deep) ∧ a ≤ a' ∧ a' + 1 ≤ a + 5 * nodes x ∧ w.grownBy w' (some mb) ∧ MakerIs w' mb c a' (l + 1 - nodes x)
theorem Rowed.expd {w w1 w' : World} {mb : Nat} {c : Cfg} {a a1 l : Int} {deep : Nat} {h : Bs} {ts : List Int} {t : Int} {e : Ending} (hs : Sig c h ts t) (ha : a ≤ a1) (ha1 : a1 ≤ a + 3) (hg : w.grownBy w1 (some mb)) (hr : Rowed w1 mb c a1 l deep h ts e w') : Expd w mb c a l deep t e w' := by
  obtain ⟨xs, a', he, hm, hd, hn, h1, h2, hg2, hM⟩ := hr
  refine ⟨nodeT h xs, a', he, .node hs hm, by rw [dep_node]; omega, by rw [nodes_node]; simp; omega, by omega, by rw [nodes_node]; simp; omega, grown_trans hg hg2, ?_⟩
  rw [nodes_node]
  have e : l + 1 - ((1 + nodesL xs : Nat) : Int) = l - nodesL xs := by omega
  rw [e]; exact hM

set_option maxHeartbeats 4000000 in
set_option maxRecDepth 100000 in
theorem ask_any (c : Cfg) (hc : CfgOK c) (deep : Nat) (hd : deep ≤ 3) (hO : OfSpec c (deep + 1)) (w : World) (mb : Nat) (a l : Int) (h : MakerIs w mb c a l) (ha : 0 ≤ a) (ha2 : a ≤ 1000 * (deep + 1) + 1) (hl : l ≤ 30) (hl2 : 1 ≤ l) :
    Calls Tryz.prog 43 #[.pointer (some ⟨mb, 0, none⟩), .int .i64 deep] w fun e w' => Expd w mb c a l deep 98 e w' := by
  have HR : ∀ (x : World) (a t : Int) (n : Nat) (hd' : Bs), MakerIs x mb c a l → isTy t → 0 ≤ a → a ≤ 1000 * (deep + 1) + 5 → n ≤ 3 → hd'.length ≤ 100 →
      Calls Tryz.prog 41 #[.pointer (some ⟨mb, 0, none⟩), .string (ofBs hd'), .int .u8 t, .int .i64 n, .int .i64 deep] x fun e w' => Rowed x mb c a l deep hd' (List.replicate n t) e w' :=
    fun x a t n hd' h1 h2 h3 h4 h5 h6 => row_is c hc deep hd hO x mb a l t h1 h2 h3 h4 hl hl2 n h5 hd' h6
  have HA : ∀ (x : World) (a : Int), MakerIs x mb c a l → 0 ≤ a → a ≤ 100000 → Calls Tryz.prog 54 #[.pointer (some ⟨mb, 0, none⟩)] x fun e w' => ∃ t a' : Int, e = .returned (.int .u8 t) ∧ isTy t ∧ a ≤ a' ∧ a' ≤ a + 1 ∧ x.grownBy w' (some mb) ∧ MakerIs w' mb c a' l :=
    fun x a h1 h2 h3 => any_any x mb c a l h1 h2 h3
  clear hO
  go_enter Tryz.func43, Tryz.ntmps43
  go_wp2_with (go_at_call 38; refine (number_any _ _ mb c a l ?c1 ?c2 ha ?c3 h).mono ?_)
  case c1 => decide
  case c2 => decide
  case c3 => omega
  rintro e w2 ⟨r, a', rfl, hr0, hr1, ha0, ha1, hg2, hM2⟩
  have hr7 : r = 0 ∨ r = 1 ∨ r = 2 ∨ r = 3 ∨ r = 4 ∨ r = 5 ∨ r = 6 := by omega
  clear hr0 hr1
  rcases hr7 with rfl | rfl | rfl | rfl | rfl | rfl | rfl
  · go_wp2_with (go_at_call 38; refine (number_any _ _ mb c a' l ?c1 ?c2 ?c4 ?c3 hM2).mono ?_)
    case c1 => decide
    case c2 => decide
    case c3 => omega
    case c4 => omega
    rintro e w3 ⟨r3, a3, rfl, hr30, hr31, ha30, ha31, hg3, hM3⟩
    obtain ⟨n, rfl⟩ : ∃ n : Nat, r3 = n := ⟨r3.toNat, by omega⟩
    have HR1 := HR w3 a3 98 (1 + n) hAnd hM3 (.inr (.inr rfl)) (by omega) (by omega) (by omega) (by decide)
    rw [show ((1 + n : Nat) : Int) = 1 + (n : Int) by omega] at HR1
    go_wp2_with (go_at_call 41; refine HR1.mono ?_)
    intro e w4 hrow
    have HX : Hid _ := Rowed.expd (a := a) (.and (by omega) (by omega)) (by omega) (by omega) (grown_trans hg2 hg3) hrow
    obtain ⟨xs, a4, rfl, _⟩ := hrow
    go_wp2
    go_ret
    exact HX.out
  · go_wp2_with (go_at_call 38; refine (number_any _ _ mb c a' l ?c1 ?c2 ?c4 ?c3 hM2).mono ?_)
    case c1 => decide
    case c2 => decide
    case c3 => omega
    case c4 => omega
    rintro e w3 ⟨r3, a3, rfl, hr30, hr31, ha30, ha31, hg3, hM3⟩
    obtain ⟨n, rfl⟩ : ∃ n : Nat, r3 = n := ⟨r3.toNat, by omega⟩
    have HR1 := HR w3 a3 98 (1 + n) hOr hM3 (.inr (.inr rfl)) (by omega) (by omega) (by omega) (by decide)
    rw [show ((1 + n : Nat) : Int) = 1 + (n : Int) by omega] at HR1
    go_wp2_with (go_at_call 41; refine HR1.mono ?_)
    intro e w4 hrow
    have HX : Hid _ := Rowed.expd (a := a) (.or (by omega) (by omega)) (by omega) (by omega) (grown_trans hg2 hg3) hrow
    obtain ⟨xs, a4, rfl, _⟩ := hrow
    go_wp2
    go_ret
    exact HX.out
  · have HR1 := HR w2 a' 98 1 hNot hM2 (.inr (.inr rfl)) (by omega) (by omega) (by omega) (by decide)
    rw [show ((1 : Nat) : Int) = 1 from rfl] at HR1
    go_wp2_with (go_at_call 41; refine HR1.mono ?_)
    intro e w4 hrow
    have HX : Hid _ := Rowed.expd (a := a) .not (by omega) (by omega) hg2 hrow
    obtain ⟨xs, a4, rfl, _⟩ := hrow
    go_wp2
    go_ret
    exact HX.out
  · go_wp2_with (go_at_call 54; refine (HA _ a' hM2 ?c1 ?c2).mono ?_)
    case c1 => omega
    case c2 => omega
    rintro e w3 ⟨t, a3, rfl, hty, ha30, ha31, hg3, hM3⟩
    have HR1 := HR w3 a3 t 1 hNull hM3 hty (by omega) (by omega) (by omega) (by decide)
    rw [show ((1 : Nat) : Int) = 1 from rfl] at HR1
    go_wp2_with (go_at_call 41; refine HR1.mono ?_)
    intro e w4 hrow
    have HX : Hid _ := Rowed.expd (a := a) (.null hty) (by omega) (by omega) (grown_trans hg2 hg3) hrow
    obtain ⟨xs, a4, rfl, _⟩ := hrow
    go_wp2
    go_ret
    exact HX.out
  · go_wp2_with (go_at_call 54; refine (HA _ a' hM2 ?c1 ?c2).mono ?_)
    case c1 => omega
    case c2 => omega
    rintro e w3 ⟨t, a3, rfl, hty, ha30, ha31, hg3, hM3⟩
    have HR1 := HR w3 a3 t 2 [60, 61] hM3 hty (by omega) (by omega) (by omega) (by decide)
    rw [show ((2 : Nat) : Int) = 2 from rfl] at HR1
    go_wp2_with (go_at_call 41; refine HR1.mono ?_)
    intro e w4 hrow
    have HX : Hid _ := Rowed.expd (a := a) (.cmp (by decide) hty) (by omega) (by omega) (grown_trans hg2 hg3) hrow
    obtain ⟨xs, a4, rfl, _⟩ := hrow
    go_wp2
    go_ret
    exact HX.out
  · go_wp2_with (go_at_call 54; refine (HA _ a' hM2 ?c1 ?c2).mono ?_)
    case c1 => omega
    case c2 => omega
    rintro e w3 ⟨t, a3, rfl, hty, ha30, ha31, hg3, hM3⟩
    have HR1 := HR w3 a3 t 2 [60] hM3 hty (by omega) (by omega) (by omega) (by decide)
    rw [show ((2 : Nat) : Int) = 2 from rfl] at HR1
    go_wp2_with (go_at_call 41; refine HR1.mono ?_)
    intro e w4 hrow
    have HX : Hid _ := Rowed.expd (a := a) (.cmp (by decide) hty) (by omega) (by omega) (grown_trans hg2 hg3) hrow
    obtain ⟨xs, a4, rfl, _⟩ := hrow
    go_wp2
    go_ret
    exact HX.out
  · go_wp2_with (go_at_call 54; refine (HA _ a' hM2 ?c1 ?c2).mono ?_)
    case c1 => omega
    case c2 => omega
    rintro e w3 ⟨t, a3, rfl, hty, ha30, ha31, hg3, hM3⟩
    have HR1 := HR w3 a3 t 2 [61] hM3 hty (by omega) (by omega) (by omega) (by decide)
    rw [show ((2 : Nat) : Int) = 2 from rfl] at HR1
    go_wp2_with (go_at_call 41; refine HR1.mono ?_)
    intro e w4 hrow
    have HX : Hid _ := Rowed.expd (a := a) (.cmp (by decide) hty) (by omega) (by omega) (grown_trans hg2 hg3) hrow
    obtain ⟨xs, a4, rfl, _⟩ := hrow
    go_wp2
    go_ret
    exact HX.out
end Go.Proofs.YtilfjpmeededmaaGreatDoor

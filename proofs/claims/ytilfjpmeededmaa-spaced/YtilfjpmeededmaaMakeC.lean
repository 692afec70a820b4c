/- The maker's choice, count, any, ask. -/
import Derived.Test.YtilfjpmeededmaaMakeO
namespace Go.Proofs.Ytilfjpmeededmaa
open Go.RowKit

def Rowed (w : World) (mb : Nat) (c : Cfg) (a l : Int) (deep : Nat) (h : Bs) (ts : List Int) (e : Ending) (w' : World) : Prop :=
  ∃ (xs : List Tr) (a' : Int), e = .returned (.string (ofBs (render (nodeT h xs)))) ∧ MadeL c ts xs ∧ depL xs + deep + 1 ≤ 4 ∧ (nodesL xs : Int) ≤ l + 2 * (3 - deep) + 2 ∧ a ≤ a' ∧ a' ≤ a + 5 * nodesL xs ∧ w.grownBy w' (some mb) ∧ MakerIs w' mb c a' (l - nodesL xs)

theorem row_is (c : Cfg) (hc : CfgOK c) (deep : Nat) (hd : deep ≤ 3) (hO : OfSpec c (deep + 1)) (w : World) (mb : Nat) (a l t : Int) (h : MakerIs w mb c a l) (ht : isTy t) (ha : 0 ≤ a) (ha2 : a ≤ 1000 * (deep + 1) + 5) (hl : l ≤ 30) (hl2 : 1 ≤ l) (n : Nat) (hn3 : n ≤ 3) (hd' : Bs) (hhl : hd'.length ≤ 100) :
    Calls Try.prog 10 #[.pointer (some ⟨mb, 0, none⟩), .string (ofBs hd'), .int .u8 t, .int .i64 n, .int .i64 deep] w fun e w' => Rowed w mb c a l deep hd' (List.replicate n t) e w' :=
  row_any c hc deep hd hO w mb a l t h ht ha ha2 hl hl2 n hn3 hd' hhl

set_option maxHeartbeats 1600000 in
set_option maxRecDepth 100000 in
theorem choice_any (c : Cfg) (hc : CfgOK c) (deep : Nat) (hd : deep ≤ 3) (hO : OfSpec c (deep + 1)) (w : World) (mb : Nat) (a l t : Int) (h : MakerIs w mb c a l) (ht : isTy t) (ha : 0 ≤ a) (ha2 : a ≤ 1000 * (deep + 1) + 5) (hl : l ≤ 30) (hl2 : 1 ≤ l) :
    Calls Try.prog 9 #[.pointer (some ⟨mb, 0, none⟩), .int .u8 t, .int .i64 deep] w fun e w' => Rowed w mb c a l deep hIf [98, t, t] e w' := by
  have HO : ∀ (x : World) (a l t : Int), MakerIs x mb c a l → isTy t → 0 ≤ a → a ≤ 1000 * (deep + 2) → l ≤ 30 → -(100 * (deep + 2)) ≤ l →
      Calls Try.prog 4 #[.pointer (some ⟨mb, 0, none⟩), .int .u8 t, .int .i64 ((deep : Int) + 1)] x fun e w' => Ofd x mb c a l t (deep + 1) e w' :=
    fun x a l t h1 h2 h3 h4 h5 h6 => hO x mb a l t h1 h2 h3 (by simp; omega) h5 (by simp; omega)
  go_enter Try.func9, Try.ntmps9
  go_wp2_with (go_at_call 4; refine (HO _ a l 98 h (.inr (.inr rfl)) ha ?c1 hl ?c2).mono ?_)
  case c1 => omega
  case c2 => omega
  rintro e w2 ⟨x, a2, rfl, hx, hxd, hx1, hx2, ha5, ha6, hg2, hM2⟩
  have hxn := nodes_pos x
  have hxl := made_len hc hx
  have hxs : (ofBs (render x)).size + 1 ≤ 12 * nodes x := by rw [ofBs_size]; omega
  have hB1 : (nodes x : Int) ≤ l + 2 * (3 - deep) := by
    by_cases h1 : l ≤ 1
    · have := hx1 h1; omega
    · have := hx2 (by omega); simp at this; omega
  go_wp2_with (go_at_call 4; refine (HO _ a2 (l - nodes x) t hM2 ht ?c0 ?c1 ?c3 ?c2).mono ?_)
  case c0 => omega
  case c1 => omega
  case c2 => omega
  case c3 => omega
  rintro e w3 ⟨y, a3, rfl, hy, hyd, hy1, hy2, ha7, ha8, hg3, hM3⟩
  have hyn := nodes_pos y
  have hyl := made_len hc hy
  have hys : (ofBs (render y)).size + 1 ≤ 12 * nodes y := by rw [ofBs_size]; omega
  have hB2 : (nodes x : Int) + nodes y ≤ l + 2 * (3 - deep) + 1 := by
    by_cases h1 : l - nodes x ≤ 1
    · have := hy1 h1; omega
    · have := hy2 (by omega); simp at this; omega
  go_wp2_with (go_at_call 4; refine (HO _ a3 (l - nodes x - nodes y) t hM3 ht ?c0 ?c1 ?c3 ?c2).mono ?_)
  case c0 => omega
  case c1 => omega
  case c2 => omega
  case c3 => omega
  rintro e w4 ⟨z, a4, rfl, hz, hzd, hz1, hz2, ha9, ha10, hg4, hM4⟩
  have hzn := nodes_pos z
  have hzl := made_len hc hz
  have hzs : (ofBs (render z)).size + 1 ≤ 12 * nodes z := by rw [ofBs_size]; omega
  have hB3 : (nodes x : Int) + nodes y + nodes z ≤ l + 2 * (3 - deep) + 2 := by
    by_cases h1 : l - nodes x - nodes y ≤ 1
    · have := hz1 h1; omega
    · have := hz2 (by omega); simp at this; omega
  have e32 : (ByteArray.mk #[32]).size = 1 := rfl
  have e41 : (ByteArray.mk #[41]).size = 1 := rfl
  have eif : (ByteArray.mk #[40, 105, 102, 32]).size = 4 := rfl
  have HE : Hid (((((((ByteArray.mk #[40, 105, 102, 32]) ++ ofBs (render x)) ++ (ByteArray.mk #[32])) ++ ofBs (render y)) ++ (ByteArray.mk #[32])) ++ ofBs (render z)) ++ (ByteArray.mk #[41]) = ofBs (render (nodeT hIf [x, y, z]))) := by
    have q1 : (ByteArray.mk #[40, 105, 102, 32]) = ofBs [40, 105, 102, 32] := rfl
    have q2 : (ByteArray.mk #[32]) = ofBs [32] := rfl
    have q3 : (ByteArray.mk #[41]) = ofBs [41] := rfl
    rw [Hid, q1, q2, q3]; simp only [add_str]; rw [render_node]; simp [renders, hIf]
  have en : nodesL [x, y, z] = nodes x + nodes y + nodes z := by simp only [nodesL]; omega
  have hM5 : MakerIs w4 mb c a4 (l - nodesL [x, y, z]) := by
    rw [en]
    have e : l - ((nodes x + nodes y + nodes z : Nat) : Int) = l - nodes x - nodes y - nodes z := by omega
    rw [e]; exact hM4
  have hdp : depL [x, y, z] + deep + 1 ≤ 4 := by simp only [depL]; omega
  have hn4 : (nodesL [x, y, z] : Int) ≤ l + 2 * (3 - deep) + 2 := by rw [en]; simp; omega
  have hn5 : a4 ≤ a + 5 * (nodesL [x, y, z] : Int) := by rw [en]; simp; omega
  clear hM2 hM3 hM4 HO
  go_wp2_with fail
  go_ret
  exact ⟨[x, y, z], a4, by rw [← HE.out]; rfl, .cons hx (.cons hy (.cons hz .nil)), hdp, hn4, by omega, hn5, grown_trans hg2 (grown_trans hg3 hg4), hM5⟩

set_option maxHeartbeats 800000 in
set_option maxRecDepth 100000 in
theorem any_any (w : World) (mb : Nat) (c : Cfg) (a l : Int) (h : MakerIs w mb c a l) (ha : 0 ≤ a) (ha2 : a ≤ 100000) :
    Calls Try.prog 16 #[.pointer (some ⟨mb, 0, none⟩)] w fun e w' => ∃ t a' : Int, e = .returned (.int .u8 t) ∧ isTy t ∧ a ≤ a' ∧ a' ≤ a + 1 ∧ w.grownBy w' (some mb) ∧ MakerIs w' mb c a' l := by
  go_enter Try.func16, Try.ntmps16
  go_wp2_with (go_at_call 5; refine (number_any _ _ mb c a l ?c1 ?c2 ha ?c3 h).mono ?_)
  case c1 => decide
  case c2 => decide
  case c3 => omega
  rintro e w2 ⟨r, a', rfl, hr0, hr1, ha0, ha1, hg2, hM2⟩
  have hr3 : r = 0 ∨ r = 1 ∨ r = 2 := by omega
  rcases hr3 with rfl | rfl | rfl
  · go_wp2
    go_ret
    exact ⟨110, a', rfl, .inl rfl, ha0, ha1, hg2, hM2⟩
  · go_wp2
    go_ret
    exact ⟨116, a', rfl, .inr (.inl rfl), ha0, ha1, hg2, hM2⟩
  · go_wp2
    go_ret
    exact ⟨98, a', rfl, .inr (.inr rfl), ha0, ha1, hg2, hM2⟩
end Go.Proofs.Ytilfjpmeededmaa

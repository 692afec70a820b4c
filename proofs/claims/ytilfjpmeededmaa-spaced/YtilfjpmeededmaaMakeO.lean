/- The maker's of, and what it calls: an expression is made. -/
import Derived.Test.YtilfjpmeededmaaMadeP
namespace Go.Proofs.Ytilfjpmeededmaa
open Go.RowKit

/-- What a call that makes an expression leaves. -/
def Ofd (w : World) (mb : Nat) (c : Cfg) (a l : Int) (t : Int) (deep : Nat) (e : Ending) (w' : World) : Prop :=
  ∃ (x : Tr) (a' : Int), e = .returned (.string (ofBs (render x))) ∧ Made c t x ∧ dep x + deep ≤ 4 ∧ (l ≤ 1 → nodes x = 1) ∧ (2 ≤ l → nodes x ≤ l + 2 * (4 - deep)) ∧
    a ≤ a' ∧ a' ≤ a + 5 * nodes x ∧ w.grownBy w' (some mb) ∧ MakerIs w' mb c a' (l - nodes x)
def OfSpec (c : Cfg) (deep : Nat) : Prop := ∀ (w : World) (mb : Nat) (a l t : Int), MakerIs w mb c a l → isTy t → 0 ≤ a → a ≤ 1000 * (deep + 1) → l ≤ 30 → -(100 * (deep + 1)) ≤ l →
  Calls Try.prog 4 #[.pointer (some ⟨mb, 0, none⟩), .int .u8 t, .int .i64 deep] w fun e w' => Ofd w mb c a l t deep e w'

theorem add_str (a b : Bs) : ofBs a ++ ofBs b = ofBs (a ++ b) := by
  apply ByteArray.ext; rw [ByteArray.data_append]; simp [ofBs]
theorem add_lit (l : List UInt8) (b : Bs) : (ByteArray.mk l.toArray) ++ ofBs b = ofBs (l ++ b) := add_str l b

set_option maxHeartbeats 1600000 in
set_option maxRecDepth 100000 in
theorem row_any (c : Cfg) (hc : CfgOK c) (deep : Nat) (hd : deep ≤ 3) (hO : OfSpec c (deep + 1)) (w : World) (mb : Nat) (a l t : Int) (h : MakerIs w mb c a l) (ht : isTy t) (ha : 0 ≤ a) (ha2 : a ≤ 1000 * (deep + 1) + 5) (hl : l ≤ 30) (hl2 : 1 ≤ l) (n : Nat) (hn3 : n ≤ 3) (hd' : Bs) (hhl : hd'.length ≤ 100) :
    Calls Try.prog 10 #[.pointer (some ⟨mb, 0, none⟩), .string (ofBs hd'), .int .u8 t, .int .i64 n, .int .i64 deep] w fun e w' =>
      ∃ (xs : List Tr) (a' : Int), e = .returned (.string (ofBs (render (nodeT hd' xs)))) ∧ MadeL c (List.replicate n t) xs ∧ depL xs + deep + 1 ≤ 4 ∧ (nodesL xs : Int) ≤ l + 2 * (3 - deep) + 2 ∧ a ≤ a' ∧ a' ≤ a + 5 * nodesL xs ∧ w.grownBy w' (some mb) ∧ MakerIs w' mb c a' (l - nodesL xs) := by
  have hsz : (ofBs hd').size ≤ 100 := by rw [ofBs_size]; exact hhl
  go_enter Try.func10, Try.ntmps10
  go_wp2_with fail
  go_loopw [11, 12] (fun sv iv wr => ∃ (i : Nat) (xs : List Tr) (a1 : Int) (s : ByteArray), i ≤ n ∧ iv = .int .i64 i ∧ sv = .string s ∧ s.size ≤ 110 + 12 * nodesL xs ∧ Hid (s = ofBs (40 :: (hd' ++ renders xs))) ∧ MadeL c (List.replicate i t) xs ∧ depL xs + deep + 1 ≤ 4 ∧
      (i = 0 → nodesL xs = 0) ∧ (1 ≤ i → (nodesL xs : Int) ≤ l + 2 * (3 - deep) + (i - 1)) ∧ a ≤ a1 ∧ a1 ≤ a + 5 * nodesL xs ∧ w.grownBy wr (some mb) ∧ MakerIs wr mb c a1 (l - nodesL xs))
    (fun _ iv _ => n - (intOf iv).toNat)
  case atStart => exact ⟨0, [], a, _, Nat.zero_le _, rfl, rfl, by have h1 : (ByteArray.mk #[40]).size = 1 := rfl; simp [nodesL]; omega, by rw [Hid]; simpa [renders] using add_lit [40] hd', .nil, by simp [depL]; omega, fun _ => by simp [nodesL], fun h => by omega, Int.le_refl _, by simp [nodesL], grown_refl _ _, by simpa [nodesL] using h⟩
  case round =>
    obtain ⟨i, xs, a1, s, hi, rfl, rfl, hss, HS, hmade, hdep, hz, hb, ha3, ha4, hg, hM⟩ := hrel
    have hN : (nodesL xs : Int) ≤ 38 := by by_cases h0 : i = 0; have := hz h0; omega; have := hb (by omega); omega
    by_cases hlt : i < n
    · have HO : Calls Try.prog 4 #[.pointer (some ⟨mb, 0, none⟩), .int .u8 t, .int .i64 ((deep : Int) + 1)] wr fun e w' => Ofd wr mb c a1 (l - nodesL xs) t (deep + 1) e w' :=
        hO wr mb a1 (l - nodesL xs) t hM ht (by omega) (by simp; omega) (by omega) (by simp; omega)
      go_wp2_with (go_at_call 4; refine HO.mono ?_)
      rintro e w2 ⟨x, a2, rfl, hx, hxd, hx1, hx2, ha5, ha6, hg2, hM2⟩
      have hxn := nodes_pos x
      have hxl := made_len hc hx
      have hxs : (ofBs (render x)).size + 1 ≤ 12 * nodes x := by rw [ofBs_size]; omega
      have hxn2 : (nodes x : Int) ≤ 38 := by
        by_cases h1 : l - nodesL xs ≤ 1
        · have := hx1 h1; omega
        · have := hx2 (by omega); omega
      have HS2 : Hid (s ++ ⟨#[32]⟩ ++ ofBs (render x) = ofBs (40 :: (hd' ++ renders (xs ++ [x])))) := by
        have e1 : (ByteArray.mk #[32]) = ofBs [32] := rfl
        rw [Hid, HS.out, e1, add_str, add_str, renders_append]; simp [renders]
      have h32 : (ByteArray.mk #[32]).size = 1 := rfl
      have en : nodesL (xs ++ [x]) = nodesL xs + nodes x := by rw [nodesL_append]; simp [nodesL]
      have ed : depL (xs ++ [x]) + deep + 1 ≤ 4 := by rw [depL_append]; simp [depL]; omega
      have hM3 : MakerIs w2 mb c a2 (l - nodesL (xs ++ [x])) := by
        rw [en]
        have e : l - ((nodesL xs + nodes x : Nat) : Int) = l - nodesL xs - nodes x := by omega
        rw [e]; exact hM2
      have hB : ((nodesL xs + nodes x : Nat) : Int) ≤ l + 2 * (3 - deep) + i := by
        by_cases h1 : l - nodesL xs ≤ 1
        · have := hx1 h1
          by_cases h0 : i = 0
          · have := hz h0; omega
          · have := hb (by omega); omega
        · have := hx2 (by omega); simp at this; omega
      have hm2 : MadeL c (List.replicate (i + 1) t) (xs ++ [x]) := by rw [List.replicate_succ']; exact hmade.snoc hx
      clear hM hM2 HO hmade hx HS
      go_wp2_with fail
      go_roundw
      case rel => exact ⟨i + 1, xs ++ [x], a2, _, by omega, by go_num, rfl, by rw [en]; simp; omega, HS2, hm2, ed, fun h => by omega, fun _ => by rw [en]; simp; simp at hB; omega, by omega, by rw [en]; simp; omega, grown_trans hg hg2, hM3⟩
      case measure => simp [intOf]; omega
    · have hin : i = n := by omega
      have HE : Hid (s ++ ⟨#[41]⟩ = ofBs (render (nodeT hd' xs))) := by
        have e1 : (ByteArray.mk #[41]) = ofBs [41] := rfl
        rw [Hid, HS.out, e1, add_str, render_node]; simp
      have HM : Hid (MadeL c (List.replicate n t) xs) := by rw [Hid, ← hin]; exact hmade
      have hN2 : (nodesL xs : Int) ≤ l + 2 * (3 - deep) + 2 := by by_cases h0 : i = 0; have := hz h0; omega; have := hb (by omega); omega
      clear hin hmade
      go_wp2_with fail
      go_ret
      exact ⟨xs, a1, by rw [← HE.out]; rfl, HM.out, hdep, hN2, ha3, ha4, hg, hM⟩
end Go.Proofs.Ytilfjpmeededmaa

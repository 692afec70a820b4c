import Derived.Test.YtilfjpmeededmaaGreatDoorTokZ
import Derived.Below
import Derived.BigQuiet
set_option linter.unusedVariables false
set_option linter.unusedSimpArgs false
namespace Go.Proofs.YtilfjpmeededmaaGreatDoor
open Go.RowKit
theorem blk_at {x : World} {b j : Nat} {cs : Array Value} {T : TypeId} {fz : Nat × Nat} (h : x.heap[b]? = some (.cells cs T fz)) : x.cell? ⟨b, j, none⟩ = cs[j]? := by simp [World.cell?, h]
def gvS (b : Bool) (n : Int) : Int := if b then n else 0
def truN (b : Bool) : Int := if b then 1 else 0
def firstS : List Int → Int
  | [] => 0
  | e :: es => if e = 0 then firstS es else e
set_option maxHeartbeats 400000 in
set_option maxRecDepth 100000 in
theorem when_any (b : Bool) (n : Int) (w : World) : Calls Tryz.prog 79 #[.bool b, .int .i64 n] w fun e w' => e = .returned (.int .i64 (gvS b n)) ∧ w' = w := by
  cases b <;>
  · go_enter Tryz.func79, Tryz.ntmps79
    go_wp2_with fail
    go_ret
    exact ⟨rfl, rfl⟩
set_option maxHeartbeats 400000 in
set_option maxRecDepth 100000 in
theorem first_any (w : World) (b cap : Nat) (es : List Int) (hn : es.length ≤ 100) (hc : ∀ j u, es[j]? = some u → w.cell? ⟨b, j, none⟩ = some (.int .i64 u)) :
    Calls Tryz.prog 46 #[.slice (some ⟨b, 0, none⟩) es.length cap] w fun e w' => e = .returned (.int .i64 (firstS es)) ∧ w' = w := by
  go_enter Tryz.func46, Tryz.ntmps46
  go_wp2_with fail
  go_loopw [7] (fun iv wx => ∃ i : Nat, i ≤ es.length ∧ iv = .int .i64 i ∧ wx = w ∧ Hid (firstS es = firstS (es.drop i))) (fun iv _ => es.length - (intOf iv).toNat)
  case atStart => exact ⟨0, Nat.zero_le _, rfl, rfl, rfl⟩
  case round =>
    obtain ⟨i, hi, rfl, rfl, HE⟩ := hrel
    by_cases hlt : i < es.length
    · have q := hc i es[i] (List.getElem?_eq_getElem hlt)
      have hd : es.drop i = es[i] :: es.drop (i + 1) := List.drop_eq_getElem_cons hlt
      by_cases h0 : es[i] = 0
      · have HN : Hid (firstS es = firstS (es.drop (i + 1))) := by rw [Hid, HE.out, hd, firstS, if_pos h0]
        rw [h0] at q
        clear HE hc hd
        go_wp2_with fail
        go_roundw
        case rel => exact ⟨i + 1, by omega, by go_num, by trivial, HN⟩
        case measure => simp [intOf]; omega
      · have HN : Hid (firstS es = es[i]) := by rw [Hid, HE.out, hd, firstS, if_neg h0]
        have hne : (es[i] == 0) = false := by simpa using h0
        obtain ⟨u, hu⟩ : ∃ u, u = es[i] := ⟨_, rfl⟩
        rw [← hu] at q HN hne h0
        clear HE hc hd hu
        go_wp2_with fail
        go_ret
        exact ⟨by rw [HN.out]; rfl, rfl⟩
    · have HN : Hid (firstS es = 0) := by rw [Hid, HE.out, List.drop_of_length_le (by omega)]; rfl
      clear HE hc
      go_wp2_with fail
      go_ret
      exact ⟨by rw [HN.out]; rfl, rfl⟩
def typeB (c : Int) : Int := if c = 110 then 1 else if c = 116 then 2 else if c = 98 then 3 else 0
set_option maxHeartbeats 400000 in
set_option maxRecDepth 100000 in
theorem typeOfB_any (c : Int) (w : World) : Calls Tryz.prog 208 #[.int .u8 c] w fun e w' => e = .returned (.int .i64 (typeB c)) ∧ w' = w := by
  go_enter Tryz.func208, Tryz.ntmps208
  go_wp2
  all_goals go_ret
  all_goals (refine ⟨?_, rfl⟩; simp_all [typeB])
set_option maxHeartbeats 400000 in
set_option maxRecDepth 100000 in
theorem cellNumber_any (n : Int) (w : World) : Calls Tryz.prog 302 #[.int .i64 n] w fun e w' => e = .returned (.agg #[.int .i64 1, .int .i64 n, .string ⟨#[]⟩]) ∧ Below w.heap.size w w' := by
  go_enter Tryz.func302, Tryz.ntmps302
  go_wp2_with fail
  exact bodyPost_ret (v := .agg #[.int .i64 1, .int .i64 n, .string ⟨#[]⟩]) (by simp [results, Tryz.results302, go_sem]) rfl ⟨rfl, (Below.refl _ _).alloc (Nat.le_refl _) _⟩
set_option maxHeartbeats 400000 in
set_option maxRecDepth 100000 in
theorem cellText_any (s : ByteArray) (w : World) : Calls Tryz.prog 145 #[.string s] w fun e w' => e = .returned (.agg #[.int .i64 2, .int .i64 0, .string s]) ∧ Below w.heap.size w w' := by
  go_enter Tryz.func145, Tryz.ntmps145
  go_wp2_with fail
  exact bodyPost_ret (v := .agg #[.int .i64 2, .int .i64 0, .string s]) (by simp [results, Tryz.results145, go_sem]) rfl ⟨rfl, (Below.refl _ _).alloc (Nat.le_refl _) _⟩
set_option maxHeartbeats 400000 in
set_option maxRecDepth 100000 in
theorem cellTruth_any (b : Bool) (w : World) : Calls Tryz.prog 105 #[.bool b] w fun e w' => e = .returned (.agg #[.int .i64 3, .int .i64 (truN b), .string ⟨#[]⟩]) ∧ Below w.heap.size w w' := by
  cases b
  · go_enter Tryz.func105, Tryz.ntmps105
    go_wp2_with fail
    exact bodyPost_ret (v := .agg #[.int .i64 3, .int .i64 0, .string ⟨#[]⟩]) (by simp [results, Tryz.results105, go_sem]) rfl ⟨rfl, (Below.refl _ _).alloc (Nat.le_refl _) _⟩
  · go_enter Tryz.func105, Tryz.ntmps105
    go_wp2_with fail
    exact bodyPost_ret (v := .agg #[.int .i64 3, .int .i64 1, .string ⟨#[]⟩]) (by simp [results, Tryz.results105, go_sem]) rfl ⟨rfl, (Below.refl _ _).alloc (Nat.le_refl _) _⟩
set_option maxHeartbeats 400000 in
set_option maxRecDepth 100000 in
theorem isNothing_any (k n : Int) (s : ByteArray) (w : World) : Calls Tryz.prog 144 #[.agg #[.int .i64 k, .int .i64 n, .string s]] w fun e w' => e = .returned (.bool (k == 0)) ∧ Below w.heap.size w w' := by
  go_enter Tryz.func144, Tryz.ntmps144
  go_wp2_with fail
  go_ret
  exact ⟨rfl, (Below.refl _ _).alloc (Nat.le_refl _) _⟩
set_option maxHeartbeats 400000 in
set_option maxRecDepth 100000 in
theorem given_any (b : Bool) (n : Int) (w : World) : Calls Tryz.prog 391 #[.bool b, .int .i64 n] w fun e w' => e = .returned (.int .i64 (gvS b n)) ∧ w' = w := by
  cases b <;>
  · go_enter Tryz.func391, Tryz.ntmps391
    go_wp2_with fail
    go_ret
    exact ⟨rfl, rfl⟩
set_option maxHeartbeats 400000 in
set_option maxRecDepth 100000 in
theorem constant_any (k n : Int) (s : ByteArray) (w : World) : Calls Tryz.prog 354 #[.agg #[.int .i64 k, .int .i64 n, .string s]] w fun e w' =>
    e = .returned (.agg #[.int .i64 0, .int .i64 k, .int .i64 1, .bool true, .int .i64 k, .int .i64 n, .string s, .int .i64 0, .string ⟨#[]⟩, .pointer none, .slice none 0 0]) ∧ Below w.heap.size w w' := by
  go_enter Tryz.func354, Tryz.ntmps354
  go_wp2_with fail
  exact bodyPost_ret (v := .agg #[.int .i64 0, .int .i64 k, .int .i64 1, .bool true, .int .i64 k, .int .i64 n, .string s, .int .i64 0, .string ⟨#[]⟩, .pointer none, .slice none 0 0]) (by simp [results, Tryz.results354, go_sem]) rfl ⟨rfl, ((Below.refl _ w).alloc (Nat.le_refl _) _).alloc (by simp [World.size_alloc]) _⟩
def builtIns : List Bs := [[43], [45], [42], [47], [61], [60], [60, 61], [97, 110, 100], [111, 114], [110, 111, 116], [105, 115, 110, 117, 108, 108], [105, 102], [108, 101, 110], [99, 97, 116], [110, 111, 116, 101]]
def builtS (l : Bs) : Bool := builtIns.any (l == ·)
def loudS (l : Bs) : Bool := [[43], [45], [42], [47], [99, 97, 116], [110, 111, 116, 101]].any (l == ·)
set_option maxHeartbeats 1600000 in
set_option maxRecDepth 100000 in
theorem isBuiltIn_any (s : ByteArray) (w : World) : Calls Tryz.prog 207 #[.string s] w fun e w' => e = .returned (.bool (builtS s.toList)) ∧ w' = w := by
  go_enter Tryz.func207, Tryz.ntmps207
  go_wp2
  all_goals go_ret
  all_goals (refine ⟨ret_bool ?_, rfl⟩; simp_all [builtS, builtIns])
set_option maxHeartbeats 1600000 in
set_option maxRecDepth 100000 in
theorem isQuiet_any (s : ByteArray) (w : World) : Calls Tryz.prog 379 #[.string s] w fun e w' => e = .returned (.bool (!loudS s.toList)) ∧ w' = w := by
  go_enter Tryz.func379, Tryz.ntmps379
  go_wp2
  all_goals go_ret
  all_goals (refine ⟨ret_bool ?_, rfl⟩; simp_all [loudS])
end Go.Proofs.YtilfjpmeededmaaGreatDoor

namespace Go.Proofs.YtilfjpmeededmaaGreatDoor
open Go.RowKit
def IntsIn (w : World) (v : Value) (zs : List Int) : Prop := ∃ ao cap, v = .slice ao zs.length cap ∧ zs.length ≤ 1000 ∧ (zs = [] ∨ ∃ b off, ao = some ⟨b, off, none⟩ ∧ b < w.heap.size ∧ ∀ j u, zs[j]? = some u → w.cell? ⟨b, off + j, none⟩ = some (.int .i64 u))
theorem IntsIn.keep {w x : World} {v : Value} {zs : List Int} (h : IntsIn w v zs) (hb : Below w.heap.size w x) : IntsIn x v zs := by
  obtain ⟨ao, cap, h1, h2, h3⟩ := h
  refine ⟨ao, cap, h1, h2, ?_⟩
  rcases h3 with h | ⟨b, off, e, hl, hc⟩
  · exact .inl h
  · exact .inr ⟨b, off, e, by have := hb.size; omega, fun j u hj => (hb.cell (p := ⟨b, off + j, none⟩) hl).trans (hc j u hj)⟩
theorem dec_cons_eq (a : Int) (l1 l2 : List Int) : decide (a :: l1 = a :: l2) = decide (l1 = l2) := by simp
theorem dec_cons_ne {a b : Int} (h : a ≠ b) (l1 l2 : List Int) : decide (a :: l1 = b :: l2) = false := by simp [h]
set_option maxHeartbeats 800000 in
set_option maxRecDepth 100000 in
theorem sliIndex_any (w : World) (v : Value) (zs : List Int) (x : Int) (h : IntsIn w v zs) :
    Calls Tryz.prog 160 #[v, .int .i64 x] w fun e w' => (∃ k : Int, e = .returned (.int .i64 k) ∧ (decide (0 ≤ k) = zs.any (· == x))) ∧ w' = w := by
  obtain ⟨ao, cap, rfl, hl, hz⟩ := h
  go_enter Tryz.func160, Tryz.ntmps160
  go_wp2_with fail
  go_loopw [8] (fun iv wx => ∃ i : Nat, i ≤ zs.length ∧ iv = .int .i64 i ∧ wx = w ∧ Hid (zs.any (· == x) = (zs.drop i).any (· == x))) (fun iv _ => zs.length - (intOf iv).toNat)
  case atStart => exact ⟨0, Nat.zero_le _, rfl, rfl, rfl⟩
  case round =>
    obtain ⟨i, hi, rfl, rfl, HE⟩ := hrel
    by_cases hlt : i < zs.length
    · obtain ⟨b, off, rfl, hb, hc⟩ : ∃ b off, ao = some ⟨b, off, none⟩ ∧ b < wr.heap.size ∧ ∀ j u, zs[j]? = some u → wr.cell? ⟨b, off + j, none⟩ = some (.int .i64 u) := by
        rcases hz with h | h
        · subst h; simp at hlt
        · exact h
      have q := hc i zs[i] (List.getElem?_eq_getElem hlt)
      have hd : zs.drop i = zs[i] :: zs.drop (i + 1) := List.drop_eq_getElem_cons hlt
      by_cases h0 : zs[i] = x
      · have HN : Hid (zs.any (· == x) = true) := by rw [Hid, HE.out, hd, List.any_cons, h0]; simp
        rw [h0] at q
        clear HE hc hd hz h0
        go_wp2_with fail
        go_ret
        exact ⟨⟨_, rfl, by rw [HN.out]; simp⟩, rfl⟩
      · have HN : Hid (zs.any (· == x) = (zs.drop (i + 1)).any (· == x)) := by rw [Hid, HE.out, hd, List.any_cons]; simp [h0]
        have hne : (x == zs[i]) = false := by simp; exact fun e => h0 e.symm
        obtain ⟨u, hu⟩ : ∃ u, u = zs[i] := ⟨_, rfl⟩
        rw [← hu] at q hne
        clear HE hc hd hu hz h0
        go_wp2_with fail
        go_roundw
        case rel => exact ⟨i + 1, by omega, by go_num, by trivial, HN⟩
        case measure => simp [intOf]; omega
    · have HN : Hid (zs.any (· == x) = false) := by rw [Hid, HE.out, List.drop_of_length_le (by omega)]; rfl
      clear HE hz
      go_wp2_with fail
      go_ret
      exact ⟨⟨_, rfl, by rw [HN.out]; rfl⟩, rfl⟩
set_option maxHeartbeats 800000 in
set_option maxRecDepth 100000 in
theorem sliContains_any (w : World) (v : Value) (zs : List Int) (x : Int) (h : IntsIn w v zs) :
    Calls Tryz.prog 95 #[v, .int .i64 x] w fun e w' => e = .returned (.bool (zs.any (· == x))) ∧ w' = w := by
  go_enter Tryz.func95, Tryz.ntmps95
  go_wp2_with (go_at_call 160; refine (sliIndex_any _ v zs x h).mono ?_; rintro e w2 ⟨⟨k, rfl, hk⟩, rfl⟩)
  go_ret
  exact ⟨rfl, rfl⟩
set_option maxHeartbeats 1600000 in
set_option maxRecDepth 100000 in
theorem sliEqual_any (w : World) (v1 v2 : Value) (z1 z2 : List Int) (h1 : IntsIn w v1 z1) (h2 : IntsIn w v2 z2) :
    Calls Tryz.prog 380 #[v1, v2] w fun e w' => e = .returned (.bool (decide (z1 = z2))) ∧ Below w.heap.size w w' := by
  obtain ⟨a1, c1, rfl, l1, r1⟩ := h1
  obtain ⟨a2, c2, rfl, l2, r2⟩ := h2
  by_cases hlen : z1.length = z2.length
  · have hnb : ((z1.length : Int) == (z2.length : Int)) = true := by rw [hlen]; simp
    go_enter Tryz.func380, Tryz.ntmps380
    go_wp2_with fail
    go_loopw [13] (fun iv wx => ∃ i : Nat, i ≤ z1.length ∧ iv = .int .i64 i ∧ Below w.heap.size w wx ∧ Hid (decide (z1 = z2) = decide (z1.drop i = z2.drop i))) (fun iv _ => z1.length - (intOf iv).toNat)
    case atStart => exact ⟨0, Nat.zero_le _, rfl, Below.refl _ _, rfl⟩
    case round =>
      obtain ⟨i, hi, rfl, hB, HE⟩ := hrel
      by_cases hlt : i < z1.length
      · obtain ⟨b1, o1, rfl, hb1, hc1⟩ : ∃ b off, a1 = some ⟨b, off, none⟩ ∧ b < w.heap.size ∧ ∀ j u, z1[j]? = some u → w.cell? ⟨b, off + j, none⟩ = some (.int .i64 u) := by
          rcases r1 with h | h
          · subst h; simp at hlt
          · exact h
        obtain ⟨b2, o2, rfl, hb2, hc2⟩ : ∃ b off, a2 = some ⟨b, off, none⟩ ∧ b < w.heap.size ∧ ∀ j u, z2[j]? = some u → w.cell? ⟨b, off + j, none⟩ = some (.int .i64 u) := by
          rcases r2 with h | h
          · subst h; simp only [List.length_nil] at hlen; omega
          · exact h
        have hlt2 : i < z2.length := by omega
        have q1 := (hB.cell (p := ⟨b1, o1 + i, none⟩) hb1).trans (hc1 i z1[i] (List.getElem?_eq_getElem hlt))
        have q2 := (hB.cell (p := ⟨b2, o2 + i, none⟩) hb2).trans (hc2 i z2[i] (List.getElem?_eq_getElem hlt2))
        have d1 : z1.drop i = z1[i] :: z1.drop (i + 1) := List.drop_eq_getElem_cons hlt
        have d2 : z2.drop i = z2[i] :: z2.drop (i + 1) := List.drop_eq_getElem_cons hlt2
        by_cases h0 : z1[i] = z2[i]
        · have HN : Hid (decide (z1 = z2) = decide (z1.drop (i + 1) = z2.drop (i + 1))) := by rw [Hid, HE.out, d1, d2, h0]; exact dec_cons_eq _ _ _
          rw [h0] at q1
          obtain ⟨u, hu⟩ : ∃ u, u = z2[i] := ⟨_, rfl⟩
          rw [← hu] at q1 q2
          clear HE hc1 hc2 d1 d2 hu r1 r2 h0
          go_wp2_with fail
          go_region
          go_wp2_with fail
          go_roundw
          case rel => exact ⟨i + 1, by omega, by go_num, hB.drew, HN⟩
          case measure => simp [intOf]; omega
        · have HN : Hid (decide (z1 = z2) = false) := by rw [Hid, HE.out, d1, d2]; exact dec_cons_ne h0 _ _
          have hne : (z1[i] == z2[i]) = false := by simpa using h0
          obtain ⟨u, hu⟩ : ∃ u, u = z1[i] := ⟨_, rfl⟩
          obtain ⟨u2, hu2⟩ : ∃ u, u = z2[i] := ⟨_, rfl⟩
          rw [← hu] at q1 hne
          rw [← hu2] at q2 hne
          clear HE hc1 hc2 d1 d2 hu hu2 r1 r2 h0
          go_wp2_with fail
          go_region
          go_wp2_with fail
          go_ret
          exact ⟨ret_bool HN.out.symm, hB.drew⟩
      · have HN : Hid (decide (z1 = z2) = true) := by rw [Hid, HE.out, List.drop_of_length_le (by omega), List.drop_of_length_le (by omega)]; rfl
        clear HE r1 r2
        go_wp2_with fail
        go_ret
        exact ⟨ret_bool HN.out.symm, hB⟩
  · have hnb : ((z1.length : Int) == (z2.length : Int)) = false := by simp; omega
    have HN : Hid (decide (z1 = z2) = false) := by rw [Hid, decide_eq_false_iff_not]; intro e; exact hlen (by rw [e])
    clear r1 r2
    go_enter Tryz.func380, Tryz.ntmps380
    go_wp2_with fail
    go_ret
    exact ⟨ret_bool HN.out.symm, Below.refl _ _⟩
set_option maxHeartbeats 400000 in
set_option maxRecDepth 100000 in
theorem someOf1_any (w : World) (kb : Nat) (x k : Int) (hk : w.cell? ⟨kb, 0, none⟩ = some (.int .i64 k)) :
    Calls Tryz.prog 402 #[.int .i64 x, .pointer (some ⟨kb, 0, none⟩)] w fun e w' => e = .returned (.bool (!(x == k))) ∧ w' = w := by
  go_enter Tryz.func402, Tryz.ntmps402
  go_wp2_with fail
  go_ret
  exact ⟨rfl, rfl⟩
set_option maxHeartbeats 1600000 in
set_option maxRecDepth 100000 in
theorem intsIndexFunc_any (w : World) (v : Value) (zs : List Int) (kb : Nat) (k : Int) (h : IntsIn w v zs) (hk : w.cell? ⟨kb, 0, none⟩ = some (.int .i64 k)) :
    Calls Tryz.prog 413 #[v, .func (Fn.func 402) #[] #[.pointer (some ⟨kb, 0, none⟩)]] w fun e w' => (∃ i : Int, e = .returned (.int .i64 i) ∧ (decide (0 ≤ i) = !zs.all (· == k))) ∧ w' = w := by
  obtain ⟨ao, cap, rfl, hl, hz⟩ := h
  go_enter Tryz.func413, Tryz.ntmps413
  go_wp2_with fail
  go_loopw [8] (fun iv wx => ∃ i : Nat, i ≤ zs.length ∧ iv = .int .i64 i ∧ wx = w ∧ Hid (zs.all (· == k) = (zs.drop i).all (· == k))) (fun iv _ => zs.length - (intOf iv).toNat)
  case atStart => exact ⟨0, Nat.zero_le _, rfl, rfl, rfl⟩
  case round =>
    obtain ⟨i, hi, rfl, rfl, HE⟩ := hrel
    by_cases hlt : i < zs.length
    · obtain ⟨b, off, rfl, hb, hc⟩ : ∃ b off, ao = some ⟨b, off, none⟩ ∧ b < wr.heap.size ∧ ∀ j u, zs[j]? = some u → wr.cell? ⟨b, off + j, none⟩ = some (.int .i64 u) := by
        rcases hz with h | h
        · subst h; simp at hlt
        · exact h
      have q := hc i zs[i] (List.getElem?_eq_getElem hlt)
      have hd : zs.drop i = zs[i] :: zs.drop (i + 1) := List.drop_eq_getElem_cons hlt
      have HA : Hid ((zs.drop i).all (· == k) = ((zs[i] == k) && (zs.drop (i + 1)).all (· == k))) := by rw [Hid, hd, List.all_cons]
      obtain ⟨u, hu⟩ : ∃ u, u = zs[i] := ⟨_, rfl⟩
      rw [← hu] at q HA
      clear hc hd hu hz
      cases h0 : (u == k) with
      | true =>
        have HN : Hid (zs.all (· == k) = (zs.drop (i + 1)).all (· == k)) := by rw [Hid, HE.out, HA.out, h0]; rfl
        clear HE HA
        go_wp2_with (go_at_call 402; refine (someOf1_any _ kb u k hk).mono ?_; rintro e w2 ⟨rfl, rfl⟩)
        go_roundw
        case rel => exact ⟨i + 1, by omega, by go_num, by trivial, HN⟩
        case measure => simp [intOf]; omega
      | false =>
        have HN : Hid (zs.all (· == k) = false) := by rw [Hid, HE.out, HA.out, h0]; rfl
        clear HE HA
        go_wp2_with (go_at_call 402; refine (someOf1_any _ kb u k hk).mono ?_; rintro e w2 ⟨rfl, rfl⟩)
        go_ret
        exact ⟨⟨_, rfl, by rw [HN.out]; simp⟩, rfl⟩
    · have HN : Hid (zs.all (· == k) = true) := by rw [Hid, HE.out, List.drop_of_length_le (by omega)]; rfl
      clear HE hz
      go_wp2_with fail
      go_ret
      exact ⟨⟨_, rfl, by rw [HN.out]; rfl⟩, rfl⟩
set_option maxHeartbeats 400000 in
set_option maxRecDepth 100000 in
theorem intsContainsFunc_any (w : World) (v : Value) (zs : List Int) (kb : Nat) (k : Int) (h : IntsIn w v zs) (hk : w.cell? ⟨kb, 0, none⟩ = some (.int .i64 k)) :
    Calls Tryz.prog 403 #[v, .func (Fn.func 402) #[] #[.pointer (some ⟨kb, 0, none⟩)]] w fun e w' => e = .returned (.bool (!zs.all (· == k))) ∧ w' = w := by
  go_enter Tryz.func403, Tryz.ntmps403
  go_wp2_with (go_at_call 413; refine (intsIndexFunc_any _ v zs kb k h hk).mono ?_; rintro e w2 ⟨⟨i, rfl, hi⟩, rfl⟩)
  go_ret
  exact ⟨rfl, rfl⟩
set_option maxHeartbeats 1600000 in
set_option maxRecDepth 100000 in
theorem someOf_any (w : World) (v : Value) (zs : List Int) (k : Int) (h : IntsIn w v zs) :
    Calls Tryz.prog 392 #[v, .int .i64 k] w fun e w' => e = .returned (.bool (decide (0 < zs.length) && zs.all (· == k))) ∧ Below w.heap.size w w' := by
  have hb : Below w.heap.size w (w.alloc (.cells #[.int .i64 k] 3)) := (Below.refl _ _).alloc (Nat.le_refl _) _
  have hk : (w.alloc (.cells #[.int .i64 k] 3)).cell? ⟨w.heap.size, 0, none⟩ = some (.int .i64 k) := (blk_at (heap_alloc_new w _)).trans rfl
  have HC := intsContainsFunc_any _ v zs w.heap.size k (h.keep hb) hk
  obtain ⟨ao, cap, rfl, hl, hz⟩ := h
  clear hk hz
  by_cases h0 : 0 < zs.length
  · obtain ⟨a, ha⟩ : ∃ a, a = zs.all (· == k) := ⟨_, rfl⟩
    have HN : Hid ((decide (0 < zs.length) && zs.all (· == k)) = a) := by rw [Hid, decide_eq_true h0, Bool.true_and, ha]
    rw [← ha] at HC
    clear ha
    go_enter Tryz.func392, Tryz.ntmps392
    go_wp2_with (go_at_call 403; refine HC.mono ?_; rintro e w2 ⟨rfl, rfl⟩)
    go_ret
    exact ⟨by rw [HN.out]; rfl, hb⟩
  · have HN : Hid ((decide (0 < zs.length) && zs.all (· == k)) = false) := by rw [Hid, decide_eq_false h0]; rfl
    clear HC
    go_enter Tryz.func392, Tryz.ntmps392
    go_wp2_with fail
    go_ret
    exact ⟨ret_bool HN.out.symm, hb⟩
end Go.Proofs.YtilfjpmeededmaaGreatDoor

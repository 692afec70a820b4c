/- What print of package curtainref answers: the expression in its one right way. -/
import Derived.Test.YtilfjpmeededmaaGreatDoorRefT
import Derived.Deep.RegionWith
import Derived.Deep.CutRange
namespace Go.Proofs.YtilfjpmeededmaaGreatDoor
open Go.RowKit

theorem Rep.inv {w : World} {S : Nat → Prop} {cs : List Value} {i : Nat} {t : Tr} (h : Rep w S cs i t) : ∃ k tx br ops v is, t = .mk k tx br ops ∧ cs[4 * i]? = some (.string (ofBs tx)) ∧ cs[4 * i + 1]? = some (.bool br) ∧ cs[4 * i + 2]? = some v ∧ cs[4 * i + 3]? = some (.int .u8 0) ∧
    w.ownsRow 0 3 1 v ops.length (is.map fun j : Nat => Value.int .i64 (j : Int)) ∧ (∀ g, v.ownBlock = some g → S g) ∧ RepL w S cs is ops := by
  cases h with
  | mk a b c c3 d e f => exact ⟨_, _, _, _, _, _, rfl, a, b, c, c3, d, e, f⟩
theorem RepL.get {w : World} {S : Nat → Prop} {cs : List Value} : ∀ {is : List Nat} {ts : List Tr}, RepL w S cs is ts → ∀ (i : Nat) (hi : i < ts.length), ∃ j, is[i]? = some j ∧ Rep w S cs j ts[i]
  | _, _, .nil, i, hi => absurd hi (Nat.not_lt_zero _)
  | _, _, .cons a b, 0, _ => ⟨_, rfl, a⟩
  | _, _, .cons a b, i + 1, hi => by
    obtain ⟨j, h1, h2⟩ := b.get i (by simpa using hi)
    exact ⟨j, by simpa using h1, by simpa using h2⟩
theorem Rep.lt {w : World} {S : Nat → Prop} {cs : List Value} {i m : Nat} {t : Tr} (h : Rep w S cs i t) (hm : cs.length = m * 4) : i < m := by
  obtain ⟨_, _, _, _, _, _, _, h0, _⟩ := h.inv
  have := (List.getElem?_eq_some_iff.mp h0).1
  omega
theorem Rep.keep {w x : World} {S : Nat → Prop} {cs : List Value} {i : Nat} {t : Tr} (h : Rep w S cs i t) {B : Nat} (hb : Below B w x) (hS : ∀ g, S g → g < B) : Rep x S cs i t := by
  have := h.move (x := x) (S' := S) [] (fun g hg => hb.block g (hS g hg)) (fun _ h => h)
  rwa [List.append_nil] at this

theorem add_strR (a b : Bs) : ofBs a ++ ofBs b = ofBs (a ++ b) := by
  apply ByteArray.ext; rw [ByteArray.data_append]; simp [ofBs]
theorem add_litR (l : List UInt8) (b : Bs) : (ByteArray.mk l.toArray) ++ ofBs b = ofBs (l ++ b) := add_strR l b
/-- What print does, of trees of size up to N. -/
def PrintSpec (N : Nat) : Prop := ∀ (t : Tr) (w : World) (B g cap m i : Nat) (cs : List Value), SizeOf.sizeOf t ≤ N → Rep w (fun q => q < B) cs i t → cs.length = m * 4 → m ≤ 100000 → m ≤ cap → B ≤ w.heap.size → g < B →
  (∀ j u, cs[j]? = some u → w.cell? ⟨g, j, none⟩ = some u) → (render t).length ≤ 1000000 →
  Calls Tryz.prog 109 #[.agg #[.slice (some ⟨g, 0, none⟩) m cap], .int .i64 i] w fun e w' => e = .returned (.string (ofBs (render t))) ∧ Below w.heap.size w w'

set_option maxHeartbeats 4000000 in
set_option maxRecDepth 100000 in
theorem print_leaf (w : World) (g cap m i : Nat) (tx : Bs) (ao : Option Addr) (n2 cap2 : Nat) (hi : i < m) (_hm : m ≤ 100000) (_hmc : m ≤ cap) (hg : g < w.heap.size)
    (q0 : w.cell? ⟨g, i * 4, none⟩ = some (.string (ofBs tx))) (q1 : w.cell? ⟨g, i * 4 + 1, none⟩ = some (.bool false)) (q2 : w.cell? ⟨g, i * 4 + 2, none⟩ = some (.slice ao n2 cap2)) (q3 : w.cell? ⟨g, i * 4 + 3, none⟩ = some (.int .u8 0)) :
    Calls Tryz.prog 109 #[.agg #[.slice (some ⟨g, 0, none⟩) m cap], .int .i64 i] w fun e w' => e = .returned (.string (ofBs tx)) ∧ Below w.heap.size w w' := by
  go_enter Tryz.func109, Tryz.ntmps109
  go_wp2_with fail
  go_ret
  exact ⟨rfl, ((Below.refl _ w).alloc (Nat.le_refl _) _).alloc (by simp [World.size_alloc]) _⟩

set_option maxHeartbeats 4000000 in
set_option maxRecDepth 100000 in
theorem print_br0 (w : World) (g cap m i : Nat) (tx : Bs) (hi : i < m) (_hm : m ≤ 100000) (_hmc : m ≤ cap) (hg : g < w.heap.size) (htl : tx.length ≤ 1000000)
    (q0 : w.cell? ⟨g, i * 4, none⟩ = some (.string (ofBs tx))) (q1 : w.cell? ⟨g, i * 4 + 1, none⟩ = some (.bool true)) (q2 : w.cell? ⟨g, i * 4 + 2, none⟩ = some (.slice none 0 0)) (q3 : w.cell? ⟨g, i * 4 + 3, none⟩ = some (.int .u8 0)) :
    Calls Tryz.prog 109 #[.agg #[.slice (some ⟨g, 0, none⟩) m cap], .int .i64 i] w fun e w' => e = .returned (.string (ofBs (40 :: (tx ++ [41])))) ∧ Below w.heap.size w w' := by
  have hsz : (ofBs tx).size ≤ 1000000 := by rw [ofBs_size]; exact htl
  have h40 : (ByteArray.mk #[40]).size = 1 := rfl
  have HE : Hid ((ByteArray.mk #[40]) ++ ofBs tx ++ (ByteArray.mk #[41]) = ofBs (40 :: (tx ++ [41]))) := by
    rw [Hid]; apply ByteArray.ext; simp [ofBs, ByteArray.data_append]
  go_enter Tryz.func109, Tryz.ntmps109
  go_wp2_with fail
  go_loopw [6, 7] (fun sv iv wx => sv = .string ((ByteArray.mk #[40]) ++ ofBs tx) ∧ iv = .int .i64 0 ∧ wx = (w.alloc (.cells #[.slice (some ⟨g, 0, none⟩) m cap] 242)).alloc (.cells #[.string (ofBs tx), .bool true, .slice none 0 0, .int .u8 0] 359)) (fun _ _ _ => 0)
  case atStart => exact ⟨rfl, rfl, rfl⟩
  case round =>
    obtain ⟨rfl, rfl, rfl⟩ := hrel
    go_wp2_with fail
    go_ret
    exact ⟨by rw [← HE.out]; rfl, ((Below.refl _ w).alloc (Nat.le_refl _) _).alloc (by simp [World.size_alloc]) _⟩

set_option maxHeartbeats 8000000 in
set_option maxRecDepth 100000 in
theorem print_br (N : Nat) (hN : PrintSpec N) (w : World) (B g cap m i : Nat) (cs : List Value) (tx : Bs) (ops : List Tr) (is : List Nat) (g0 cap0 : Nat) (hsz : ∀ t ∈ ops, SizeOf.sizeOf t ≤ N) (hL : RepL w (fun q => q < B) cs is ops)
    (hlen : cs.length = m * 4) (hi : i < m) (hm : m ≤ 100000) (hmc : m ≤ cap) (hB : B ≤ w.heap.size) (hg : g < B) (hg0 : g0 < B) (hcell : ∀ j u, cs[j]? = some u → w.cell? ⟨g, j, none⟩ = some u)
    (_hcap : ops.length ≤ cap0) (hn4 : ops.length ≤ 1000000) (hargs : ∀ (j u : Nat), is[j]? = some u → w.cell? ⟨g0, j, none⟩ = some (.int .i64 (u : Int))) (hl : (40 :: (tx ++ renders ops ++ [41])).length ≤ 1000000)
    (q0 : w.cell? ⟨g, i * 4, none⟩ = some (.string (ofBs tx))) (q1 : w.cell? ⟨g, i * 4 + 1, none⟩ = some (.bool true)) (q2 : w.cell? ⟨g, i * 4 + 2, none⟩ = some (.slice (some ⟨g0, 0, none⟩) ops.length cap0)) (q3 : w.cell? ⟨g, i * 4 + 3, none⟩ = some (.int .u8 0)) :
    Calls Tryz.prog 109 #[.agg #[.slice (some ⟨g, 0, none⟩) m cap], .int .i64 i] w fun e w' => e = .returned (.string (ofBs (40 :: (tx ++ renders ops ++ [41])))) ∧ Below w.heap.size w w' := by
  simp only [List.length_cons, List.length_append, List.length_nil] at hl
  have hsz0 : (ofBs tx).size = tx.length := ofBs_size tx
  have h40 : (ByteArray.mk #[40]).size = 1 := rfl
  have h32 : (ByteArray.mk #[32]).size = 1 := rfl
  obtain ⟨W0, hW0⟩ : ∃ W0, W0 = (w.alloc (.cells #[.slice (some ⟨g, 0, none⟩) m cap] 242)).alloc (.cells #[.string (ofBs tx), .bool true, .slice (some ⟨g0, 0, none⟩) ops.length cap0, .int .u8 0] 359) := ⟨_, rfl⟩
  have hP0 : W0.heap[w.heap.size]? = some (.cells #[.slice (some ⟨g, 0, none⟩) m cap] 242 (0, 0)) := by
    rw [hW0, Below.heap_alloc _ _ _ (by simp [World.size_alloc])]; exact heap_alloc_new _ _
  have hX0 : W0.heap[w.heap.size + 1]? = some (.cells #[.string (ofBs tx), .bool true, .slice (some ⟨g0, 0, none⟩) ops.length cap0, .int .u8 0] 359 (0, 0)) := by
    rw [hW0]
    have := heap_alloc_new (w.alloc (.cells #[.slice (some ⟨g, 0, none⟩) m cap] 242)) (.cells #[.string (ofBs tx), .bool true, .slice (some ⟨g0, 0, none⟩) ops.length cap0, .int .u8 0] 359)
    rw [World.size_alloc] at this; exact this
  have hs0 : W0.heap.size = w.heap.size + 2 := by rw [hW0]; simp [World.size_alloc]
  have hB0 : Below w.heap.size w W0 := by rw [hW0]; exact ((Below.refl _ w).alloc (Nat.le_refl _) _).alloc (by simp [World.size_alloc]) _
  have hgw : g < w.heap.size := by omega
  have hg0w : g0 < w.heap.size := by omega
  have HST : Hid ((ByteArray.mk #[40]) ++ ofBs tx = ofBs (40 :: (tx ++ renders (ops.take 0)))) := by
    rw [Hid]; simpa [renders] using add_litR [40] tx
  go_enter Tryz.func109, Tryz.ntmps109
  go_wp2_with fail
  go_loopw [6, 7] (fun sv iv wr => ∃ (i' : Nat) (s : ByteArray), i' ≤ ops.length ∧ iv = .int .i64 i' ∧ sv = .string s ∧ s.size = 1 + tx.length + (renders (ops.take i')).length ∧ Hid (s = ofBs (40 :: (tx ++ renders (ops.take i')))) ∧ Below (w.heap.size + 2) W0 wr)
    (fun _ iv _ => ops.length - (intOf iv).toNat)
  case atStart => exact ⟨0, _, Nat.zero_le _, rfl, rfl, by simp [renders, hsz0, h40], HST, by rw [hW0]; exact Below.refl _ _⟩
  case round =>
    clear HST hW0 q0 q1 q2 q3
    obtain ⟨i', s, hi', rfl, rfl, hss, HS, hBr⟩ := hrel
    obtain ⟨x0, _⟩ := cells1 ((hBr.block _ (by omega)).trans hP0)
    obtain ⟨⟨y0, y1, y2, y3⟩, _⟩ := cells4 ((hBr.block _ (by omega)).trans hX0)
    have hbr := hBr.size
    by_cases hlt : i' < ops.length
    · obtain ⟨j, hj, hrep⟩ := hL.get i' hlt
      have hjm := hrep.lt hlen
      have bW : ∀ {p : Addr}, p.block < B → wr.cell? p = w.cell? p := fun {p} hp => (hBr.cell (by omega)).trans (hB0.cell (by omega))
      have a0 : wr.cell? ⟨g0, i', none⟩ = some (.int .i64 (j : Int)) := (bW (p := ⟨g0, i', none⟩) hg0).trans (hargs _ _ hj)
      have hrl : (renders (ops.take i')).length + (1 + (render ops[i']).length) ≤ (renders ops).length := by
        have e : ops = ops.take i' ++ (ops[i'] :: ops.drop (i' + 1)) := by rw [← List.drop_eq_getElem_cons hlt, List.take_append_drop]
        have e2 := congrArg (fun l => (renders l).length) e
        simp only [renders_append, renders, List.length_append, List.length_cons] at e2
        omega
      have htk : ops.take (i' + 1) = ops.take i' ++ [ops[i']] := by rw [List.take_succ_eq_append_getElem hlt]
      have HC : ∀ x : World, Below (w.heap.size + 2) W0 x → Calls Tryz.prog 109 #[.agg #[.slice (some ⟨g, 0, none⟩) m cap], .int .i64 j] x fun e w' => e = .returned (.string (ofBs (render ops[i']))) ∧ Below x.heap.size x w' := by
        intro x hx
        have hxs := hx.size
        have hbx : Below B w x := (hB0.mono (by omega)).trans (hx.mono (by omega))
        exact hN ops[i'] x B g cap m j cs (hsz _ (List.getElem_mem hlt)) (hrep.keep hbx (fun _ h => h)) hlen hm hmc (by omega) hg (fun q u hq => (hbx.cell (p := ⟨g, q, none⟩) hg).trans (hcell q u hq)) (by omega)
      have hrs : (ofBs (render ops[i'])).size = (render ops[i']).length := ofBs_size _
      have HS2 : Hid (s ++ ⟨#[32]⟩ ++ ofBs (render ops[i']) = ofBs (40 :: (tx ++ renders (ops.take (i' + 1))))) := by
        have e1 : (ByteArray.mk #[32]) = ofBs [32] := rfl
        rw [Hid, HS.out, e1, add_strR, add_strR, htk, renders_append]; simp [renders]
      have hl2 : (renders (ops.take (i' + 1))).length = (renders (ops.take i')).length + (1 + (render ops[i']).length) := by rw [htk, renders_append]; simp [renders]; omega
      obtain ⟨op, hop⟩ : ∃ op, op = render ops[i'] := ⟨_, rfl⟩
      rw [← hop] at HC hrs HS2 hl2 hrl
      clear hop htk hrep hL hcell hargs hsz HS bW
      go_upto_region 8 with fail
      go_cut [8] (fun s8 wx => s8 = .string (ofBs op) ∧ Below (w.heap.size + 2) W0 wx)
      case first =>
        go_region_with (go_at_call 109; refine (HC _ ?_).mono ?_; (first | exact hBr | exact hBr.drew); rintro e w3 ⟨rfl, hb3⟩)
        all_goals (go_wp2_with fail; go_meet)
        all_goals exact ⟨rfl, hBr.trans ((Below.drew (Below.refl _ wr)).trans (hb3.mono (by simp; omega)))⟩
      case rest =>
        obtain ⟨rfl, hBx⟩ := hcut
        clear HC hBr hbr x0 y0 y1 y2 y3 a0
        have hbx := hBx.size
        go_wp2_with fail
        go_roundw
        case rel => exact ⟨i' + 1, _, by omega, by go_num, rfl, by simp; omega, HS2, hBx⟩
        case measure => simp [intOf]; omega
    · have hie : ops.take i' = ops := List.take_of_length_le (by omega)
      rw [hie] at HS hss
      have HE : Hid (s ++ ⟨#[41]⟩ = ofBs (40 :: (tx ++ renders ops ++ [41]))) := by
        have e1 : (ByteArray.mk #[41]) = ofBs [41] := rfl
        rw [Hid, HS.out, e1, add_strR]; simp
      clear hie
      go_wp2_with fail
      go_ret
      exact ⟨by rw [← HE.out]; rfl, hB0.trans (hBr.mono (by omega))⟩
end Go.Proofs.YtilfjpmeededmaaGreatDoor

/- What the tree's write does: the expression in its one right way, at the builder's end. -/
import Derived.Test.YtilfjpmeededmaaGreatDoorBld
namespace Go.Proofs.YtilfjpmeededmaaGreatDoor
open Go.RowKit

mutual
def render : Tr → Bs
  | .mk _ tx br ops => if br then 40 :: (tx ++ renders ops ++ [41]) else tx
def renders : List Tr → Bs
  | [] => []
  | t :: ts => 32 :: (render t ++ renders ts)
end
theorem renders_append (a b : List Tr) : renders (a ++ b) = renders a ++ renders b := by
  induction a with
  | nil => rfl
  | cons t ts ih => simp [renders, ih]
theorem IsTrs.get {w : World} {S : Nat → Prop} {cs : List Value} {ts : List Tr} (h : IsTrs w S cs ts) (i : Nat) (hi : i < ts.length) : ∃ c, IsTr w S c ts[i] ∧ ∀ j, j < 4 → cs[i * 4 + j]? = c[j]? := by
  induction ts generalizing cs i with
  | nil => simp at hi
  | cons t ts ih =>
    cases h with
    | @cons c cs _ _ a b =>
      cases i with
      | zero => exact ⟨c, a, fun j hj => by rw [List.getElem?_append_left (by rw [a.four]; omega)]; simp⟩
      | succ i =>
        obtain ⟨d, hd, hj⟩ := ih b i (by simpa using hi)
        refine ⟨d, hd, fun j hj4 => ?_⟩
        rw [← hj j hj4, List.getElem?_append_right (by rw [a.four]; omega), a.four]
        congr 1; omega
theorem IsTr.inv {w : World} {S : Nat → Prop} {c : List Value} {t : Tr} (h : IsTr w S c t) : ∃ k tx br ops ao n cap cs, t = .mk k tx br ops ∧ c = [.int .i64 k, .string (ofBs tx), .bool br, .slice ao n cap] ∧ n = ops.length ∧ IsTrs w S cs ops ∧
    w.ownsRow 0 236 4 (.slice ao n cap) ops.length cs ∧ ∀ g, (Value.slice ao n cap).ownBlock = some g → S g := by
  cases h with
  | @mk k tx br ops v cs a b d =>
    rcases b.2 with ⟨rfl, h0⟩ | ⟨g, cap, cur, rfl, hr⟩
    · exact ⟨k, tx, br, ops, none, 0, 0, cs, rfl, rfl, h0.symm, a, b, d⟩
    · exact ⟨k, tx, br, ops, _, _, _, cs, rfl, rfl, rfl, a, b, d⟩
theorem kept_blk {x y : World} {b k : Nat} {cs : Array Value} {T : TypeId} {fz : Nat × Nat} (h : Lib.OthersKept 5 (some b) x y) (hk : x.heap[k]? = some (.cells cs T fz)) (hb : k ≠ b) (hT : T ≠ 5) : y.heap[k]? = some (.cells cs T fz) :=
  h k _ hk (by simpa using hb) (by rintro c f e; cases e; exact hT rfl)

def WriteSpec (n : Nat) : Prop := ∀ (t : Tr) (c : Array Value) (B b : Nat) (acc : Bs) (w : World), SizeOf.sizeOf t ≤ n → IsTr w (fun g => g < B) c.toList t →
  Lib.IsBuilderF 353 5 B b (Lib.byteCells acc) w → acc.length + (render t).length ≤ 1000000 → B ≤ w.heap.size →
  Calls Tryz.prog 179 #[.agg c, .pointer (some ⟨b, 0, none⟩)] w fun e w' => e = .returned (.tuple #[]) ∧ Lib.IsBuilderF 353 5 B b (Lib.byteCells (acc ++ render t)) w' ∧ Below B w w' ∧ Lib.OthersKept 5 (some b) w w'

theorem bc_byte (acc : Bs) (c : UInt8) : Lib.byteCells acc ++ [.int .u8 c.toNat] = Lib.byteCells (acc ++ [c]) := by rw [Lib.byteCells_append]; rfl
theorem bc_str (acc l : Bs) : Lib.byteCells acc ++ Lib.strCells (ofBs l) = Lib.byteCells (acc ++ l) := by rw [Lib.byteCells_append]; rfl

set_option maxHeartbeats 1600000 in
set_option maxRecDepth 100000 in
theorem write_leaf (k : Int) (tx : Bs) (v : Value) (B b : Nat) (acc : Bs) (w : World) (hI : Lib.IsBuilderF 353 5 B b (Lib.byteCells acc) w) (hl : acc.length + tx.length ≤ 1000000) (hB : B ≤ w.heap.size) (ao : Option Addr) (n cap : Nat) (hv : v = .slice ao n cap) :
    Calls Tryz.prog 179 #[.agg #[.int .i64 k, .string (ofBs tx), .bool false, v], .pointer (some ⟨b, 0, none⟩)] w fun e w' => e = .returned (.tuple #[]) ∧ Lib.IsBuilderF 353 5 B b (Lib.byteCells (acc ++ tx)) w' ∧ Below B w w' ∧ Lib.OthersKept 5 (some b) w w' := by
  subst hv
  go_enter Tryz.func179, Tryz.ntmps179
  go_wp2_with (go_at_call 257; refine (writeString_k B b (Lib.byteCells acc) (ofBs tx) _ (hI.alloc _) ?_ ?_).mono ?_)
  · rw [Lib.byteCells_length, ofBs_size]; omega
  · simp; omega
  · rintro e w2 ⟨rfl, h2, hb2, hk2⟩
    go_wp2
    exact bodyPost_ret (v := .tuple #[]) (by simp [results, Tryz.results179, go_sem]) rfl ⟨rfl, .inr (by rw [bc_str] at h2; exact h2), ((Below.refl _ _).alloc hB _).trans hb2, ((Lib.OthersKept.refl _ _ _).alloc _).trans hk2⟩

set_option maxHeartbeats 4000000 in
set_option maxRecDepth 100000 in
theorem write_br (N : Nat) (hN : WriteSpec N) (k : Int) (tx : Bs) (ops : List Tr) (hsz : ∀ t ∈ ops, SizeOf.sizeOf t ≤ N) (cs : List Value) (B b : Nat) (acc : Bs) (w : World) (g0 cap : Nat)
    (_hcap : ops.length ≤ cap) (hn4 : ops.length ≤ 1000000) (hS : IsTrs w (fun g => g < B) cs ops) (hcell : ∀ j u, cs[j]? = some u → w.cell? ⟨g0, j, none⟩ = some u) (hg : g0 < B)
    (hI : Lib.IsBuilderF 353 5 B b (Lib.byteCells acc) w) (hl : acc.length + (40 :: (tx ++ renders ops ++ [41])).length ≤ 1000000) (hB : B ≤ w.heap.size) :
    Calls Tryz.prog 179 #[.agg #[.int .i64 k, .string (ofBs tx), .bool true, .slice (some ⟨g0, 0, none⟩) ops.length cap], .pointer (some ⟨b, 0, none⟩)] w fun e w' =>
      e = .returned (.tuple #[]) ∧ Lib.IsBuilderF 353 5 B b (Lib.byteCells (acc ++ (40 :: (tx ++ renders ops ++ [41])))) w' ∧ Below B w w' ∧ Lib.OthersKept 5 (some b) w w' := by
  simp only [List.length_cons, List.length_append, List.length_nil] at hl
  have hbl : b < w.heap.size := by rcases hI with h | h <;> exact block_lt h.2.choose_spec.1
  go_enter Tryz.func179, Tryz.ntmps179
  go_wp2_with (first
    | (go_at_call 258; refine (writeByte_k B b (Lib.byteCells acc) 40 _ (hI.alloc _) ?c1 ?c2).mono ?_))
  case c1 => rw [Lib.byteCells_length]; omega
  case c2 => simp; omega
  rintro e w2 ⟨rfl, h2, hb2, hk2⟩
  rw [show (40 : Int) = ((40 : UInt8).toNat : Int) from rfl, bc_byte] at h2
  have hP2 := kept_blk hk2 (blk_new w _) (by omega) (by decide)
  obtain ⟨⟨y0, y1, y2, y3⟩, _⟩ := cells4 hP2
  go_wp2_with (go_at_call 257; refine (writeString_k B b (Lib.byteCells (acc ++ [40])) (ofBs tx) _ (.inr h2) ?c1 ?c2).mono ?_)
  case c1 => rw [Lib.byteCells_length, ofBs_size]; simp; omega
  case c2 => have := hb2.size; simp at this; omega
  rintro e w3 ⟨rfl, h3, hb3, hk3⟩
  rw [bc_str] at h3
  have hP3 := kept_blk hk3 hP2 (by omega) (by decide)
  obtain ⟨⟨y0, y1, y2, y3⟩, _⟩ := cells4 hP3
  have B3 : Below B w w3 := (((Below.refl _ _).alloc hB _).trans hb2).trans hb3
  have K3 : Lib.OthersKept 5 (some b) w w3 := (((Lib.OthersKept.refl _ _ _).alloc _).trans hk2).trans hk3
  go_wp2_with fail
  go_loopw [24] (fun iv wr => ∃ i : Nat, i ≤ ops.length ∧ iv = .int .i64 i ∧ Lib.IsBuilderF 353 5 B b (Lib.byteCells (acc ++ [40] ++ tx ++ renders (ops.take i))) wr ∧ Below B w wr ∧ Lib.OthersKept 5 (some b) w wr)
    (fun iv _ => ops.length - (intOf iv).toNat)
  case atStart => exact ⟨0, Nat.zero_le _, rfl, .inr (by simpa [renders] using h3), B3, K3⟩
  case round =>
    obtain ⟨i, hi, rfl, hIr, hBr, hKr⟩ := hrel
    by_cases hlt : i < ops.length
    · obtain ⟨c, hc, hcj⟩ := hS.get i hlt
      obtain ⟨k1, tx1, br1, ops1, ao1, n1, cap1, cs1, ht1, rfl, hn1, _, _, _⟩ := hc.inv
      clear hn1 ht1
      have q0 : wr.cell? ⟨g0, i * 4, none⟩ = some (.int .i64 k1) := (hBr.cell (p := ⟨g0, i * 4, none⟩) hg).trans (hcell _ _ (hcj 0 (by omega)))
      have q1 : wr.cell? ⟨g0, i * 4 + 1, none⟩ = some (.string (ofBs tx1)) := (hBr.cell (p := ⟨g0, i * 4 + 1, none⟩) hg).trans (hcell _ _ (hcj 1 (by omega)))
      have q2 : wr.cell? ⟨g0, i * 4 + 2, none⟩ = some (.bool br1) := (hBr.cell (p := ⟨g0, i * 4 + 2, none⟩) hg).trans (hcell _ _ (hcj 2 (by omega)))
      have q3 : wr.cell? ⟨g0, i * 4 + 3, none⟩ = some (.slice ao1 n1 cap1) := (hBr.cell (p := ⟨g0, i * 4 + 3, none⟩) hg).trans (hcell _ _ (hcj 3 (by omega)))
      obtain ⟨acc1, ha1⟩ : ∃ acc1, acc1 = acc ++ [40] ++ tx ++ renders (ops.take i) := ⟨_, rfl⟩
      rw [← ha1] at hIr
      have htk : ops.take (i + 1) = ops.take i ++ [ops[i]] := by rw [List.take_succ_eq_append_getElem hlt]
      have hrl : (renders (ops.take i)).length + (1 + (render ops[i]).length) ≤ (renders ops).length := by
        have e : ops = ops.take i ++ (ops[i] :: ops.drop (i + 1)) := by rw [← List.drop_eq_getElem_cons hlt, List.take_append_drop]
        have e2 := congrArg (fun l => (renders l).length) e
        simp only [renders_append, renders, List.length_append, List.length_cons] at e2
        omega
      have hal : acc1.length + (1 + (render ops[i]).length) ≤ 1000000 := by rw [ha1]; simp; omega
      have HA : Hid (acc1 ++ [32] ++ render ops[i] = acc ++ [40] ++ tx ++ renders (ops.take (i + 1))) := by
        rw [Hid, htk, renders_append, ha1]; simp [renders]
      have hsz1 : SizeOf.sizeOf ops[i] ≤ N := hsz _ (List.getElem_mem hlt)
      obtain ⟨op, hop⟩ : ∃ op, op = ops[i] := ⟨_, rfl⟩
      rw [← hop] at hc hal HA hsz1
      have hbr := hBr.size
      clear hop htk hrl ha1 hcj
      go_wp2_with (go_at_call 258; refine (writeByte_k B b (Lib.byteCells acc1) 32 _ (hIr.alloc _) ?c1 ?c2).mono ?_)
      case c1 => rw [Lib.byteCells_length]; omega
      case c2 => simp; omega
      rintro e w5 ⟨rfl, h5, hb5, hk5⟩
      rw [show (32 : Int) = ((32 : UInt8).toNat : Int) from rfl, bc_byte] at h5
      have hP5 := kept_blk hk5 (blk_new wr _) (by omega) (by decide)
      obtain ⟨⟨u0, u1, u2, u3⟩, _⟩ := cells4 hP5
      have hs5 := hb5.size
      simp only [World.size_alloc] at hs5
      have B5 : Below B w w5 := (hBr.alloc (by omega) _).trans hb5
      have hc5 : IsTr w5 (fun g => g < B) [.int .i64 k1, .string (ofBs tx1), .bool br1, .slice ao1 n1 cap1] op := hc.move (fun g hg => B5.block g hg) (fun g hg => hg)
      go_wp2_with (go_at_call 179; refine (hN op #[.int .i64 k1, .string (ofBs tx1), .bool br1, .slice ao1 n1 cap1] B b (acc1 ++ [32]) _ hsz1 hc5 (.inr h5) ?c1 ?c2).mono ?_)
      case c1 => simp; omega
      case c2 => omega
      rintro e w6 ⟨rfl, h6, hb6, hk6⟩
      rw [HA.out] at h6
      have B6 : Below B w w6 := B5.trans hb6
      have K6 : Lib.OthersKept 5 (some b) w w6 := ((hKr.alloc _).trans hk5).trans hk6
      clear hc hc5 h5 hb5 hk5 hb6 hk6 hP5 u0 u1 u2 u3 q0 q1 q2 q3 hIr
      go_wp2
      go_roundw
      case rel => exact ⟨i + 1, by omega, by go_num, h6, B6, K6⟩
      case measure => simp [intOf]; omega
    · have hie : ops.take i = ops := List.take_of_length_le (by omega)
      rw [hie] at hIr
      clear hie
      have hbr := hBr.size
      go_wp2_with (go_at_call 258; refine (writeByte_k B b (Lib.byteCells (acc ++ [40] ++ tx ++ renders ops)) 41 _ hIr ?c1 ?c2).mono ?_)
      case c1 => rw [Lib.byteCells_length]; simp; omega
      case c2 => omega
      rintro e w5 ⟨rfl, h5, hb5, hk5⟩
      rw [show (41 : Int) = ((41 : UInt8).toNat : Int) from rfl, bc_byte] at h5
      go_wp2
      go_end0
      exact ⟨rfl, .inr (by simpa using h5), hBr.trans hb5, hKr.trans hk5⟩

set_option maxHeartbeats 4000000 in
set_option maxRecDepth 100000 in
theorem write_br0 (k : Int) (tx : Bs) (B b : Nat) (acc : Bs) (w : World) (ao : Option Addr) (cap : Nat)
    (hI : Lib.IsBuilderF 353 5 B b (Lib.byteCells acc) w) (hl : acc.length + (40 :: (tx ++ [41])).length ≤ 1000000) (hB : B ≤ w.heap.size) :
    Calls Tryz.prog 179 #[.agg #[.int .i64 k, .string (ofBs tx), .bool true, .slice ao 0 cap], .pointer (some ⟨b, 0, none⟩)] w fun e w' =>
      e = .returned (.tuple #[]) ∧ Lib.IsBuilderF 353 5 B b (Lib.byteCells (acc ++ (40 :: (tx ++ [41])))) w' ∧ Below B w w' ∧ Lib.OthersKept 5 (some b) w w' := by
  simp only [List.length_cons, List.length_append, List.length_nil] at hl
  have hbl : b < w.heap.size := by rcases hI with h | h <;> exact block_lt h.2.choose_spec.1
  go_enter Tryz.func179, Tryz.ntmps179
  go_wp2_with (first
    | (go_at_call 258; refine (writeByte_k B b (Lib.byteCells acc) 40 _ (hI.alloc _) ?c1 ?c2).mono ?_))
  case c1 => rw [Lib.byteCells_length]; omega
  case c2 => simp; omega
  rintro e w2 ⟨rfl, h2, hb2, hk2⟩
  rw [show (40 : Int) = ((40 : UInt8).toNat : Int) from rfl, bc_byte] at h2
  have hP2 := kept_blk hk2 (blk_new w _) (by omega) (by decide)
  obtain ⟨⟨y0, y1, y2, y3⟩, _⟩ := cells4 hP2
  go_wp2_with (go_at_call 257; refine (writeString_k B b (Lib.byteCells (acc ++ [40])) (ofBs tx) _ (.inr h2) ?c1 ?c2).mono ?_)
  case c1 => rw [Lib.byteCells_length, ofBs_size]; simp; omega
  case c2 => have := hb2.size; simp at this; omega
  rintro e w3 ⟨rfl, h3, hb3, hk3⟩
  rw [bc_str] at h3
  have hP3 := kept_blk hk3 hP2 (by omega) (by decide)
  obtain ⟨⟨y0, y1, y2, y3⟩, _⟩ := cells4 hP3
  have B3 : Below B w w3 := (((Below.refl _ _).alloc hB _).trans hb2).trans hb3
  have K3 : Lib.OthersKept 5 (some b) w w3 := (((Lib.OthersKept.refl _ _ _).alloc _).trans hk2).trans hk3
  go_wp2_with fail
  go_loopw [24] (fun iv wr => iv = .int .i64 0 ∧ Lib.IsBuilderF 353 5 B b (Lib.byteCells (acc ++ [40] ++ tx)) wr ∧ Below B w wr ∧ Lib.OthersKept 5 (some b) w wr)
    (fun _ _ => 0)
  case atStart => exact ⟨rfl, .inr h3, B3, K3⟩
  case round =>
    obtain ⟨rfl, hIr, hBr, hKr⟩ := hrel
    have hbr := hBr.size
    go_wp2_with (go_at_call 258; refine (writeByte_k B b (Lib.byteCells (acc ++ [40] ++ tx)) 41 _ hIr ?c1 ?c2).mono ?_)
    case c1 => rw [Lib.byteCells_length]; simp; omega
    case c2 => omega
    rintro e w5 ⟨rfl, h5, hb5, hk5⟩
    rw [show (41 : Int) = ((41 : UInt8).toNat : Int) from rfl, bc_byte] at h5
    go_wp2
    go_end0
    exact ⟨rfl, .inr (by simpa using h5), hBr.trans hb5, hKr.trans hk5⟩

theorem renders_len (ts : List Tr) : ts.length ≤ (renders ts).length := by
  induction ts with
  | nil => simp
  | cons t ts ih => simp [renders]; omega

theorem write_any (N : Nat) : WriteSpec N := by
  induction N using Nat.strongRecOn with
  | ind N ih =>
    intro t c B b acc w hsz hT hI hl hB
    obtain ⟨k, tx, br, ops, ao, n, cap, cs, rfl, hc, hn, hS, hown, hv⟩ := hT.inv
    obtain ⟨l⟩ := c
    simp only at hc
    subst hc
    subst hn
    have hin : ∀ t ∈ ops, SizeOf.sizeOf t ≤ SizeOf.sizeOf (Tr.mk k tx br ops) - 1 := by
      intro t ht
      have := List.sizeOf_lt_of_mem ht
      simp only [Tr.mk.sizeOf_spec]; omega
    cases br with
    | false =>
      have e : render (.mk k tx false ops) = tx := by rw [render]; rfl
      rw [e] at hl ⊢
      exact write_leaf k tx _ B b acc w hI hl hB ao ops.length cap rfl
    | true =>
      have e : render (.mk k tx true ops) = 40 :: (tx ++ renders ops ++ [41]) := by rw [render]; rfl
      rw [e] at hl ⊢
      have hz : 0 < SizeOf.sizeOf (Tr.mk k tx true ops) := by simp only [Tr.mk.sizeOf_spec]; omega
      rcases hown.2 with ⟨ev, h0⟩ | ⟨g, cap', cur, ev, _, hg, hcap, _⟩
      · have : ops = [] := List.length_eq_zero_iff.mp h0
        subst this
        simpa [renders] using write_br0 k tx B b acc w ao cap hI (by simpa [renders] using hl) hB
      · cases ev
        have hrl := renders_len ops
        refine write_br (SizeOf.sizeOf (Tr.mk k tx true ops) - 1) (ih _ (by omega)) k tx ops hin cs B b acc w g cap hcap (by simp at hl; omega) hS (fun j u hj => ?_) (hv g rfl) hI hl hB
        have := hown.cells (g := g) rfl j u hj
        rw [Addr.add_lit] at this
        simpa using this

theorem write_tree {t : Tr} {k : Int} {tx : Bs} {br : Bool} {v : Value} {B b : Nat} {acc : Bs} {w : World} (hT : IsTr w (fun g => g < B) [.int .i64 k, .string (ofBs tx), .bool br, v] t)
    (hI : Lib.IsBuilderF 353 5 B b (Lib.byteCells acc) w) (hl : acc.length + (render t).length ≤ 1000000) (hB : B ≤ w.heap.size) :
    Calls Tryz.prog 179 #[.agg #[.int .i64 k, .string (ofBs tx), .bool br, v], .pointer (some ⟨b, 0, none⟩)] w fun e w' => e = .returned (.tuple #[]) ∧ Lib.IsBuilderF 353 5 B b (Lib.byteCells (acc ++ render t)) w' ∧ Below B w w' ∧ Lib.OthersKept 5 (some b) w w' :=
  write_any (SizeOf.sizeOf t) t #[.int .i64 k, .string (ofBs tx), .bool br, v] B b acc w (Nat.le_refl _) hT hI hl hB
end Go.Proofs.YtilfjpmeededmaaGreatDoor

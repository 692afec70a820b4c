/- What strings.Builder's copyCheck, WriteByte and WriteString do to a builder of the call's own. -/
/- What the tree's write does: the expression in its one right way, at the builder's end. -/
/- What Tidy answers, of any text: the expression's one right way, or ErrText. -/
import Derived.Test.YtilfjpmeededmaaGreatDoorShelf
import Derived.Test.YtilfjpmeededmaaGreatDoorParseZ
import Derived.Shelf.Strings.BuilderK
namespace Go.Proofs.YtilfjpmeededmaaGreatDoor
open Go.RowKit

theorem sizeBld : (Tryz.prog.info? 353).map (·.size) = some 2 := by kernel_rfl
theorem liesBld : liesAt Tryz.prog Tryz.prog.depth 353 (2 / Tryz.prog.cellsOf 353) 0 353 1 = true := by kernel_rfl
theorem infoByte : (Tryz.prog.info? 5).map (fun i => (i.zero, i.size, i.bytes)) = some (some (.int .u8 0), 1, 1) := by kernel_rfl

set_option maxHeartbeats 1000000 in
set_option maxRecDepth 100000 in
theorem copyCheck_used (b : Nat) (w : World) (h0 : w.cell? ⟨b, 0, none⟩ = some (.pointer (some ⟨b, 0, none⟩))) :
    Calls Tryz.prog 333 #[.pointer (some ⟨b, 0, none⟩)] w fun e w' => e = .returned (.tuple #[]) ∧ w' = w := by
  obtain ⟨j, hj, _⟩ := Option.map_eq_some_iff.1 sizeBld
  go_enter Tryz.func333, Tryz.ntmps333
  go_wp2
  rw [Lib.run_neq_ptr_same w _ Tryz.underlying350 hj]
  go_wp2
  go_end0
  exact ⟨rfl, rfl⟩

set_option maxHeartbeats 1000000 in
set_option maxRecDepth 100000 in
theorem copyCheck_fresh (b : Nat) (w : World) (h0 : w.cell? ⟨b, 0, none⟩ = some (.pointer none)) (hsh : w.shape? b = some (353, 2)) (hfz : w.frozen? ⟨b, 0, none⟩ = false) :
    Calls Tryz.prog 333 #[.pointer (some ⟨b, 0, none⟩)] w fun e w' => e = .returned (.tuple #[]) ∧ w' = w.setCell ⟨b, 0, none⟩ (.pointer (some ⟨b, 0, none⟩)) := by
  obtain ⟨j, hj, hjs⟩ := Option.map_eq_some_iff.1 sizeBld
  go_enter Tryz.func333, Tryz.ntmps333
  go_wp2
  rw [Lib.run_to_unsafe w ⟨b, 0, none⟩ Tryz.underlying350 Tryz.underlying435 hj (by rw [hjs]; decide) hsh (Nat.zero_lt_succ 1)]
  simp only [Result.andThen]
  rw [Oper.upon_value]
  go_wp2
  rw [run_callFunc_extern Tryz.func373 (by kernel_rfl) (by kernel_rfl) (by kernel_rfl) (e := Extern.AbiNoEscape.same) (by kernel_rfl)]
  rw [Lib.run_noEscape]
  simp only [Result.andThen]
  rw [Oper.upon_value]
  go_wp2
  rw [Lib.run_from_unsafe w ⟨b, 0, none⟩ Tryz.underlying435 Tryz.underlying350 hj hsh liesBld]
  simp only [Result.andThen]
  rw [Oper.upon_value]
  go_wp2
  go_end0
  exact ⟨rfl, rfl⟩

theorem copyCheck_k (B b : Nat) (bs : List Value) (w : World) (h : Lib.IsBuilderF 353 5 B b bs w) :
    Calls Tryz.prog 333 #[.pointer (some ⟨b, 0, none⟩)] w fun e w' => e = .returned (.tuple #[]) ∧ (Lib.BuilderAtF 353 5 B b (.pointer (some ⟨b, 0, none⟩)) bs w' ∧ Below B w w' ∧ Lib.OthersKept 5 (some b) w w') := by
  rcases h with h | h
  · refine (copyCheck_fresh b w h.cell0 h.shape h.frozen0).mono ?_
    rintro e w' ⟨rfl, rfl⟩
    exact ⟨rfl, h.used _, (Below.refl B w).setCell (p := ⟨b, 0, none⟩) h.1 _, (Lib.OthersKept.refl _ _ w).setCell ⟨b, 0, none⟩ rfl _⟩
  · refine (copyCheck_used b w h.cell0).mono ?_
    rintro e w' ⟨rfl, rfl⟩
    exact ⟨rfl, h, Below.refl B _, Lib.OthersKept.refl _ _ _⟩

set_option maxHeartbeats 2000000 in
set_option maxRecDepth 100000 in
theorem writeByte_k (B b : Nat) (bs : List Value) (c : Int) (w : World) (h : Lib.IsBuilderF 353 5 B b bs w) (hlen : bs.length + 1 ≤ 140737488355328) (hBw : B ≤ w.heap.size) :
    Calls Tryz.prog 258 #[.pointer (some ⟨b, 0, none⟩), .int .u8 c] w fun e w' => e = .returned .nilIface ∧ (Lib.BuilderAtF 353 5 B b (.pointer (some ⟨b, 0, none⟩)) (bs ++ [.int .u8 c]) w' ∧ Below B w w' ∧ Lib.OthersKept 5 (some b) w w') := by
  obtain ⟨i0, hi, hz0, hz1, hz2⟩ := info_parts infoByte
  go_enter Tryz.func258, Tryz.ntmps258
  go_wp2_with (go_at_call 333; refine (copyCheck_k B b bs _ h).mono ?_)
  rintro e w1 ⟨rfl, h1, hb1, hk1⟩
  obtain ⟨hB, v, hbk, hown, hne⟩ := h1
  have c0 : w1.cell? ⟨b, 0, none⟩ = some (.pointer (some ⟨b, 0, none⟩)) := by rw [Lib.cell_of_heap hbk]; rfl
  have c1 : w1.cell? ⟨b, 1, none⟩ = some v := by rw [Lib.cell_of_heap hbk]; rfl
  go_wp2_with (at_builtin; refine wpList_append_ownF _ rfl _ _ 351 rfl B 5 i0 (.int .u8 0) 1 1 Tryz.underlying351 hi hz0 hz1 hz2 rfl (by decide) _ _ _ rfl (hown.alloc _) ⟨w1.heap.size, 0, none⟩ 1 1 [.int .u8 c] rfl rfl ?c1 ?c2 ?c3 ?c4 ?c5 ?_)
  case c1 =>
    intro j u hj
    match j, hj with
    | 0, hj => simp at hj; subst hj; simp [Addr.add]
  case c2 => intro u hu; simp at hu; subst hu; rfl
  case c3 => unfold maxLen; omega
  case c4 => omega
  case c5 => have := hb1.size; simp; omega
  intro v' w2 hown' hgrow _
  have hlt : b < w1.heap.size := block_lt hbk
  have hb2 : w2.heap[b]? = some (.cells #[.pointer (some ⟨b, 0, none⟩), v] 353 (0, 0)) := by
    rw [hgrow.block b (by simp; omega) (fun e => hne e.symm), Lib.alloc_old w1 _ b hlt]
    exact hbk
  have d0 : w2.cell? ⟨b, 0, none⟩ = some (.pointer (some ⟨b, 0, none⟩)) := by rw [Lib.cell_of_heap hb2]; rfl
  have d1 : w2.cell? ⟨b, 1, none⟩ = some v := by rw [Lib.cell_of_heap hb2]; rfl
  have f1 : w2.frozen? ⟨b, 1, none⟩ = false := Lib.frozen_of_heap hb2 1
  obtain ⟨g, cap, rfl⟩ : ∃ g cap, v' = .slice (some ⟨g, 0, none⟩) (bs.length + 1) cap := by
    rcases hown'.2 with ⟨_, h0⟩ | ⟨g, cap, cur, fz, hv, _⟩
    · omega
    · exact ⟨g, cap, hv⟩
  go_wp2
  go_ret
  refine ⟨rfl, ?_, ?_, ((hk1.alloc _).grown hgrow (Lib.ownsRowF_kind (hown.alloc _))).setCell ⟨b, 1, none⟩ rfl _⟩
  · exact Lib.BuilderAtF.put (T := 353) (e := 5) hB hb2 (bs' := bs ++ [.int .u8 c]) (by simpa using hown') (by decide)
  · exact ((hb1.alloc (by have := hb1.size; omega) _).grown hgrow (by have := hb1.size; simp; omega) (fun k hk => (hown.lt k hk).1)).setCell (p := ⟨b, 1, none⟩) hB _

set_option maxHeartbeats 2000000 in
set_option maxRecDepth 100000 in
theorem writeString_k (B b : Nat) (bs : List Value) (s : ByteArray) (w : World) (h : Lib.IsBuilderF 353 5 B b bs w) (hlen : bs.length + s.size ≤ 140737488355328) (hBw : B ≤ w.heap.size) :
    Calls Tryz.prog 257 #[.pointer (some ⟨b, 0, none⟩), .string s] w fun e w' => e = .returned (.tuple #[.int .i64 s.size, .nilIface]) ∧ (Lib.BuilderAtF 353 5 B b (.pointer (some ⟨b, 0, none⟩)) (bs ++ Lib.strCells s) w' ∧ Below B w w' ∧ Lib.OthersKept 5 (some b) w w') := by
  obtain ⟨i0, hi, hz0, hz1, hz2⟩ := info_parts infoByte
  go_enter Tryz.func257, Tryz.ntmps257
  go_wp2_with (go_at_call 333; refine (copyCheck_k B b bs _ h).mono ?_)
  rintro e w1 ⟨rfl, h1, hb1, hk1⟩
  obtain ⟨hB, v, hbk, hown, hne⟩ := h1
  have c0 : w1.cell? ⟨b, 0, none⟩ = some (.pointer (some ⟨b, 0, none⟩)) := by rw [Lib.cell_of_heap hbk]; rfl
  have c1 : w1.cell? ⟨b, 1, none⟩ = some v := by rw [Lib.cell_of_heap hbk]; rfl
  go_wp2_with (at_builtin; refine Lib.wpList_append_own_stringF _ rfl _ _ 351 9 rfl B 5 i0 Tryz.underlying351 Tryz.underlying9 hi hz0 hz1 hz2 _ _ _ rfl hown s rfl ?c3 ?c4 ?c5 ?_)
  case c3 => unfold maxLen; omega
  case c4 => omega
  case c5 => have := hb1.size; omega
  intro v' w2 hown' hgrow _
  have hlt : b < w1.heap.size := block_lt hbk
  have hb2 : w2.heap[b]? = some (.cells #[.pointer (some ⟨b, 0, none⟩), v] 353 (0, 0)) := by
    rw [hgrow.block b hlt (fun e => hne e.symm)]
    exact hbk
  have d0 : w2.cell? ⟨b, 0, none⟩ = some (.pointer (some ⟨b, 0, none⟩)) := by rw [Lib.cell_of_heap hb2]; rfl
  have d1 : w2.cell? ⟨b, 1, none⟩ = some v := by rw [Lib.cell_of_heap hb2]; rfl
  have f1 : w2.frozen? ⟨b, 1, none⟩ = false := Lib.frozen_of_heap hb2 1
  obtain ⟨ao, n', cap, rfl⟩ : ∃ ao n' cap, v' = .slice ao n' cap := by
    rcases hown'.2 with ⟨hv, _⟩ | ⟨g, cap, cur, fz, hv, _⟩
    · exact ⟨_, _, _, hv⟩
    · exact ⟨_, _, _, hv⟩
  go_wp2
  go_ret2
  refine ⟨rfl, ?_, ?_, (hk1.grown hgrow (Lib.ownsRowF_kind hown)).setCell ⟨b, 1, none⟩ rfl _⟩
  · exact Lib.BuilderAtF.put (T := 353) (e := 5) hB hb2 (bs' := bs ++ Lib.strCells s) (by simpa [Lib.strCells_length] using hown') (by decide)
  · exact (hb1.grown hgrow (by have := hb1.size; omega) (fun k hk => (hown.lt k hk).1)).setCell (p := ⟨b, 1, none⟩) hB _
end Go.Proofs.YtilfjpmeededmaaGreatDoor

namespace Go.Proofs.YtilfjpmeededmaaGreatDoor
open Go.RowKit

mutual
def render : Tr → Bs
  | .mk _ tx br ops => if br then 40 :: (tx ++ renders ops ++ [41]) else tx
def renders : List Tr → Bs
  | [] => []
  | t :: ts => 32 :: (render t ++ renders ts)
end
theorem renders_append (a b : List Tr) : renders (a ++ b) = renders a ++ renders b := by
  induction a with
  | nil => rfl
  | cons t ts ih => simp [renders, ih]
theorem IsTrs.get {w : World} {S : Nat → Prop} {cs : List Value} {ts : List Tr} (h : IsTrs w S cs ts) (i : Nat) (hi : i < ts.length) : ∃ c, IsTr w S c ts[i] ∧ ∀ j, j < 4 → cs[i * 4 + j]? = c[j]? := by
  induction ts generalizing cs i with
  | nil => simp at hi
  | cons t ts ih =>
    cases h with
    | @cons c cs _ _ a b =>
      cases i with
      | zero => exact ⟨c, a, fun j hj => by rw [List.getElem?_append_left (by rw [a.four]; omega)]; simp⟩
      | succ i =>
        obtain ⟨d, hd, hj⟩ := ih b i (by simpa using hi)
        refine ⟨d, hd, fun j hj4 => ?_⟩
        rw [← hj j hj4, List.getElem?_append_right (by rw [a.four]; omega), a.four]
        congr 1; omega
theorem IsTr.inv {w : World} {S : Nat → Prop} {c : List Value} {t : Tr} (h : IsTr w S c t) : ∃ k tx br ops ao n cap cs, t = .mk k tx br ops ∧ c = [.int .i64 k, .string (ofBs tx), .bool br, .slice ao n cap] ∧ n = ops.length ∧ IsTrs w S cs ops ∧
    w.ownsRow 0 236 4 (.slice ao n cap) ops.length cs ∧ ∀ g, (Value.slice ao n cap).ownBlock = some g → S g := by
  cases h with
  | @mk k tx br ops v cs a b d =>
    rcases b.2 with ⟨rfl, h0⟩ | ⟨g, cap, cur, rfl, hr⟩
    · exact ⟨k, tx, br, ops, none, 0, 0, cs, rfl, rfl, h0.symm, a, b, d⟩
    · exact ⟨k, tx, br, ops, _, _, _, cs, rfl, rfl, rfl, a, b, d⟩
theorem kept_blk {x y : World} {b k : Nat} {cs : Array Value} {T : TypeId} {fz : Nat × Nat} (h : Lib.OthersKept 5 (some b) x y) (hk : x.heap[k]? = some (.cells cs T fz)) (hb : k ≠ b) (hT : T ≠ 5) : y.heap[k]? = some (.cells cs T fz) :=
  h k _ hk (by simpa using hb) (by rintro c f e; cases e; exact hT rfl)

def WriteSpec (n : Nat) : Prop := ∀ (t : Tr) (c : Array Value) (B b : Nat) (acc : Bs) (w : World), SizeOf.sizeOf t ≤ n → IsTr w (fun g => g < B) c.toList t →
  Lib.IsBuilderF 353 5 B b (Lib.byteCells acc) w → acc.length + (render t).length ≤ 1000000 → B ≤ w.heap.size →
  Calls Tryz.prog 179 #[.agg c, .pointer (some ⟨b, 0, none⟩)] w fun e w' => e = .returned (.tuple #[]) ∧ Lib.IsBuilderF 353 5 B b (Lib.byteCells (acc ++ render t)) w' ∧ Below B w w' ∧ Lib.OthersKept 5 (some b) w w'

theorem bc_byte (acc : Bs) (c : UInt8) : Lib.byteCells acc ++ [.int .u8 c.toNat] = Lib.byteCells (acc ++ [c]) := by rw [Lib.byteCells_append]; rfl
theorem bc_str (acc l : Bs) : Lib.byteCells acc ++ Lib.strCells (ofBs l) = Lib.byteCells (acc ++ l) := by rw [Lib.byteCells_append]; rfl

set_option maxHeartbeats 1600000 in
set_option maxRecDepth 100000 in
theorem write_leaf (k : Int) (tx : Bs) (v : Value) (B b : Nat) (acc : Bs) (w : World) (hI : Lib.IsBuilderF 353 5 B b (Lib.byteCells acc) w) (hl : acc.length + tx.length ≤ 1000000) (hB : B ≤ w.heap.size) (ao : Option Addr) (n cap : Nat) (hv : v = .slice ao n cap) :
    Calls Tryz.prog 179 #[.agg #[.int .i64 k, .string (ofBs tx), .bool false, v], .pointer (some ⟨b, 0, none⟩)] w fun e w' => e = .returned (.tuple #[]) ∧ Lib.IsBuilderF 353 5 B b (Lib.byteCells (acc ++ tx)) w' ∧ Below B w w' ∧ Lib.OthersKept 5 (some b) w w' := by
  subst hv
  go_enter Tryz.func179, Tryz.ntmps179
  go_wp2_with (go_at_call 257; refine (writeString_k B b (Lib.byteCells acc) (ofBs tx) _ (hI.alloc _) ?_ ?_).mono ?_)
  · rw [Lib.byteCells_length, ofBs_size]; omega
  · simp; omega
  · rintro e w2 ⟨rfl, h2, hb2, hk2⟩
    go_wp2
    exact bodyPost_ret (v := .tuple #[]) (by simp [results, Tryz.results179, go_sem]) rfl ⟨rfl, .inr (by rw [bc_str] at h2; exact h2), ((Below.refl _ _).alloc hB _).trans hb2, ((Lib.OthersKept.refl _ _ _).alloc _).trans hk2⟩

set_option maxHeartbeats 4000000 in
set_option maxRecDepth 100000 in
theorem write_br (N : Nat) (hN : WriteSpec N) (k : Int) (tx : Bs) (ops : List Tr) (hsz : ∀ t ∈ ops, SizeOf.sizeOf t ≤ N) (cs : List Value) (B b : Nat) (acc : Bs) (w : World) (g0 cap : Nat)
    (_hcap : ops.length ≤ cap) (hn4 : ops.length ≤ 1000000) (hS : IsTrs w (fun g => g < B) cs ops) (hcell : ∀ j u, cs[j]? = some u → w.cell? ⟨g0, j, none⟩ = some u) (hg : g0 < B)
    (hI : Lib.IsBuilderF 353 5 B b (Lib.byteCells acc) w) (hl : acc.length + (40 :: (tx ++ renders ops ++ [41])).length ≤ 1000000) (hB : B ≤ w.heap.size) :
    Calls Tryz.prog 179 #[.agg #[.int .i64 k, .string (ofBs tx), .bool true, .slice (some ⟨g0, 0, none⟩) ops.length cap], .pointer (some ⟨b, 0, none⟩)] w fun e w' =>
      e = .returned (.tuple #[]) ∧ Lib.IsBuilderF 353 5 B b (Lib.byteCells (acc ++ (40 :: (tx ++ renders ops ++ [41])))) w' ∧ Below B w w' ∧ Lib.OthersKept 5 (some b) w w' := by
  simp only [List.length_cons, List.length_append, List.length_nil] at hl
  have hbl : b < w.heap.size := by rcases hI with h | h <;> exact block_lt h.2.choose_spec.1
  go_enter Tryz.func179, Tryz.ntmps179
  go_wp2_with (first
    | (go_at_call 258; refine (writeByte_k B b (Lib.byteCells acc) 40 _ (hI.alloc _) ?c1 ?c2).mono ?_))
  case c1 => rw [Lib.byteCells_length]; omega
  case c2 => simp; omega
  rintro e w2 ⟨rfl, h2, hb2, hk2⟩
  rw [show (40 : Int) = ((40 : UInt8).toNat : Int) from rfl, bc_byte] at h2
  have hP2 := kept_blk hk2 (blk_new w _) (by omega) (by decide)
  obtain ⟨⟨y0, y1, y2, y3⟩, _⟩ := cells4 hP2
  go_wp2_with (go_at_call 257; refine (writeString_k B b (Lib.byteCells (acc ++ [40])) (ofBs tx) _ (.inr h2) ?c1 ?c2).mono ?_)
  case c1 => rw [Lib.byteCells_length, ofBs_size]; simp; omega
  case c2 => have := hb2.size; simp at this; omega
  rintro e w3 ⟨rfl, h3, hb3, hk3⟩
  rw [bc_str] at h3
  have hP3 := kept_blk hk3 hP2 (by omega) (by decide)
  obtain ⟨⟨y0, y1, y2, y3⟩, _⟩ := cells4 hP3
  have B3 : Below B w w3 := (((Below.refl _ _).alloc hB _).trans hb2).trans hb3
  have K3 : Lib.OthersKept 5 (some b) w w3 := (((Lib.OthersKept.refl _ _ _).alloc _).trans hk2).trans hk3
  go_wp2_with fail
  go_loopw [24] (fun iv wr => ∃ i : Nat, i ≤ ops.length ∧ iv = .int .i64 i ∧ Lib.IsBuilderF 353 5 B b (Lib.byteCells (acc ++ [40] ++ tx ++ renders (ops.take i))) wr ∧ Below B w wr ∧ Lib.OthersKept 5 (some b) w wr)
    (fun iv _ => ops.length - (intOf iv).toNat)
  case atStart => exact ⟨0, Nat.zero_le _, rfl, .inr (by simpa [renders] using h3), B3, K3⟩
  case round =>
    obtain ⟨i, hi, rfl, hIr, hBr, hKr⟩ := hrel
    by_cases hlt : i < ops.length
    · obtain ⟨c, hc, hcj⟩ := hS.get i hlt
      obtain ⟨k1, tx1, br1, ops1, ao1, n1, cap1, cs1, ht1, rfl, hn1, _, _, _⟩ := hc.inv
      clear hn1 ht1
      have q0 : wr.cell? ⟨g0, i * 4, none⟩ = some (.int .i64 k1) := (hBr.cell (p := ⟨g0, i * 4, none⟩) hg).trans (hcell _ _ (hcj 0 (by omega)))
      have q1 : wr.cell? ⟨g0, i * 4 + 1, none⟩ = some (.string (ofBs tx1)) := (hBr.cell (p := ⟨g0, i * 4 + 1, none⟩) hg).trans (hcell _ _ (hcj 1 (by omega)))
      have q2 : wr.cell? ⟨g0, i * 4 + 2, none⟩ = some (.bool br1) := (hBr.cell (p := ⟨g0, i * 4 + 2, none⟩) hg).trans (hcell _ _ (hcj 2 (by omega)))
      have q3 : wr.cell? ⟨g0, i * 4 + 3, none⟩ = some (.slice ao1 n1 cap1) := (hBr.cell (p := ⟨g0, i * 4 + 3, none⟩) hg).trans (hcell _ _ (hcj 3 (by omega)))
      obtain ⟨acc1, ha1⟩ : ∃ acc1, acc1 = acc ++ [40] ++ tx ++ renders (ops.take i) := ⟨_, rfl⟩
      rw [← ha1] at hIr
      have htk : ops.take (i + 1) = ops.take i ++ [ops[i]] := by rw [List.take_succ_eq_append_getElem hlt]
      have hrl : (renders (ops.take i)).length + (1 + (render ops[i]).length) ≤ (renders ops).length := by
        have e : ops = ops.take i ++ (ops[i] :: ops.drop (i + 1)) := by rw [← List.drop_eq_getElem_cons hlt, List.take_append_drop]
        have e2 := congrArg (fun l => (renders l).length) e
        simp only [renders_append, renders, List.length_append, List.length_cons] at e2
        omega
      have hal : acc1.length + (1 + (render ops[i]).length) ≤ 1000000 := by rw [ha1]; simp; omega
      have HA : Hid (acc1 ++ [32] ++ render ops[i] = acc ++ [40] ++ tx ++ renders (ops.take (i + 1))) := by
        rw [Hid, htk, renders_append, ha1]; simp [renders]
      have hsz1 : SizeOf.sizeOf ops[i] ≤ N := hsz _ (List.getElem_mem hlt)
      obtain ⟨op, hop⟩ : ∃ op, op = ops[i] := ⟨_, rfl⟩
      rw [← hop] at hc hal HA hsz1
      have hbr := hBr.size
      clear hop htk hrl ha1 hcj
      go_wp2_with (go_at_call 258; refine (writeByte_k B b (Lib.byteCells acc1) 32 _ (hIr.alloc _) ?c1 ?c2).mono ?_)
      case c1 => rw [Lib.byteCells_length]; omega
      case c2 => simp; omega
      rintro e w5 ⟨rfl, h5, hb5, hk5⟩
      rw [show (32 : Int) = ((32 : UInt8).toNat : Int) from rfl, bc_byte] at h5
      have hP5 := kept_blk hk5 (blk_new wr _) (by omega) (by decide)
      obtain ⟨⟨u0, u1, u2, u3⟩, _⟩ := cells4 hP5
      have hs5 := hb5.size
      simp only [World.size_alloc] at hs5
      have B5 : Below B w w5 := (hBr.alloc (by omega) _).trans hb5
      have hc5 : IsTr w5 (fun g => g < B) [.int .i64 k1, .string (ofBs tx1), .bool br1, .slice ao1 n1 cap1] op := hc.move (fun g hg => B5.block g hg) (fun g hg => hg)
      go_wp2_with (go_at_call 179; refine (hN op #[.int .i64 k1, .string (ofBs tx1), .bool br1, .slice ao1 n1 cap1] B b (acc1 ++ [32]) _ hsz1 hc5 (.inr h5) ?c1 ?c2).mono ?_)
      case c1 => simp; omega
      case c2 => omega
      rintro e w6 ⟨rfl, h6, hb6, hk6⟩
      rw [HA.out] at h6
      have B6 : Below B w w6 := B5.trans hb6
      have K6 : Lib.OthersKept 5 (some b) w w6 := ((hKr.alloc _).trans hk5).trans hk6
      clear hc hc5 h5 hb5 hk5 hb6 hk6 hP5 u0 u1 u2 u3 q0 q1 q2 q3 hIr
      go_wp2
      go_roundw
      case rel => exact ⟨i + 1, by omega, by go_num, h6, B6, K6⟩
      case measure => simp [intOf]; omega
    · have hie : ops.take i = ops := List.take_of_length_le (by omega)
      rw [hie] at hIr
      clear hie
      have hbr := hBr.size
      go_wp2_with (go_at_call 258; refine (writeByte_k B b (Lib.byteCells (acc ++ [40] ++ tx ++ renders ops)) 41 _ hIr ?c1 ?c2).mono ?_)
      case c1 => rw [Lib.byteCells_length]; simp; omega
      case c2 => omega
      rintro e w5 ⟨rfl, h5, hb5, hk5⟩
      rw [show (41 : Int) = ((41 : UInt8).toNat : Int) from rfl, bc_byte] at h5
      go_wp2
      go_end0
      exact ⟨rfl, .inr (by simpa using h5), hBr.trans hb5, hKr.trans hk5⟩

set_option maxHeartbeats 4000000 in
set_option maxRecDepth 100000 in
theorem write_br0 (k : Int) (tx : Bs) (B b : Nat) (acc : Bs) (w : World) (ao : Option Addr) (cap : Nat)
    (hI : Lib.IsBuilderF 353 5 B b (Lib.byteCells acc) w) (hl : acc.length + (40 :: (tx ++ [41])).length ≤ 1000000) (hB : B ≤ w.heap.size) :
    Calls Tryz.prog 179 #[.agg #[.int .i64 k, .string (ofBs tx), .bool true, .slice ao 0 cap], .pointer (some ⟨b, 0, none⟩)] w fun e w' =>
      e = .returned (.tuple #[]) ∧ Lib.IsBuilderF 353 5 B b (Lib.byteCells (acc ++ (40 :: (tx ++ [41])))) w' ∧ Below B w w' ∧ Lib.OthersKept 5 (some b) w w' := by
  simp only [List.length_cons, List.length_append, List.length_nil] at hl
  have hbl : b < w.heap.size := by rcases hI with h | h <;> exact block_lt h.2.choose_spec.1
  go_enter Tryz.func179, Tryz.ntmps179
  go_wp2_with (first
    | (go_at_call 258; refine (writeByte_k B b (Lib.byteCells acc) 40 _ (hI.alloc _) ?c1 ?c2).mono ?_))
  case c1 => rw [Lib.byteCells_length]; omega
  case c2 => simp; omega
  rintro e w2 ⟨rfl, h2, hb2, hk2⟩
  rw [show (40 : Int) = ((40 : UInt8).toNat : Int) from rfl, bc_byte] at h2
  have hP2 := kept_blk hk2 (blk_new w _) (by omega) (by decide)
  obtain ⟨⟨y0, y1, y2, y3⟩, _⟩ := cells4 hP2
  go_wp2_with (go_at_call 257; refine (writeString_k B b (Lib.byteCells (acc ++ [40])) (ofBs tx) _ (.inr h2) ?c1 ?c2).mono ?_)
  case c1 => rw [Lib.byteCells_length, ofBs_size]; simp; omega
  case c2 => have := hb2.size; simp at this; omega
  rintro e w3 ⟨rfl, h3, hb3, hk3⟩
  rw [bc_str] at h3
  have hP3 := kept_blk hk3 hP2 (by omega) (by decide)
  obtain ⟨⟨y0, y1, y2, y3⟩, _⟩ := cells4 hP3
  have B3 : Below B w w3 := (((Below.refl _ _).alloc hB _).trans hb2).trans hb3
  have K3 : Lib.OthersKept 5 (some b) w w3 := (((Lib.OthersKept.refl _ _ _).alloc _).trans hk2).trans hk3
  go_wp2_with fail
  go_loopw [24] (fun iv wr => iv = .int .i64 0 ∧ Lib.IsBuilderF 353 5 B b (Lib.byteCells (acc ++ [40] ++ tx)) wr ∧ Below B w wr ∧ Lib.OthersKept 5 (some b) w wr)
    (fun _ _ => 0)
  case atStart => exact ⟨rfl, .inr h3, B3, K3⟩
  case round =>
    obtain ⟨rfl, hIr, hBr, hKr⟩ := hrel
    have hbr := hBr.size
    go_wp2_with (go_at_call 258; refine (writeByte_k B b (Lib.byteCells (acc ++ [40] ++ tx)) 41 _ hIr ?c1 ?c2).mono ?_)
    case c1 => rw [Lib.byteCells_length]; simp; omega
    case c2 => omega
    rintro e w5 ⟨rfl, h5, hb5, hk5⟩
    rw [show (41 : Int) = ((41 : UInt8).toNat : Int) from rfl, bc_byte] at h5
    go_wp2
    go_end0
    exact ⟨rfl, .inr (by simpa using h5), hBr.trans hb5, hKr.trans hk5⟩

theorem renders_len (ts : List Tr) : ts.length ≤ (renders ts).length := by
  induction ts with
  | nil => simp
  | cons t ts ih => simp [renders]; omega

theorem write_any (N : Nat) : WriteSpec N := by
  induction N using Nat.strongRecOn with
  | ind N ih =>
    intro t c B b acc w hsz hT hI hl hB
    obtain ⟨k, tx, br, ops, ao, n, cap, cs, rfl, hc, hn, hS, hown, hv⟩ := hT.inv
    obtain ⟨l⟩ := c
    simp only at hc
    subst hc
    subst hn
    have hin : ∀ t ∈ ops, SizeOf.sizeOf t ≤ SizeOf.sizeOf (Tr.mk k tx br ops) - 1 := by
      intro t ht
      have := List.sizeOf_lt_of_mem ht
      simp only [Tr.mk.sizeOf_spec]; omega
    cases br with
    | false =>
      have e : render (.mk k tx false ops) = tx := by rw [render]; rfl
      rw [e] at hl ⊢
      exact write_leaf k tx _ B b acc w hI hl hB ao ops.length cap rfl
    | true =>
      have e : render (.mk k tx true ops) = 40 :: (tx ++ renders ops ++ [41]) := by rw [render]; rfl
      rw [e] at hl ⊢
      have hz : 0 < SizeOf.sizeOf (Tr.mk k tx true ops) := by simp only [Tr.mk.sizeOf_spec]; omega
      rcases hown.2 with ⟨ev, h0⟩ | ⟨g, cap', cur, ev, _, hg, hcap, _⟩
      · have : ops = [] := List.length_eq_zero_iff.mp h0
        subst this
        simpa [renders] using write_br0 k tx B b acc w ao cap hI (by simpa [renders] using hl) hB
      · cases ev
        have hrl := renders_len ops
        refine write_br (SizeOf.sizeOf (Tr.mk k tx true ops) - 1) (ih _ (by omega)) k tx ops hin cs B b acc w g cap hcap (by simp at hl; omega) hS (fun j u hj => ?_) (hv g rfl) hI hl hB
        have := hown.cells (g := g) rfl j u hj
        rw [Addr.add_lit] at this
        simpa using this

theorem write_tree {t : Tr} {k : Int} {tx : Bs} {br : Bool} {v : Value} {B b : Nat} {acc : Bs} {w : World} (hT : IsTr w (fun g => g < B) [.int .i64 k, .string (ofBs tx), .bool br, v] t)
    (hI : Lib.IsBuilderF 353 5 B b (Lib.byteCells acc) w) (hl : acc.length + (render t).length ≤ 1000000) (hB : B ≤ w.heap.size) :
    Calls Tryz.prog 179 #[.agg #[.int .i64 k, .string (ofBs tx), .bool br, v], .pointer (some ⟨b, 0, none⟩)] w fun e w' => e = .returned (.tuple #[]) ∧ Lib.IsBuilderF 353 5 B b (Lib.byteCells (acc ++ render t)) w' ∧ Below B w w' ∧ Lib.OthersKept 5 (some b) w w' :=
  write_any (SizeOf.sizeOf t) t #[.int .i64 k, .string (ofBs tx), .bool br, v] B b acc w (Nat.le_refl _) hT hI hl hB
end Go.Proofs.YtilfjpmeededmaaGreatDoor

namespace Go.Proofs.YtilfjpmeededmaaGreatDoor
open Go.RowKit

theorem fresh_builder (w : World) : Lib.IsBuilderF 353 5 w.heap.size w.heap.size (Lib.byteCells []) (w.alloc (.cells #[.pointer none, .slice none 0 0] 353)) :=
  Lib.IsBuilderF.of (.inl ⟨Nat.le_refl _, .slice none 0 0, blk_new w _, World.ownsRow_nil _ _ _ _, by simp [Value.ownBlock]⟩)

set_option maxHeartbeats 1600000 in
set_option maxRecDepth 100000 in
theorem string_any {t : Tr} {k : Int} {tx : Bs} {br : Bool} {ao : Option Addr} {n cap : Nat} {w : World} {S : Nat → Prop} (hT : IsTr w S [.int .i64 k, .string (ofBs tx), .bool br, .slice ao n cap] t) (hl : (render t).length ≤ 1000000) :
    Calls Tryz.prog 107 #[.agg #[.int .i64 k, .string (ofBs tx), .bool br, .slice ao n cap]] w fun e w' => e = .returned (.string (ofBs (render t))) ∧ Below w.heap.size w w' := by
  have hT2 : ∀ o1 o2 : Obj, IsTr ((w.alloc o1).alloc o2) (fun g => g < w.heap.size + 1) [.int .i64 k, .string (ofBs tx), .bool br, .slice ao n cap] t := by
    intro o1 o2
    refine hT.bounded.move (fun g hg => ?_) (fun g hg => Nat.lt_succ_of_lt hg.2)
    rw [Below.heap_alloc _ _ _ (by simp; have := hg.2; omega), Below.heap_alloc _ _ _ hg.2]
  have hF : ∀ o1 : Obj, Lib.IsBuilderF 353 5 (w.heap.size + 1) (w.heap.size + 1) (Lib.byteCells []) ((w.alloc o1).alloc (.cells #[.pointer none, .slice none 0 0] 353)) := by
    intro o1; have := fresh_builder (w.alloc o1); simpa using this
  go_enter Tryz.func107, Tryz.ntmps107
  go_wp2_with (go_at_call 179; refine (write_tree (hT2 _ _) (hF _) ?c1 ?c2).mono ?_)
  case c1 => simpa using hl
  case c2 => simp
  rintro e w2 ⟨rfl, h2, hb2, hk2⟩
  have hs2 := hb2.size
  simp only [World.size_alloc] at hs2
  go_wp2_with (go_at_call 180; refine (Tryz.Builder_String_any_k (w.heap.size + 1) (w.heap.size + 1) _ _ h2 ?c1).mono ?_)
  case c1 => omega
  rintro e w3 ⟨rfl, h3, hb3, hk3⟩
  go_wp2
  go_ret
  have B2 : Below w.heap.size w w2 := (((Below.refl w.heap.size w).alloc (Nat.le_refl _) _).alloc (by simp) _).trans (hb2.mono (by omega))
  exact ⟨by simp [ofBs], B2.trans (hb3.mono (by omega))⟩

/-- What a list of tokens weighs: its bytes, and two for each. -/
def wt (ts : List Tk) : Nat := (ts.map fun t => t.2.length + 2).sum
theorem wt_cons (t : Tk) (ts : List Tk) : wt (t :: ts) = t.2.length + 2 + wt ts := by simp [wt]
theorem parse_wt : ∀ f : Nat, (∀ deep ts t r, treeF f deep ts = some (t, r) → (render t).length + 1 + wt r ≤ wt ts) ∧
    (∀ deep ts t r, brF f deep ts = some (t, r) → (render t).length + 1 + wt r ≤ wt ts + 2) ∧
    (∀ deep ts xs r, opsF f deep ts = some (xs, r) → (renders xs).length + 2 + wt r ≤ wt ts) := by
  intro f
  induction f with
  | zero => exact ⟨fun _ _ _ _ h => by simp [treeF] at h, fun _ _ _ _ h => by simp [brF] at h, fun _ _ _ _ h => by simp [opsF] at h⟩
  | succ f ih =>
    obtain ⟨i1, i2, i3⟩ := ih
    refine ⟨fun deep ts t r h => ?_, fun deep ts t r h => ?_, fun deep ts xs r h => ?_⟩
    · cases ts with
      | nil => simp [treeF] at h
      | cons c ts =>
        rw [treeF] at h
        rw [wt_cons]
        by_cases hc : c.1 = 1
        · rw [if_pos hc] at h
          have := i2 _ _ _ _ h
          omega
        · rw [if_neg hc] at h
          cases hA : aloneS c.1 c.2 with
          | false => rw [hA] at h; simp at h
          | true =>
            rw [hA, if_pos rfl] at h
            simp only [Option.some.injEq, Prod.mk.injEq] at h
            obtain ⟨rfl, rfl⟩ := h
            rw [render]; simp
    · cases ts with
      | nil => simp [brF] at h
      | cons c ts =>
        rw [brF] at h
        rw [wt_cons]
        by_cases hd : 20 < deep
        · rw [if_pos hd] at h; simp at h
        · rw [if_neg hd] at h
          cases hA : headS c.1 c.2 with
          | false => rw [hA] at h; simp at h
          | true =>
            rw [hA, if_pos rfl] at h
            obtain ⟨⟨xs, r'⟩, ho, he⟩ := Option.map_eq_some_iff.mp h
            simp only [Prod.mk.injEq] at he
            obtain ⟨rfl, rfl⟩ := he
            have := i3 _ _ _ _ ho
            rw [render]; simp; omega
    · cases ts with
      | nil => simp [opsF] at h
      | cons c ts =>
        rw [opsF] at h
        by_cases hc : c.1 = 2
        · rw [if_pos hc] at h
          simp only [Option.some.injEq, Prod.mk.injEq] at h
          obtain ⟨rfl, rfl⟩ := h
          rw [wt_cons]; simp [renders]
        · rw [if_neg hc] at h
          cases ht : treeF f deep (c :: ts) with
          | none => rw [ht] at h; simp at h
          | some p =>
            obtain ⟨x, r'⟩ := p
            rw [ht] at h
            obtain ⟨⟨xs', r''⟩, ho, he⟩ := Option.map_eq_some_iff.mp h
            simp only [Prod.mk.injEq] at he
            obtain ⟨rfl, rfl⟩ := he
            have h1 := i1 _ _ _ _ ht
            have h3 := i3 _ _ _ _ ho
            simp [renders]; omega
theorem scan_wt : ∀ (n : Nat) (l : Bs) (ts : List Tk), l.length ≤ n → scanS l = some ts → wt ts ≤ 3 * l.length := by
  intro n
  induction n with
  | zero => intro l ts h hs; rw [scanS_nil l (by omega)] at hs; simp only [Option.some.injEq] at hs; subst hs; simp [wt]
  | succ n ih =>
    intro l ts h hs
    by_cases h0 : l.length = 0
    · rw [scanS_nil l h0] at hs; simp only [Option.some.injEq] at hs; subst hs; simp [wt]
    · rw [scanS_eq l (by omega)] at hs
      cases hb : blankB (l.headD 0).toNat with
      | true =>
        rw [hb, if_pos rfl] at hs
        have := ih _ _ (by simp; omega) hs
        simp at this; omega
      | false =>
        have hp := plen_pos l (by omega) hb
        have hp2 := plen_le l (by omega)
        rw [hb, if_neg Bool.false_ne_true] at hs
        by_cases hk : kindS (l.take (plen l)) = 0
        · rw [if_pos hk] at hs; simp at hs
        · rw [if_neg hk] at hs
          obtain ⟨ts', hs', rfl⟩ := Option.map_eq_some_iff.mp hs
          have := ih _ _ (by simp; omega) hs'
          rw [wt_cons]; simp at this ⊢; omega
theorem parseS_len (l : Bs) (t : Tr) (h : parseS l = some t) : (render t).length ≤ 1200 := by
  unfold parseS at h
  by_cases hl : 400 < l.length
  · rw [if_pos hl] at h; simp at h
  · rw [if_neg hl] at h
    obtain ⟨ts, h1, h2⟩ := Option.bind_eq_some_iff.mp h
    have hw := scan_wt _ l ts (Nat.le_refl _) h1
    unfold parseT at h2
    cases ht : treeF (2 * ts.length) 0 ts with
    | none => rw [ht] at h2; simp at h2
    | some p =>
      obtain ⟨x, r⟩ := p
      rw [ht] at h2
      cases r with
      | cons _ _ => simp at h2
      | nil =>
        simp only [Option.some.injEq] at h2
        subst h2
        have := (parse_wt _).1 _ _ _ _ ht
        omega

def tidyS (l : Bs) : Option Bs := (parseS l).map render

set_option maxHeartbeats 1600000 in
set_option maxRecDepth 100000 in
theorem tidy_any (s : ByteArray) (w : World) (hs : s.size ≤ maxLen) :
    Calls Tryz.prog 66 #[.string s] w fun e w' => Below w.heap.size w w' ∧
      ((tidyS s.toList = none ∧ e = .returned (.tuple #[.string ⟨#[]⟩, .int .i64 1])) ∨ (∃ l, tidyS s.toList = some l ∧ l.length ≤ 1200 ∧ e = .returned (.tuple #[.string (ofBs l), .int .i64 0]))) := by
  go_enter Tryz.func66, Tryz.ntmps66
  go_wp2_with (go_at_call 106; refine (parse_any s _ hs).mono ?_)
  rintro e w2 ⟨hb2, hres⟩
  rcases hres with ⟨ho, rfl⟩ | ⟨k, tx, br, ao, n, cap, t, ho, rfl, hT⟩
  · have HO : Hid (tidyS s.toList = none) := by rw [Hid, tidyS, ho]; rfl
    clear ho
    go_wp2_with fail
    go_ret2
    exact ⟨hb2.trans ((Below.refl _ _).alloc (Nat.le_refl _) _ |>.mono hb2.size), .inl ⟨HO.out, rfl⟩⟩
  · have hlen := parseS_len _ _ ho
    have HO : Hid (tidyS s.toList = some (render t)) := by rw [Hid, tidyS, ho]; rfl
    have HT : ∀ o : Obj, IsTr (w2.alloc o) (fun _ => True) [.int .i64 k, .string (ofBs tx), .bool br, .slice ao n cap] t := by
      intro o
      exact hT.bounded.move (fun g hg => Below.heap_alloc _ _ _ hg.2) (fun _ _ => trivial)
    clear ho hT
    go_wp2_with (go_at_call 107; refine (string_any (HT _) (by omega)).mono ?_; rintro e w3 ⟨rfl, hb3⟩)
    go_ret2
    have B3 : Below w2.heap.size w2 w3 := ((Below.refl _ _).alloc (Nat.le_refl _) _).trans (hb3.mono (by simp))
    exact ⟨hb2.trans (B3.mono hb2.size), .inr ⟨_, HO.out, hlen, rfl⟩⟩
end Go.Proofs.YtilfjpmeededmaaGreatDoor

/- Package work: what working out finds in memory; values. -/
import Derived.Test.YtilfjpmeededmaaGreatDoorEvGZ
namespace Go.Proofs.YtilfjpmeededmaaGreatDoor
open Go.RowKit

/-- The worker and the functions, in memory. -/
structure EnvIn (w : World) (FB : List Nat) (fns : List Fn) (user : Bs) (wb : Nat) : Prop where
  wk : ∃ no nn nc, w.heap[wb]? = some (.cells #[.string (ofBs user), .slice no nn nc] 128 (0, 0))
  fb : FB.length = fns.length
  fn : ∀ (i q : Nat) (fn : Fn), FB[i]? = some q → fns[i]? = some fn → FnAt w FB q fn
theorem EnvIn.keep {w x : World} {FB : List Nat} {fns : List Fn} {user : Bs} {wb : Nat} (h : EnvIn w FB fns user wb) (hb : Below w.heap.size w x) : EnvIn x FB fns user wb := by
  obtain ⟨⟨no, nn, nc, h1⟩, h2, h3⟩ := h
  exact ⟨⟨no, nn, nc, (hb.block wb (block_lt h1)).trans h1⟩, h2, fun i q fn a b => (h3 i q fn a b).keep hb⟩
structure FrIn (w : World) (FB : List Nat) (fns : List Fn) (user : Bs) (wb : Nat) (cv av : Value) (cols args : List CellT) : Prop where
  env : EnvIn w FB fns user wb
  cols : CellsIn w cv cols
  args : CellsIn w av args
theorem FrIn.keep {w x : World} {FB : List Nat} {fns : List Fn} {user : Bs} {wb : Nat} {cv av : Value} {cols args : List CellT} (h : FrIn w FB fns user wb cv av cols args) (hb : Below w.heap.size w x) : FrIn x FB fns user wb cv av cols args :=
  ⟨h.env.keep hb, h.cols.keep hb, h.args.keep hb⟩
theorem FrIn.lt {w : World} {FB : List Nat} {fns : List Fn} {user : Bs} {wb : Nat} {cv av : Value} {cols args : List CellT} (h : FrIn w FB fns user wb cv av cols args) : wb < w.heap.size := by
  obtain ⟨_, _, _, h1⟩ := h.env.wk; exact block_lt h1
def Vald (w : World) (v : CellT) (e : Ending) (w' : World) : Prop := e = .returned (.tuple #[.agg #[.int .i64 v.1, .int .i64 v.2.1, .string (ofBs v.2.2)], .int .i64 0]) ∧ Below w.heap.size w w'
/-- What value does, of what is quiet. -/
def ValSpec (fns : List Fn) (user : Bs) (N : Nat) : Prop := ∀ (e : Ex) (v : CellT) (w : World) (FB : List Nat) (wb : Nat) (cols args : List CellT) (co : Option Addr) (cn cc : Nat) (ao : Option Addr) (an ac : Nat) (c : Array Value), evQ fns user N cols args e = some v →
  FrIn w FB fns user wb (.slice co cn cc) (.slice ao an ac) cols args → IsEx w FB (fun _ => True) c.toList e →
  Calls Tryz.prog 82 #[.agg #[.pointer (some ⟨wb, 0, none⟩), .slice co cn cc, .slice ao an ac], .agg c] w fun e w' => Vald w v e w'
def cellVals (c : CellT) : List Value := [.int .i64 c.1, .int .i64 c.2.1, .string (ofBs c.2.2)]
def cellCells : List CellT → List Value
  | [] => []
  | c :: cs => cellVals c ++ cellCells cs
theorem cellCells_append (a b : List CellT) : cellCells (a ++ b) = cellCells a ++ cellCells b := by
  induction a with
  | nil => rfl
  | cons c cs ih => simp [cellCells, ih]
theorem cellCells_get : ∀ (cs : List CellT) (i : Nat) (c : CellT), cs[i]? = some c → ∀ j, j < 3 → (cellCells cs)[i * 3 + j]? = (cellVals c)[j]?
  | [], i, c, h, _, _ => by simp at h
  | d :: cs, 0, c, h, j, hj => by
    simp at h; subst h
    rw [cellCells, List.getElem?_append_left (by simp [cellVals]; omega)]; simp
  | d :: cs, i + 1, c, h, j, hj => by
    have := cellCells_get cs i c (by simpa using h) j hj
    rw [cellCells, List.getElem?_append_right (by simp [cellVals]; omega), ← this]
    congr 1; simp [cellVals]; omega
theorem cellsIn_own {w : World} {b : Nat} {v : Value} {cs : List CellT} (h : w.ownsRow b 50 3 v cs.length (cellCells cs)) (hl : cs.length ≤ 1000) : CellsIn w v cs := by
  rcases h.2 with ⟨rfl, h0⟩ | ⟨g, cap, cur, rfl, hr⟩
  · have : cs = [] := List.length_eq_zero_iff.mp h0
    subst this; exact ⟨_, _, rfl, by simp, .inl rfl⟩
  · refine ⟨_, _, rfl, by unfold maxLen; omega, .inr ⟨g, 0, rfl, (h.lt g rfl).2, fun i c hc => ?_⟩⟩
    have k : ∀ j u, j < 3 → (cellVals c)[j]? = some u → w.cell? ⟨g, i * 3 + j, none⟩ = some u := by
      intro j u hj hu
      have := h.cells (g := g) rfl (i * 3 + j) u (by rw [cellCells_get cs i c hc j hj]; exact hu)
      rw [Addr.add_lit] at this
      simpa using this
    refine ⟨?_, ?_, ?_⟩
    · have := k 0 _ (by omega) rfl; simpa using this
    · have := k 1 _ (by omega) rfl; simpa using this
    · have := k 2 _ (by omega) rfl; simpa using this
theorem infoCell : (Tryz.prog.info? 50).map (fun i => (i.zero, i.size, i.bytes)) = some (some (.agg #[.int .i64 0, .int .i64 0, .string ⟨#[]⟩]), 3, 32) := by kernel_rfl
theorem exs_cell {w : World} {FB : List Nat} {ao : Option Addr} {n cap : Nat} {es : List Ex} (h : ExsIn w FB (.slice ao n cap) es) (i : Nat) (hi : i < es.length) : ∃ g sort ty size quiet vk vn vs place head fp xo xn xc, ao = some ⟨g, 0, none⟩ ∧ g < w.heap.size ∧
    IsEx w FB (fun _ => True) [.int .i64 sort, .int .i64 ty, .int .i64 size, .bool quiet, .int .i64 vk, .int .i64 vn, .string (ofBs vs), .int .i64 place, .string (ofBs head), .pointer fp, .slice xo xn xc] es[i] ∧
    ∀ x : World, (∀ p : Addr, p.block = g → x.cell? p = w.cell? p) → x.cell? ⟨g, i * 11, none⟩ = some (.int .i64 sort) ∧ x.cell? ⟨g, i * 11 + 1, none⟩ = some (.int .i64 ty) ∧ x.cell? ⟨g, i * 11 + 2, none⟩ = some (.int .i64 size) ∧ x.cell? ⟨g, i * 11 + 3, none⟩ = some (.bool quiet) ∧ x.cell? ⟨g, i * 11 + 4, none⟩ = some (.int .i64 vk) ∧ x.cell? ⟨g, i * 11 + 5, none⟩ = some (.int .i64 vn) ∧ x.cell? ⟨g, i * 11 + 6, none⟩ = some (.string (ofBs vs)) ∧ x.cell? ⟨g, i * 11 + 7, none⟩ = some (.int .i64 place) ∧ x.cell? ⟨g, i * 11 + 8, none⟩ = some (.string (ofBs head)) ∧ x.cell? ⟨g, i * 11 + 9, none⟩ = some (.pointer fp) ∧ x.cell? ⟨g, i * 11 + 10, none⟩ = some (.slice xo xn xc) := by
  obtain ⟨cs, ao', cap', e, hown, hex⟩ := h
  cases e
  obtain ⟨g, rfl⟩ : ∃ g, ao = some ⟨g, 0, none⟩ := by
    rcases hown.2 with ⟨h, h0⟩ | ⟨g, cap', cur, h, _⟩
    · omega
    · cases h; exact ⟨g, rfl⟩
  obtain ⟨c, hc, hcj⟩ := hex.get i hi
  obtain ⟨sort, ty, size, quiet, vk, vn, vs, place, head, fi, ops, fp, ao1, n1, cap1, cs1, ht, rfl, hn1, _, _, _, _⟩ := hc.inv
  refine ⟨g, sort, ty, size, quiet, vk, vn, vs, place, head, fp, ao1, n1, cap1, rfl, (hown.lt g rfl).2, hc, fun x hx => ?_⟩
  have cell : ∀ j u, j < 11 → [Value.int .i64 sort, .int .i64 ty, .int .i64 size, .bool quiet, .int .i64 vk, .int .i64 vn, .string (ofBs vs), .int .i64 place, .string (ofBs head), .pointer fp, .slice ao1 n1 cap1][j]? = some u → x.cell? ⟨g, i * 11 + j, none⟩ = some u := by
    intro j u hj hu
    have := hown.cells (g := g) rfl (i * 11 + j) u (by rw [hcj j hj]; exact hu)
    rw [Addr.add_lit] at this
    exact (hx ⟨g, i * 11 + j, none⟩ rfl).trans (by simpa using this)
  exact ⟨by have := cell 0 _ (by omega) rfl; simpa using this, cell 1 _ (by omega) rfl, cell 2 _ (by omega) rfl, cell 3 _ (by omega) rfl, cell 4 _ (by omega) rfl, cell 5 _ (by omega) rfl, cell 6 _ (by omega) rfl, cell 7 _ (by omega) rfl, cell 8 _ (by omega) rfl, cell 9 _ (by omega) rfl, cell 10 _ (by omega) rfl⟩
theorem cells3 {x : World} {b : Nat} {a0 a1 a2 : Value} {T : TypeId} (h : x.heap[b]? = some (.cells #[a0, a1, a2] T (0, 0))) :
    (x.cell? ⟨b, 0, none⟩ = some a0 ∧ x.cell? ⟨b, 1, none⟩ = some a1 ∧ x.cell? ⟨b, 2, none⟩ = some a2) ∧ (x.frozen? ⟨b, 0, none⟩ = false ∧ x.frozen? ⟨b, 1, none⟩ = false ∧ x.frozen? ⟨b, 2, none⟩ = false) := by
  simp [World.cell?, World.frozen?, h]

set_option maxHeartbeats 4000000 in
set_option maxRecDepth 100000 in
theorem values_any (fns : List Fn) (user : Bs) (N : Nat) (HV : ValSpec fns user N) (w : World) (FB : List Nat) (wb : Nat) (cols args : List CellT) (co : Option Addr) (cn cc : Nat) (ao : Option Addr) (an ac : Nat)
    (hF : FrIn w FB fns user wb (.slice co cn cc) (.slice ao an ac) cols args) (oo : Option Addr) (on oc : Nat) (es : List Ex) (hE : ExsIn w FB (.slice oo on oc) es) (hl : es.length ≤ 1000) (cs : List CellT) (hv : valsQ (evQ fns user N cols args) es = some cs) :
    Calls Tryz.prog 219 #[.agg #[.pointer (some ⟨wb, 0, none⟩), .slice co cn cc, .slice ao an ac], .slice oo on oc] w fun e w' => ∃ ro rn rc, e = .returned (.tuple #[.slice ro rn rc, .int .i64 0]) ∧ CellsIn w' (.slice ro rn rc) cs ∧ Below w.heap.size w w' := by
  obtain ⟨i0, hi, hz0, hz1, hz2⟩ := info_parts infoCell
  obtain ⟨hlen, hget⟩ := valsQ_get hv
  have hon : on = es.length := by obtain ⟨_, _, _, e, _⟩ := hE; cases e; rfl
  subst hon
  go_enter Tryz.func219, Tryz.ntmps219
  go_wp2_with fail
  go_loopw [6, 13] (fun kv iv wr => ∃ (i kn kc : Nat) (ko : Option Addr), i ≤ es.length ∧ kv = .slice ko kn kc ∧ iv = .int .i64 i ∧ wr.ownsRow (w.heap.size + 1) 50 3 (.slice ko kn kc) i (cellCells (cs.take i)) ∧ Below (w.heap.size + 1) (w.alloc (.cells #[.pointer (some ⟨wb, 0, none⟩), .slice co cn cc, .slice ao an ac] 193)) wr) (fun _ iv _ => es.length - (intOf iv).toNat)
  case atStart => exact ⟨0, 0, 0, none, Nat.zero_le _, rfl, rfl, World.ownsRow_nil _ _ _ _, Below.refl _ _⟩
  case round =>
    obtain ⟨i, kn, kc, ko, hi', rfl, rfl, hko, hB⟩ := hrel
    have hsz := hB.size
    simp only [World.size_alloc] at hsz
    have hW : Below w.heap.size w wr := (below_box w _).trans (hB.mono (by omega))
    by_cases hlt : i < es.length
    · obtain ⟨g, sort, ty, size, quiet, vk, vn, vs, place, head, fp, xo, xn, xc, rfl, hg, hx, hcell⟩ := exs_cell hE i hlt
      obtain ⟨q0, q1, q2, q3, q4, q5, q6, q7, q8, q9, q10⟩ := hcell wr fun p hp => hW.cell (by rw [hp]; exact hg)
      obtain ⟨cv, hcv, hev⟩ := hget i hlt
      obtain ⟨⟨f0, f1, f2⟩, _⟩ := cells3 ((hB.block w.heap.size (by omega)).trans (heap_alloc_new w _))
      have hgr : g < wr.heap.size := by omega
      have hwr : w.heap.size < wr.heap.size := by omega
      have HT : Hid (cs.take (i + 1) = cs.take i ++ [cv]) := by
        have hlc : i < cs.length := by omega
        rw [Hid, List.take_succ_eq_append_getElem hlc]
        rw [List.getElem?_eq_getElem hlc] at hcv
        rw [Option.some.inj hcv]
      have HC := HV es[i] cv (wr.alloc (.cells #[.int .i64 sort, .int .i64 ty, .int .i64 size, .bool quiet, .int .i64 vk, .int .i64 vn, .string (ofBs vs), .int .i64 place, .string (ofBs head), .pointer fp, .slice xo xn xc] 122)) FB wb cols args co cn cc ao an ac #[.int .i64 sort, .int .i64 ty, .int .i64 size, .bool quiet, .int .i64 vk, .int .i64 vn, .string (ofBs vs), .int .i64 place, .string (ofBs head), .pointer fp, .slice xo xn xc] hev ((hF.keep hW).keep (below_box wr _)) ((hx.keep hW).keep (below_box wr _))
      clear hcell hev hx hcv hE hF hget hv
      go_wp2_with (first
        | (go_at_call 82; refine HC.mono ?_; rintro e w2 ⟨rfl, hb2⟩; have hB2 : Below wr.heap.size wr w2 := (below_box wr _).trans (hb2.mono (by simp [World.size_alloc])); have hs2 := hB2.size)
        | (at_builtin; refine wpList_append_own _ rfl (.tmp 26) (.tmp 28) 47 rfl (w.heap.size + 1) 50 i0 (.agg #[.int .i64 0, .int .i64 0, .string ⟨#[]⟩]) 3 32 Tryz.underlying47 hi hz0 hz1 hz2 rfl (by decide) _ _ _ rfl (((owns_keep hko (x := w2) ?c0).alloc _).alloc _) ⟨w2.heap.size + 1, 0, none⟩ 1 1 [.int .i64 cv.1, .int .i64 cv.2.1, .string (ofBs cv.2.2)] rfl rfl ?c1 ?c2 ?c3 ?c4 ?c5 ?_))
      case c0 => intro q hq; exact hB2.block q (hko.lt q hq).2
      case c1 =>
        intro j u hj
        match j, hj with
        | 0, hj | 1, hj | 2, hj => simp at hj; subst hj; simp [Addr.add]
      case c2 => intro u hu; simp at hu; rcases hu with rfl | rfl | rfl <;> rfl
      case c3 => unfold maxLen; omega
      case c4 => omega
      case c5 => simp; omega
      · intro v' w3 hown' hgrow _
        obtain ⟨ao', n', cap', rfl⟩ : ∃ ao' n' cap', v' = .slice ao' n' cap' := by
          rcases hown'.2 with ⟨e, _⟩ | ⟨q, cap', cur, e, _⟩ <;> exact ⟨_, _, _, e⟩
        have R : w3.ownsRow (w.heap.size + 1) 50 3 (.slice ao' n' cap') (i + 1) (cellCells (cs.take (i + 1))) := by
          rw [HT.out, cellCells_append]; exact hown'
        have RB : Below (w.heap.size + 1) (w.alloc (.cells #[.pointer (some ⟨wb, 0, none⟩), .slice co cn cc, .slice ao an ac] 193)) w3 :=
          (((hB.trans (hB2.mono (by omega))).alloc (by omega) _).alloc (by simp; omega) _).grown hgrow (by simp; omega) (fun k hk => (hko.lt k hk).1)
        clear hown' hgrow hko HT q0 q1 q2 q3 q4 q5 q6 q7 q8 q9 q10 f0 f1 f2 hB hB2 hb2 hW
        go_wp2
        go_roundw
        case rel => exact ⟨i + 1, _, _, _, by omega, rfl, by go_num, R, RB⟩
        case measure => simp [intOf]; omega
    · have hil : i = cs.length := by omega
      have HI : Hid (CellsIn wr (.slice ko kn kc) cs) := by
        rw [hil, List.take_length] at hko
        exact cellsIn_own hko (by omega)
      clear hko hE hF hget hv
      go_wp2_with fail
      go_ret2
      exact ⟨_, _, _, rfl, HI.out, hW⟩
end Go.Proofs.YtilfjpmeededmaaGreatDoor

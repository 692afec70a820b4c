import Derived.Test.YtilfjpmeededmaaGreatDoorRows
import Derived.Test.YtilfjpmeededmaaGreatDoorLbEZ
import Derived.Deep.Slices
import Derived.WalkKit
import Derived.ProofKit
import Derived.OpenShut
import Derived.ShutString
import Derived.ChangeOld
import Derived.Below
set_option linter.unusedVariables false
set_option linter.unusedSimpArgs false
namespace Go.Proofs.YtilfjpmeededmaaGreatDoor
open Go.ChangeShapes Go.WideShapes Go.ChangeAt Go.RowKit
theorem lb_lt {w : World} {b off : Nat} {v : Value} (h : w.cell? ⟨b, off, none⟩ = some v) : b < w.heap.size := by
  rcases Nat.lt_or_ge b w.heap.size with h' | h'
  · exact h'
  · simp [World.cell?, Array.getElem?_eq_none h'] at h
theorem list_of {α : Type} {n : Nat} {p : Nat → α → Prop} (h : ∀ i, i < n → ∃ a, p i a) : ∃ l : List α, l.length = n ∧ ∀ (i : Nat) (a : α), l[i]? = some a → p i a := by
  refine ⟨List.ofFn fun i : Fin n => Classical.choose (h i.1 i.2), by simp, fun i a hi => ?_⟩
  have hil := (List.getElem?_eq_some_iff.mp hi).1
  rw [List.length_ofFn] at hil
  rw [List.getElem?_ofFn, dif_pos hil] at hi
  cases hi
  exact Classical.choose_spec (h i hil)
section
variable {H : Type}
theorem bulk_pos (d : DataW H) : 1 ≤ Rows.uptoBulk d := by
  cases d with
  | lit l => cases l <;> simp [Rows.uptoBulk]
  | _ => simp [Rows.uptoBulk]
theorem bulk_mem : ∀ (l : List (DataW H)) (d : DataW H), d ∈ l → Rows.uptoBulk d ≤ Rows.uptoBulkAll l
  | [], d, h => by simp at h
  | a :: r, d, h => by
    rw [Rows.uptoBulkAll]
    rcases List.mem_cons.mp h with rfl | h
    · omega
    · have := bulk_mem r d h; omega
theorem bulk_len : ∀ l : List (DataW H), l.length ≤ Rows.uptoBulkAll l
  | [] => by simp
  | a :: r => by rw [Rows.uptoBulkAll, List.length_cons]; have := bulk_len r; have := bulk_pos a; omega
end
section
variable {H : Type} {enc : TypeId × Value → H} {w : World} {base : Nat} {sp : Nat → Bool} {hd : Bool}
theorem read_list {t e : TypeId} {fuel M z : Nat} {cs : List Value} {x : DataW H × List MemPlace} (ht : Tryz.prog.underlying t = some (.slice e)) (hz : Tryz.prog.cellsOf e = z) (hzp : 0 < z) (h : DataW.trod enc Tryz.prog w base sp hd fuel t cs = some x) (hb : Rows.uptoBulk x.1 ≤ M) :
    ∃ (so : Option Addr) (n c : Nat), cs = [.slice so n c] ∧ n ≤ M ∧ n ≤ c ∧ (so = none → n = 0 ∧ c = 0) ∧ (n = 0 ∨ ∃ b off, so = some ⟨b, off, none⟩ ∧ b < w.heap.size ∧ ∀ i, i < n → ∃ (cs' : List Value) (y : DataW H × List MemPlace) (k : Nat), cs'.length = z ∧ (∀ (j : Nat) (v : Value), cs'[j]? = some v → w.cell? ⟨b, off + i * z + j, none⟩ = some v) ∧ DataW.trod enc Tryz.prog w base sp hd k e cs' = some y ∧ Rows.uptoBulk y.1 ≤ M) := by
  rcases Go.Deep.open_slice ht h with ⟨h0, _⟩ | ⟨a, l, c, m, n, D, Pl, hcs, _, hl, hm, hmm, hx, hel⟩
  · subst h0; exact ⟨none, 0, 0, rfl, Nat.zero_le _, Nat.le_refl _, fun _ => ⟨rfl, rfl⟩, .inl rfl⟩
  · subst hcs hx
    have hbl : Rows.uptoBulkAll ((List.range l).map D) ≤ M := by
      rw [Rows.uptoBulk] at hb; omega
    have hln : l ≤ M := by have := bulk_len ((List.range l).map D); rw [List.length_map, List.length_range] at this; omega
    refine ⟨some a, l, c, rfl, hln, hl, (fun e => by cases e), ?_⟩
    by_cases h0 : l = 0
    · exact .inl h0
    right
    have hlm : l ≤ m := by rw [hmm]; split <;> omega
    have each : ∀ i, i < l → ∃ (cs' : List Value), cs'.length = z ∧ (∀ (j : Nat) (v : Value), cs'[j]? = some v → w.cell? (a.add (i * z + j)) = some v) ∧ DataW.trod enc Tryz.prog w base sp hd n e cs' = some (D i, Pl i) := by
      intro i hi
      obtain ⟨cs', h1, h2⟩ := hel i (by omega)
      rw [hz] at h1
      obtain ⟨_, hlen, hcell⟩ := World.cells?_some h1
      refine ⟨cs', hlen, fun j v hv => ?_, h2⟩
      have hj := (List.getElem?_eq_some_iff.mp hv).1
      have := hcell j (by omega)
      rw [Go.Deep.add_add] at this
      rw [this]; exact hv
    obtain ⟨b, off, spot⟩ := a
    obtain ⟨cs0, hl0, hc0, _⟩ := each 0 (by omega)
    obtain ⟨v0, hv0⟩ : ∃ v, cs0[0]? = some v := ⟨_, List.getElem?_eq_getElem (by omega)⟩
    have hq := hc0 0 v0 hv0
    have hspot : spot = none := by simpa [Addr.add] using World.cell?_spot hq
    subst hspot
    rw [Addr.add_lit] at hq
    refine ⟨b, off, rfl, lb_lt hq, fun i hi => ?_⟩
    obtain ⟨cs', h1, h2, h3⟩ := each i hi
    refine ⟨cs', (D i, Pl i), n, h1, fun j v hv => ?_, h3, ?_⟩
    · have := h2 j v hv
      rwa [Addr.add_lit, ← Nat.add_assoc] at this
    · exact Nat.le_trans (bulk_mem _ _ (List.mem_map.mpr ⟨i, List.mem_range.mpr hi, rfl⟩)) hbl
theorem read_typed {α : Type} (f : α → List Value) (q : α → Prop) {t e : TypeId} {fuel M z : Nat} {cs : List Value} {x : DataW H × List MemPlace} (ht : Tryz.prog.underlying t = some (.slice e)) (hz : Tryz.prog.cellsOf e = z) (hzp : 0 < z) (h : DataW.trod enc Tryz.prog w base sp hd fuel t cs = some x) (hb : Rows.uptoBulk x.1 ≤ M)
    (hr : ∀ (cs' : List Value) (y : DataW H × List MemPlace) (k : Nat), cs'.length = z → DataW.trod enc Tryz.prog w base sp hd k e cs' = some y → Rows.uptoBulk y.1 ≤ M → ∃ a, cs' = f a ∧ q a) :
    ∃ (so : Option Addr) (n c : Nat) (l : List α), cs = [.slice so n c] ∧ n ≤ M ∧ n ≤ c ∧ (so = none → n = 0 ∧ c = 0) ∧ l.length = n ∧ (∀ a ∈ l, q a) ∧ (n = 0 ∨ ∃ b off, so = some ⟨b, off, none⟩ ∧ b < w.heap.size ∧ ∀ (i : Nat) (a : α), l[i]? = some a → ∀ (j : Nat) (v : Value), (f a)[j]? = some v → w.cell? ⟨b, off + i * z + j, none⟩ = some v) := by
  obtain ⟨so, n, c, rfl, h1, h2, h3, h4⟩ := read_list ht hz hzp h hb
  by_cases h0 : n = 0
  · exact ⟨so, n, c, [], rfl, h1, h2, h3, by simp [h0], fun a ha => by simp at ha, .inl h0⟩
  · obtain ⟨b, off, e1, hl, hel⟩ := h4.resolve_left h0
    obtain ⟨l, hl1, hl2⟩ := list_of (p := fun i a => q a ∧ ∀ (j : Nat) (v : Value), (f a)[j]? = some v → w.cell? ⟨b, off + i * z + j, none⟩ = some v) (fun i hi => by
      obtain ⟨cs', y, k, g1, g2, g3, g4⟩ := hel i hi
      obtain ⟨a, rfl, ha⟩ := hr cs' y k g1 g3 g4
      exact ⟨a, ha, g2⟩)
    refine ⟨so, n, c, l, rfl, h1, h2, h3, hl1, fun a ha => ?_, .inr ⟨b, off, e1, hl, fun i a hi => (hl2 i a hi).2⟩⟩
    obtain ⟨i, hi, rfl⟩ := List.getElem_of_mem ha
    exact (hl2 i _ (List.getElem?_eq_getElem hi)).1
theorem c_int : Tryz.prog.cellsOf 3 = 1 := by kernel_rfl
theorem c_str : Tryz.prog.cellsOf 9 = 1 := by kernel_rfl
theorem c_cell : Tryz.prog.cellsOf 50 = 3 := by kernel_rfl
theorem c_col : Tryz.prog.cellsOf 162 = 3 := by kernel_rfl
theorem c_fn : Tryz.prog.cellsOf 39 = 3 := by kernel_rfl
theorem c_tab : Tryz.prog.cellsOf 134 = 6 := by kernel_rfl
theorem c_base : Tryz.prog.cellsOf 43 = 2 := by kernel_rfl
theorem c_sl1 : Tryz.prog.cellsOf 47 = 1 := by kernel_rfl
theorem c_sl2 : Tryz.prog.cellsOf 24 = 1 := by kernel_rfl
theorem c_sl3 : Tryz.prog.cellsOf 132 = 1 := by kernel_rfl
theorem c_sl4 : Tryz.prog.cellsOf 34 = 1 := by kernel_rfl
theorem c_sl5 : Tryz.prog.cellsOf 40 = 1 := by kernel_rfl
theorem c_sl6 : Tryz.prog.cellsOf 41 = 1 := by kernel_rfl
theorem l2 {α : Type} {l : List α} (h : l.length = 2) : ∃ a b, l = [a, b] := by
  match l, h with
  | [a, b], _ => exact ⟨a, b, rfl⟩
theorem l3 {α : Type} {l : List α} (h : l.length = 3) : ∃ a b c, l = [a, b, c] := by
  match l, h with
  | [a, b, c], _ => exact ⟨a, b, c, rfl⟩
theorem l6 {α : Type} {l : List α} (h : l.length = 6) : ∃ a b c d e f, l = [a, b, c, d, e, f] := by
  match l, h with
  | [a, b, c, d, e, f], _ => exact ⟨a, b, c, d, e, f, rfl⟩
theorem read_cell {k : Nat} {cs : List Value} {y : DataW H × List MemPlace} (hl : cs.length = 3) (h : DataW.trod enc Tryz.prog w base sp hd k 50 cs = some y) : ∃ c : CellT, cs = [.int .i64 c.1, .int .i64 c.2.1, .string (ofBs c.2.2)] := by
  obtain ⟨xs, n, _, _, _, hxl, hf⟩ := DataW.trod_struct Tryz.underlying50 h
  obtain ⟨y0, y1, y2, rfl⟩ := l3 (show xs.length = 3 from hxl)
  obtain ⟨v0, v1, v2, rfl⟩ := l3 hl
  have g0 := hf 0 _ rfl
  have g1 := hf 1 _ rfl
  have g2 := hf 2 _ rfl
  simp [c_int, c_str] at g0 g1 g2
  obtain ⟨k0, u0, _⟩ := DataW.trod_int Tryz.underlying3 g0
  obtain ⟨k1, u1, _⟩ := DataW.trod_int Tryz.underlying3 g1
  obtain ⟨s, u2, _⟩ := DataW.trod_string Tryz.underlying9 g2
  simp only [List.cons.injEq, and_true] at u0 u1 u2
  subst u0 u1 u2
  exact ⟨(k0, k1, s.toList), by rw [← ba_eq s]⟩
theorem read_col {k : Nat} {cs : List Value} {y : DataW H × List MemPlace} (hl : cs.length = 3) (h : DataW.trod enc Tryz.prog w base sp hd k 162 cs = some y) : ∃ c : ColT, cs = [.string (ofBs c.1), .string (ofBs c.2.1), .int .i64 c.2.2] ∧ c.1.length ≤ maxLen ∧ c.2.1.length ≤ maxLen := by
  obtain ⟨xs, n, _, _, _, hxl, hf⟩ := DataW.trod_struct Tryz.underlying162 h
  obtain ⟨y0, y1, y2, rfl⟩ := l3 (show xs.length = 3 from hxl)
  obtain ⟨v0, v1, v2, rfl⟩ := l3 hl
  have g0 := hf 0 _ rfl
  have g1 := hf 1 _ rfl
  have g2 := hf 2 _ rfl
  simp [c_int, c_str] at g0 g1 g2
  obtain ⟨s, u0, _, hs⟩ := DataW.trod_string Tryz.underlying9 g0
  obtain ⟨t, u1, _, ht⟩ := DataW.trod_string Tryz.underlying9 g1
  obtain ⟨k2, u2, _⟩ := DataW.trod_int Tryz.underlying3 g2
  simp only [List.cons.injEq, and_true] at u0 u1 u2
  subst u0 u1 u2
  exact ⟨(s.toList, t.toList, k2), by rw [← ba_eq s, ← ba_eq t], by rw [toList_length]; exact hs, by rw [toList_length]; exact ht⟩
theorem read_fn {k : Nat} {cs : List Value} {y : DataW H × List MemPlace} (hl : cs.length = 3) (h : DataW.trod enc Tryz.prog w base sp hd k 39 cs = some y) : ∃ f : FnT, cs = [.string (ofBs f.1), .string (ofBs f.2.1), .string (ofBs f.2.2)] ∧ f.1.length ≤ maxLen ∧ f.2.1.length ≤ maxLen ∧ f.2.2.length ≤ maxLen := by
  obtain ⟨xs, n, _, _, _, hxl, hf⟩ := DataW.trod_struct Tryz.underlying39 h
  obtain ⟨y0, y1, y2, rfl⟩ := l3 (show xs.length = 3 from hxl)
  obtain ⟨v0, v1, v2, rfl⟩ := l3 hl
  have g0 := hf 0 _ rfl
  have g1 := hf 1 _ rfl
  have g2 := hf 2 _ rfl
  simp [c_str] at g0 g1 g2
  obtain ⟨s, u0, _, hs⟩ := DataW.trod_string Tryz.underlying9 g0
  obtain ⟨t, u1, _, ht⟩ := DataW.trod_string Tryz.underlying9 g1
  obtain ⟨u, u2, _, hu⟩ := DataW.trod_string Tryz.underlying9 g2
  simp only [List.cons.injEq, and_true] at u0 u1 u2
  subst u0 u1 u2
  exact ⟨(s.toList, t.toList, u.toList), by rw [← ba_eq s, ← ba_eq t, ← ba_eq u], by rw [toList_length]; exact hs, by rw [toList_length]; exact ht, by rw [toList_length]; exact hu⟩
theorem read_str {k : Nat} {cs : List Value} {y : DataW H × List MemPlace} (_ : cs.length = 1) (h : DataW.trod enc Tryz.prog w base sp hd k 9 cs = some y) : ∃ l : Bs, cs = [.string (ofBs l)] := by
  obtain ⟨s, u0, _, hs⟩ := DataW.trod_string Tryz.underlying9 h
  exact ⟨s.toList, by rw [u0, ← ba_eq s]⟩
end
end Go.Proofs.YtilfjpmeededmaaGreatDoor

namespace Go.Proofs.YtilfjpmeededmaaGreatDoor
open Go.ChangeShapes Go.WideShapes Go.ChangeAt Go.RowKit
theorem flat3_inv {α : Type} (f : α → List Value) (hf : ∀ a, (f a).length = 3) {l : List α} {j : Nat} {v : Value} (h : (l.flatMap f)[j]? = some v) : ∃ a, l[j / 3]? = some a ∧ (f a)[j % 3]? = some v := by
  have hj := (List.getElem?_eq_some_iff.mp h).1
  rw [flat3_len f hf] at hj
  have hl : j / 3 < l.length := by omega
  refine ⟨_, List.getElem?_eq_getElem hl, ?_⟩
  have := flat3 f hf l (j / 3) (j % 3) _ (List.getElem?_eq_getElem hl) (by omega)
  rw [show j / 3 * 3 + j % 3 = j by omega] at this
  rw [← this]; exact h
theorem want3 {α : Type} (f : α → List Value) (hf : ∀ a, (f a).length = 3) {w : World} {so : Option Addr} {n : Nat} {l : List α} (hl : l.length = n) (h : n = 0 ∨ ∃ b off, so = some ⟨b, off, none⟩ ∧ b < w.heap.size ∧ ∀ (i : Nat) (a : α), l[i]? = some a → ∀ (j : Nat) (v : Value), (f a)[j]? = some v → w.cell? ⟨b, off + i * 3 + j, none⟩ = some v) : WantIn w 3 so n (l.flatMap f) := by
  refine ⟨by rw [flat3_len f hf, hl], ?_⟩
  rcases h with h | ⟨b, off, e, hb, hc⟩
  · exact .inl h
  · refine .inr ⟨b, off, e, hb, fun j v hv => ?_⟩
    obtain ⟨a, ha, hav⟩ := flat3_inv f hf hv
    have := hc _ a ha _ v hav
    rwa [Nat.add_assoc, show j / 3 * 3 + j % 3 = j by omega] at this
section
variable {H : Type} {enc : TypeId × Value → H} {w : World} {base : Nat} {sp : Nat → Bool} {hd : Bool}
theorem read_cells {k : Nat} {cs : List Value} {y : DataW H × List MemPlace} (h : DataW.trod enc Tryz.prog w base sp hd k 47 cs = some y) (hb : Rows.uptoBulk y.1 ≤ 1048576) :
    ∃ (r : RowS) (l : List CellT), cs = [.slice r.ro r.rn r.rc] ∧ RowOk w r ∧ r.cs = cellCells l ∧ r.rn = l.length ∧ CellsIn w (.slice r.ro r.rn r.rc) l := by
  obtain ⟨so, n, c, l, rfl, h1, _, h3, h4, _, h6⟩ := read_typed (fun c : CellT => [Value.int .i64 c.1, .int .i64 c.2.1, .string (ofBs c.2.2)]) (fun _ => True) Tryz.underlying47 c_cell (by omega) h hb (fun cs' y k hl ht _ => by obtain ⟨c, hc⟩ := read_cell hl ht; exact ⟨c, hc, trivial⟩)
  refine ⟨⟨so, n, c, cellCells l⟩, l, rfl, ⟨h1, h3, want3 _ (fun _ => rfl) h4 h6, cells_one l, cells_ty l n h4.symm⟩, rfl, h4.symm, ?_⟩
  refine ⟨so, c, by rw [h4], by rw [h4]; unfold maxLen; omega, ?_⟩
  rcases h6 with h | ⟨b, off, e, hl, hc⟩
  · exact .inl (List.eq_nil_of_length_eq_zero (by omega))
  · exact .inr ⟨b, off, e, hl, fun i a hi => ⟨hc i a hi 0 _ rfl, hc i a hi 1 _ rfl, hc i a hi 2 _ rfl⟩⟩
theorem read_rows {k : Nat} {cs : List Value} {y : DataW H × List MemPlace} (h : DataW.trod enc Tryz.prog w base sp hd k 24 cs = some y) (hb : Rows.uptoBulk y.1 ≤ 1048576) :
    ∃ (so : Option Addr) (n c : Nat) (rows : List RowS) (rs : List (List CellT)), cs = [.slice so n c] ∧ n ≤ 1048576 ∧ (so = none → n = 0 ∧ c = 0) ∧ RowsSrc w so n rows ∧ (∀ r ∈ rows, RowOk w r) ∧ n = rs.length ∧ rows.length = rs.length ∧ (∀ (i : Nat) (r : RowS) (l : List CellT), rows[i]? = some r → rs[i]? = some l → r.cs = cellCells l ∧ r.rn = l.length) ∧ RowsIn w (.slice so n c) rs := by
  obtain ⟨so, n, c, L, rfl, h1, _, h3, h4, h5, h6⟩ := read_typed (fun a : RowS × List CellT => [Value.slice a.1.ro a.1.rn a.1.rc]) (fun a => RowOk w a.1 ∧ a.1.cs = cellCells a.2 ∧ a.1.rn = a.2.length ∧ CellsIn w (.slice a.1.ro a.1.rn a.1.rc) a.2) Tryz.underlying24 c_sl1 (by omega) h hb (fun cs' y k _ ht hy => by obtain ⟨r, l, g1, g2, g3, g4, g5⟩ := read_cells ht hy; exact ⟨(r, l), g1, g2, g3, g4, g5⟩)
  refine ⟨so, n, c, L.map (·.1), L.map (·.2), rfl, h1, h3, ⟨by rw [List.length_map, h4], ?_⟩, ?_, by rw [List.length_map, h4], by rw [List.length_map, List.length_map], ?_, ⟨so, c, by rw [List.length_map, h4], by rw [List.length_map, h4]; unfold maxLen; omega, ?_⟩⟩
  · rcases h6 with h | ⟨b, off, e, hl, hc⟩
    · exact .inl h
    · refine .inr ⟨b, off, e, hl, fun i r hi => ?_⟩
      rw [List.getElem?_map] at hi
      obtain ⟨a, ha, rfl⟩ := Option.map_eq_some_iff.mp hi
      have := hc i a ha 0 _ rfl
      simpa using this
  · intro r hr
    obtain ⟨a, ha, rfl⟩ := List.mem_map.mp hr
    exact (h5 a ha).1
  · intro i r l hr hl
    rw [List.getElem?_map] at hr hl
    obtain ⟨a, ha, rfl⟩ := Option.map_eq_some_iff.mp hr
    rw [ha] at hl
    cases hl
    exact ⟨(h5 a (List.mem_of_getElem? ha)).2.1, (h5 a (List.mem_of_getElem? ha)).2.2.1⟩
  · rcases h6 with h | ⟨b, off, e, hl, hc⟩
    · exact .inl (by rw [List.eq_nil_of_length_eq_zero (show L.length = 0 by omega)]; rfl)
    · refine .inr ⟨b, off, e, hl, fun i l hi => ?_⟩
      rw [List.getElem?_map] at hi
      obtain ⟨a, ha, rfl⟩ := Option.map_eq_some_iff.mp hi
      exact ⟨_, _, _, by have := hc i a ha 0 _ rfl; simpa using this, (h5 a (List.mem_of_getElem? ha)).2.2.2⟩
theorem read_cols {k : Nat} {cs : List Value} {y : DataW H × List MemPlace} (h : DataW.trod enc Tryz.prog w base sp hd k 132 cs = some y) (hb : Rows.uptoBulk y.1 ≤ 1048576) :
    ∃ (r : RowS) (l : List ColT), cs = [.slice r.ro r.rn r.rc] ∧ SrcOk TyK w 3 r ∧ r.cs = colCells l ∧ r.rn = l.length ∧ (∀ c ∈ l, c.1.length ≤ maxLen ∧ c.2.1.length ≤ maxLen) ∧ ColsIn w (.slice r.ro r.rn r.rc) l := by
  obtain ⟨so, n, c, l, rfl, h1, h2, h3, h4, h5, h6⟩ := read_typed (fun c : ColT => [Value.string (ofBs c.1), .string (ofBs c.2.1), .int .i64 c.2.2]) (fun c => c.1.length ≤ maxLen ∧ c.2.1.length ≤ maxLen) Tryz.underlying132 c_col (by omega) h hb (fun cs' y k hl ht _ => by obtain ⟨c, hc, hq⟩ := read_col hl ht; exact ⟨c, hc, hq⟩)
  refine ⟨⟨so, n, c, colCells l⟩, l, rfl, ⟨h1, h3, want3 _ (fun _ => rfl) h4 h6, cols_one l, cols_ty l n h4.symm⟩, rfl, h4.symm, h5, ?_⟩
  refine ⟨so, c, by rw [h4], by rw [h4]; exact h2, by rw [h4]; unfold maxLen; omega, ?_⟩
  rcases h6 with h | ⟨b, off, e, hl, hc⟩
  · exact .inl (List.eq_nil_of_length_eq_zero (by omega))
  · exact .inr ⟨b, off, e, hl, fun i a hi => ⟨⟨hc i a hi 0 _ rfl, hc i a hi 1 _ rfl, hc i a hi 2 _ rfl⟩, h5 a (List.mem_of_getElem? hi)⟩⟩
theorem read_fns {k : Nat} {cs : List Value} {y : DataW H × List MemPlace} (h : DataW.trod enc Tryz.prog w base sp hd k 40 cs = some y) (hb : Rows.uptoBulk y.1 ≤ 1048576) :
    ∃ (so : Option Addr) (n c : Nat) (l : List FnT), cs = [.slice so n c] ∧ SrcOk TyF w 3 ⟨so, n, c, fnCells l⟩ ∧ (∀ f ∈ l, f.2.1.length ≤ maxLen) ∧ TextsIn w (.slice so n c) l := by
  obtain ⟨so, n, c, l, rfl, h1, h2, h3, h4, h5, h6⟩ := read_typed (fun f : FnT => [Value.string (ofBs f.1), .string (ofBs f.2.1), .string (ofBs f.2.2)]) (fun f => f.1.length ≤ maxLen ∧ f.2.1.length ≤ maxLen ∧ f.2.2.length ≤ maxLen) Tryz.underlying40 c_fn (by omega) h hb (fun cs' y k hl ht _ => by obtain ⟨c, hc, hq⟩ := read_fn hl ht; exact ⟨c, hc, hq⟩)
  refine ⟨so, n, c, l, rfl, ⟨h1, h3, want3 _ (fun _ => rfl) h4 h6, fns_one l, fns_ty l n h4.symm⟩, fun f hf => (h5 f hf).2.1, ?_⟩
  refine ⟨so, c, by rw [h4], by rw [h4]; unfold maxLen; omega, ?_⟩
  rcases h6 with h | ⟨b, off, e, hl, hc⟩
  · exact .inl (List.eq_nil_of_length_eq_zero (by omega))
  · exact .inr ⟨b, off, e, hl, fun i a hi => ⟨⟨hc i a hi 0 _ rfl, hc i a hi 1 _ rfl, hc i a hi 2 _ rfl⟩, (h5 a (List.mem_of_getElem? hi)).1, (h5 a (List.mem_of_getElem? hi)).2.2⟩⟩
theorem read_strs {k : Nat} {cs : List Value} {y : DataW H × List MemPlace} (h : DataW.trod enc Tryz.prog w base sp hd k 34 cs = some y) (hb : Rows.uptoBulk y.1 ≤ 1048576) :
    ∃ (r : RowS) (l : List Bs), cs = [.slice r.ro r.rn r.rc] ∧ SrcOk TyX w 1 r ∧ r.cs = txtCells l ∧ r.rn = l.length ∧ StrsIn w (.slice r.ro r.rn r.rc) l := by
  obtain ⟨so, n, c, l, rfl, h1, _, h3, h4, _, h6⟩ := read_typed (fun l : Bs => [Value.string (ofBs l)]) (fun _ => True) Tryz.underlying34 c_str (by omega) h hb (fun cs' y k hl ht _ => by obtain ⟨c, hc⟩ := read_str hl ht; exact ⟨c, hc, trivial⟩)
  have hcell : n = 0 ∨ ∃ b off, so = some ⟨b, off, none⟩ ∧ b < w.heap.size ∧ ∀ (i : Nat) (a : Bs), l[i]? = some a → w.cell? ⟨b, off + i, none⟩ = some (.string (ofBs a)) := by
    rcases h6 with h | ⟨b, off, e, hl, hc⟩
    · exact .inl h
    · exact .inr ⟨b, off, e, hl, fun i a hi => by have := hc i a hi 0 _ rfl; simpa using this⟩
  refine ⟨⟨so, n, c, txtCells l⟩, l, rfl, ⟨h1, h3, ⟨by rw [txtCells, List.length_map, h4, Nat.mul_one], ?_⟩, txts_one l, txts_ty l n h4.symm⟩, rfl, h4.symm, so, c, by rw [h4], by rw [h4]; unfold maxLen; omega, ?_⟩
  · rcases hcell with h | ⟨b, off, e, hl, hc⟩
    · exact .inl h
    · refine .inr ⟨b, off, e, hl, fun j v hv => ?_⟩
      rw [txtCells, List.getElem?_map] at hv
      obtain ⟨a, ha, rfl⟩ := Option.map_eq_some_iff.mp hv
      exact hc j a ha
  · rcases hcell with h | h
    · exact .inl (List.eq_nil_of_length_eq_zero (by omega))
    · exact .inr h
end
end Go.Proofs.YtilfjpmeededmaaGreatDoor

namespace Go.Proofs.YtilfjpmeededmaaGreatDoor
open Go.ChangeShapes Go.WideShapes Go.ChangeAt Go.RowKit
theorem agg_part {H : Type} {xs : List (DataW H × List MemPlace)} {x : DataW H × List MemPlace} {M : Nat} (h : Rows.uptoBulk (DataW.agg (xs.map (·.1))) ≤ M) (hx : x ∈ xs) : Rows.uptoBulk x.1 ≤ M := by
  rw [Rows.uptoBulk] at h
  have := bulk_mem (xs.map (·.1)) x.1 (List.mem_map.mpr ⟨x, hx, rfl⟩)
  omega
section
variable {H : Type} {enc : TypeId × Value → H} {w : World} {base : Nat} {sp : Nat → Bool} {hd : Bool}
def tabSCells (s : TabS) : List Value := [.string s.name, .slice s.k.ro s.k.rn s.k.rc, .slice s.ro s.rn s.rc, .int .i64 s.count, .string s.policy, .slice s.u.ro s.u.rn s.u.rc]
structure TabIn (w : World) (s : TabS) (t : TabT) : Prop where
  ok : TabOk w s
  ty : TabTy s t
  cols : ColsIn w (.slice s.k.ro s.k.rn s.k.rc) t.cols
  rows : RowsIn w (.slice s.ro s.rn s.rc) t.rows
  users : StrsIn w (.slice s.u.ro s.u.rn s.u.rc) t.users
theorem read_tab {k : Nat} {cs : List Value} {y : DataW H × List MemPlace} (hl : cs.length = 6) (h : DataW.trod enc Tryz.prog w base sp hd k 134 cs = some y) (hb : Rows.uptoBulk y.1 ≤ 1048576) : ∃ a : TabS × TabT, cs = tabSCells a.1 ∧ TabIn w a.1 a.2 := by
  obtain ⟨xs, n, _, hy, _, hxl, hf⟩ := DataW.trod_struct Tryz.underlying134 h
  subst hy
  obtain ⟨y0, y1, y2, y3, y4, y5, rfl⟩ := l6 (show xs.length = 6 from hxl)
  obtain ⟨v0, v1, v2, v3, v4, v5, rfl⟩ := l6 hl
  have g0 := hf 0 _ rfl
  have g1 := hf 1 _ rfl
  have g2 := hf 2 _ rfl
  have g3 := hf 3 _ rfl
  have g4 := hf 4 _ rfl
  have g5 := hf 5 _ rfl
  simp [c_int, c_str, c_sl2, c_sl3, c_sl4] at g0 g1 g2 g3 g4 g5
  obtain ⟨s, u0, _, hs⟩ := DataW.trod_string Tryz.underlying9 g0
  obtain ⟨kr, kl, u1, k1, k2, k3, k4, k5⟩ := read_cols g1 (agg_part hb (by simp))
  obtain ⟨ro, rn, rc, rows, rs, u2, r1, r2, r3, r4, r5, r6, r7, r8⟩ := read_rows g2 (agg_part hb (by simp))
  obtain ⟨cn, u3, _⟩ := DataW.trod_int Tryz.underlying3 g3
  obtain ⟨p, u4, _, hp⟩ := DataW.trod_string Tryz.underlying9 g4
  obtain ⟨ur, ul, u5, x1, x2, x3, x4⟩ := read_strs g5 (agg_part hb (by simp))
  simp only [List.cons.injEq, and_true] at u0 u1 u2 u3 u4 u5
  subst u0 u1 u2 u3 u4 u5
  refine ⟨(⟨s, kr, ro, rn, rc, rows, cn, p, ur⟩, ⟨s.toList, kl, rs, cn, p.toList, ul⟩), rfl, ⟨k1, x1, r1, r2, r3, r4⟩, ⟨ba_eq s, rfl, ba_eq p, k2, k3, x2, x3, r5, r6, r7, by show s.toList.length ≤ maxLen; rw [toList_length]; exact hs, by show p.toList.length ≤ maxLen; rw [toList_length]; exact hp, k4⟩, k5, r8, x4⟩
theorem read_base {k : Nat} {cs : List Value} {y : DataW H × List MemPlace} (hl : cs.length = 2) (h : DataW.trod enc Tryz.prog w base sp hd k 43 cs = some y) (hb : Rows.uptoBulk y.1 ≤ 1048576) : ∃ (fo : Option Addr) (fl fc : Nat) (to' : Option Addr) (tl tc : Nat) (fs : List FnT) (ts : List TabT), cs = [.slice fo fl fc, .slice to' tl tc] ∧ BaseS w fo fl fc to' tl tc fs ts := by
  obtain ⟨xs, n, _, hy, _, hxl, hf⟩ := DataW.trod_struct Tryz.underlying43 h
  subst hy
  obtain ⟨y0, y1, rfl⟩ := l2 (show xs.length = 2 from hxl)
  obtain ⟨v0, v1, rfl⟩ := l2 hl
  have g0 := hf 0 _ rfl
  have g1 := hf 1 _ rfl
  simp [c_sl5, c_sl6] at g0 g1
  obtain ⟨fo, fl, fc, fs, u0, f1, f2, f3⟩ := read_fns g0 (agg_part hb (by simp))
  obtain ⟨to', tl, tc, L, u1, t1, _, t3, t4, t5, t6⟩ := read_typed (fun a : TabS × TabT => tabSCells a.1) (fun a => TabIn w a.1 a.2) Tryz.underlying41 c_tab (by omega) g1 (agg_part hb (by simp)) (fun cs' y k hl ht hy => read_tab hl ht hy)
  simp only [List.cons.injEq, and_true] at u0 u1
  subst u0 u1
  refine ⟨fo, fl, fc, to', tl, tc, fs, L.map (·.2), rfl, f3, f2, ⟨to', tc, by rw [List.length_map, t4], by rw [List.length_map, t4]; unfold maxLen; omega, ?_⟩, f1, t1, t3, L.map (·.1), ⟨by rw [List.length_map, t4], ?_⟩, ?_, by rw [List.length_map, List.length_map], ?_⟩
  · rcases t6 with h | ⟨b, off, e, hl, hc⟩
    · exact .inl (by rw [List.eq_nil_of_length_eq_zero (show L.length = 0 by omega)]; rfl)
    · refine .inr ⟨b, off, e, hl, fun i t hi => ?_⟩
      rw [List.getElem?_map] at hi
      obtain ⟨a, ha, rfl⟩ := Option.map_eq_some_iff.mp hi
      have hT := t5 a (List.mem_of_getElem? ha)
      refine ⟨_, _, _, _, _, _, _, _, _, ⟨?_, hc i a ha 1 _ rfl, hc i a ha 2 _ rfl, ?_, ?_, hc i a ha 5 _ rfl⟩, hT.cols, hT.rows, hT.users, hT.ty.namel, hT.ty.policyl⟩
      · rw [← hT.ty.name]; exact hc i a ha 0 _ rfl
      · rw [← hT.ty.count]; exact hc i a ha 3 _ rfl
      · rw [← hT.ty.policy]; exact hc i a ha 4 _ rfl
  · rcases t6 with h | ⟨b, off, e, hl, hc⟩
    · exact .inl h
    · refine .inr ⟨b, off, e, hl, fun i s hi => ?_⟩
      rw [List.getElem?_map] at hi
      obtain ⟨a, ha, rfl⟩ := Option.map_eq_some_iff.mp hi
      exact ⟨hc i a ha 0 _ rfl, hc i a ha 1 _ rfl, hc i a ha 2 _ rfl, hc i a ha 3 _ rfl, hc i a ha 4 _ rfl, hc i a ha 5 _ rfl⟩
  · intro s hs
    obtain ⟨a, ha, rfl⟩ := List.mem_map.mp hs
    exact (t5 a ha).ok
  · intro i s t hs ht
    rw [List.getElem?_map] at hs ht
    obtain ⟨a, ha, rfl⟩ := Option.map_eq_some_iff.mp hs
    rw [ha] at ht
    cases ht
    exact (t5 a (List.mem_of_getElem? ha)).ty
theorem read_bases {k : Nat} {cs : List Value} {y : DataW H × List MemPlace} (h : DataW.trod enc Tryz.prog w base sp hd k 22 cs = some y) (hb : Rows.uptoBulk y.1 ≤ 1048576) :
    ∃ (a0 : Option Addr) (l0 c0 : Nat), cs = [.slice a0 l0 c0] ∧ l0 ≤ 1048576 ∧ (l0 = 0 ∨ ∃ b off, a0 = some ⟨b, off, none⟩ ∧ b < w.heap.size ∧ BasesAt w b off l0) := by
  obtain ⟨so, n, c, rfl, h1, _, _, h4⟩ := read_list Tryz.underlying22 c_base (by omega) h hb
  refine ⟨so, n, c, rfl, h1, ?_⟩
  rcases h4 with h | ⟨b, off, e, hl, hel⟩
  · exact .inl h
  · refine .inr ⟨b, off, e, hl, fun i hi => ?_⟩
    obtain ⟨cs', y, k, g1, g2, g3, g4⟩ := hel i hi
    obtain ⟨fo, fl, fc, to', tl, tc, fs, ts, rfl, hB⟩ := read_base g1 g3 g4
    exact ⟨fo, fl, fc, to', tl, tc, fs, ts, g2 0 _ rfl, g2 1 _ rfl, hB⟩
theorem c_op : Tryz.prog.cellsOf 103 = 6 := by kernel_rfl
theorem c_sli : Tryz.prog.cellsOf 30 = 1 := by kernel_rfl
theorem c_slb : Tryz.prog.cellsOf 22 = 1 := by kernel_rfl
theorem c_slq : Tryz.prog.cellsOf 23 = 1 := by kernel_rfl
theorem read_slice {k : Nat} {t e : TypeId} {cs : List Value} {y : DataW H × List MemPlace} (ht : Tryz.prog.underlying t = some (.slice e)) (h : DataW.trod enc Tryz.prog w base sp hd k t cs = some y) : ∃ a l c, cs = [.slice a l c] := by
  rcases DataW.trod_slice ht h with ⟨rfl, _⟩ | ⟨a, len, cap, _, _, _, _, rfl, _⟩ <;> exact ⟨_, _, _, rfl⟩
theorem read_goods {k : Nat} {cs : List Value} {y : DataW H × List MemPlace} (hl : cs.length = 3) (h : DataW.trod enc Tryz.prog w base sp hd k 26 cs = some y) (hb : Rows.uptoBulk y.1 ≤ 1048576) :
    ∃ a0 l0 c0 a1 n1 c1 a2 n2 c2, cs = [.slice a0 l0 c0, .slice a1 n1 c1, .slice a2 n2 c2] ∧ l0 ≤ 1048576 ∧ (l0 = 0 ∨ ∃ b off, a0 = some ⟨b, off, none⟩ ∧ b < w.heap.size ∧ BasesAt w b off l0) := by
  obtain ⟨xs, n, _, hy, _, hxl, hf⟩ := DataW.trod_struct Tryz.underlying26 h
  subst hy
  obtain ⟨y0, y1, y2, rfl⟩ := l3 (show xs.length = 3 from hxl)
  obtain ⟨v0, v1, v2, rfl⟩ := l3 hl
  have g0 := hf 0 _ rfl
  have g1 := hf 1 _ rfl
  have g2 := hf 2 _ rfl
  simp [c_slb, c_slq, c_sl2] at g0 g1 g2
  obtain ⟨a0, m0, c0, e0, p1, p2⟩ := read_bases g0 (agg_part hb (by simp))
  obtain ⟨a1, m1, c1, e1⟩ := read_slice Tryz.underlying23 g1
  obtain ⟨a2, m2, c2, e2⟩ := read_slice Tryz.underlying24 g2
  simp only [List.cons.injEq, and_true] at e0 e1 e2
  subst e0 e1 e2
  exact ⟨_, _, _, _, _, _, _, _, _, rfl, p1, p2⟩
theorem read_ops {k : Nat} {cs : List Value} {y : DataW H × List MemPlace} (h : DataW.trod enc Tryz.prog w base sp hd k 27 cs = some y) (hb : Rows.uptoBulk y.1 ≤ 1048576) :
    ∃ ao n cap, cs = [.slice ao n cap] ∧ n ≤ 1048576 ∧ (n = 0 ∨ ∃ b off, ao = some ⟨b, off, none⟩ ∧ b < w.heap.size ∧ OpsR w b off n) := by
  obtain ⟨so, n, c, rfl, h1, _, _, h4⟩ := read_list Tryz.underlying27 c_op (by omega) h hb
  refine ⟨so, n, c, rfl, h1, ?_⟩
  rcases h4 with h | ⟨b, off, e, hl, hel⟩
  · exact .inl h
  · refine .inr ⟨b, off, e, hl, fun i hi => ?_⟩
    obtain ⟨cs', y, k, g1, g2, g3, _⟩ := hel i hi
    obtain ⟨xs, m, _, _, _, hxl, hf⟩ := DataW.trod_struct Tryz.underlying103 g3
    obtain ⟨y0, y1, y2, y3, y4, y5, rfl⟩ := l6 (show xs.length = 6 from hxl)
    obtain ⟨v0, v1, v2, v3, v4, v5, rfl⟩ := l6 g1
    have q0 := hf 0 _ rfl
    have q1 := hf 1 _ rfl
    have q2 := hf 2 _ rfl
    have q3 := hf 3 _ rfl
    have q4 := hf 4 _ rfl
    have q5 := hf 5 _ rfl
    simp [c_int, c_str, c_sli] at q0 q1 q2 q3 q4 q5
    obtain ⟨k0, u0, _⟩ := DataW.trod_int Tryz.underlying3 q0
    obtain ⟨k1, u1, _, hwf⟩ := DataW.trod_int Tryz.underlying3 q1
    obtain ⟨k2, u2, _⟩ := DataW.trod_int Tryz.underlying3 q2
    obtain ⟨s3, u3, _⟩ := DataW.trod_string Tryz.underlying9 q3
    obtain ⟨s4, u4, _⟩ := DataW.trod_string Tryz.underlying9 q4
    obtain ⟨lo, ln, lc, u5⟩ := read_slice Tryz.underlying30 q5
    simp only [List.cons.injEq, and_true] at u0 u1 u2 u3 u4 u5
    subst u0 u1 u2 u3 u4 u5
    have hr : -9223372036854775808 ≤ k1 ∧ k1 ≤ 9223372036854775807 := by
      simp only [Lit.wf, Bool.and_eq_true, decide_eq_true_eq] at hwf
      exact hwf
    exact ⟨k0, k1, k2, s3, s4, lo, ln, lc, g2 0 _ rfl, g2 1 _ rfl, g2 2 _ rfl, g2 3 _ rfl, g2 4 _ rfl, g2 5 _ rfl, hr⟩
end
set_option maxRecDepth 100000 in
theorem checks_step (w : World) (a0 a1 a2 ao : Option Addr) (l0 c0 l1 c1 l2 c2 n cap : Nat) (hn : n ≤ 1048576) (hl0 : l0 ≤ 1048576) (hbs : l0 = 0 ∨ ∃ b off, a0 = some ⟨b, off, none⟩ ∧ b < w.heap.size ∧ BasesAt w b off l0) (hops : n = 0 ∨ ∃ b off, ao = some ⟨b, off, none⟩ ∧ b < w.heap.size ∧ OpsR w b off n) :
    Calls Tryz.prog 4 #[.agg #[.slice a0 l0 c0, .slice a1 l1 c1, .slice a2 l2 c2], .slice ao n cap] w fun e w' => e = .returned (.bool true) ∧ Below w.heap.size w w' := by
  have HP : ∀ x : World, Below w.heap.size w x → Calls Tryz.prog 14 #[.agg #[.slice a0 l0 c0, .slice a1 l1 c1, .slice a2 l2 c2], .slice ao n cap, .int .i64 2, .int .i64 3] x fun e w' => e = .returned (.bool true) ∧ Below x.heap.size x w' := by
    intro x hx
    refine plays_checks x a0 a1 a2 ao l0 c0 l1 c1 l2 c2 n cap hn hl0 ?_ ?_
    · rcases hbs with h | ⟨b, off, h1, h2, h3⟩
      · exact .inl h
      · exact .inr ⟨b, off, h1, by have := hx.size; omega, h3.keep hx h2⟩
    · rcases hops with h | ⟨b, off, h1, h2, h3⟩
      · exact .inl h
      · exact .inr ⟨b, off, h1, by have := hx.size; omega, h3.keep hx h2⟩
  clear hops hbs
  go_enter Tryz.func4, Tryz.ntmps4
  go_wp2_with (go_at_call 14; refine (HP _ ?c1).mono ?_)
  case c1 => first | exact Below.refl _ _ | exact (Below.refl _ _).alloc (Nat.le_refl _) _
  rintro e w2 ⟨rfl, hb2⟩
  go_wp2_with fail
  go_ret
  first | exact ⟨rfl, hb2⟩ | exact ⟨rfl, ((Below.refl _ w).alloc (Nat.le_refl _) _).trans (hb2.mono (by simp [World.size_alloc]))⟩
end Go.Proofs.YtilfjpmeededmaaGreatDoor

import Derived.Test.YtilfjpmeededmaaGreatDoorTokZ
import Derived.Deep.OwnRows
import Derived.Laws.CopyRow
import Derived.Laws.IdiomCopy
import Derived.Laws.MakeOwn
import Derived.Below
import Derived.Test.YtilfjpmeededmaaGreatDoorSliZ
import Derived.Deep.AppendLies
import Derived.OwnWalk
import Derived.Laws.Cover3
set_option linter.unusedVariables false
set_option linter.unusedSimpArgs false
namespace Go.Proofs.YtilfjpmeededmaaGreatDoor
open Go.RowKit
def ovF (z : Nat) (ov : Nat → Value) (orig : Nat → Value) (K0 K j : Nat) : Value := if K0 ≤ j ∧ j < K then ov (j % z) else orig j
theorem ovF_none (z : Nat) (ov orig : Nat → Value) (K0 j : Nat) : ovF z ov orig K0 K0 j = orig j := by
  unfold ovF; rw [if_neg (by omega)]
theorem ov_step1 {w : World} {g N : Nat} {T : TypeId} {ov orig : Nat → Value} {K0 i : Nat} (h : w.rowIs g T N (ovF 1 ov orig K0 i)) (hK : K0 ≤ i) : (w.setCell ⟨g, i, none⟩ (ov 0)).rowIs g T N (ovF 1 ov orig K0 (i + 1)) := by
  refine (h.set i (ov 0)).congr fun j hj => ?_
  unfold ovF
  by_cases e : j = i
  · subst e; rw [if_pos rfl, if_pos (by omega), Nat.mod_one]
  · rw [if_neg e]
    by_cases h1 : K0 ≤ j ∧ j < i
    · rw [if_pos h1, if_pos (by omega)]
    · rw [if_neg h1, if_neg (by omega)]
theorem ov_step3 {w : World} {g N : Nat} {T : TypeId} {ov orig : Nat → Value} {K0 i : Nat} {a0 a1 a2 : Value} (h : w.rowIs g T N (ovF 3 ov orig (K0 * 3) (i * 3))) (hK : K0 ≤ i) (h0 : a0 = ov 0) (h1 : a1 = ov 1) (h2 : a2 = ov 2) : (((w.setCell ⟨g, i * 3, none⟩ a0).setCell ⟨g, i * 3 + 1, none⟩ a1).setCell ⟨g, i * 3 + 2, none⟩ a2).rowIs g T N (ovF 3 ov orig (K0 * 3) ((i + 1) * 3)) := by
  subst h0 h1 h2
  refine (((h.set (i * 3) _).set (i * 3 + 1) _).set (i * 3 + 2) _).congr fun j hj => ?_
  unfold ovF
  by_cases e2 : j = i * 3 + 2
  · rw [if_pos e2, if_pos (by omega), show j % 3 = 2 by omega]
  · rw [if_neg e2]
    by_cases e1 : j = i * 3 + 1
    · rw [if_pos e1, if_pos (by omega), show j % 3 = 1 by omega]
    · rw [if_neg e1]
      by_cases e0 : j = i * 3
      · rw [if_pos e0, if_pos (by omega), show j % 3 = 0 by omega]
      · rw [if_neg e0]
        by_cases hh : K0 * 3 ≤ j ∧ j < i * 3
        · rw [if_pos hh, if_pos (by omega)]
        · rw [if_neg hh, if_neg (by omega)]
theorem ov_step6 {w : World} {g N : Nat} {T : TypeId} {ov orig : Nat → Value} {K0 i : Nat} {a0 a1 a2 a3 a4 a5 : Value} (h : w.rowIs g T N (ovF 6 ov orig (K0 * 6) (i * 6))) (hK : K0 ≤ i) (h0 : a0 = ov 0) (h1 : a1 = ov 1) (h2 : a2 = ov 2) (h3 : a3 = ov 3) (h4 : a4 = ov 4) (h5 : a5 = ov 5) :
    ((((((w.setCell ⟨g, i * 6, none⟩ a0).setCell ⟨g, i * 6 + 1, none⟩ a1).setCell ⟨g, i * 6 + 2, none⟩ a2).setCell ⟨g, i * 6 + 3, none⟩ a3).setCell ⟨g, i * 6 + 4, none⟩ a4).setCell ⟨g, i * 6 + 5, none⟩ a5).rowIs g T N (ovF 6 ov orig (K0 * 6) ((i + 1) * 6)) := by
  subst h0 h1 h2 h3 h4 h5
  refine ((((((h.set (i * 6) _).set (i * 6 + 1) _).set (i * 6 + 2) _).set (i * 6 + 3) _).set (i * 6 + 4) _).set (i * 6 + 5) _).congr fun j hj => ?_
  unfold ovF
  by_cases e5 : j = i * 6 + 5
  · rw [if_pos e5, if_pos (by omega), show j % 6 = 5 by omega]
  rw [if_neg e5]
  by_cases e4 : j = i * 6 + 4
  · rw [if_pos e4, if_pos (by omega), show j % 6 = 4 by omega]
  rw [if_neg e4]
  by_cases e3 : j = i * 6 + 3
  · rw [if_pos e3, if_pos (by omega), show j % 6 = 3 by omega]
  rw [if_neg e3]
  by_cases e2 : j = i * 6 + 2
  · rw [if_pos e2, if_pos (by omega), show j % 6 = 2 by omega]
  rw [if_neg e2]
  by_cases e1 : j = i * 6 + 1
  · rw [if_pos e1, if_pos (by omega), show j % 6 = 1 by omega]
  rw [if_neg e1]
  by_cases e0 : j = i * 6
  · rw [if_pos e0, if_pos (by omega), show j % 6 = 0 by omega]
  rw [if_neg e0]
  by_cases hh : K0 * 6 ≤ j ∧ j < i * 6
  · rw [if_pos hh, if_pos (by omega)]
  · rw [if_neg hh, if_neg (by omega)]
theorem below_row {w0 w : World} {B g : Nat} (hb : Below B w0 w) (hg : B ≤ g) (cs : Array Value) : Below B w0 (w.setRow g cs) :=
  hb.trans ⟨rfl, rfl, rfl, by simp [World.setRow], fun k hk => setRow_other w g k cs (by omega)⟩
theorem ln_lt {w : World} {k : Nat} {o : Obj} (h : w.heap[k]? = some o) : k < w.heap.size := (Array.getElem?_eq_some_iff.1 h).1
theorem ln_owns {w x : World} {b n size : Nat} {e : TypeId} {v : Value} {xs : List Value} (h : w.ownsRow b e size v n xs) (hb : ∀ g, v.ownBlock = some g → x.heap[g]? = w.heap[g]?) : x.ownsRow b e size v n xs := by
  refine ⟨h.1, ?_⟩
  rcases h.2 with h | ⟨g, cap, cur, rfl, h1, h2, h⟩
  · exact .inl h
  · exact .inr ⟨g, cap, cur, rfl, h1, by rw [hb g rfl]; exact h2, h⟩
theorem box_fin {wo W1 w7 : World} {O k g7 cap7 n z B : Nat} {a : Option Addr} {an ac : Nat} {T TB : TypeId} {xs news : List Value} {cs : Array Value} (hO : wo.heap[O]? = some (.cells cs TB (0, 0))) (own : wo.ownsRow (O + 1) T z (.slice a an ac) n xs)
    (hW : Below wo.heap.size wo W1) (hgrow : W1.grownBy w7 (Value.slice a an ac).ownBlock) (hown7 : w7.ownsRow (O + 1) T z (.slice (some ⟨g7, 0, none⟩) (n + 1) cap7) (n + 1) (xs ++ news)) (v : Value) (hBO : B ≤ O) :
    w7.heap[O]? = some (.cells cs TB (0, 0)) ∧ (w7.setCell ⟨O, k, none⟩ v).heap[O]? = some (.cells (cs.setIfInBounds k v) TB (0, 0)) ∧
    (w7.setCell ⟨O, k, none⟩ v).ownsRow (O + 1) T z (.slice (some ⟨g7, 0, none⟩) (n + 1) cap7) (n + 1) (xs ++ news) ∧ Below B wo (w7.setCell ⟨O, k, none⟩ v) ∧
    ∀ (q : Nat) (cur : Array Value) (T' : TypeId) (fz : Nat × Nat), wo.heap[q]? = some (.cells cur T' fz) → T' ≠ T → T' ≠ TB → (w7.setCell ⟨O, k, none⟩ v).heap[q]? = wo.heap[q]? := by
  have hOl := ln_lt hO
  have hgs := hgrow.size
  have hWs := hW.size
  have hvO : (Value.slice a an ac).ownBlock ≠ some O := fun e => by have := (own.lt _ e).1; omega
  have keep : ∀ g, g < wo.heap.size → (Value.slice a an ac).ownBlock ≠ some g → w7.heap[g]? = wo.heap[g]? := fun g h1 h2 =>
    (hgrow.block g (by omega) (fun e => h2 e.symm)).trans (hW.block g h1)
  have hO7 : w7.heap[O]? = some (.cells cs TB (0, 0)) := (keep O hOl hvO).trans hO
  refine ⟨hO7, by simp [World.setCell, Array.getElem?_modify, hO7], ownsRow_setCell_below hown7 (by show O < O + 1; omega) _, ?_, fun q cur T' fz hq h1 h2 => ?_⟩
  · suffices h : Below B wo w7 from h.setCell (p := ⟨O, k, none⟩) hBO _
    refine ⟨hgrow.os.trans hW.os, hgrow.tape.trans hW.tape, hgrow.output.trans hW.output, by omega, fun g hg => ?_⟩
    exact keep g (by omega) (fun e => by have := (own.lt _ e).1; omega)
  · have hqO : q ≠ O := fun e => by subst e; rw [hO] at hq; cases hq; exact h2 rfl
    rw [Below.heap_setCell _ _ _ _ hqO]
    refine keep q (ln_lt hq) fun e => ?_
    rcases own.2 with ⟨h, _⟩ | ⟨g1, c1, cur1, h, _, hr1, _⟩
    · rw [h] at e; cases e
    · rw [h] at e; cases e; rw [hr1] at hq; cases hq; exact h1 rfl
theorem owns_typed {w x : World} {b z n : Nat} {T : TypeId} {v : Value} {xs : List Value} (h : w.ownsRow b T z v n xs) (hk : ∀ (q : Nat) (cur : Array Value) (fz : Nat × Nat), w.heap[q]? = some (.cells cur T fz) → x.heap[q]? = w.heap[q]?) : x.ownsRow b T z v n xs :=
  ln_owns h fun q hq => by
    rcases h.2 with ⟨h', _⟩ | ⟨g2, c2, cur2, h', _, hr2, _⟩
    · rw [h'] at hq; cases hq
    · rw [h'] at hq; cases hq; exact hk _ _ _ hr2
section
variable {P : Program}
theorem wpList_make_z (w : World) {ops : Array Oper} {rest : List Oper} {o : Oper} {a : Act} {Q : Exit → Act → World → Prop}
    (hg : o.guard = none) (l c : Operand) (t : TypeId) (hop : o.op = Op.makeSlice t l c) (e : TypeId) (i : TypeInfo) (zv : Value) (ht : P.underlying t = some (.slice e)) (hi : P.info? e = some i) (hz : i.zero = some zv)
    (kl kc : IntKind) (n : Nat) (L : Int) (hl : a.eval l = .int kl L) (hc : a.eval c = .int kc L) (hLn : L = (n : Int)) (hbytes : i.bytes * n ≤ 281474976710656) (h63 : n ≤ 9223372036854775807)
    (z : Nat) (hsz : i.size = z) (hK : ∀ w' f, w'.heap.size = w.heap.size + 1 → Below w.heap.size w w' → w'.rowIs w.heap.size e (n * z) f → Hid (∀ j, f j = zv.cells[j % zv.cells.size]!) → wpList P ops Q rest (a.put o.dst (.slice (some ⟨w.heap.size, 0, none⟩) n n)) w') :
    wpList P ops Q (o :: rest) a w := by
  subst hsz hLn
  refine wpList_plain hg fun K hK' => ?_
  have hb' : (i.bytes : Int) * (n : Int) ≤ 281474976710656 := by
    have h : ((i.bytes * n : Nat) : Int) ≤ 281474976710656 := by omega
    rwa [Int.natCast_mul] at h
  have hrun := run_make (P := P) w t e i zv ht hi hz kl kc n n (by omega) (Int.le_refl _) hb' (by omega)
  simp only [Int.toNat_natCast] at hrun
  unfold Oper.wp
  simp [execOp, hop, hl, hc, hrun, Result.andThen]
  refine hK' _ _ (hK _ (fun j => zv.cells[j % zv.cells.size]!) (by simp [World.size_alloc]) ((Below.refl _ w).alloc (Nat.le_refl _) _) ?_ (fun _ => rfl))
  have := World.rowIs_alloc w (madeCells zv.cells (n * i.size)) e (fun j => zv.cells[j % zv.cells.size]!) (fun j hj => by
    rw [size_madeCells] at hj; simp [madeCells, hj])
  rwa [size_madeCells] at this
def cpF (cs : List Value) (f : Nat → Value) (j : Nat) : Value := if h : j < cs.length then cs[j] else f j
theorem run_copy_z (w : World) (dT sT ty elem : TypeId) (g dLen dCap : Nat) (so : Option Addr) (sLen sCap : Nat) (z N : Nat) (f : Nat → Value) (t : TypeId) (cs : List Value)
    (hu : P.underlying dT = some (.slice elem)) (hs : (P.info? elem).map (·.size) = some z) (hg : w.rowIs g t N f) (hle : sLen ≤ dLen) (hn : cs.length = sLen * z)
    (hsrc : sLen = 0 ∨ ∃ b off, so = some ⟨b, off, none⟩ ∧ ∀ j v, cs[j]? = some v → w.cell? ⟨b, off + j, none⟩ = some v) (hfit : cs.length ≤ N) (h1 : ∀ v ∈ cs, v.oneCell' = true) :
    ∃ w', (Builtin.copy_ #[dT, sT] ty #[.slice (some ⟨g, 0, none⟩) dLen dCap, .slice so sLen sCap]).run P w = .ok (goInt sLen) w' ∧ w'.heap.size = w.heap.size ∧ w'.rowIs g t N (cpF cs f) ∧ (∀ (B : Nat) (y : World), B ≤ g → Below B y w → Below B y w') ∧ ∀ k, k ≠ g → w'.heap[k]? = w.heap[k]? := by
  cases hq : P.info? elem with
  | none => simp [hq] at hs
  | some i =>
    have hi : i.size = z := by simpa [hq] using hs
    have hmin : Nat.min sLen dLen = sLen := Nat.min_eq_left hle
    by_cases h0 : sLen = 0
    · subst h0
      have hc0 : cs = [] := List.eq_nil_of_length_eq_zero (by omega)
      subst hc0
      have hl : ∀ (x : Addr), (loadCells x 0).run P w = .ok #[] w := fun x => by simpa using run_loadCells_list (P := P) w x [] (by simp)
      refine ⟨w, ?_, rfl, hg.congr (fun j _ => by simp [cpF]), fun B y _ h => h, fun k _ => rfl⟩
      cases so <;> simp [Builtin.copy_, run_underlying hu, Builtin.lenOf, Builtin.firstCells, sizeOf, typeInfo, hq, storeCells, hl]
    · obtain ⟨b, off, rfl, hcell⟩ : ∃ b off, so = some ⟨b, off, none⟩ ∧ ∀ j v, cs[j]? = some v → w.cell? ⟨b, off + j, none⟩ = some v := by
        rcases hsrc with h | h
        · exact absurd h h0
        · exact h
      obtain ⟨cur, hblk, hsz, hcur⟩ := hg
      have hl := run_loadCells_list (P := P) w ⟨b, off, none⟩ cs (fun j v hv => by
        have := hcell j v hv
        have hadd : (⟨b, off, none⟩ : Addr).add j = ⟨b, off + j, none⟩ := by unfold Addr.add; split <;> simp_all
        rw [hadd]; exact this)
      have hst := run_storeCells_at P g 0 t cs 0 cur w hblk (by simpa [hsz] using hfit) h1
      have hblk' := setRow_heap w g cur ((cur.toList.take (0 + 0) ++ cs ++ cur.toList.drop (0 + 0 + cs.length)).toArray) t (0, 0) hblk
      refine ⟨_, ?_, ?_, ⟨_, hblk', ?_, ?_⟩, ?_, fun k hk => setRow_other w g k _ hk⟩
      · have hnz : sLen * z = cs.length := hn.symm
        simp [Builtin.copy_, run_underlying hu, Builtin.lenOf, Builtin.firstCells, sizeOf, typeInfo, hq, hi, Nat.min_eq_left hle, hnz, hl, hst]
      · simp [World.setRow]
      · simp; omega
      · intro j hj
        simp only [List.getElem?_toArray, Nat.add_zero, List.take_zero, List.nil_append, Nat.zero_add]
        unfold cpF
        by_cases hjc : j < cs.length
        · rw [List.getElem?_append_left hjc, dif_pos hjc, List.getElem?_eq_getElem hjc]
        · rw [List.getElem?_append_right (by omega), dif_neg hjc, List.getElem?_drop, show cs.length + (j - cs.length) = j by omega]
          have := hcur j hj
          simpa using this
      · intro B y hB h
        exact below_row h hB _
theorem wpList_copy_z {w : World} {ops : Array Oper} {rest : List Oper} {o : Oper} {a : Act} {Q : Exit → Act → World → Prop} (hgd : o.guard = none) (d s : Operand) (dT sT : TypeId)
    (ho : o.op = .call { callee := .builtin .copy, args := #[d, s], argTypes := #[dT, sT] }) (elem : TypeId) (z : Nat) (hu : P.underlying dT = some (.slice elem)) (hs : (P.info? elem).map (·.size) = some z)
    (g dLen dCap : Nat) (so : Option Addr) (sLen sCap : Nat) (hd : a.eval d = .slice (some ⟨g, 0, none⟩) dLen dCap) (hse : a.eval s = .slice so sLen sCap)
    (N : Nat) (f : Nat → Value) (t : TypeId) (hg : w.rowIs g t N f) (cs : List Value) (hle : sLen ≤ dLen) (hn : cs.length = sLen * z)
    (hsrc : sLen = 0 ∨ ∃ b off, so = some ⟨b, off, none⟩ ∧ ∀ j v, cs[j]? = some v → w.cell? ⟨b, off + j, none⟩ = some v) (hfit : cs.length ≤ N) (h1 : ∀ v ∈ cs, v.oneCell' = true)
    (h : ∀ w', w'.heap.size = w.heap.size → w'.rowIs g t N (cpF cs f) → (∀ (B : Nat) (y : World), B ≤ g → Below B y w → Below B y w') → (∀ k, k ≠ g → w'.heap[k]? = w.heap[k]?) → wpList P ops Q rest (a.put o.dst (goInt sLen)) w') :
    wpList P ops Q (o :: rest) a w := by
  refine wpList_plain hgd fun K hK => ?_
  obtain ⟨w', hrun, hsz, hrow, hbel, hoth⟩ := run_copy_z (P := P) w dT sT o.type elem g dLen dCap so sLen sCap z N f t cs hu hs hg hle hn hsrc hfit h1
  unfold Oper.wp
  simp [execOp, ho, resolve, invoke, builtin, hd, hse, hrun, Result.andThen]
  exact hK _ _ (h w' hsz hrow hbel hoth)
end
end Go.Proofs.YtilfjpmeededmaaGreatDoor

namespace Go.Proofs.YtilfjpmeededmaaGreatDoor
open Go.RowKit
theorem eql_nil {P : Program} (w : World) (t e : TypeId) (a : Option Addr) (l c : Nat) (h : P.underlying t = some (.slice e)) : (binOp .eql t (.slice a l c) (.slice none 0 0)).run P w = .ok (.bool a.isNone) w := by
  simp only [binOp]
  simp [run_equal_slice_nil w t e a l c h]
structure Ln where
  g : Nat
  n : Nat
  wo : Option Addr
  wc : Nat
  cs : List Value
def lnCell (l : Ln) : List Value := [.slice (some ⟨l.g, 0, none⟩) (l.n + 3) (l.n + 3), .slice l.wo l.n l.wc]
def lnCells (ls : List Ln) : List Value := ls.flatMap lnCell
theorem lnCells_app (a b : List Ln) : lnCells (a ++ b) = lnCells a ++ lnCells b := by simp [lnCells]
theorem lnCells_get : ∀ (ls : List Ln) (i : Nat) (l : Ln) (j : Nat), ls[i]? = some l → j < 2 → (lnCells ls)[i * 2 + j]? = (lnCell l)[j]?
  | [], i, r, j, h, _ => by simp at h
  | a :: rs, 0, r, j, h, hj => by
    simp at h; subst h
    rw [Nat.zero_mul, Nat.zero_add, lnCells, List.flatMap_cons, List.getElem?_append_left (by simp [lnCell]; omega)]
  | a :: rs, i + 1, r, j, h, hj => by
    have := lnCells_get rs i r j (by simpa using h) hj
    have h2 : (lnCell a).length = 2 := by simp [lnCell]
    rw [lnCells, List.flatMap_cons, List.getElem?_append_right (by rw [h2]; omega), h2, show (i + 1) * 2 + j - 2 = i * 2 + j by omega]
    exact this
def lentF (z : Nat) (cs : List Value) (far : Nat → Value) (j : Nat) : Value := if h : j < cs.length then cs[j] else far (j % z)
def WantIn (w : World) (z : Nat) (wo : Option Addr) (n : Nat) (cs : List Value) : Prop := cs.length = n * z ∧ (n = 0 ∨ ∃ b off, wo = some ⟨b, off, none⟩ ∧ b < w.heap.size ∧ ∀ j v, cs[j]? = some v → w.cell? ⟨b, off + j, none⟩ = some v)
theorem WantIn.keep {w x : World} {z n : Nat} {wo : Option Addr} {cs : List Value} (h : WantIn w z wo n cs) (hb : Below w.heap.size w x) : WantIn x z wo n cs := by
  refine ⟨h.1, ?_⟩
  rcases h.2 with h | ⟨b, off, e, hl, hc⟩
  · exact .inl h
  · exact .inr ⟨b, off, e, by have := hb.size; omega, fun j v hv => (hb.cell (p := ⟨b, off + j, none⟩) hl).trans (hc j v hv)⟩
theorem WantIn.src {w : World} {z n : Nat} {wo : Option Addr} {cs : List Value} (h : WantIn w z wo n cs) : n = 0 ∨ ∃ b off, wo = some ⟨b, off, none⟩ ∧ ∀ j v, cs[j]? = some v → w.cell? ⟨b, off + j, none⟩ = some v := by
  rcases h.2 with h | ⟨b, off, e, _, hc⟩
  · exact .inl h
  · exact .inr ⟨b, off, e, hc⟩
def WtL (Ty : List Value → Nat → Prop) (w0 : World) (z : Nat) (l : Ln) : Prop := WantIn w0 z l.wo l.n l.cs ∧ Ty l.cs l.n
def TyC (cs : List Value) (n : Nat) : Prop := ∀ i, i < n → ∃ (k m : Int) (s : ByteArray), cs[i * 3]? = some (.int .i64 k) ∧ cs[i * 3 + 1]? = some (.int .i64 m) ∧ cs[i * 3 + 2]? = some (.string s)
def TyK (cs : List Value) (n : Nat) : Prop := ∀ i, i < n → ∃ (s t : ByteArray) (m : Int), cs[i * 3]? = some (.string s) ∧ cs[i * 3 + 1]? = some (.string t) ∧ cs[i * 3 + 2]? = some (.int .i64 m)
def TyF (cs : List Value) (n : Nat) : Prop := ∀ i, i < n → ∃ (s t u : ByteArray), cs[i * 3]? = some (.string s) ∧ cs[i * 3 + 1]? = some (.string t) ∧ cs[i * 3 + 2]? = some (.string u)
def TyX (cs : List Value) (n : Nat) : Prop := ∀ i, i < n → ∃ (s : ByteArray), cs[i]? = some (.string s)
structure LnIn (Wt : Ln → Prop) (w : World) (T : TypeId) (z : Nat) (far : Nat → Value) (lo : Nat) (l : Ln) : Prop where
  row : w.rowIs l.g T ((l.n + 3) * z) (lentF z l.cs far)
  len : l.cs.length = l.n * z
  lo : lo ≤ l.g
  small : l.n ≤ 1048576
  want : Wt l
structure LnsIn (Wt : Ln → Prop) (w : World) (T TL : TypeId) (z : Nat) (far : Nat → Value) (mb : Nat) (v : Value) (ls : List Ln) : Prop where
  own : w.ownsRow (mb + 1) TL 2 v ls.length (lnCells ls)
  each : ∀ l ∈ ls, LnIn Wt w T z far (mb + 1) l
  apart : ls.Pairwise fun a b => a.g < b.g
theorem ov_lent {z n : Nat} {cs : List Value} {far f : Nat → Value} (hn : cs.length = n * z) (j : Nat) (hj : j < (n + 3) * z) : ovF z far (cpF cs f) (n * z) ((n + 3) * z) j = lentF z cs far j := by
  unfold ovF cpF lentF
  by_cases h : j < cs.length
  · rw [if_neg (by omega), dif_pos h, dif_pos h]
  · rw [if_pos (by omega), dif_neg h]
def KeepT (w x : World) (A B : TypeId) : Prop := ∀ (q : Nat) (cur : Array Value) (T : TypeId) (fz : Nat × Nat), w.heap[q]? = some (.cells cur T fz) → T ≠ A → T ≠ B → x.heap[q]? = w.heap[q]?
theorem rowIs_typed {w x : World} {g n : Nat} {T A B : TypeId} {f : Nat → Value} (h : w.rowIs g T n f) (hk : KeepT w x A B) (h1 : T ≠ A) (h2 : T ≠ B) : x.rowIs g T n f := by
  have h' := h
  obtain ⟨c, hb, _, _⟩ := h'
  exact h.of_block (hk _ _ _ _ hb h1 h2)
theorem LnIn.typed {Wt : Ln → Prop} {w x : World} {T A B : TypeId} {z lo : Nat} {far : Nat → Value} {l : Ln} (h : LnIn Wt w T z far lo l) (hk : KeepT w x A B) (h1 : T ≠ A) (h2 : T ≠ B) : LnIn Wt x T z far lo l :=
  ⟨rowIs_typed h.row hk h1 h2, h.len, h.lo, h.small, h.want⟩
theorem LnsIn.typed {Wt : Ln → Prop} {w x : World} {T TL A B : TypeId} {z mb : Nat} {far : Nat → Value} {v : Value} {ls : List Ln} (h : LnsIn Wt w T TL z far mb v ls) (hk : KeepT w x A B) (h1 : T ≠ A) (h2 : T ≠ B) (h3 : TL ≠ A) (h4 : TL ≠ B) : LnsIn Wt x T TL z far mb v ls :=
  ⟨owns_typed h.own fun q cur fz hq => hk q cur TL fz hq h3 h4, fun l hl => (h.each l hl).typed hk h1 h2, h.apart⟩
theorem LnsIn.keep {Wt : Ln → Prop} {w x : World} {T TL : TypeId} {z mb : Nat} {far : Nat → Value} {v : Value} {ls : List Ln} (h : LnsIn Wt w T TL z far mb v ls) (hb : Below w.heap.size w x) : LnsIn Wt x T TL z far mb v ls :=
  ⟨ln_owns h.own fun q hq => hb.block q (h.own.lt q hq).2, fun l hl => ⟨(h.each l hl).row.of_block (hb.block _ (h.each l hl).row.lt), (h.each l hl).len, (h.each l hl).lo, (h.each l hl).small, (h.each l hl).want⟩, h.apart⟩
theorem LnsIn.mono {Wt Wt' : Ln → Prop} {w : World} {T TL : TypeId} {z mb : Nat} {far : Nat → Value} {v : Value} {ls : List Ln} (h : LnsIn Wt w T TL z far mb v ls) (hm : ∀ l ∈ ls, Wt l → Wt' l) : LnsIn Wt' w T TL z far mb v ls :=
  ⟨h.own, fun l hl => ⟨(h.each l hl).row, (h.each l hl).len, (h.each l hl).lo, (h.each l hl).small, hm l hl (h.each l hl).want⟩, h.apart⟩
theorem lend_fin {Wt : Ln → Prop} {w wo W1 w7 : World} {mb k g7 cap7 : Nat} {T TL TB : TypeId} {z : Nat} {far : Nat → Value} {a : Option Addr} {an ac : Nat} {ls : List Ln} {l : Ln} {cs : Array Value}
    (hO : wo.heap[mb]? = some (.cells cs TB (0, 0))) (hL : LnsIn Wt wo T TL z far mb (.slice a an ac) ls) (hl : LnIn Wt wo T z far (mb + 1) l) (hnew : ∀ x ∈ ls, x.g < l.g) (hT : T ≠ TL) (hT2 : T ≠ TB)
    (hB : Below mb w wo) (hkw : KeepT w wo TL TB) (hW : Below wo.heap.size wo W1) (hgrow : W1.grownBy w7 (Value.slice a an ac).ownBlock) (hown7 : w7.ownsRow (mb + 1) TL 2 (.slice (some ⟨g7, 0, none⟩) (ls.length + 1) cap7) (ls.length + 1) (lnCells ls ++ lnCell l)) (v : Value) :
    w7.heap[mb]? = some (.cells cs TB (0, 0)) ∧ (w7.setCell ⟨mb, k, none⟩ v).heap[mb]? = some (.cells (cs.setIfInBounds k v) TB (0, 0)) ∧
    LnsIn Wt (w7.setCell ⟨mb, k, none⟩ v) T TL z far mb (.slice (some ⟨g7, 0, none⟩) (ls.length + 1) cap7) (ls ++ [l]) ∧ Below mb w (w7.setCell ⟨mb, k, none⟩ v) ∧ KeepT w (w7.setCell ⟨mb, k, none⟩ v) TL TB := by
  obtain ⟨h1, h2, h3, h4, h5⟩ := box_fin (B := mb) (k := k) hO hL.own hW hgrow hown7 v (Nat.le_refl _)
  have hk : KeepT wo (w7.setCell ⟨mb, k, none⟩ v) TL TB := fun q cur T fz hq a b => h5 q cur T fz hq a b
  refine ⟨h1, h2, ⟨?_, fun x hx => ?_, ?_⟩, hB.trans h4, fun q cur T fz hq a b => ?_⟩
  · rw [lnCells_app, List.length_append]
    have : lnCells [l] = lnCell l := by simp [lnCells]
    rw [this]; exact h3
  · rcases List.mem_append.mp hx with h | h
    · exact (hL.each x h).typed hk hT hT2
    · rw [List.mem_singleton.mp h]; exact hl.typed hk hT hT2
  · rw [List.pairwise_append]
    exact ⟨hL.apart, by simp, fun x hx y hy => by rw [List.mem_singleton.mp hy]; exact hnew x hx⟩
  · have e := hkw q cur T fz hq a b
    exact (hk q cur T fz (e.trans hq) a b).trans e
theorem keepT_below {w x : World} (hb : Below w.heap.size w x) (A B : TypeId) : KeepT w x A B := fun q _ _ _ hq _ _ => hb.block q (ln_lt hq)
def farC (j : Nat) : Value := if j = 0 then .int .i64 9 else if j = 1 then .int .i64 77 else .string ⟨#[]⟩
set_option maxHeartbeats 400000 in
set_option maxRecDepth 100000 in
theorem farCell_any (w : World) : Calls Tryz.prog 188 #[] w fun e w' => e = .returned (.agg #[.int .i64 9, .int .i64 77, .string ⟨#[]⟩]) ∧ Below w.heap.size w w' := by
  go_enter Tryz.func188, Tryz.ntmps188
  go_wp2_with fail
  exact bodyPost_ret (v := .agg #[.int .i64 9, .int .i64 77, .string ⟨#[]⟩]) (by simp [results, Tryz.results188, go_sem]) rfl ⟨rfl, (Below.refl _ w).alloc (Nat.le_refl _) _⟩
set_option maxHeartbeats 400000 in
set_option maxRecDepth 100000 in
theorem overCell_any (w : World) : Calls Tryz.prog 279 #[] w fun e w' => e = .returned (.agg #[.int .i64 8, .int .i64 0, .string ⟨#[]⟩]) ∧ Below w.heap.size w w' := by
  go_enter Tryz.func279, Tryz.ntmps279
  go_wp2_with fail
  exact bodyPost_ret (v := .agg #[.int .i64 8, .int .i64 0, .string ⟨#[]⟩]) (by simp [results, Tryz.results279, go_sem]) rfl ⟨rfl, (Below.refl _ w).alloc (Nat.le_refl _) _⟩
end Go.Proofs.YtilfjpmeededmaaGreatDoor

namespace Go.Proofs.YtilfjpmeededmaaGreatDoor
open Go.RowKit
theorem infoCellL : (Tryz.prog.info? 50).map (fun i => (i.zero, i.size, i.bytes)) = some (some (.agg #[.int .i64 0, .int .i64 0, .string ⟨#[]⟩]), 3, 32) := by kernel_rfl
theorem infoCellLoan : (Tryz.prog.info? 380).map (fun i => (i.zero, i.size, i.bytes)) = some (some (.agg #[.slice none 0 0, .slice none 0 0]), 2, 48) := by kernel_rfl
def LendRes (Wt : Ln → Prop) (w : World) (T TL TB : TypeId) (z : Nat) (far : Nat → Value) (mb k : Nat) (arr : Array Value) (ls : List Ln) (wo : Option Addr) (n wc : Nat) (cs : List Value) (e : Ending) (w' : World) : Prop :=
  ∃ (g : Nat) (v : Value), e = .returned (.slice (some ⟨g, 0, none⟩) n (n + 3)) ∧ w'.heap[mb]? = some (.cells (arr.setIfInBounds k v) TB (0, 0)) ∧ LnsIn Wt w' T TL z far mb v (ls ++ [⟨g, n, wo, wc, cs⟩]) ∧ (∃ a b c, v = .slice a b c) ∧ Below mb w w' ∧ KeepT w w' TL TB
set_option maxHeartbeats 4000000 in
set_option maxRecDepth 100000 in
theorem cellsOf_nil (w : World) (mb : Nat) :
    Calls Tryz.prog 115 #[.pointer (some ⟨mb, 0, none⟩), .slice none 0 0] w fun e w' => e = .returned (.slice none 0 0) ∧ w' = w := by
  have hnil : ∀ W, (binOp .eql 47 (.slice none 0 0) (.slice none 0 0)).run Tryz.prog W = .ok (.bool true) W := fun W => eql_nil W _ _ _ _ _ Tryz.underlying47
  go_enter Tryz.func115, Tryz.ntmps115
  go_wp2_with fail
  go_ret
  exact ⟨rfl, rfl⟩
set_option maxHeartbeats 4000000 in
set_option maxRecDepth 100000 in
theorem cellsOf_any (w0 w : World) (mb : Nat) (a : Option Addr) (an ac : Nat) (arr : Array Value) (ls : List Ln) (hO : w.heap[mb]? = some (.cells arr 256 (0, 0))) (ha : arr[0]? = some (.slice a an ac)) (hL : LnsIn (WtL TyC w0 3) w 50 380 3 farC mb (.slice a an ac) ls) (hls : ls.length ≤ 1099511627776)
    (h0 : Below w0.heap.size w0 w) (so : Addr) (n wc : Nat) (cs : List Value) (hn : n ≤ 1048576) (hs : WantIn w0 3 (some so) n cs) (h1 : ∀ v ∈ cs, v.oneCell' = true) (hty : TyC cs n) :
    Calls Tryz.prog 115 #[.pointer (some ⟨mb, 0, none⟩), .slice (some so) n wc] w fun e w' => LendRes (WtL TyC w0 3) w 50 380 256 3 farC mb 0 arr ls (some so) n wc cs e w' := by
  obtain ⟨i0, hi, hz0, hz1, hz2⟩ := info_parts infoCellL
  obtain ⟨i1, hj, hj0, hj1, hj2⟩ := info_parts infoCellLoan
  have hml := ln_lt hO
  have hs3 : (Tryz.prog.info? 50).map (·.size) = some 3 := by rw [hi]; simp [hz1]
  have hsw := hs.keep h0
  have hnil : ∀ W, (binOp .eql 47 (.slice (some so) n wc) (.slice none 0 0)).run Tryz.prog W = .ok (.bool false) W := fun W => eql_nil W _ _ _ _ _ Tryz.underlying47
  go_enter Tryz.func115, Tryz.ntmps115
  have hne : mb ≠ w.heap.size := by omega
  go_wp2_with (first
    | (at_make; refine wpList_make_z _ rfl _ _ 47 rfl 50 i0 _ Tryz.underlying47 hi hz0 .i64 .i64 (n + 3) _ rfl rfl (by omega) (by rw [hz2]; omega) (by omega) 3 hz1 ?_; intro w2 f2 hs2 hb2 hr2 HF2)
    | (refine wpList_copy_z rfl (.tmp 15) (.tmp 16) 47 47 rfl 50 3 Tryz.underlying47 hs3 w.heap.size (n + 3) (n + 3) (some so) n wc rfl rfl ((n + 3) * 3) f2 50 hr2 cs (by omega) hsw.1 (hsw.keep hb2).src (by have := hsw.1; omega) h1 ?_; intro w3 hs3' hr3 hb3 ho3))
  have B3 : Below w.heap.size w w3 := hb3 _ _ (Nat.le_refl _) hb2
  have hg3 : w3.rowIs w.heap.size 50 ((n + 3) * 3) (ovF 3 farC (cpF cs f2) (n * 3) ((n + 0) * 3)) := hr3.congr fun j _ => (ovF_none _ _ _ _ _).symm
  clear hr2 hr3 hb3 ho3 hb2 hs2 hs3' hnil
  go_loopw [7] (fun iv wr => ∃ m : Nat, m ≤ 3 ∧ iv = .int .i64 ((n + m : Nat) : Int) ∧ wr.rowIs w.heap.size 50 ((n + 3) * 3) (ovF 3 farC (cpF cs f2) (n * 3) ((n + m) * 3)) ∧ Below w.heap.size w wr) (fun iv _ => (n + 3) - (intOf iv).toNat)
  case atStart => exact ⟨0, by omega, by go_num, hg3, B3⟩
  case round =>
    obtain ⟨m, hm, rfl, hg, hB⟩ := hrel
    clear hg3 B3
    by_cases hlt : m < 3
    · have hgl := hg.lt
      go_wp2_with (go_at_call 188; refine (farCell_any _).mono ?_; rintro e w5 ⟨rfl, hb5⟩; have hg5 := hg.of_block (hb5.block _ hgl); have hgl5 := hg5.lt; have c0 := hg5.cell (i := (n + m) * 3) (by omega); have c1 := hg5.cell (i := (n + m) * 3 + 1) (by omega); have c2 := hg5.cell (i := (n + m) * 3 + 2) (by omega); have f0 := hg5.frozen ((n + m) * 3); have f1 := hg5.frozen ((n + m) * 3 + 1); have f3 := hg5.frozen ((n + m) * 3 + 2))
      go_roundw
      case rel => exact ⟨m + 1, by omega, by go_num, ov_step3 hg5 (by omega) rfl rfl rfl, (((hB.trans (hb5.mono hB.size)).setCell (p := ⟨w.heap.size, _, none⟩) (Nat.le_refl _) _).setCell (p := ⟨w.heap.size, _, none⟩) (Nat.le_refl _) _).setCell (p := ⟨w.heap.size, _, none⟩) (Nat.le_refl _) _⟩
      case measure => simp [intOf]; omega
    · obtain rfl : m = 3 := by omega
      have hrow : wr.rowIs w.heap.size 50 ((n + 3) * 3) (lentF 3 cs farC) := hg.congr fun j hj => ov_lent hs.1 j hj
      have hOr := (hB.block mb hml).trans hO
      have hmr := ln_lt hOr
      have a0 : wr.cell? ⟨mb, 0, none⟩ = some (.slice a an ac) := (blk_at hOr).trans ha
      have hgl := hrow.lt
      have hLr : LnsIn (WtL TyC w0 3) wr 50 380 3 farC mb (.slice a an ac) ls := hL.keep hB
      have hnew : LnIn (WtL TyC w0 3) wr 50 3 farC (mb + 1) ⟨w.heap.size, n, some so, wc, cs⟩ := ⟨hrow, hs.1, hml, hn, hs, hty⟩
      have hgs : ∀ x ∈ ls, x.g < w.heap.size := fun x hx => (hL.each x hx).row.lt
      have HOR : Hid _ := hOr
      have HLR : Hid _ := hLr
      have HNW : Hid _ := hnew
      clear hg hs hsw hL hrow hO hOr hLr hnew
      go_wp2_with (at_builtin; refine wpList_append_lies _ rfl (.tmp 33) (.tmp 37) 246 rfl (mb + 1) 380 i1 _ 2 48 Tryz.underlying246 hj hj0 hj1 hj2 rfl (by decide) (.slice a an ac) ls.length (lnCells ls) rfl (HLR.out.own.alloc _) ⟨wr.heap.size, 0, none⟩ 1 1 [.slice (some ⟨w.heap.size, 0, none⟩) (n + 3) (n + 3), .slice (some so) n wc] rfl rfl (World.news_of_block (heap_alloc_new wr _)) (by intro u hu; simp at hu; rcases hu with rfl | rfl <;> rfl) (by decide) (by unfold maxLen; omega) (by omega) (by simp [World.size_alloc]; omega) (wr.heap.size + 1) (by simp [World.size_alloc]) ?_; intro g7 cap7 w7 hown7 hgrow7 hat7 hlt7; have kO := (lend_fin (k := 0) (l := ⟨w.heap.size, n, some so, wc, cs⟩) HOR.out HLR.out HNW.out hgs (by decide) (by decide) (hB.mono (by omega)) (keepT_below hB _ _) ((Below.refl _ wr).alloc (Nat.le_refl _) _) hgrow7 hown7 (.slice none 0 0)).1; have hb7 := ln_lt kO; have r0 := (blk_at kO).trans ha; have r0f : w7.frozen? ⟨mb, 0, none⟩ = false := by simp [World.frozen?, kO])
      go_ret
      obtain ⟨_, A1, A2, A3, A4⟩ := lend_fin (k := 0) (l := ⟨w.heap.size, n, some so, wc, cs⟩) HOR.out HLR.out HNW.out hgs (by decide) (by decide) (hB.mono (by omega)) (keepT_below hB _ _) ((Below.refl _ wr).alloc (Nat.le_refl _) _) hgrow7 hown7 (.slice (some ⟨g7, 0, none⟩) (ls.length + 1) cap7)
      exact ⟨w.heap.size, _, rfl, A1, A2, ⟨_, _, _, rfl⟩, A3, A4⟩
end Go.Proofs.YtilfjpmeededmaaGreatDoor

namespace Go.Proofs.YtilfjpmeededmaaGreatDoor
open Go.RowKit
def farK (j : Nat) : Value := if j = 0 then .string ⟨#[98, 101, 121, 111, 110, 100]⟩ else if j = 1 then .string ⟨#[]⟩ else .int .i64 0
def farX (_ : Nat) : Value := .string ⟨#[98, 101, 121, 111, 110, 100]⟩
theorem infofarKL : (Tryz.prog.info? 162).map (fun i => (i.zero, i.size, i.bytes)) = some (some (.agg #[.string ⟨#[]⟩, .string ⟨#[]⟩, .int .i64 0]), 3, 40) := by kernel_rfl
theorem infofarKLoan : (Tryz.prog.info? 468).map (fun i => (i.zero, i.size, i.bytes)) = some (some (.agg #[.slice none 0 0, .slice none 0 0]), 2, 48) := by kernel_rfl
theorem infofarXL : (Tryz.prog.info? 9).map (fun i => (i.zero, i.size, i.bytes)) = some (some (.string ⟨#[]⟩), 1, 16) := by kernel_rfl
theorem infofarXLoan : (Tryz.prog.info? 472).map (fun i => (i.zero, i.size, i.bytes)) = some (some (.agg #[.slice none 0 0, .slice none 0 0]), 2, 48) := by kernel_rfl
theorem ov_lent1 {n : Nat} {cs : List Value} {far f : Nat → Value} (hn : cs.length = n * 1) (j : Nat) (hj : j < (n + 3) * 1) : ovF 1 far (cpF cs f) n (n + 3) j = lentF 1 cs far j := by
  have := ov_lent (z := 1) (far := far) (f := f) hn j hj
  simpa using this
set_option maxHeartbeats 4000000 in
set_option maxRecDepth 100000 in
theorem colsOf_nil (w : World) (mb : Nat) :
    Calls Tryz.prog 182 #[.pointer (some ⟨mb, 0, none⟩), .slice none 0 0] w fun e w' => e = .returned (.slice none 0 0) ∧ w' = w := by
  have hnil : ∀ W, (binOp .eql 132 (.slice none 0 0) (.slice none 0 0)).run Tryz.prog W = .ok (.bool true) W := fun W => eql_nil W _ _ _ _ _ Tryz.underlying132
  go_enter Tryz.func182, Tryz.ntmps182
  go_wp2_with fail
  go_ret
  exact ⟨rfl, rfl⟩
set_option maxHeartbeats 4000000 in
set_option maxRecDepth 100000 in
theorem colsOf_any (w0 w : World) (mb : Nat) (a : Option Addr) (an ac : Nat) (arr : Array Value) (ls : List Ln) (hO : w.heap[mb]? = some (.cells arr 256 (0, 0))) (ha : arr[4]? = some (.slice a an ac)) (hL : LnsIn (WtL TyK w0 3) w 162 468 3 farK mb (.slice a an ac) ls) (hls : ls.length ≤ 1099511627776)
    (h0 : Below w0.heap.size w0 w) (so : Addr) (n wc : Nat) (cs : List Value) (hn : n ≤ 1048576) (hs : WantIn w0 3 (some so) n cs) (h1 : ∀ v ∈ cs, v.oneCell' = true) (hty : TyK cs n) :
    Calls Tryz.prog 182 #[.pointer (some ⟨mb, 0, none⟩), .slice (some so) n wc] w fun e w' => LendRes (WtL TyK w0 3) w 162 468 256 3 farK mb 4 arr ls (some so) n wc cs e w' := by
  obtain ⟨i0, hi, hz0, hz1, hz2⟩ := info_parts infofarKL
  obtain ⟨i1, hj, hj0, hj1, hj2⟩ := info_parts infofarKLoan
  have hml := ln_lt hO
  have hs3 : (Tryz.prog.info? 162).map (·.size) = some 3 := by rw [hi]; simp [hz1]
  have hsw := hs.keep h0
  have hnil : ∀ W, (binOp .eql 132 (.slice (some so) n wc) (.slice none 0 0)).run Tryz.prog W = .ok (.bool false) W := fun W => eql_nil W _ _ _ _ _ Tryz.underlying132
  go_enter Tryz.func182, Tryz.ntmps182
  have hne : mb ≠ w.heap.size := by omega
  go_wp2_with (first
    | (at_make; refine wpList_make_z _ rfl _ _ 132 rfl 162 i0 _ Tryz.underlying132 hi hz0 .i64 .i64 (n + 3) _ rfl rfl (by omega) (by rw [hz2]; omega) (by omega) 3 hz1 ?_; intro w2 f2 hs2 hb2 hr2 HF2)
    | (refine wpList_copy_z rfl (.tmp 15) (.tmp 16) 132 132 rfl 162 3 Tryz.underlying132 hs3 w.heap.size (n + 3) (n + 3) (some so) n wc rfl rfl ((n + 3) * 3) f2 162 hr2 cs (by omega) hsw.1 (hsw.keep hb2).src (by have := hsw.1; omega) h1 ?_; intro w3 hs3' hr3 hb3 ho3))
  have B3 : Below w.heap.size w w3 := hb3 _ _ (Nat.le_refl _) hb2
  have hg3 : w3.rowIs w.heap.size 162 ((n + 3) * 3) (ovF 3 farK (cpF cs f2) (n * 3) ((n + 0) * 3)) := hr3.congr fun j _ => (ovF_none _ _ _ _ _).symm
  clear hr2 hr3 hb3 ho3 hb2 hs2 hs3' hnil
  go_loopw [7] (fun iv wr => ∃ m : Nat, m ≤ 3 ∧ iv = .int .i64 ((n + m : Nat) : Int) ∧ wr.rowIs w.heap.size 162 ((n + 3) * 3) (ovF 3 farK (cpF cs f2) (n * 3) ((n + m) * 3)) ∧ Below w.heap.size w wr) (fun iv _ => (n + 3) - (intOf iv).toNat)
  case atStart => exact ⟨0, by omega, by go_num, hg3, B3⟩
  case round =>
    obtain ⟨m, hm, rfl, hg, hB⟩ := hrel
    clear hg3 B3
    by_cases hlt : m < 3
    · have hgl := hg.lt
      have c0 := hg.cell (i := (n + m) * 3) (by omega)
      have c1 := hg.cell (i := (n + m) * 3 + 1) (by omega)
      have c2 := hg.cell (i := (n + m) * 3 + 2) (by omega)
      have f0 := hg.frozen ((n + m) * 3)
      have f1 := hg.frozen ((n + m) * 3 + 1)
      have f3 := hg.frozen ((n + m) * 3 + 2)
      go_wp2_with fail
      go_roundw
      case rel => exact ⟨m + 1, by omega, by go_num, ov_step3 hg (by omega) rfl rfl rfl, ((hB.setCell (p := ⟨w.heap.size, _, none⟩) (Nat.le_refl _) _).setCell (p := ⟨w.heap.size, _, none⟩) (Nat.le_refl _) _).setCell (p := ⟨w.heap.size, _, none⟩) (Nat.le_refl _) _⟩
      case measure => simp [intOf]; omega
    · obtain rfl : m = 3 := by omega
      have hrow : wr.rowIs w.heap.size 162 ((n + 3) * 3) (lentF 3 cs farK) := hg.congr fun j hj => ov_lent hs.1 j hj
      have hOr := (hB.block mb hml).trans hO
      have hmr := ln_lt hOr
      have a0 : wr.cell? ⟨mb, 4, none⟩ = some (.slice a an ac) := (blk_at hOr).trans ha
      have hgl := hrow.lt
      have hLr : LnsIn (WtL TyK w0 3) wr 162 468 3 farK mb (.slice a an ac) ls := hL.keep hB
      have hnew : LnIn (WtL TyK w0 3) wr 162 3 farK (mb + 1) ⟨w.heap.size, n, some so, wc, cs⟩ := ⟨hrow, hs.1, hml, hn, hs, hty⟩
      have hgs : ∀ x ∈ ls, x.g < w.heap.size := fun x hx => (hL.each x hx).row.lt
      have HOR : Hid _ := hOr
      have HLR : Hid _ := hLr
      have HNW : Hid _ := hnew
      clear hg hs hsw hL hrow hO hOr hLr hnew
      go_wp2_with (at_builtin; refine wpList_append_lies _ rfl (.tmp 33) (.tmp 37) 250 rfl (mb + 1) 468 i1 _ 2 48 Tryz.underlying250 hj hj0 hj1 hj2 rfl (by decide) (.slice a an ac) ls.length (lnCells ls) rfl (HLR.out.own.alloc _) ⟨wr.heap.size, 0, none⟩ 1 1 [.slice (some ⟨w.heap.size, 0, none⟩) (n + 3) (n + 3), .slice (some so) n wc] rfl rfl (World.news_of_block (heap_alloc_new wr _)) (by intro u hu; simp at hu; rcases hu with rfl | rfl <;> rfl) (by decide) (by unfold maxLen; omega) (by omega) (by simp [World.size_alloc]; omega) (wr.heap.size + 1) (by simp [World.size_alloc]) ?_; intro g7 cap7 w7 hown7 hgrow7 hat7 hlt7; have kO := (lend_fin (k := 4) (l := ⟨w.heap.size, n, some so, wc, cs⟩) HOR.out HLR.out HNW.out hgs (by decide) (by decide) (hB.mono (by omega)) (keepT_below hB _ _) ((Below.refl _ wr).alloc (Nat.le_refl _) _) hgrow7 hown7 (.slice none 0 0)).1; have hb7 := ln_lt kO; have r0 := (blk_at kO).trans ha; have r0f : w7.frozen? ⟨mb, 4, none⟩ = false := by simp [World.frozen?, kO])
      go_ret
      obtain ⟨_, A1, A2, A3, A4⟩ := lend_fin (k := 4) (l := ⟨w.heap.size, n, some so, wc, cs⟩) HOR.out HLR.out HNW.out hgs (by decide) (by decide) (hB.mono (by omega)) (keepT_below hB _ _) ((Below.refl _ wr).alloc (Nat.le_refl _) _) hgrow7 hown7 (.slice (some ⟨g7, 0, none⟩) (ls.length + 1) cap7)
      exact ⟨w.heap.size, _, rfl, A1, A2, ⟨_, _, _, rfl⟩, A3, A4⟩
set_option maxHeartbeats 4000000 in
set_option maxRecDepth 100000 in
theorem textsOf_nil (w : World) (mb : Nat) :
    Calls Tryz.prog 184 #[.pointer (some ⟨mb, 0, none⟩), .slice none 0 0] w fun e w' => e = .returned (.slice none 0 0) ∧ w' = w := by
  have hnil : ∀ W, (binOp .eql 34 (.slice none 0 0) (.slice none 0 0)).run Tryz.prog W = .ok (.bool true) W := fun W => eql_nil W _ _ _ _ _ Tryz.underlying34
  go_enter Tryz.func184, Tryz.ntmps184
  go_wp2_with fail
  go_ret
  exact ⟨rfl, rfl⟩
set_option maxHeartbeats 4000000 in
set_option maxRecDepth 100000 in
theorem textsOf_any (w0 w : World) (mb : Nat) (a : Option Addr) (an ac : Nat) (arr : Array Value) (ls : List Ln) (hO : w.heap[mb]? = some (.cells arr 256 (0, 0))) (ha : arr[2]? = some (.slice a an ac)) (hL : LnsIn (WtL TyX w0 1) w 9 472 1 farX mb (.slice a an ac) ls) (hls : ls.length ≤ 1099511627776)
    (h0 : Below w0.heap.size w0 w) (so : Addr) (n wc : Nat) (cs : List Value) (hn : n ≤ 1048576) (hs : WantIn w0 1 (some so) n cs) (h1 : ∀ v ∈ cs, v.oneCell' = true) (hty : TyX cs n) :
    Calls Tryz.prog 184 #[.pointer (some ⟨mb, 0, none⟩), .slice (some so) n wc] w fun e w' => LendRes (WtL TyX w0 1) w 9 472 256 1 farX mb 2 arr ls (some so) n wc cs e w' := by
  obtain ⟨i0, hi, hz0, hz1, hz2⟩ := info_parts infofarXL
  obtain ⟨i1, hj, hj0, hj1, hj2⟩ := info_parts infofarXLoan
  have hml := ln_lt hO
  have hs3 : (Tryz.prog.info? 9).map (·.size) = some 1 := by rw [hi]; simp [hz1]
  have hsw := hs.keep h0
  have hnil : ∀ W, (binOp .eql 34 (.slice (some so) n wc) (.slice none 0 0)).run Tryz.prog W = .ok (.bool false) W := fun W => eql_nil W _ _ _ _ _ Tryz.underlying34
  go_enter Tryz.func184, Tryz.ntmps184
  have hne : mb ≠ w.heap.size := by omega
  go_wp2_with (first
    | (at_make; refine wpList_make_z _ rfl _ _ 34 rfl 9 i0 _ Tryz.underlying34 hi hz0 .i64 .i64 (n + 3) _ rfl rfl (by omega) (by rw [hz2]; omega) (by omega) 1 hz1 ?_; intro w2 f2 hs2 hb2 hr2 HF2)
    | (refine wpList_copy_z rfl (.tmp 15) (.tmp 16) 34 34 rfl 9 1 Tryz.underlying34 hs3 w.heap.size (n + 3) (n + 3) (some so) n wc rfl rfl _ f2 9 hr2 cs (by omega) hsw.1 (hsw.keep hb2).src (by have := hsw.1; omega) h1 ?_; intro w3 hs3' hr3 hb3 ho3))
  have B3 : Below w.heap.size w w3 := hb3 _ _ (Nat.le_refl _) hb2
  have hg3 : w3.rowIs w.heap.size 9 ((n + 3) * 1) (ovF 1 farX (cpF cs f2) n (n + 0)) := hr3.congr fun j _ => (ovF_none _ _ _ _ _).symm
  clear hr2 hr3 hb3 ho3 hb2 hs2 hs3' hnil
  go_loopw [7] (fun iv wr => ∃ m : Nat, m ≤ 3 ∧ iv = .int .i64 ((n + m : Nat) : Int) ∧ wr.rowIs w.heap.size 9 ((n + 3) * 1) (ovF 1 farX (cpF cs f2) n (n + m)) ∧ Below w.heap.size w wr) (fun iv _ => (n + 3) - (intOf iv).toNat)
  case atStart => exact ⟨0, by omega, by go_num, hg3, B3⟩
  case round =>
    obtain ⟨m, hm, rfl, hg, hB⟩ := hrel
    clear hg3 B3
    by_cases hlt : m < 3
    · have hgl := hg.lt
      have c0 := hg.cell (i := n + m) (by omega)
      have f0 := hg.frozen (n + m)
      go_wp2_with fail
      go_roundw
      case rel => exact ⟨m + 1, by omega, by go_num, ov_step1 hg (by omega), hB.setCell (p := ⟨w.heap.size, _, none⟩) (Nat.le_refl _) _⟩
      case measure => simp [intOf]; omega
    · obtain rfl : m = 3 := by omega
      have hrow : wr.rowIs w.heap.size 9 ((n + 3) * 1) (lentF 1 cs farX) := hg.congr fun j hj => ov_lent1 hs.1 j hj
      have hOr := (hB.block mb hml).trans hO
      have hmr := ln_lt hOr
      have a0 : wr.cell? ⟨mb, 2, none⟩ = some (.slice a an ac) := (blk_at hOr).trans ha
      have hgl := hrow.lt
      have hLr : LnsIn (WtL TyX w0 1) wr 9 472 1 farX mb (.slice a an ac) ls := hL.keep hB
      have hnew : LnIn (WtL TyX w0 1) wr 9 1 farX (mb + 1) ⟨w.heap.size, n, some so, wc, cs⟩ := ⟨hrow, hs.1, hml, hn, hs, hty⟩
      have hgs : ∀ x ∈ ls, x.g < w.heap.size := fun x hx => (hL.each x hx).row.lt
      have HOR : Hid _ := hOr
      have HLR : Hid _ := hLr
      have HNW : Hid _ := hnew
      clear hg hs hsw hL hrow hO hOr hLr hnew
      go_wp2_with (at_builtin; refine wpList_append_lies _ rfl (.tmp 32) (.tmp 36) 248 rfl (mb + 1) 472 i1 _ 2 48 Tryz.underlying248 hj hj0 hj1 hj2 rfl (by decide) (.slice a an ac) ls.length (lnCells ls) rfl (HLR.out.own.alloc _) ⟨wr.heap.size, 0, none⟩ 1 1 [.slice (some ⟨w.heap.size, 0, none⟩) (n + 3) (n + 3), .slice (some so) n wc] rfl rfl (World.news_of_block (heap_alloc_new wr _)) (by intro u hu; simp at hu; rcases hu with rfl | rfl <;> rfl) (by decide) (by unfold maxLen; omega) (by omega) (by simp [World.size_alloc]; omega) (wr.heap.size + 1) (by simp [World.size_alloc]) ?_; intro g7 cap7 w7 hown7 hgrow7 hat7 hlt7; have kO := (lend_fin (k := 2) (l := ⟨w.heap.size, n, some so, wc, cs⟩) HOR.out HLR.out HNW.out hgs (by decide) (by decide) (hB.mono (by omega)) (keepT_below hB _ _) ((Below.refl _ wr).alloc (Nat.le_refl _) _) hgrow7 hown7 (.slice none 0 0)).1; have hb7 := ln_lt kO; have r0 := (blk_at kO).trans ha; have r0f : w7.frozen? ⟨mb, 2, none⟩ = false := by simp [World.frozen?, kO])
      go_ret
      obtain ⟨_, A1, A2, A3, A4⟩ := lend_fin (k := 2) (l := ⟨w.heap.size, n, some so, wc, cs⟩) HOR.out HLR.out HNW.out hgs (by decide) (by decide) (hB.mono (by omega)) (keepT_below hB _ _) ((Below.refl _ wr).alloc (Nat.le_refl _) _) hgrow7 hown7 (.slice (some ⟨g7, 0, none⟩) (ls.length + 1) cap7)
      exact ⟨w.heap.size, _, rfl, A1, A2, ⟨_, _, _, rfl⟩, A3, A4⟩
end Go.Proofs.YtilfjpmeededmaaGreatDoor

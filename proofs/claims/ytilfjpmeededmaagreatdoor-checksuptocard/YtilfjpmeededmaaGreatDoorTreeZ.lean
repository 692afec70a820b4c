import Derived.Test.YtilfjpmeededmaaGreatDoorScanZ
import Derived.Maps.AppendAt
set_option linter.unusedVariables false
set_option linter.unusedSimpArgs false
namespace Go.Proofs.YtilfjpmeededmaaGreatDoor
open Go.RowKit
theorem grown_refl (w : World) (row : Option Nat) : w.grownBy w row := ⟨rfl, rfl, rfl, Nat.le_refl _, fun _ _ _ => rfl⟩
theorem grown_trans {a b c : World} {row : Option Nat} (h : a.grownBy b row) (k : b.grownBy c row) : a.grownBy c row :=
  ⟨k.os.trans h.os, k.tape.trans h.tape, k.output.trans h.output, Nat.le_trans h.size k.size, fun i hi hr => (k.block i (Nat.lt_of_lt_of_le hi h.size) hr).trans (h.block i hi hr)⟩
theorem grown_below {a b : World} (h : Below a.heap.size a b) (row : Option Nat) : a.grownBy b row :=
  ⟨h.os, h.tape, h.output, h.size, fun k hk _ => h.block k hk⟩
theorem grown_alloc {a b : World} {row : Option Nat} (h : a.grownBy b row) (o : Obj) : a.grownBy (b.alloc o) row :=
  grown_trans h (grown_below ((Below.refl _ _).alloc (Nat.le_refl _) _) _)
def RestIs (w : World) (rb : Nat) (ts : List Tk) : Prop :=
  ∃ v, w.heap[rb]? = some (.cells #[v] 347 (0, 0)) ∧
    ((ts = [] ∧ ∃ ao cap, v = .slice ao 0 cap) ∨
     (∃ g off cap, v = .slice (some ⟨g, off, none⟩) ts.length cap ∧ g < rb ∧ ts.length ≤ cap ∧ cap ≤ maxLen ∧ ∀ j u, (toksCells ts)[j]? = some u → w.cell? ⟨g, off + j, none⟩ = some u))
set_option maxHeartbeats 800000 in
set_option maxRecDepth 100000 in
theorem next_nil (w : World) (rb : Nat) (h : RestIs w rb []) :
    Calls Tryz.prog 254 #[.pointer (some ⟨rb, 0, none⟩)] w fun e w' => e = .returned (.agg #[.int .i64 0, .string ⟨#[]⟩]) ∧ Below w.heap.size w w' := by
  obtain ⟨ao, cap, hc⟩ : ∃ ao cap, w.cell? ⟨rb, 0, none⟩ = some (.slice ao 0 cap) := by
    obtain ⟨v, hb, h⟩ := h
    have hc : w.cell? ⟨rb, 0, none⟩ = some v := by simp [World.cell?, hb]
    rcases h with ⟨_, ao, cap, rfl⟩ | ⟨g, off, cap, rfl, _⟩
    · exact ⟨_, _, hc⟩
    · exact ⟨_, _, hc⟩
  have hlt : rb < w.heap.size := by
    obtain ⟨v, hb, _⟩ := h
    rcases Nat.lt_or_ge rb w.heap.size with h' | h'
    · exact h'
    · simp [Array.getElem?_eq_none h'] at hb
  clear h
  go_enter Tryz.func254, Tryz.ntmps254
  go_wp2
  exact bodyPost_ret (v := .agg #[.int .i64 0, .string ⟨#[]⟩]) (by simp [results, Tryz.results254, go_sem]) rfl ⟨rfl, (Below.refl _ _).alloc (Nat.le_refl _) _⟩
theorem grown_setCell (w : World) (rb : Nat) (off : Nat) (v : Value) : w.grownBy (w.setCell ⟨rb, off, none⟩ v) (some rb) :=
  ⟨rfl, rfl, rfl, by simp [World.setCell], fun k _ hk => Below.heap_setCell _ _ _ _ (fun e => hk (by simp [e]))⟩
theorem block_setCell (w : World) (rb : Nat) (v v' : Value) (T : TypeId) (h : w.heap[rb]? = some (.cells #[v] T (0, 0))) : (w.setCell ⟨rb, 0, none⟩ v').heap[rb]? = some (.cells #[v'] T (0, 0)) := by
  simp [World.setCell, Array.getElem?_modify, h]
theorem block_lt {w : World} {k : Nat} {o : Obj} (h : w.heap[k]? = some o) : k < w.heap.size := by
  rcases Nat.lt_or_ge k w.heap.size with h' | h'
  · exact h'
  · simp [Array.getElem?_eq_none h'] at h
theorem grown_cell {w w' : World} {rb : Nat} (h : w.grownBy w' (some rb)) {p : Addr} (h1 : p.block < w.heap.size) (h2 : p.block ≠ rb) : w'.cell? p = w.cell? p :=
  World.cell?_of_block (h.block p.block h1 (by simpa using h2))
theorem rest_step {w : World} {rb g off off' cap cap' : Nat} {t : Tk} {ts : List Tk} (o1 o2 : Obj) {v : Value} (hb : w.heap[rb]? = some (.cells #[v] 347 (0, 0)))
    (hg : g < rb) (hcap : ts.length + 1 ≤ cap) (hmax : cap ≤ 2 ^ 63 - 1)
    (hcells : ∀ j u, (toksCells (t :: ts))[j]? = some u → w.cell? ⟨g, off + j, none⟩ = some u) (hcase : (ts = [] ∧ cap' ≤ maxLen) ∨ (off' = off + 2 ∧ cap' = cap - 1)) :
    w.grownBy (((w.setCell ⟨rb, 0, none⟩ (.slice (some ⟨g, off', none⟩) ts.length cap')).alloc o1).alloc o2) (some rb) ∧
      RestIs (((w.setCell ⟨rb, 0, none⟩ (.slice (some ⟨g, off', none⟩) ts.length cap')).alloc o1).alloc o2) rb ts := by
  have hlt := block_lt hb
  have G := grown_alloc (grown_alloc (grown_setCell w rb 0 (.slice (some ⟨g, off', none⟩) ts.length cap')) o1) o2
  refine ⟨G, .slice (some ⟨g, off', none⟩) ts.length cap', ?_, ?_⟩
  · rw [Below.heap_alloc _ _ _ (by simp [World.setCell]; omega), Below.heap_alloc _ _ _ (by simp [World.setCell]; omega)]
    exact block_setCell w rb v _ _ hb
  · rcases hcase with ⟨rfl, _⟩ | ⟨rfl, rfl⟩
    · exact .inl ⟨rfl, _, _, rfl⟩
    · refine .inr ⟨g, off + 2, cap - 1, rfl, hg, by omega, by unfold maxLen; omega, fun j u hj => ?_⟩
      rw [grown_cell G (p := ⟨g, off + 2 + j, none⟩) (by show g < _; omega) (by show g ≠ _; omega)]
      have := hcells (j + 2) u (by rw [toksCells, List.flatMap_cons]; simpa [tokCells, toksCells] using hj)
      rw [← this]; congr 2; omega
set_option maxHeartbeats 800000 in
set_option maxRecDepth 100000 in
theorem next_cons (w : World) (rb : Nat) (t : Tk) (ts : List Tk) (h : RestIs w rb (t :: ts)) :
    Calls Tryz.prog 254 #[.pointer (some ⟨rb, 0, none⟩)] w fun e w' => e = .returned (.agg #[.int .i64 t.1, .string (ofBs t.2)]) ∧ w.grownBy w' (some rb) ∧ RestIs w' rb ts := by
  obtain ⟨v, hb, h⟩ := h
  rcases h with ⟨h, _⟩ | ⟨g, off, cap, rfl, hg, hcap, hmax, hcells⟩
  · cases h
  have hc : w.cell? ⟨rb, 0, none⟩ = some (.slice (some ⟨g, off, none⟩) (ts.length + 1) cap) := by simp [World.cell?, hb]
  have hf : w.frozen? ⟨rb, 0, none⟩ = false := by simp [World.frozen?, hb]
  have hlt : rb < w.heap.size := block_lt hb
  have hgs : g < w.heap.size := by omega
  have hgn : g ≠ rb := by omega
  have c0 : w.cell? ⟨g, off, none⟩ = some (.int .i64 t.1) := hcells 0 _ (by simp [toksCells, tokCells])
  have c1 : w.cell? ⟨g, off + 1, none⟩ = some (.string (ofBs t.2)) := hcells 1 _ (by simp [toksCells, tokCells])
  simp only [List.length_cons] at hcap
  unfold maxLen at hmax
  have HC : Hid _ := hcells
  have HB : Hid _ := hb
  clear hcells hb
  go_enter Tryz.func254, Tryz.ntmps254
  go_wp2
  · have h0 : ts = [] := List.length_eq_zero_iff.mp (by omega)
    obtain ⟨R1, R2⟩ := rest_step (o1 := .cells #[.int .i64 t.1, .string (ofBs t.2)] 233) (o2 := .cells #[.int .i64 t.1, .string (ofBs t.2)] 233) (off' := off) (cap' := 0) HB.out hg hcap hmax HC.out (.inl ⟨h0, by unfold maxLen; omega⟩)
    exact bodyPost_ret (v := .agg #[.int .i64 t.1, .string (ofBs t.2)]) (by simp [results, Tryz.results254, go_sem]) rfl ⟨rfl, R1, R2⟩
  · obtain ⟨R1, R2⟩ := rest_step (o1 := .cells #[.int .i64 t.1, .string (ofBs t.2)] 233) (o2 := .cells #[.int .i64 t.1, .string (ofBs t.2)] 233) (off' := off + 2) (cap' := cap - 1) HB.out hg hcap hmax HC.out (.inr ⟨rfl, rfl⟩)
    exact bodyPost_ret (v := .agg #[.int .i64 t.1, .string (ofBs t.2)]) (by simp [results, Tryz.results254, go_sem]) rfl ⟨rfl, R1, R2⟩
set_option maxHeartbeats 800000 in
set_option maxRecDepth 100000 in
theorem closes_nil (w : World) (rb : Nat) (h : RestIs w rb []) :
    Calls Tryz.prog 332 #[.pointer (some ⟨rb, 0, none⟩)] w fun e w' => e = .returned (.bool false) ∧ w' = w := by
  obtain ⟨ao, cap, hc⟩ : ∃ ao cap, w.cell? ⟨rb, 0, none⟩ = some (.slice ao 0 cap) := by
    obtain ⟨v, hb, h⟩ := h
    have hc : w.cell? ⟨rb, 0, none⟩ = some v := by simp [World.cell?, hb]
    rcases h with ⟨_, ao, cap, rfl⟩ | ⟨g, off, cap, rfl, _⟩
    · exact ⟨_, _, hc⟩
    · exact ⟨_, _, hc⟩
  clear h
  go_enter Tryz.func332, Tryz.ntmps332
  go_wp2_with fail
  go_ret
  exact ⟨rfl, rfl⟩
set_option maxHeartbeats 800000 in
set_option maxRecDepth 100000 in
theorem closes_no (w : World) (rb : Nat) (t : Tk) (ts : List Tk) (h : RestIs w rb (t :: ts)) (hk : ¬ t.1 = 2) :
    Calls Tryz.prog 332 #[.pointer (some ⟨rb, 0, none⟩)] w fun e w' => e = .returned (.bool false) ∧ w' = w := by
  obtain ⟨v, hb, h⟩ := h
  rcases h with ⟨h, _⟩ | ⟨g, off, cap, rfl, hg, hcap, hmax, hcells⟩
  · cases h
  have hc : w.cell? ⟨rb, 0, none⟩ = some (.slice (some ⟨g, off, none⟩) (ts.length + 1) cap) := by simp [World.cell?, hb]
  have c0 : w.cell? ⟨g, off, none⟩ = some (.int .i64 t.1) := hcells 0 _ (by simp [toksCells, tokCells])
  have hkb : (t.1 != 2) = true := by simpa using hk
  simp only [List.length_cons] at hcap
  unfold maxLen at hmax
  clear hcells hb hk
  go_enter Tryz.func332, Tryz.ntmps332
  go_wp2_with fail
  go_ret
  exact ⟨rfl, rfl⟩
set_option maxHeartbeats 800000 in
set_option maxRecDepth 100000 in
theorem closes_yes (w : World) (rb : Nat) (t : Tk) (ts : List Tk) (h : RestIs w rb (t :: ts)) (hk : t.1 = 2) :
    Calls Tryz.prog 332 #[.pointer (some ⟨rb, 0, none⟩)] w fun e w' => e = .returned (.bool true) ∧ w.grownBy w' (some rb) ∧ RestIs w' rb ts := by
  have hh := h
  obtain ⟨v, hb, h⟩ := h
  rcases h with ⟨h, _⟩ | ⟨g, off, cap, rfl, hg, hcap, hmax, hcells⟩
  · cases h
  have hc : w.cell? ⟨rb, 0, none⟩ = some (.slice (some ⟨g, off, none⟩) (ts.length + 1) cap) := by simp [World.cell?, hb]
  have c0 : w.cell? ⟨g, off, none⟩ = some (.int .i64 t.1) := hcells 0 _ (by simp [toksCells, tokCells])
  have hkb : (t.1 != 2) = false := by simpa using hk
  simp only [List.length_cons] at hcap
  unfold maxLen at hmax
  clear hcells hb hk
  go_enter Tryz.func332, Tryz.ntmps332
  go_wp2_with (go_at_call 254; refine (next_cons _ _ t ts hh).mono ?_; rintro e w2 ⟨rfl, hg2, hr2⟩)
  go_ret
  exact ⟨rfl, hg2, hr2⟩
theorem RestIs.lt {w : World} {rb : Nat} {ts : List Tk} (h : RestIs w rb ts) : rb < w.heap.size := by
  obtain ⟨v, hb, _⟩ := h; exact block_lt hb
theorem RestIs.keep {w x : World} {rb : Nat} {ts : List Tk} (h : RestIs w rb ts) (hk : ∀ k, k ≤ rb → x.heap[k]? = w.heap[k]?) : RestIs x rb ts := by
  obtain ⟨v, hb, h⟩ := h
  refine ⟨v, by rw [hk rb (Nat.le_refl _)]; exact hb, ?_⟩
  rcases h with h | ⟨g, off, cap, hv, hg, hcap, hmax, hcells⟩
  · exact .inl h
  · refine .inr ⟨g, off, cap, hv, hg, hcap, hmax, fun j u hj => ?_⟩
    rw [World.cell?_of_block (w := w) (hk g (by omega))]; exact hcells j u hj
theorem RestIs.setCell {w : World} {rb : Nat} {ts : List Tk} (h : RestIs w rb ts) {b : Nat} (hb : rb < b) (o : Nat) (v : Value) : RestIs (w.setCell ⟨b, o, none⟩ v) rb ts :=
  h.keep fun k hk => Below.heap_setCell _ _ _ _ (fun e => by simp at e; omega)
theorem RestIs.alloc {w : World} {rb : Nat} {ts : List Tk} (h : RestIs w rb ts) (o : Obj) : RestIs (w.alloc o) rb ts :=
  h.keep fun k hk => Below.heap_alloc _ _ _ (by have := h.lt; omega)
theorem RestIs.below {w x : World} {rb : Nat} {ts : List Tk} (h : RestIs w rb ts) (hb : Below w.heap.size w x) : RestIs x rb ts :=
  h.keep fun k hk => hb.block k (by have := h.lt; omega)
theorem grown_new {a b : World} {row : Option Nat} (h : a.grownBy b row) {k : Nat} (hk : a.heap.size ≤ k) (o : Nat) (v : Value) : a.grownBy (b.setCell ⟨k, o, none⟩ v) row :=
  ⟨h.os, h.tape, h.output, by simpa [World.setCell] using h.size, fun i hi hr => (Below.heap_setCell _ _ _ _ (fun e => by simp at e; omega)).trans (h.block i hi hr)⟩
end Go.Proofs.YtilfjpmeededmaaGreatDoor

namespace Go.Proofs.YtilfjpmeededmaaGreatDoor
open Go.RowKit
inductive Tr where
  | mk (k : Int) (tx : Bs) (br : Bool) (ops : List Tr)
mutual
def treeF : Nat → Nat → List Tk → Option (Tr × List Tk)
  | 0, _, _ => none
  | _ + 1, _, [] => none
  | f + 1, deep, t :: r => if t.1 = 1 then brF f (deep + 1) r else if aloneS t.1 t.2 then some (.mk t.1 t.2 false [], r) else none
def brF : Nat → Nat → List Tk → Option (Tr × List Tk)
  | 0, _, _ => none
  | _ + 1, _, [] => none
  | f + 1, deep, h :: r => if 20 < deep then none else if headS h.1 h.2 then (opsF f deep r).map (fun p => (.mk h.1 h.2 true p.1, p.2)) else none
def opsF : Nat → Nat → List Tk → Option (List Tr × List Tk)
  | 0, _, _ => none
  | _ + 1, _, [] => none
  | f + 1, deep, t :: r => if t.1 = 2 then some ([], r) else
      match treeF f deep (t :: r) with
      | none => none
      | some (x, r') => (opsF f deep r').map (fun p => (x :: p.1, p.2))
end
mutual
inductive IsTr (w : World) (S : Nat → Prop) : List Value → Tr → Prop
  | mk {k : Int} {tx : Bs} {br : Bool} {ops : List Tr} {v : Value} {cs : List Value} : IsTrs w S cs ops → w.ownsRow 0 236 4 v ops.length cs → (∀ g, v.ownBlock = some g → S g) →
      IsTr w S [.int .i64 k, .string (ofBs tx), .bool br, v] (.mk k tx br ops)
inductive IsTrs (w : World) (S : Nat → Prop) : List Value → List Tr → Prop
  | nil : IsTrs w S [] []
  | cons {c cs : List Value} {t : Tr} {ts : List Tr} : IsTr w S c t → IsTrs w S cs ts → IsTrs w S (c ++ cs) (t :: ts)
end
theorem owns_base {w : World} {b b' n size : Nat} {e : TypeId} {v : Value} {xs : List Value} (h : w.ownsRow b e size v n xs) (hb : ∀ g, v.ownBlock = some g → b' ≤ g) : w.ownsRow b' e size v n xs := by
  refine ⟨h.1, ?_⟩
  rcases h.2 with h | ⟨g, cap, cur, rfl, _, h⟩
  · exact .inl h
  · exact .inr ⟨g, cap, cur, rfl, hb g rfl, h⟩
theorem owns_keep {w x : World} {b n size : Nat} {e : TypeId} {v : Value} {xs : List Value} (h : w.ownsRow b e size v n xs) (hb : ∀ g, v.ownBlock = some g → x.heap[g]? = w.heap[g]?) : x.ownsRow b e size v n xs := by
  refine ⟨h.1, ?_⟩
  rcases h.2 with h | ⟨g, cap, cur, rfl, h1, h2, h⟩
  · exact .inl h
  · exact .inr ⟨g, cap, cur, rfl, h1, by rw [hb g rfl]; exact h2, h⟩
mutual
theorem IsTr.move {w x : World} {S S' : Nat → Prop} (hk : ∀ g, S g → x.heap[g]? = w.heap[g]?) (hs : ∀ g, S g → S' g) : ∀ {c : List Value} {t : Tr}, IsTr w S c t → IsTr x S' c t
  | _, _, .mk a b d => .mk (IsTrs.move hk hs a) (owns_keep b fun g hg => hk g (d g hg)) fun g hg => hs g (d g hg)
theorem IsTrs.move {w x : World} {S S' : Nat → Prop} (hk : ∀ g, S g → x.heap[g]? = w.heap[g]?) (hs : ∀ g, S g → S' g) : ∀ {c : List Value} {t : List Tr}, IsTrs w S c t → IsTrs x S' c t
  | _, _, .nil => .nil
  | _, _, .cons a b => .cons (IsTr.move hk hs a) (IsTrs.move hk hs b)
end
theorem IsTr.four {w : World} {S : Nat → Prop} {c : List Value} {t : Tr} (h : IsTr w S c t) : c.length = 4 := by cases h; rfl
theorem IsTrs.snoc {w : World} {S : Nat → Prop} {c d : List Value} {t : List Tr} {u : Tr} (h : IsTrs w S c t) (k : IsTr w S d u) : IsTrs w S (c ++ d) (t ++ [u]) := by
  induction t generalizing c with
  | nil => cases h; have := IsTrs.cons k IsTrs.nil; simpa using this
  | cons t ts ih =>
    cases h with
    | cons a b => rw [List.append_assoc]; exact .cons a (ih b)
theorem IsTr.leaf (w : World) (S : Nat → Prop) (k : Int) (tx : Bs) (br : Bool) : IsTr w S [.int .i64 k, .string (ofBs tx), .bool br, .slice none 0 0] (.mk k tx br []) :=
  .mk .nil (World.ownsRow_nil _ _ _ _) (fun g hg => by cases hg)
theorem IsTr.bounded {w : World} {S : Nat → Prop} {c : List Value} {t : Tr} : IsTr w S c t → IsTr w (fun g => S g ∧ g < w.heap.size) c t := by
  intro h
  have key : (∀ {c : List Value} {t : Tr}, IsTr w S c t → IsTr w (fun g => S g ∧ g < w.heap.size) c t) := by
    intro c t h
    refine IsTr.rec (motive_1 := fun c t _ => IsTr w (fun g => S g ∧ g < w.heap.size) c t) (motive_2 := fun c t _ => IsTrs w (fun g => S g ∧ g < w.heap.size) c t) ?_ ?_ ?_ h
    · intro k tx br ops v cs _ hown hS ih
      exact .mk ih hown fun g hg => ⟨hS g hg, (hown.lt g hg).2⟩
    · exact .nil
    · intro c cs t ts _ _ i1 i2; exact .cons i1 i2
  exact key h
theorem IsTrs.bounded {w : World} {S : Nat → Prop} {c : List Value} {t : List Tr} (h : IsTrs w S c t) : IsTrs w (fun g => S g ∧ g < w.heap.size) c t := by
  induction t generalizing c with
  | nil => cases h; exact .nil
  | cons t ts ih =>
    cases h with
    | cons a b => exact .cons a.bounded (ih b)
theorem ops_step {wr w5 w6 : World} {rb Tb : Nat} {v v' : Value} {cs news : List Value} {xs : List Tr} {x : Tr} (o1 o2 : Obj)
    (hrb : rb < Tb) (hTb : Tb < wr.heap.size) (hown : wr.ownsRow (Tb + 1) 236 4 v xs.length cs) (hxs : IsTrs wr (fun g => Tb < g ∧ v.ownBlock ≠ some g) cs xs)
    (hg5 : wr.grownBy w5 (some rb)) (hx : IsTr w5 (fun g => wr.heap.size ≤ g) news x)
    (hown' : w6.ownsRow (Tb + 1) 236 4 v' (xs.length + 1) (cs ++ news)) (hg6 : ((w5.alloc o1).alloc o2).grownBy w6 v.ownBlock)
    (hat : v'.ownBlock = v.ownBlock ∨ v'.ownBlock = some ((w5.alloc o1).alloc o2).heap.size) :
    IsTrs (w6.setCell ⟨Tb, 3, none⟩ v') (fun g => Tb < g ∧ v'.ownBlock ≠ some g) (cs ++ news) (xs ++ [x]) ∧
    (w6.setCell ⟨Tb, 3, none⟩ v').ownsRow (Tb + 1) 236 4 v' (xs ++ [x]).length (cs ++ news) ∧
    (∀ g, g < wr.heap.size → g ≠ rb → v.ownBlock ≠ some g → w6.heap[g]? = wr.heap[g]?) ∧
    (∀ g, g < w5.heap.size → v.ownBlock ≠ some g → w6.heap[g]? = w5.heap[g]?) := by
  have s5 := hg5.size
  have s6 : ((w5.alloc o1).alloc o2).heap.size = w5.heap.size + 2 := by simp
  have keep : ∀ g, g < w5.heap.size → v.ownBlock ≠ some g → w6.heap[g]? = w5.heap[g]? := by
    intro g h1 h2
    rw [hg6.block g (by omega) (fun e => h2 e.symm), Below.heap_alloc _ _ _ (by simp; omega), Below.heap_alloc _ _ _ h1]
  have keep5 : ∀ g, g < wr.heap.size → g ≠ rb → v.ownBlock ≠ some g → w6.heap[g]? = wr.heap[g]? := by
    intro g h1 h2 h3
    rw [keep g (by omega) h3, hg5.block g h1 (by simpa using h2)]
  have vlt : ∀ g, v.ownBlock = some g → g < wr.heap.size := fun g hg => (hown.lt g hg).2
  refine ⟨IsTrs.snoc ?_ ?_, ?_, keep5, keep⟩
  · refine hxs.bounded.move (fun g hg => ?_) (fun g hg => ⟨hg.1.1, ?_⟩)
    · rw [Below.heap_setCell _ _ _ _ (by show g ≠ Tb; have := hg.1.1; omega), keep5 g hg.2 (by have := hg.1.1; omega) hg.1.2]
    · rcases hat with e | e
      · rw [e]; exact hg.1.2
      · rw [e, s6]; intro e2; have e3 := Option.some.inj e2; have := hg.2; omega
  · refine hx.bounded.move (fun g hg => ?_) (fun g hg => ⟨by have := hg.1; omega, ?_⟩)
    · rw [Below.heap_setCell _ _ _ _ (by show g ≠ Tb; have := hg.1; omega), keep g hg.2 (fun e => by have := vlt g e; have := hg.1; omega)]
    · rcases hat with e | e
      · rw [e]; intro e2; have := vlt g e2; have := hg.1; omega
      · rw [e, s6]; intro e2; have e3 := Option.some.inj e2; have := hg.2; omega
  · rw [List.length_append]
    exact ownsRow_setCell_below hown' (by show Tb < Tb + 1; omega) _
theorem grown_on {w wr w5 W w6 : World} {rb : Nat} {row : Option Nat} (h : w.grownBy wr (some rb)) (h5 : wr.grownBy w5 (some rb)) (hW : W.os = w5.os ∧ W.tape = w5.tape ∧ W.output = w5.output ∧ w5.heap.size ≤ W.heap.size) (h6 : W.grownBy w6 row)
    (hr : ∀ g, row = some g → w.heap.size ≤ g) (hk : ∀ g, g < wr.heap.size → g ≠ rb → row ≠ some g → w6.heap[g]? = wr.heap[g]?) : w.grownBy w6 (some rb) := by
  obtain ⟨a, b, c, d⟩ := hW
  refine ⟨h6.os.trans (a.trans (h5.os.trans h.os)), h6.tape.trans (b.trans (h5.tape.trans h.tape)), h6.output.trans (c.trans (h5.output.trans h.output)), Nat.le_trans h.size (Nat.le_trans h5.size (Nat.le_trans d h6.size)), fun k hk1 hk2 => ?_⟩
  rw [hk k (Nat.lt_of_lt_of_le hk1 h.size) (fun e => hk2 (by rw [e])) (fun e => by have := hr k e; omega)]
  exact h.block k hk1 hk2
end Go.Proofs.YtilfjpmeededmaaGreatDoor

namespace Go.Proofs.YtilfjpmeededmaaGreatDoor
open Go.RowKit
def Reads (w : World) (rb : Nat) (ts : List Tk) (o : Option (Tr × List Tk)) (e : Ending) (w' : World) : Prop :=
  w.grownBy w' (some rb) ∧
    ((o = none ∧ e = .returned (.tuple #[.agg #[.int .i64 0, .string ⟨#[]⟩, .bool false, .slice none 0 0], .bool false])) ∨
     (∃ k tx br ao n cap t r, o = some (t, r) ∧ r.length < ts.length ∧ e = .returned (.tuple #[.agg #[.int .i64 k, .string (ofBs tx), .bool br, .slice ao n cap], .bool true]) ∧
        RestIs w' rb r ∧ IsTr w' (fun g => w.heap.size ≤ g) [.int .i64 k, .string (ofBs tx), .bool br, .slice ao n cap] t))
def TreeSpec (f : Nat) : Prop := ∀ (w : World) (rb deep : Nat) (ts : List Tk), RestIs w rb ts → 2 * ts.length ≤ f → ts.length ≤ 400 → deep ≤ 21 →
  Calls Tryz.prog 178 #[.pointer (some ⟨rb, 0, none⟩), .int .i64 deep] w fun e w' => Reads w rb ts (treeF f deep ts) e w'
def BrSpec (f : Nat) : Prop := ∀ (w : World) (rb deep : Nat) (ts : List Tk), RestIs w rb ts → 2 * ts.length + 1 ≤ f → ts.length ≤ 400 → deep ≤ 22 →
  Calls Tryz.prog 255 #[.pointer (some ⟨rb, 0, none⟩), .int .i64 deep] w fun e w' => Reads w rb ts (brF f deep ts) e w'
theorem cells4 {x : World} {b : Nat} {a0 a1 a2 a3 : Value} {T : TypeId} (h : x.heap[b]? = some (.cells #[a0, a1, a2, a3] T (0, 0))) :
    (x.cell? ⟨b, 0, none⟩ = some a0 ∧ x.cell? ⟨b, 1, none⟩ = some a1 ∧ x.cell? ⟨b, 2, none⟩ = some a2 ∧ x.cell? ⟨b, 3, none⟩ = some a3) ∧
    (x.frozen? ⟨b, 0, none⟩ = false ∧ x.frozen? ⟨b, 1, none⟩ = false ∧ x.frozen? ⟨b, 2, none⟩ = false ∧ x.frozen? ⟨b, 3, none⟩ = false) := by
  simp [World.cell?, World.frozen?, h]
theorem cells2 {x : World} {b : Nat} {a0 a1 : Value} {T : TypeId} (h : x.heap[b]? = some (.cells #[a0, a1] T (0, 0))) :
    (x.cell? ⟨b, 0, none⟩ = some a0 ∧ x.cell? ⟨b, 1, none⟩ = some a1) ∧ (x.frozen? ⟨b, 0, none⟩ = false ∧ x.frozen? ⟨b, 1, none⟩ = false) := by
  simp [World.cell?, World.frozen?, h]
theorem blk_new (w : World) (o : Obj) : (w.alloc o).heap[w.heap.size]? = some o := heap_alloc_new w o
theorem blk_alloc {x : World} {b : Nat} {o : Obj} (h : x.heap[b]? = some o) (o' : Obj) : (x.alloc o').heap[b]? = some o := by
  rw [Below.heap_alloc _ _ _ (block_lt h)]; exact h
theorem blk_below {x y : World} {b : Nat} {o : Obj} (h : x.heap[b]? = some o) (hb : Below x.heap.size x y) : y.heap[b]? = some o := by
  rw [hb.block _ (block_lt h)]; exact h
theorem blk_grown {x y : World} {b rb : Nat} {o : Obj} (h : x.heap[b]? = some o) (hb : x.grownBy y (some rb)) (hne : b ≠ rb) : y.heap[b]? = some o := by
  rw [hb.block _ (block_lt h) (by simpa using hne)]; exact h
set_option maxHeartbeats 1600000 in
set_option maxRecDepth 100000 in
theorem tree_nil (w : World) (rb deep : Nat) (h : RestIs w rb []) :
    Calls Tryz.prog 178 #[.pointer (some ⟨rb, 0, none⟩), .int .i64 deep] w fun e w' => Reads w rb [] none e w' := by
  have hlt := h.lt
  have hne : w.heap.size ≠ rb := by omega
  have hA : aloneS 0 (ByteArray.mk #[]).toList = false := by rw [ByteArray.toList_eq]; rfl
  have hr := h
  clear h
  go_enter Tryz.func178, Tryz.ntmps178
  go_wp2_with (first
    | (go_at_call 254; refine (next_nil _ _ (hr.alloc _)).mono ?_; rintro e w2 ⟨rfl, hb2⟩; have hk2 := blk_below (blk_new w _) hb2)
    | (go_at_call 256; refine (standsAlone_any _ _ _).mono ?_; rintro e w3 ⟨rfl, hb3⟩; have hk3 := blk_below (blk_alloc hk2 _) hb3; obtain ⟨⟨z0, z1, z2, z3⟩, f0, f1, f2, f3⟩ := cells4 hk3))
  have G3 : w.grownBy w3 (some rb) := grown_trans (grown_alloc (grown_trans (grown_alloc (grown_refl w _) _) (grown_below hb2 _)) _) (grown_below hb3 _)
  refine bodyPost_ret (v := .tuple #[.agg #[.int .i64 0, .string ⟨#[]⟩, .bool false, .slice none 0 0], .bool false]) (by simp [results, Tryz.results178, go_sem, z0, z1, z2, z3]) rfl ⟨?_, .inl ⟨rfl, rfl⟩⟩
  repeat (refine grown_new ?_ (Nat.le_refl _) _ _)
  exact G3
set_option maxHeartbeats 1600000 in
set_option maxRecDepth 100000 in
theorem tree_leaf (w : World) (rb deep : Nat) (t : Tk) (ts : List Tk) (h : RestIs w rb (t :: ts)) (hk : ¬ t.1 = 1) :
    Calls Tryz.prog 178 #[.pointer (some ⟨rb, 0, none⟩), .int .i64 deep] w fun e w' => Reads w rb (t :: ts) (if aloneS t.1 t.2 then some (.mk t.1 t.2 false [], ts) else none) e w' := by
  have hlt := h.lt
  have hne : w.heap.size ≠ rb := by omega
  have hkb : (t.1 == 1) = false := by simpa using hk
  have hr := h
  clear h hk
  cases hA : aloneS t.1 t.2 with
  | false =>
    have HS : ∀ x : World, Calls Tryz.prog 256 #[.agg #[.int .i64 t.1, .string (ofBs t.2)]] x fun e w' => e = .returned (.bool false) ∧ Below x.heap.size x w' := by
      intro x; rw [← hA, ← ofBs_toList t.2]; simpa only [ofBs_toList] using standsAlone_any t.1 (ofBs t.2) x
    clear hA
    go_enter Tryz.func178, Tryz.ntmps178
    go_wp2_with (first
      | (go_at_call 254; refine (next_cons _ _ t ts (hr.alloc _)).mono ?_; rintro e w2 ⟨rfl, hg2, hr2⟩; have hk2 := blk_grown (blk_new w _) hg2 hne)
      | (go_at_call 256; refine (HS _).mono ?_; rintro e w3 ⟨rfl, hb3⟩; have hk3 := blk_below (blk_alloc hk2 _) hb3; obtain ⟨⟨z0, z1, z2, z3⟩, f0, f1, f2, f3⟩ := cells4 hk3))
    have G3 : w.grownBy w3 (some rb) := grown_trans (grown_alloc (grown_trans (grown_alloc (grown_refl w _) _) hg2) _) (grown_below hb3 _)
    refine bodyPost_ret (v := .tuple #[.agg #[.int .i64 0, .string ⟨#[]⟩, .bool false, .slice none 0 0], .bool false]) (by simp [results, Tryz.results178, go_sem, z0, z1, z2, z3]) rfl ⟨?_, .inl ⟨rfl, rfl⟩⟩
    repeat (refine grown_new ?_ (Nat.le_refl _) _ _)
    exact G3
  | true =>
    have HS : ∀ x : World, Calls Tryz.prog 256 #[.agg #[.int .i64 t.1, .string (ofBs t.2)]] x fun e w' => e = .returned (.bool true) ∧ Below x.heap.size x w' := by
      intro x; rw [← hA, ← ofBs_toList t.2]; simpa only [ofBs_toList] using standsAlone_any t.1 (ofBs t.2) x
    clear hA
    go_enter Tryz.func178, Tryz.ntmps178
    go_wp2_with (first
      | (go_at_call 254; refine (next_cons _ _ t ts (hr.alloc _)).mono ?_; rintro e w2 ⟨rfl, hg2, hr2⟩; have hk2 := blk_grown (blk_new w _) hg2 hne)
      | (go_at_call 256; refine (HS _).mono ?_; rintro e w3 ⟨rfl, hb3⟩; have hk3 := blk_below (blk_alloc hk2 _) hb3; have hk4 := blk_below (blk_new w2 _) hb3; obtain ⟨⟨z0, z1, z2, z3⟩, f0, f1, f2, f3⟩ := cells4 hk3; obtain ⟨⟨y0, y1⟩, _, _⟩ := cells2 hk4))
    have G3 : w.grownBy w3 (some rb) := grown_trans (grown_alloc (grown_trans (grown_alloc (grown_refl w _) _) hg2) _) (grown_below hb3 _)
    have R3 : RestIs w3 rb ts := (hr2.alloc _).below hb3
    refine bodyPost_ret (v := .tuple #[.agg #[.int .i64 t.1, .string (ofBs t.2), .bool false, .slice none 0 0], .bool true]) (by simp [results, Tryz.results178, go_sem, z0, z1, z2, z3]) rfl ⟨?_, .inr ⟨_, _, _, _, _, _, _, ts, rfl, by simp, rfl, ?_, IsTr.leaf _ _ _ _ _⟩⟩
    · repeat (refine grown_new ?_ (Nat.le_refl _) _ _)
      exact G3
    · repeat (refine RestIs.setCell ?_ hlt _ _)
      exact R3
set_option maxHeartbeats 1600000 in
set_option maxRecDepth 100000 in
theorem tree_open (f : Nat) (hB : BrSpec f) (w : World) (rb deep : Nat) (t : Tk) (ts : List Tk) (h : RestIs w rb (t :: ts)) (hl : 2 * ts.length + 1 ≤ f) (hl4 : ts.length ≤ 400) (hd : deep ≤ 21) (hk : t.1 = 1) :
    Calls Tryz.prog 178 #[.pointer (some ⟨rb, 0, none⟩), .int .i64 deep] w fun e w' => Reads w rb (t :: ts) (brF f (deep + 1) ts) e w' := by
  have hlt := h.lt
  have hne : w.heap.size ≠ rb := by omega
  have hkb : (t.1 == 1) = true := by simpa using hk
  have hr := h
  clear h hk
  have HB : ∀ x : World, RestIs x rb ts → Calls Tryz.prog 255 #[.pointer (some ⟨rb, 0, none⟩), .int .i64 (deep + 1)] x fun e w' => Reads x rb ts (brF f (deep + 1) ts) e w' :=
    fun x hx => hB x rb (deep + 1) ts hx hl hl4 (by omega)
  go_enter Tryz.func178, Tryz.ntmps178
  go_wp2_with (first
    | (go_at_call 254; refine (next_cons _ _ t ts (hr.alloc _)).mono ?_; rintro e w2 ⟨rfl, hg2, hr2⟩; have hk2 := blk_grown (blk_new w _) hg2 hne)
    | (go_at_call 255; refine (HB _ (hr2.alloc _)).mono ?_))
  rintro e w3 ⟨hg3, hres⟩
  have hk3 := blk_grown (blk_alloc hk2 _) hg3 hne
  obtain ⟨⟨z0, z1, z2, z3⟩, f0, f1, f2, f3⟩ := cells4 hk3
  have hs2 := block_lt hk2
  have G3 : w.grownBy w3 (some rb) := grown_trans (grown_alloc (grown_trans (grown_alloc (grown_refl w _) _) hg2) _) hg3
  rcases hres with ⟨ho, rfl⟩ | ⟨k, tx, br, ao, n, cap, x, r, ho, hrl, rfl, hr3, hx⟩
  · have HO : Hid (brF f (deep + 1) ts = none) := ho
    clear ho
    go_wp2
    refine bodyPost_ret (v := .tuple #[.agg #[.int .i64 0, .string ⟨#[]⟩, .bool false, .slice none 0 0], .bool false]) (by simp [results, Tryz.results178, go_sem, z0, z1, z2, z3]) rfl ⟨?_, .inl ⟨HO.out, rfl⟩⟩
    repeat (refine grown_new ?_ (Nat.le_refl _) _ _)
    exact G3
  · have HO : Hid (brF f (deep + 1) ts = some (x, r)) := ho
    have HX : Hid _ := hx
    clear ho hx
    go_wp2
    refine bodyPost_ret (v := .tuple #[.agg #[.int .i64 k, .string (ofBs tx), .bool br, .slice ao n cap], .bool true]) (by simp [results, Tryz.results178, go_sem, z0, z1, z2, z3]) rfl ⟨?_, .inr ⟨_, _, _, _, _, _, x, r, HO.out, by simp; omega, rfl, ?_, HX.out.move (fun g hg => ?_) (fun g hg => ?_)⟩⟩
    · repeat (refine grown_new ?_ (Nat.le_refl _) _ _)
      exact G3
    · repeat (refine RestIs.setCell ?_ hlt _ _)
      exact hr3
    · simp at hg
      repeat rw [Below.heap_setCell _ _ _ _ (by show g ≠ w.heap.size; omega)]
    · simp at hg; show w.heap.size ≤ g; omega
end Go.Proofs.YtilfjpmeededmaaGreatDoor

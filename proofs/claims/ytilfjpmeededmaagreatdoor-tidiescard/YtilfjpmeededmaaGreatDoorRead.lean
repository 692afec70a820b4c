/- What the reader's next and closes do: the tokens handed out one after the other. -/
import Derived.Test.YtilfjpmeededmaaGreatDoorScan
namespace Go.Proofs.YtilfjpmeededmaaGreatDoor
open Go.RowKit

theorem grown_refl (w : World) (row : Option Nat) : w.grownBy w row := ⟨rfl, rfl, rfl, Nat.le_refl _, fun _ _ _ => rfl⟩
theorem grown_trans {a b c : World} {row : Option Nat} (h : a.grownBy b row) (k : b.grownBy c row) : a.grownBy c row :=
  ⟨k.os.trans h.os, k.tape.trans h.tape, k.output.trans h.output, Nat.le_trans h.size k.size, fun i hi hr => (k.block i (Nat.lt_of_lt_of_le hi h.size) hr).trans (h.block i hi hr)⟩
theorem grown_below {a b : World} (h : Below a.heap.size a b) (row : Option Nat) : a.grownBy b row :=
  ⟨h.os, h.tape, h.output, h.size, fun k hk _ => h.block k hk⟩
theorem grown_alloc {a b : World} {row : Option Nat} (h : a.grownBy b row) (o : Obj) : a.grownBy (b.alloc o) row :=
  grown_trans h (grown_below ((Below.refl _ _).alloc (Nat.le_refl _) _) _)

/-- Block rb holds a reader whose tokens are ts, in another block. -/
def RestIs (w : World) (rb : Nat) (ts : List Tk) : Prop :=
  ∃ v, w.heap[rb]? = some (.cells #[v] 347 (0, 0)) ∧
    ((ts = [] ∧ ∃ ao cap, v = .slice ao 0 cap) ∨
     (∃ g off cap, v = .slice (some ⟨g, off, none⟩) ts.length cap ∧ g < rb ∧ ts.length ≤ cap ∧ cap ≤ maxLen ∧ ∀ j u, (toksCells ts)[j]? = some u → w.cell? ⟨g, off + j, none⟩ = some u))

set_option maxHeartbeats 800000 in
set_option maxRecDepth 100000 in
theorem next_nil (w : World) (rb : Nat) (h : RestIs w rb []) :
    Calls Tryz.prog 254 #[.pointer (some ⟨rb, 0, none⟩)] w fun e w' => e = .returned (.agg #[.int .i64 0, .string ⟨#[]⟩]) ∧ Below w.heap.size w w' := by
  obtain ⟨ao, cap, hc⟩ : ∃ ao cap, w.cell? ⟨rb, 0, none⟩ = some (.slice ao 0 cap) := by
    obtain ⟨v, hb, h⟩ := h
    have hc : w.cell? ⟨rb, 0, none⟩ = some v := by simp [World.cell?, hb]
    rcases h with ⟨_, ao, cap, rfl⟩ | ⟨g, off, cap, rfl, _⟩
    · exact ⟨_, _, hc⟩
    · exact ⟨_, _, hc⟩
  have hlt : rb < w.heap.size := by
    obtain ⟨v, hb, _⟩ := h
    rcases Nat.lt_or_ge rb w.heap.size with h' | h'
    · exact h'
    · simp [Array.getElem?_eq_none h'] at hb
  clear h
  go_enter Tryz.func254, Tryz.ntmps254
  go_wp2
  exact bodyPost_ret (v := .agg #[.int .i64 0, .string ⟨#[]⟩]) (by simp [results, Tryz.results254, go_sem]) rfl ⟨rfl, (Below.refl _ _).alloc (Nat.le_refl _) _⟩

theorem grown_setCell (w : World) (rb : Nat) (off : Nat) (v : Value) : w.grownBy (w.setCell ⟨rb, off, none⟩ v) (some rb) :=
  ⟨rfl, rfl, rfl, by simp [World.setCell], fun k _ hk => Below.heap_setCell _ _ _ _ (fun e => hk (by simp [e]))⟩
theorem block_setCell (w : World) (rb : Nat) (v v' : Value) (T : TypeId) (h : w.heap[rb]? = some (.cells #[v] T (0, 0))) : (w.setCell ⟨rb, 0, none⟩ v').heap[rb]? = some (.cells #[v'] T (0, 0)) := by
  simp [World.setCell, Array.getElem?_modify, h]
theorem block_lt {w : World} {k : Nat} {o : Obj} (h : w.heap[k]? = some o) : k < w.heap.size := by
  rcases Nat.lt_or_ge k w.heap.size with h' | h'
  · exact h'
  · simp [Array.getElem?_eq_none h'] at h
theorem grown_cell {w w' : World} {rb : Nat} (h : w.grownBy w' (some rb)) {p : Addr} (h1 : p.block < w.heap.size) (h2 : p.block ≠ rb) : w'.cell? p = w.cell? p :=
  World.cell?_of_block (h.block p.block h1 (by simpa using h2))
theorem rest_step {w : World} {rb g off off' cap cap' : Nat} {t : Tk} {ts : List Tk} (o1 o2 : Obj) {v : Value} (hb : w.heap[rb]? = some (.cells #[v] 347 (0, 0)))
    (hg : g < rb) (hcap : ts.length + 1 ≤ cap) (hmax : cap ≤ 2 ^ 63 - 1)
    (hcells : ∀ j u, (toksCells (t :: ts))[j]? = some u → w.cell? ⟨g, off + j, none⟩ = some u) (hcase : (ts = [] ∧ cap' ≤ maxLen) ∨ (off' = off + 2 ∧ cap' = cap - 1)) :
    w.grownBy (((w.setCell ⟨rb, 0, none⟩ (.slice (some ⟨g, off', none⟩) ts.length cap')).alloc o1).alloc o2) (some rb) ∧
      RestIs (((w.setCell ⟨rb, 0, none⟩ (.slice (some ⟨g, off', none⟩) ts.length cap')).alloc o1).alloc o2) rb ts := by
  have hlt := block_lt hb
  have G := grown_alloc (grown_alloc (grown_setCell w rb 0 (.slice (some ⟨g, off', none⟩) ts.length cap')) o1) o2
  refine ⟨G, .slice (some ⟨g, off', none⟩) ts.length cap', ?_, ?_⟩
  · rw [Below.heap_alloc _ _ _ (by simp [World.setCell]; omega), Below.heap_alloc _ _ _ (by simp [World.setCell]; omega)]
    exact block_setCell w rb v _ _ hb
  · rcases hcase with ⟨rfl, _⟩ | ⟨rfl, rfl⟩
    · exact .inl ⟨rfl, _, _, rfl⟩
    · refine .inr ⟨g, off + 2, cap - 1, rfl, hg, by omega, by unfold maxLen; omega, fun j u hj => ?_⟩
      rw [grown_cell G (p := ⟨g, off + 2 + j, none⟩) (by show g < _; omega) (by show g ≠ _; omega)]
      have := hcells (j + 2) u (by rw [toksCells, List.flatMap_cons]; simpa [tokCells, toksCells] using hj)
      rw [← this]; congr 2; omega

set_option maxHeartbeats 800000 in
set_option maxRecDepth 100000 in
theorem next_cons (w : World) (rb : Nat) (t : Tk) (ts : List Tk) (h : RestIs w rb (t :: ts)) :
    Calls Tryz.prog 254 #[.pointer (some ⟨rb, 0, none⟩)] w fun e w' => e = .returned (.agg #[.int .i64 t.1, .string (ofBs t.2)]) ∧ w.grownBy w' (some rb) ∧ RestIs w' rb ts := by
  obtain ⟨v, hb, h⟩ := h
  rcases h with ⟨h, _⟩ | ⟨g, off, cap, rfl, hg, hcap, hmax, hcells⟩
  · cases h
  have hc : w.cell? ⟨rb, 0, none⟩ = some (.slice (some ⟨g, off, none⟩) (ts.length + 1) cap) := by simp [World.cell?, hb]
  have hf : w.frozen? ⟨rb, 0, none⟩ = false := by simp [World.frozen?, hb]
  have hlt : rb < w.heap.size := block_lt hb
  have hgs : g < w.heap.size := by omega
  have hgn : g ≠ rb := by omega
  have c0 : w.cell? ⟨g, off, none⟩ = some (.int .i64 t.1) := hcells 0 _ (by simp [toksCells, tokCells])
  have c1 : w.cell? ⟨g, off + 1, none⟩ = some (.string (ofBs t.2)) := hcells 1 _ (by simp [toksCells, tokCells])
  simp only [List.length_cons] at hcap
  unfold maxLen at hmax
  have HC : Hid _ := hcells
  have HB : Hid _ := hb
  clear hcells hb
  go_enter Tryz.func254, Tryz.ntmps254
  go_wp2
  · have h0 : ts = [] := List.length_eq_zero_iff.mp (by omega)
    obtain ⟨R1, R2⟩ := rest_step (o1 := .cells #[.int .i64 t.1, .string (ofBs t.2)] 233) (o2 := .cells #[.int .i64 t.1, .string (ofBs t.2)] 233) (off' := off) (cap' := 0) HB.out hg hcap hmax HC.out (.inl ⟨h0, by unfold maxLen; omega⟩)
    exact bodyPost_ret (v := .agg #[.int .i64 t.1, .string (ofBs t.2)]) (by simp [results, Tryz.results254, go_sem]) rfl ⟨rfl, R1, R2⟩
  · obtain ⟨R1, R2⟩ := rest_step (o1 := .cells #[.int .i64 t.1, .string (ofBs t.2)] 233) (o2 := .cells #[.int .i64 t.1, .string (ofBs t.2)] 233) (off' := off + 2) (cap' := cap - 1) HB.out hg hcap hmax HC.out (.inr ⟨rfl, rfl⟩)
    exact bodyPost_ret (v := .agg #[.int .i64 t.1, .string (ofBs t.2)]) (by simp [results, Tryz.results254, go_sem]) rfl ⟨rfl, R1, R2⟩

set_option maxHeartbeats 800000 in
set_option maxRecDepth 100000 in
theorem closes_nil (w : World) (rb : Nat) (h : RestIs w rb []) :
    Calls Tryz.prog 332 #[.pointer (some ⟨rb, 0, none⟩)] w fun e w' => e = .returned (.bool false) ∧ w' = w := by
  obtain ⟨ao, cap, hc⟩ : ∃ ao cap, w.cell? ⟨rb, 0, none⟩ = some (.slice ao 0 cap) := by
    obtain ⟨v, hb, h⟩ := h
    have hc : w.cell? ⟨rb, 0, none⟩ = some v := by simp [World.cell?, hb]
    rcases h with ⟨_, ao, cap, rfl⟩ | ⟨g, off, cap, rfl, _⟩
    · exact ⟨_, _, hc⟩
    · exact ⟨_, _, hc⟩
  clear h
  go_enter Tryz.func332, Tryz.ntmps332
  go_wp2_with fail
  go_ret
  exact ⟨rfl, rfl⟩

set_option maxHeartbeats 800000 in
set_option maxRecDepth 100000 in
theorem closes_no (w : World) (rb : Nat) (t : Tk) (ts : List Tk) (h : RestIs w rb (t :: ts)) (hk : ¬ t.1 = 2) :
    Calls Tryz.prog 332 #[.pointer (some ⟨rb, 0, none⟩)] w fun e w' => e = .returned (.bool false) ∧ w' = w := by
  obtain ⟨v, hb, h⟩ := h
  rcases h with ⟨h, _⟩ | ⟨g, off, cap, rfl, hg, hcap, hmax, hcells⟩
  · cases h
  have hc : w.cell? ⟨rb, 0, none⟩ = some (.slice (some ⟨g, off, none⟩) (ts.length + 1) cap) := by simp [World.cell?, hb]
  have c0 : w.cell? ⟨g, off, none⟩ = some (.int .i64 t.1) := hcells 0 _ (by simp [toksCells, tokCells])
  have hkb : (t.1 != 2) = true := by simpa using hk
  simp only [List.length_cons] at hcap
  unfold maxLen at hmax
  clear hcells hb hk
  go_enter Tryz.func332, Tryz.ntmps332
  go_wp2_with fail
  go_ret
  exact ⟨rfl, rfl⟩

set_option maxHeartbeats 800000 in
set_option maxRecDepth 100000 in
theorem closes_yes (w : World) (rb : Nat) (t : Tk) (ts : List Tk) (h : RestIs w rb (t :: ts)) (hk : t.1 = 2) :
    Calls Tryz.prog 332 #[.pointer (some ⟨rb, 0, none⟩)] w fun e w' => e = .returned (.bool true) ∧ w.grownBy w' (some rb) ∧ RestIs w' rb ts := by
  have hh := h
  obtain ⟨v, hb, h⟩ := h
  rcases h with ⟨h, _⟩ | ⟨g, off, cap, rfl, hg, hcap, hmax, hcells⟩
  · cases h
  have hc : w.cell? ⟨rb, 0, none⟩ = some (.slice (some ⟨g, off, none⟩) (ts.length + 1) cap) := by simp [World.cell?, hb]
  have c0 : w.cell? ⟨g, off, none⟩ = some (.int .i64 t.1) := hcells 0 _ (by simp [toksCells, tokCells])
  have hkb : (t.1 != 2) = false := by simpa using hk
  simp only [List.length_cons] at hcap
  unfold maxLen at hmax
  clear hcells hb hk
  go_enter Tryz.func332, Tryz.ntmps332
  go_wp2_with (go_at_call 254; refine (next_cons _ _ t ts hh).mono ?_; rintro e w2 ⟨rfl, hg2, hr2⟩)
  go_ret
  exact ⟨rfl, hg2, hr2⟩

theorem RestIs.lt {w : World} {rb : Nat} {ts : List Tk} (h : RestIs w rb ts) : rb < w.heap.size := by
  obtain ⟨v, hb, _⟩ := h; exact block_lt hb
theorem RestIs.keep {w x : World} {rb : Nat} {ts : List Tk} (h : RestIs w rb ts) (hk : ∀ k, k ≤ rb → x.heap[k]? = w.heap[k]?) : RestIs x rb ts := by
  obtain ⟨v, hb, h⟩ := h
  refine ⟨v, by rw [hk rb (Nat.le_refl _)]; exact hb, ?_⟩
  rcases h with h | ⟨g, off, cap, hv, hg, hcap, hmax, hcells⟩
  · exact .inl h
  · refine .inr ⟨g, off, cap, hv, hg, hcap, hmax, fun j u hj => ?_⟩
    rw [World.cell?_of_block (w := w) (hk g (by omega))]; exact hcells j u hj
theorem RestIs.setCell {w : World} {rb : Nat} {ts : List Tk} (h : RestIs w rb ts) {b : Nat} (hb : rb < b) (o : Nat) (v : Value) : RestIs (w.setCell ⟨b, o, none⟩ v) rb ts :=
  h.keep fun k hk => Below.heap_setCell _ _ _ _ (fun e => by simp at e; omega)
theorem RestIs.alloc {w : World} {rb : Nat} {ts : List Tk} (h : RestIs w rb ts) (o : Obj) : RestIs (w.alloc o) rb ts :=
  h.keep fun k hk => Below.heap_alloc _ _ _ (by have := h.lt; omega)
theorem RestIs.below {w x : World} {rb : Nat} {ts : List Tk} (h : RestIs w rb ts) (hb : Below w.heap.size w x) : RestIs x rb ts :=
  h.keep fun k hk => hb.block k (by have := h.lt; omega)
theorem grown_new {a b : World} {row : Option Nat} (h : a.grownBy b row) {k : Nat} (hk : a.heap.size ≤ k) (o : Nat) (v : Value) : a.grownBy (b.setCell ⟨k, o, none⟩ v) row :=
  ⟨h.os, h.tape, h.output, by simpa [World.setCell] using h.size, fun i hi hr => (Below.heap_setCell _ _ _ _ (fun e => by simp at e; omega)).trans (h.block i hi hr)⟩
theorem gcell {W w1 : World} {rb : Nat} (h : W.grownBy w1 (some rb)) : (∀ b o, b < W.heap.size → b ≠ rb → w1.cell? ⟨b, o, none⟩ = W.cell? ⟨b, o, none⟩) ∧ (∀ b o, b < W.heap.size → b ≠ rb → w1.frozen? ⟨b, o, none⟩ = W.frozen? ⟨b, o, none⟩) :=
  ⟨fun b o h1 h2 => World.cell?_of_block (h.block b h1 (by simpa using h2)), fun b o h1 h2 => World.frozen?_of_block (h.block b h1 (by simpa using h2))⟩
theorem bcell {W w1 : World} (hb : Below W.heap.size W w1) : (∀ b o, b < W.heap.size → w1.cell? ⟨b, o, none⟩ = W.cell? ⟨b, o, none⟩) ∧ (∀ b o, b < W.heap.size → w1.frozen? ⟨b, o, none⟩ = W.frozen? ⟨b, o, none⟩) :=
  ⟨fun b o h => hb.cell (p := ⟨b, o, none⟩) h, fun b o h => hb.frozen (p := ⟨b, o, none⟩) h⟩
end Go.Proofs.YtilfjpmeededmaaGreatDoor

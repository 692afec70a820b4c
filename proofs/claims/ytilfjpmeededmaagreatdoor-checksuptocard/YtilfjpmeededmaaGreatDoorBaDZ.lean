import Derived.Test.YtilfjpmeededmaaGreatDoorBaBZ
set_option linter.unusedVariables false
set_option linter.unusedSimpArgs false
namespace Go.Proofs.YtilfjpmeededmaaGreatDoor
open Go.RowKit
abbrev FnT := Bs × Bs × Bs
def nextFs (k : Fn → Except Int (List Fn)) (o : Except Int Fn) : Except Int (List Fn) := match o with
  | .error n => .error n
  | .ok fn => k fn
def readFs : List Fn → List FnT → Except Int (List Fn)
  | acc, [] => .ok acc
  | acc, f :: r => nextFs (fun fn => readFs (acc ++ [fn]) r) (addS acc f.1 f.2.1 f.2.2)
theorem addS_size {fns : List Fn} (hf : ∀ fn ∈ fns, 0 ≤ fn.body.size ∧ fn.body.size ≤ 300) {a b c : Bs} {fn : Fn} (h : addS fns a b c = .ok fn) : 0 ≤ fn.body.size ∧ fn.body.size ≤ 300 := by
  unfold addS at h
  split at h
  · cases h
  · split at h
    · cases h
    · next x hx => cases h; exact readS_size hf hx
theorem addS_err {fns : List Fn} {a b c : Bs} {n : Int} (h : addS fns a b c = .error n) (r : List FnT) : readFs fns ((a, b, c) :: r) = .error n := by rw [readFs, h]; rfl
theorem addS_ok {fns : List Fn} {a b c : Bs} {fn : Fn} (h : addS fns a b c = .ok fn) (r : List FnT) : readFs fns ((a, b, c) :: r) = readFs (fns ++ [fn]) r := by rw [readFs, h]; rfl
theorem BaseIs.keep {w x : World} {bb : Nat} {FB : List Nat} {fns : List Fn} (h : BaseIs w bb FB fns) (hb : Below w.heap.size w x) : BaseIs x bb FB fns := by
  obtain ⟨fo, fnn, fc, h1, h2, h3, h4, h5⟩ := h
  exact ⟨fo, fnn, fc, (hb.block bb (block_lt h1)).trans h1, owns_keep h2 fun g hg => hb.block g (h2.lt g hg).2, h3, h4, fun i q fn a b => (h5 i q fn a b).keep hb⟩
def TextsIn (w : World) (v : Value) (fs : List FnT) : Prop := ∃ ao cap, v = .slice ao fs.length cap ∧ fs.length ≤ maxLen ∧ (fs = [] ∨ ∃ b off, ao = some ⟨b, off, none⟩ ∧ b < w.heap.size ∧ ∀ (i : Nat) (f : FnT), fs[i]? = some f →
  (w.cell? ⟨b, off + i * 3, none⟩ = some (.string (ofBs f.1)) ∧ w.cell? ⟨b, off + i * 3 + 1, none⟩ = some (.string (ofBs f.2.1)) ∧ w.cell? ⟨b, off + i * 3 + 2, none⟩ = some (.string (ofBs f.2.2))) ∧ f.1.length ≤ maxLen ∧ f.2.2.length ≤ maxLen)
theorem set2_other (x : World) (b g : Nat) (a0 a1 : Value) (h : g ≠ b) : ((x.setCell ⟨b, 0, none⟩ a0).setCell ⟨b, 1, none⟩ a1).heap[g]? = x.heap[g]? := by
  rw [Below.heap_setCell _ _ _ _ h, Below.heap_setCell _ _ _ _ h]
end Go.Proofs.YtilfjpmeededmaaGreatDoor

namespace Go.Proofs.YtilfjpmeededmaaGreatDoor
open Go.RowKit
theorem fnsIn_nil (w : World) : FnsIn w [] (.slice none 0 0) [] := ⟨none, 0, rfl, rfl, by simp, .inl rfl, fun i q fn h => by simp at h⟩
theorem TextsIn.keep {w x : World} {v : Value} {fs : List FnT} (h : TextsIn w v fs) (hb : Below w.heap.size w x) : TextsIn x v fs := by
  obtain ⟨ao, cap, h1, h2, h3⟩ := h
  refine ⟨ao, cap, h1, h2, ?_⟩
  rcases h3 with h | ⟨b, off, e, hl, hc⟩
  · exact .inl h
  · refine .inr ⟨b, off, e, by have := hb.size; omega, fun i f hf => ?_⟩
    obtain ⟨⟨a, b', c⟩, d⟩ := hc i f hf
    exact ⟨⟨(hb.cell (p := ⟨b, _, none⟩) hl).trans a, (hb.cell (p := ⟨b, _, none⟩) hl).trans b', (hb.cell (p := ⟨b, _, none⟩) hl).trans c⟩, d⟩
def noneS (o : Option Nat) : Int := gvS o.isNone 2
theorem FnsIn.other {w x : World} {FB : List Nat} {v : Value} {fns : List Fn} (h : FnsIn w FB v fns) {b : Nat} {fz : Nat × Nat} {s0 s1 : Option Addr} {n0 n1 c0 c1 : Nat} (hb : w.heap[b]? = some (.cells #[.slice s0 n0 c0, .slice s1 n1 c1] 112 fz)) (hs : w.heap.size ≤ x.heap.size) (hk : ∀ g, g ≠ b → x.heap[g]? = w.heap[g]?) : FnsIn x FB v fns := by
  obtain ⟨ao, cap, h1, h2, h3, h4, h5⟩ := h
  refine ⟨ao, cap, h1, h2, h3, ?_, fun i q fn a c => (h5 i q fn a c).grow fun g cur T fz' he hT => hk g fun e => ?_⟩
  · rcases h4 with h | ⟨b', e, hl, hc⟩
    · exact .inl h
    · refine .inr ⟨b', e, by omega, fun i q hj => ?_⟩
      have hne : b' ≠ b := fun e' => by
        subst e'
        have := hc i q hj
        rw [blk_at hb] at this
        match i, this with
        | 0, this => simp at this
        | 1, this => simp at this
        | (i + 2), this => simp at this
      rw [World.cell?_of_block (w := w) (hk b' hne)]; exact hc i q hj
  · subst e; rw [hb] at he; cases he; revert hT; decide
end Go.Proofs.YtilfjpmeededmaaGreatDoor

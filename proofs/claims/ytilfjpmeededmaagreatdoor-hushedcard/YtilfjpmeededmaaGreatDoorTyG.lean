/- How expressions are typed, as plain functions; a round of the loop over the operands, in memory. -/
import Derived.Test.YtilfjpmeededmaaGreatDoorTyF
namespace Go.Proofs.YtilfjpmeededmaaGreatDoor
open Go.RowKit

def sumSize : List Ex → Int
  | [] => 0
  | e :: es => e.size + sumSize es
def finS (fns : List Fn) (l : Bs) (es : List Ex) : Except Int Ex :=
  if builtS l then (if typeS l (es.map Ex.ty) = 0 then .error 3 else .ok (.mk 4 (typeS l (es.map Ex.ty)) (1 + sumSize es) (es.all Ex.quiet && !loudS l) 0 0 [] 0 l none es))
  else CallS fns l (1 + sumSize es) (es.all Ex.quiet) es
def parT (ps : List Int) (l : Bs) : Except Int Ex :=
  match ps[(l.getD 1 0).toNat - 49]? with
  | none => .error 2
  | some t => .ok (parEx t ((l.getD 1 0).toNat - 49 : Nat))
def afterS (fns : List Fn) (l : Bs) (o : Except Int (List Ex)) : Except Int Ex := match o with
  | .error e => .error e
  | .ok es => finS fns l es
mutual
def typS (atoi : Bs → Int) (ps : List Int) (fns : List Fn) : Tr → Except Int Ex
  | .mk k tx br ops => if br then afterS fns tx (typsS atoi ps fns ops) else if k = 6 then .error 2 else if k = 7 then parT ps tx else .ok (singleS atoi k tx)
def typsS (atoi : Bs → Int) (ps : List Int) (fns : List Fn) : List Tr → Except Int (List Ex)
  | [] => .ok []
  | t :: ts => match typS atoi ps fns t with
    | .error e => .error e
    | .ok x => match typsS atoi ps fns ts with
      | .error e => .error e
      | .ok xs => .ok (x :: xs)
end
/-- What is typed already, and then the rest. -/
def thenS (es : List Ex) (o : Except Int (List Ex)) : Except Int (List Ex) := match o with
  | .error e => .error e
  | .ok xs => .ok (es ++ xs)
theorem thenS_ok (atoi : Bs → Int) (ps : List Int) (fns : List Fn) (es : List Ex) (t : Tr) (ts : List Tr) (x : Ex) (h : typS atoi ps fns t = .ok x) : thenS es (typsS atoi ps fns (t :: ts)) = thenS (es ++ [x]) (typsS atoi ps fns ts) := by
  rw [typsS, h]
  cases typsS atoi ps fns ts <;> simp [thenS]
theorem thenS_err (atoi : Bs → Int) (ps : List Int) (fns : List Fn) (es : List Ex) (t : Tr) (ts : List Tr) (n : Int) (h : typS atoi ps fns t = .error n) : thenS es (typsS atoi ps fns (t :: ts)) = .error n := by
  rw [typsS, h]; rfl
theorem sumSize_append (a b : List Ex) : sumSize (a ++ b) = sumSize a + sumSize b := by
  induction a with
  | nil => simp [sumSize]
  | cons x xs ih => simp [sumSize, ih]; omega
theorem infoEx : (Tryz.prog.info? 122).map (fun i => (i.zero, i.size, i.bytes)) = some (some (.agg #[.int .i64 0, .int .i64 0, .int .i64 0, .bool false, .int .i64 0, .int .i64 0, .string ⟨#[]⟩, .int .i64 0, .string ⟨#[]⟩, .pointer none, .slice none 0 0]), 11, 120) := by kernel_rfl

theorem exs_step {wr w5 W w6 : World} {FB : List Nat} {Eb : Nat} {v v' : Value} {cs news : List Value} {xs : List Ex} {x : Ex}
    (hE : Eb < wr.heap.size) (hown : wr.ownsRow (Eb + 1) 122 11 v xs.length cs) (hxs : IsExs wr FB (fun g => Eb < g ∧ v.ownBlock ≠ some g) cs xs)
    (hb5 : Below wr.heap.size wr w5) (hx : IsEx w5 FB (fun g => wr.heap.size ≤ g) news x)
    (hW : w5.heap.size ≤ W.heap.size ∧ ∀ g, g < w5.heap.size → W.heap[g]? = w5.heap[g]?)
    (hg6 : W.grownBy w6 v.ownBlock) (hat : v'.ownBlock = v.ownBlock ∨ v'.ownBlock = some W.heap.size) :
    IsExs w6 FB (fun g => Eb < g ∧ v'.ownBlock ≠ some g) (cs ++ news) (xs ++ [x]) ∧ (∀ g, g < wr.heap.size → v.ownBlock ≠ some g → w6.heap[g]? = wr.heap[g]?) := by
  have s5 := hb5.size
  have keep : ∀ g, g < w5.heap.size → v.ownBlock ≠ some g → w6.heap[g]? = w5.heap[g]? := by
    intro g h1 h2
    rw [hg6.block g (by omega) (fun e => h2 e.symm), hW.2 g h1]
  have keep5 : ∀ g, g < wr.heap.size → v.ownBlock ≠ some g → w6.heap[g]? = wr.heap[g]? := by
    intro g h1 h3
    rw [keep g (by omega) h3, hb5.block g h1]
  have vlt : ∀ g, v.ownBlock = some g → g < wr.heap.size := fun g hg => (hown.lt g hg).2
  have hs := hW.1
  refine ⟨IsExs.snoc ?_ ?_, keep5⟩
  · refine hxs.bounded.move (fun g hg => keep5 g hg.2 hg.1.2) (fun g hg => ⟨hg.1.1, ?_⟩)
    rcases hat with e | e
    · rw [e]; exact hg.1.2
    · rw [e]; intro e2; have e3 := Option.some.inj e2; have := hg.2; omega
  · refine hx.bounded.move (fun g hg => keep g hg.2 (fun e => by have := vlt g e; have := hg.1; omega)) (fun g hg => ⟨by have := hg.1; omega, ?_⟩)
    rcases hat with e | e
    · rw [e]; intro e2; have := vlt g e2; have := hg.1; omega
    · rw [e]; intro e2; have e3 := Option.some.inj e2; have := hg.2; omega
mutual
/-- Each token of a tree is fit to be typed. -/
inductive Fit (P : Int → Bs → Prop) : Tr → Prop
  | mk {k : Int} {tx : Bs} {br : Bool} {ops : List Tr} : (br = false → P k tx) → Fits P ops → Fit P (.mk k tx br ops)
inductive Fits (P : Int → Bs → Prop) : List Tr → Prop
  | nil : Fits P []
  | cons {t : Tr} {ts : List Tr} : Fit P t → Fits P ts → Fits P (t :: ts)
end
theorem Fits.get {P : Int → Bs → Prop} {ts : List Tr} (h : Fits P ts) (i : Nat) (hi : i < ts.length) : Fit P ts[i] := by
  induction ts generalizing i with
  | nil => simp at hi
  | cons t ts ih =>
    cases h with
    | cons a b =>
      cases i with
      | zero => exact a
      | succ i => simpa using ih b i (by simpa using hi)
/-- What a scope without columns holds. -/
structure ScIn (w : World) (FB : List Nat) (pv fv : Value) (ps : List Int) (fns : List Fn) : Prop where
  ps : IntsIn w pv ps
  fns : FnsIn w FB fv fns
theorem ScIn.keep {w x : World} {FB : List Nat} {pv fv : Value} {ps : List Int} {fns : List Fn} (h : ScIn w FB pv fv ps fns) (hb : Below w.heap.size w x) : ScIn x FB pv fv ps fns := ⟨h.ps.keep hb, h.fns.keep hb⟩
mutual
def nodT : Tr → Nat
  | .mk _ _ _ ops => 1 + nodTs ops
def nodTs : List Tr → Nat
  | [] => 0
  | t :: ts => nodT t + nodTs ts
end
theorem nodTs_append (a b : List Tr) : nodTs (a ++ b) = nodTs a + nodTs b := by
  induction a with
  | nil => simp [nodTs]
  | cons x xs ih => simp [nodTs, ih]; omega
theorem nodTs_take (ops : List Tr) (i : Nat) (h : i < ops.length) : nodTs (ops.take (i + 1)) = nodTs (ops.take i) + nodT ops[i] ∧ nodTs (ops.take (i + 1)) ≤ nodTs ops := by
  have e : ops.take (i + 1) = ops.take i ++ [ops[i]] := List.take_succ_eq_append_getElem h
  have e2 := congrArg nodTs (List.take_append_drop (i + 1) ops)
  rw [nodTs_append] at e2
  refine ⟨by rw [e, nodTs_append]; simp [nodTs], by omega⟩
theorem singleS_size (atoi : Bs → Int) (k : Int) (l : Bs) : (singleS atoi k l).size = 1 := by
  unfold singleS; split
  · rfl
  · split
    · rfl
    · split <;> rfl
theorem finS_size {fns : List Fn} (hf : ∀ fn ∈ fns, 0 ≤ fn.body.size ∧ fn.body.size ≤ 300) {l : Bs} {es : List Ex} {x : Ex} (h : finS fns l es = .ok x) (h0 : 0 ≤ sumSize es) : 0 ≤ x.size ∧ x.size ≤ 301 + sumSize es := by
  unfold finS at h
  split at h
  · split at h
    · cases h
    · cases h; simp only [Ex.size]; omega
  · unfold CallS at h
    split at h
    · cases h
    · split at h
      · cases h
      · next fn hfn =>
        split at h
        · cases h
          have := hf fn (List.mem_of_getElem? hfn)
          show 0 ≤ 1 + sumSize es + fn.body.size ∧ 1 + sumSize es + fn.body.size ≤ 301 + sumSize es
          omega
        · cases h
theorem typS_size (atoi : Bs → Int) (ps : List Int) {fns : List Fn} (hf : ∀ fn ∈ fns, 0 ≤ fn.body.size ∧ fn.body.size ≤ 300) (N : Nat) : ∀ (t : Tr), SizeOf.sizeOf t ≤ N → ∀ x, typS atoi ps fns t = .ok x → 0 ≤ x.size ∧ x.size ≤ 301 * nodT t := by
  induction N with
  | zero => intro t ht; obtain ⟨k, tx, br, ops⟩ := t; simp at ht
  | succ N ih =>
    have ihs : ∀ (ts : List Tr), (∀ t ∈ ts, SizeOf.sizeOf t ≤ N) → ∀ es, typsS atoi ps fns ts = .ok es → 0 ≤ sumSize es ∧ sumSize es ≤ 301 * nodTs ts := by
      intro ts
      induction ts with
      | nil => intro _ es h; rw [typsS] at h; cases h; simp [sumSize, nodTs]
      | cons t ts iht =>
        intro hts es h
        rw [typsS] at h
        split at h
        · cases h
        · next x hx =>
          split at h
          · cases h
          · next xs hxs =>
            cases h
            have h1 := ih t (hts t (by simp)) x hx
            have h2 := iht (fun t ht => hts t (by simp [ht])) xs hxs
            simp only [sumSize, nodTs]; omega
    intro t ht x hx
    obtain ⟨k, tx, br, ops⟩ := t
    simp only [Tr.mk.sizeOf_spec] at ht
    rw [typS] at hx
    simp only [nodT]
    split at hx
    · unfold afterS at hx
      split at hx
      · cases hx
      · next es hes =>
        have h1 := ihs ops (fun t hto => by have := List.sizeOf_lt_of_mem hto; omega) es hes
        have := finS_size hf hx h1.1
        omega
    · split at hx
      · cases hx
      · split at hx
        · unfold parT at hx
          split at hx
          · cases hx
          · cases hx; simp only [parEx, Ex.size]; omega
        · cases hx; rw [singleS_size]; omega
/-- What expression does, of trees of size up to N. -/
def ExprSpec (atoi : Bs → Int) (P : Int → Bs → Prop) (N : Nat) : Prop := ∀ (t : Tr) (w : World) (FB : List Nat) (ps : List Int) (fns : List Fn) (po : Option Addr) (pn pc : Nat) (fo : Option Addr) (fnn fc : Nat) (c : Array Value), SizeOf.sizeOf t ≤ N → nodT t ≤ 1000 → Fit P t → IsTr w (fun _ => True) c.toList t →
  ScIn w FB (.slice po pn pc) (.slice fo fnn fc) ps fns → (∀ fn ∈ fns, 0 ≤ fn.body.size ∧ fn.body.size ≤ 300) →
  Calls Tryz.prog 209 #[.agg #[.slice none 0 0, .slice po pn pc, .slice fo fnn fc], .agg c] w fun e w' => Typd w FB (typS atoi ps fns t) e w'
end Go.Proofs.YtilfjpmeededmaaGreatDoor

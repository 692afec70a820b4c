/- Expressions as trees: how tokens are read, as plain functions; a tree in memory. -/
/- What the reader's tree and bracket read. -/
/- What the reader's bracket reads: a head, operands, the closing bracket. -/
import Derived.Test.YtilfjpmeededmaaGreatDoorReadZ
import Derived.Maps.AppendAt
namespace Go.Proofs.YtilfjpmeededmaaGreatDoor
open Go.RowKit

inductive Tr where
  | mk (k : Int) (tx : Bs) (br : Bool) (ops : List Tr)

mutual
def treeF : Nat → Nat → List Tk → Option (Tr × List Tk)
  | 0, _, _ => none
  | _ + 1, _, [] => none
  | f + 1, deep, t :: r => if t.1 = 1 then brF f (deep + 1) r else if aloneS t.1 t.2 then some (.mk t.1 t.2 false [], r) else none
def brF : Nat → Nat → List Tk → Option (Tr × List Tk)
  | 0, _, _ => none
  | _ + 1, _, [] => none
  | f + 1, deep, h :: r => if 20 < deep then none else if headS h.1 h.2 then (opsF f deep r).map (fun p => (.mk h.1 h.2 true p.1, p.2)) else none
def opsF : Nat → Nat → List Tk → Option (List Tr × List Tk)
  | 0, _, _ => none
  | _ + 1, _, [] => none
  | f + 1, deep, t :: r => if t.1 = 2 then some ([], r) else
      match treeF f deep (t :: r) with
      | none => none
      | some (x, r') => (opsF f deep r').map (fun p => (x :: p.1, p.2))
end

mutual
inductive IsTr (w : World) (S : Nat → Prop) : List Value → Tr → Prop
  | mk {k : Int} {tx : Bs} {br : Bool} {ops : List Tr} {v : Value} {cs : List Value} : IsTrs w S cs ops → w.ownsRow 0 236 4 v ops.length cs → (∀ g, v.ownBlock = some g → S g) →
      IsTr w S [.int .i64 k, .string (ofBs tx), .bool br, v] (.mk k tx br ops)
inductive IsTrs (w : World) (S : Nat → Prop) : List Value → List Tr → Prop
  | nil : IsTrs w S [] []
  | cons {c cs : List Value} {t : Tr} {ts : List Tr} : IsTr w S c t → IsTrs w S cs ts → IsTrs w S (c ++ cs) (t :: ts)
end

theorem owns_base {w : World} {b b' n size : Nat} {e : TypeId} {v : Value} {xs : List Value} (h : w.ownsRow b e size v n xs) (hb : ∀ g, v.ownBlock = some g → b' ≤ g) : w.ownsRow b' e size v n xs := by
  refine ⟨h.1, ?_⟩
  rcases h.2 with h | ⟨g, cap, cur, rfl, _, h⟩
  · exact .inl h
  · exact .inr ⟨g, cap, cur, rfl, hb g rfl, h⟩
theorem owns_keep {w x : World} {b n size : Nat} {e : TypeId} {v : Value} {xs : List Value} (h : w.ownsRow b e size v n xs) (hb : ∀ g, v.ownBlock = some g → x.heap[g]? = w.heap[g]?) : x.ownsRow b e size v n xs := by
  refine ⟨h.1, ?_⟩
  rcases h.2 with h | ⟨g, cap, cur, rfl, h1, h2, h⟩
  · exact .inl h
  · exact .inr ⟨g, cap, cur, rfl, h1, by rw [hb g rfl]; exact h2, h⟩

mutual
theorem IsTr.move {w x : World} {S S' : Nat → Prop} (hk : ∀ g, S g → x.heap[g]? = w.heap[g]?) (hs : ∀ g, S g → S' g) : ∀ {c : List Value} {t : Tr}, IsTr w S c t → IsTr x S' c t
  | _, _, .mk a b d => .mk (IsTrs.move hk hs a) (owns_keep b fun g hg => hk g (d g hg)) fun g hg => hs g (d g hg)
theorem IsTrs.move {w x : World} {S S' : Nat → Prop} (hk : ∀ g, S g → x.heap[g]? = w.heap[g]?) (hs : ∀ g, S g → S' g) : ∀ {c : List Value} {t : List Tr}, IsTrs w S c t → IsTrs x S' c t
  | _, _, .nil => .nil
  | _, _, .cons a b => .cons (IsTr.move hk hs a) (IsTrs.move hk hs b)
end
theorem IsTr.four {w : World} {S : Nat → Prop} {c : List Value} {t : Tr} (h : IsTr w S c t) : c.length = 4 := by cases h; rfl
theorem IsTrs.len {w : World} {S : Nat → Prop} {c : List Value} {t : List Tr} (h : IsTrs w S c t) : c.length = t.length * 4 := by
  induction t generalizing c with
  | nil => cases h; rfl
  | cons t ts ih =>
    cases h with
    | cons a b => rw [List.length_append, a.four, ih b]; simp; omega
theorem IsTrs.snoc {w : World} {S : Nat → Prop} {c d : List Value} {t : List Tr} {u : Tr} (h : IsTrs w S c t) (k : IsTr w S d u) : IsTrs w S (c ++ d) (t ++ [u]) := by
  induction t generalizing c with
  | nil => cases h; have := IsTrs.cons k IsTrs.nil; simpa using this
  | cons t ts ih =>
    cases h with
    | cons a b => rw [List.append_assoc]; exact .cons a (ih b)
theorem IsTr.leaf (w : World) (S : Nat → Prop) (k : Int) (tx : Bs) (br : Bool) : IsTr w S [.int .i64 k, .string (ofBs tx), .bool br, .slice none 0 0] (.mk k tx br []) :=
  .mk .nil (World.ownsRow_nil _ _ _ _) (fun g hg => by cases hg)
theorem IsTr.bounded {w : World} {S : Nat → Prop} {c : List Value} {t : Tr} : IsTr w S c t → IsTr w (fun g => S g ∧ g < w.heap.size) c t := by
  intro h
  have key : (∀ {c : List Value} {t : Tr}, IsTr w S c t → IsTr w (fun g => S g ∧ g < w.heap.size) c t) := by
    intro c t h
    refine IsTr.rec (motive_1 := fun c t _ => IsTr w (fun g => S g ∧ g < w.heap.size) c t) (motive_2 := fun c t _ => IsTrs w (fun g => S g ∧ g < w.heap.size) c t) ?_ ?_ ?_ h
    · intro k tx br ops v cs _ hown hS ih
      exact .mk ih hown fun g hg => ⟨hS g hg, (hown.lt g hg).2⟩
    · exact .nil
    · intro c cs t ts _ _ i1 i2; exact .cons i1 i2
  exact key h
theorem IsTrs.bounded {w : World} {S : Nat → Prop} {c : List Value} {t : List Tr} (h : IsTrs w S c t) : IsTrs w (fun g => S g ∧ g < w.heap.size) c t := by
  induction t generalizing c with
  | nil => cases h; exact .nil
  | cons t ts ih =>
    cases h with
    | cons a b => exact .cons a.bounded (ih b)

theorem ops_step {wr w5 w6 : World} {rb Tb : Nat} {v v' : Value} {cs news : List Value} {xs : List Tr} {x : Tr} (o1 o2 : Obj)
    (hrb : rb < Tb) (hTb : Tb < wr.heap.size) (hown : wr.ownsRow (Tb + 1) 236 4 v xs.length cs) (hxs : IsTrs wr (fun g => Tb < g ∧ v.ownBlock ≠ some g) cs xs)
    (hg5 : wr.grownBy w5 (some rb)) (hx : IsTr w5 (fun g => wr.heap.size ≤ g) news x)
    (hown' : w6.ownsRow (Tb + 1) 236 4 v' (xs.length + 1) (cs ++ news)) (hg6 : ((w5.alloc o1).alloc o2).grownBy w6 v.ownBlock)
    (hat : v'.ownBlock = v.ownBlock ∨ v'.ownBlock = some ((w5.alloc o1).alloc o2).heap.size) :
    IsTrs (w6.setCell ⟨Tb, 3, none⟩ v') (fun g => Tb < g ∧ v'.ownBlock ≠ some g) (cs ++ news) (xs ++ [x]) ∧
    (w6.setCell ⟨Tb, 3, none⟩ v').ownsRow (Tb + 1) 236 4 v' (xs ++ [x]).length (cs ++ news) ∧
    (∀ g, g < wr.heap.size → g ≠ rb → v.ownBlock ≠ some g → w6.heap[g]? = wr.heap[g]?) ∧
    (∀ g, g < w5.heap.size → v.ownBlock ≠ some g → w6.heap[g]? = w5.heap[g]?) := by
  have s5 := hg5.size
  have s6 : ((w5.alloc o1).alloc o2).heap.size = w5.heap.size + 2 := by simp
  have keep : ∀ g, g < w5.heap.size → v.ownBlock ≠ some g → w6.heap[g]? = w5.heap[g]? := by
    intro g h1 h2
    rw [hg6.block g (by omega) (fun e => h2 e.symm), Below.heap_alloc _ _ _ (by simp; omega), Below.heap_alloc _ _ _ h1]
  have keep5 : ∀ g, g < wr.heap.size → g ≠ rb → v.ownBlock ≠ some g → w6.heap[g]? = wr.heap[g]? := by
    intro g h1 h2 h3
    rw [keep g (by omega) h3, hg5.block g h1 (by simpa using h2)]
  have vlt : ∀ g, v.ownBlock = some g → g < wr.heap.size := fun g hg => (hown.lt g hg).2
  refine ⟨IsTrs.snoc ?_ ?_, ?_, keep5, keep⟩
  · refine hxs.bounded.move (fun g hg => ?_) (fun g hg => ⟨hg.1.1, ?_⟩)
    · rw [Below.heap_setCell _ _ _ _ (by show g ≠ Tb; have := hg.1.1; omega), keep5 g hg.2 (by have := hg.1.1; omega) hg.1.2]
    · rcases hat with e | e
      · rw [e]; exact hg.1.2
      · rw [e, s6]; intro e2; have e3 := Option.some.inj e2; have := hg.2; omega
  · refine hx.bounded.move (fun g hg => ?_) (fun g hg => ⟨by have := hg.1; omega, ?_⟩)
    · rw [Below.heap_setCell _ _ _ _ (by show g ≠ Tb; have := hg.1; omega), keep g hg.2 (fun e => by have := vlt g e; have := hg.1; omega)]
    · rcases hat with e | e
      · rw [e]; intro e2; have := vlt g e2; have := hg.1; omega
      · rw [e, s6]; intro e2; have e3 := Option.some.inj e2; have := hg.2; omega
  · rw [List.length_append]
    exact ownsRow_setCell_below hown' (by show Tb < Tb + 1; omega) _
theorem grown_on {w wr w5 W w6 : World} {rb : Nat} {row : Option Nat} (h : w.grownBy wr (some rb)) (h5 : wr.grownBy w5 (some rb)) (hW : W.os = w5.os ∧ W.tape = w5.tape ∧ W.output = w5.output ∧ w5.heap.size ≤ W.heap.size) (h6 : W.grownBy w6 row)
    (hr : ∀ g, row = some g → w.heap.size ≤ g) (hk : ∀ g, g < wr.heap.size → g ≠ rb → row ≠ some g → w6.heap[g]? = wr.heap[g]?) : w.grownBy w6 (some rb) := by
  obtain ⟨a, b, c, d⟩ := hW
  refine ⟨h6.os.trans (a.trans (h5.os.trans h.os)), h6.tape.trans (b.trans (h5.tape.trans h.tape)), h6.output.trans (c.trans (h5.output.trans h.output)), Nat.le_trans h.size (Nat.le_trans h5.size (Nat.le_trans d h6.size)), fun k hk1 hk2 => ?_⟩
  rw [hk k (Nat.lt_of_lt_of_le hk1 h.size) (fun e => hk2 (by rw [e])) (fun e => by have := hr k e; omega)]
  exact h.block k hk1 hk2
end Go.Proofs.YtilfjpmeededmaaGreatDoor

namespace Go.Proofs.YtilfjpmeededmaaGreatDoor
open Go.RowKit

def zeroTree : Value := .agg #[.int .i64 0, .string ⟨#[]⟩, .bool false, .slice none 0 0]
/-- What a reading of an expression leaves: nothing, or a tree in new memory, the reader behind it. -/
def Reads (w : World) (rb : Nat) (ts : List Tk) (o : Option (Tr × List Tk)) (e : Ending) (w' : World) : Prop :=
  w.grownBy w' (some rb) ∧
    ((o = none ∧ e = .returned (.tuple #[.agg #[.int .i64 0, .string ⟨#[]⟩, .bool false, .slice none 0 0], .bool false])) ∨
     (∃ k tx br ao n cap t r, o = some (t, r) ∧ r.length < ts.length ∧ e = .returned (.tuple #[.agg #[.int .i64 k, .string (ofBs tx), .bool br, .slice ao n cap], .bool true]) ∧
        RestIs w' rb r ∧ IsTr w' (fun g => w.heap.size ≤ g) [.int .i64 k, .string (ofBs tx), .bool br, .slice ao n cap] t))
def TreeSpec (f : Nat) : Prop := ∀ (w : World) (rb deep : Nat) (ts : List Tk), RestIs w rb ts → 2 * ts.length ≤ f → ts.length ≤ 400 → deep ≤ 21 →
  Calls Tryz.prog 178 #[.pointer (some ⟨rb, 0, none⟩), .int .i64 deep] w fun e w' => Reads w rb ts (treeF f deep ts) e w'
def BrSpec (f : Nat) : Prop := ∀ (w : World) (rb deep : Nat) (ts : List Tk), RestIs w rb ts → 2 * ts.length + 1 ≤ f → ts.length ≤ 400 → deep ≤ 22 →
  Calls Tryz.prog 255 #[.pointer (some ⟨rb, 0, none⟩), .int .i64 deep] w fun e w' => Reads w rb ts (brF f deep ts) e w'

/-- A block of four cells, none frozen: what a walk asks of it. -/
theorem cells4 {x : World} {b : Nat} {a0 a1 a2 a3 : Value} {T : TypeId} (h : x.heap[b]? = some (.cells #[a0, a1, a2, a3] T (0, 0))) :
    (x.cell? ⟨b, 0, none⟩ = some a0 ∧ x.cell? ⟨b, 1, none⟩ = some a1 ∧ x.cell? ⟨b, 2, none⟩ = some a2 ∧ x.cell? ⟨b, 3, none⟩ = some a3) ∧
    (x.frozen? ⟨b, 0, none⟩ = false ∧ x.frozen? ⟨b, 1, none⟩ = false ∧ x.frozen? ⟨b, 2, none⟩ = false ∧ x.frozen? ⟨b, 3, none⟩ = false) := by
  simp [World.cell?, World.frozen?, h]
theorem cells2 {x : World} {b : Nat} {a0 a1 : Value} {T : TypeId} (h : x.heap[b]? = some (.cells #[a0, a1] T (0, 0))) :
    (x.cell? ⟨b, 0, none⟩ = some a0 ∧ x.cell? ⟨b, 1, none⟩ = some a1) ∧ (x.frozen? ⟨b, 0, none⟩ = false ∧ x.frozen? ⟨b, 1, none⟩ = false) := by
  simp [World.cell?, World.frozen?, h]
theorem blk_new (w : World) (o : Obj) : (w.alloc o).heap[w.heap.size]? = some o := heap_alloc_new w o
theorem blk_alloc {x : World} {b : Nat} {o : Obj} (h : x.heap[b]? = some o) (o' : Obj) : (x.alloc o').heap[b]? = some o := by
  rw [Below.heap_alloc _ _ _ (block_lt h)]; exact h
theorem blk_below {x y : World} {b : Nat} {o : Obj} (h : x.heap[b]? = some o) (hb : Below x.heap.size x y) : y.heap[b]? = some o := by
  rw [hb.block _ (block_lt h)]; exact h
theorem blk_grown {x y : World} {b rb : Nat} {o : Obj} (h : x.heap[b]? = some o) (hb : x.grownBy y (some rb)) (hne : b ≠ rb) : y.heap[b]? = some o := by
  rw [hb.block _ (block_lt h) (by simpa using hne)]; exact h

set_option maxHeartbeats 1600000 in
set_option maxRecDepth 100000 in
theorem tree_nil (w : World) (rb deep : Nat) (h : RestIs w rb []) :
    Calls Tryz.prog 178 #[.pointer (some ⟨rb, 0, none⟩), .int .i64 deep] w fun e w' => Reads w rb [] none e w' := by
  have hlt := h.lt
  have hne : w.heap.size ≠ rb := by omega
  have hA : aloneS 0 (ByteArray.mk #[]).toList = false := by rw [ByteArray.toList_eq]; rfl
  have hr := h
  clear h
  go_enter Tryz.func178, Tryz.ntmps178
  go_wp2_with (first
    | (go_at_call 254; refine (next_nil _ _ (hr.alloc _)).mono ?_; rintro e w2 ⟨rfl, hb2⟩; have hk2 := blk_below (blk_new w _) hb2)
    | (go_at_call 256; refine (standsAlone_any _ _ _).mono ?_; rintro e w3 ⟨rfl, hb3⟩; have hk3 := blk_below (blk_alloc hk2 _) hb3; obtain ⟨⟨z0, z1, z2, z3⟩, f0, f1, f2, f3⟩ := cells4 hk3))
  have G3 : w.grownBy w3 (some rb) := grown_trans (grown_alloc (grown_trans (grown_alloc (grown_refl w _) _) (grown_below hb2 _)) _) (grown_below hb3 _)
  refine bodyPost_ret (v := .tuple #[.agg #[.int .i64 0, .string ⟨#[]⟩, .bool false, .slice none 0 0], .bool false]) (by simp [results, Tryz.results178, go_sem, z0, z1, z2, z3]) rfl ⟨?_, .inl ⟨rfl, rfl⟩⟩
  repeat (refine grown_new ?_ (Nat.le_refl _) _ _)
  exact G3

set_option maxHeartbeats 1600000 in
set_option maxRecDepth 100000 in
theorem tree_leaf (w : World) (rb deep : Nat) (t : Tk) (ts : List Tk) (h : RestIs w rb (t :: ts)) (hk : ¬ t.1 = 1) :
    Calls Tryz.prog 178 #[.pointer (some ⟨rb, 0, none⟩), .int .i64 deep] w fun e w' => Reads w rb (t :: ts) (if aloneS t.1 t.2 then some (.mk t.1 t.2 false [], ts) else none) e w' := by
  have hlt := h.lt
  have hne : w.heap.size ≠ rb := by omega
  have hkb : (t.1 == 1) = false := by simpa using hk
  have hr := h
  clear h hk
  cases hA : aloneS t.1 t.2 with
  | false =>
    have HS : ∀ x : World, Calls Tryz.prog 256 #[.agg #[.int .i64 t.1, .string (ofBs t.2)]] x fun e w' => e = .returned (.bool false) ∧ Below x.heap.size x w' := by
      intro x; rw [← hA, ← ofBs_toList t.2]; simpa only [ofBs_toList] using standsAlone_any t.1 (ofBs t.2) x
    clear hA
    go_enter Tryz.func178, Tryz.ntmps178
    go_wp2_with (first
      | (go_at_call 254; refine (next_cons _ _ t ts (hr.alloc _)).mono ?_; rintro e w2 ⟨rfl, hg2, hr2⟩; have hk2 := blk_grown (blk_new w _) hg2 hne)
      | (go_at_call 256; refine (HS _).mono ?_; rintro e w3 ⟨rfl, hb3⟩; have hk3 := blk_below (blk_alloc hk2 _) hb3; obtain ⟨⟨z0, z1, z2, z3⟩, f0, f1, f2, f3⟩ := cells4 hk3))
    have G3 : w.grownBy w3 (some rb) := grown_trans (grown_alloc (grown_trans (grown_alloc (grown_refl w _) _) hg2) _) (grown_below hb3 _)
    refine bodyPost_ret (v := .tuple #[.agg #[.int .i64 0, .string ⟨#[]⟩, .bool false, .slice none 0 0], .bool false]) (by simp [results, Tryz.results178, go_sem, z0, z1, z2, z3]) rfl ⟨?_, .inl ⟨rfl, rfl⟩⟩
    repeat (refine grown_new ?_ (Nat.le_refl _) _ _)
    exact G3
  | true =>
    have HS : ∀ x : World, Calls Tryz.prog 256 #[.agg #[.int .i64 t.1, .string (ofBs t.2)]] x fun e w' => e = .returned (.bool true) ∧ Below x.heap.size x w' := by
      intro x; rw [← hA, ← ofBs_toList t.2]; simpa only [ofBs_toList] using standsAlone_any t.1 (ofBs t.2) x
    clear hA
    go_enter Tryz.func178, Tryz.ntmps178
    go_wp2_with (first
      | (go_at_call 254; refine (next_cons _ _ t ts (hr.alloc _)).mono ?_; rintro e w2 ⟨rfl, hg2, hr2⟩; have hk2 := blk_grown (blk_new w _) hg2 hne)
      | (go_at_call 256; refine (HS _).mono ?_; rintro e w3 ⟨rfl, hb3⟩; have hk3 := blk_below (blk_alloc hk2 _) hb3; have hk4 := blk_below (blk_new w2 _) hb3; obtain ⟨⟨z0, z1, z2, z3⟩, f0, f1, f2, f3⟩ := cells4 hk3; obtain ⟨⟨y0, y1⟩, _, _⟩ := cells2 hk4))
    have G3 : w.grownBy w3 (some rb) := grown_trans (grown_alloc (grown_trans (grown_alloc (grown_refl w _) _) hg2) _) (grown_below hb3 _)
    have R3 : RestIs w3 rb ts := (hr2.alloc _).below hb3
    refine bodyPost_ret (v := .tuple #[.agg #[.int .i64 t.1, .string (ofBs t.2), .bool false, .slice none 0 0], .bool true]) (by simp [results, Tryz.results178, go_sem, z0, z1, z2, z3]) rfl ⟨?_, .inr ⟨_, _, _, _, _, _, _, ts, rfl, by simp, rfl, ?_, IsTr.leaf _ _ _ _ _⟩⟩
    · repeat (refine grown_new ?_ (Nat.le_refl _) _ _)
      exact G3
    · repeat (refine RestIs.setCell ?_ hlt _ _)
      exact R3

set_option maxHeartbeats 1600000 in
set_option maxRecDepth 100000 in
theorem tree_open (f : Nat) (hB : BrSpec f) (w : World) (rb deep : Nat) (t : Tk) (ts : List Tk) (h : RestIs w rb (t :: ts)) (hl : 2 * ts.length + 1 ≤ f) (hl4 : ts.length ≤ 400) (hd : deep ≤ 21) (hk : t.1 = 1) :
    Calls Tryz.prog 178 #[.pointer (some ⟨rb, 0, none⟩), .int .i64 deep] w fun e w' => Reads w rb (t :: ts) (brF f (deep + 1) ts) e w' := by
  have hlt := h.lt
  have hne : w.heap.size ≠ rb := by omega
  have hkb : (t.1 == 1) = true := by simpa using hk
  have hr := h
  clear h hk
  have HB : ∀ x : World, RestIs x rb ts → Calls Tryz.prog 255 #[.pointer (some ⟨rb, 0, none⟩), .int .i64 (deep + 1)] x fun e w' => Reads x rb ts (brF f (deep + 1) ts) e w' :=
    fun x hx => hB x rb (deep + 1) ts hx hl hl4 (by omega)
  go_enter Tryz.func178, Tryz.ntmps178
  go_wp2_with (first
    | (go_at_call 254; refine (next_cons _ _ t ts (hr.alloc _)).mono ?_; rintro e w2 ⟨rfl, hg2, hr2⟩; have hk2 := blk_grown (blk_new w _) hg2 hne)
    | (go_at_call 255; refine (HB _ (hr2.alloc _)).mono ?_))
  rintro e w3 ⟨hg3, hres⟩
  have hk3 := blk_grown (blk_alloc hk2 _) hg3 hne
  obtain ⟨⟨z0, z1, z2, z3⟩, f0, f1, f2, f3⟩ := cells4 hk3
  have hs2 := block_lt hk2
  have G3 : w.grownBy w3 (some rb) := grown_trans (grown_alloc (grown_trans (grown_alloc (grown_refl w _) _) hg2) _) hg3
  rcases hres with ⟨ho, rfl⟩ | ⟨k, tx, br, ao, n, cap, x, r, ho, hrl, rfl, hr3, hx⟩
  · have HO : Hid (brF f (deep + 1) ts = none) := ho
    clear ho
    go_wp2
    refine bodyPost_ret (v := .tuple #[.agg #[.int .i64 0, .string ⟨#[]⟩, .bool false, .slice none 0 0], .bool false]) (by simp [results, Tryz.results178, go_sem, z0, z1, z2, z3]) rfl ⟨?_, .inl ⟨HO.out, rfl⟩⟩
    repeat (refine grown_new ?_ (Nat.le_refl _) _ _)
    exact G3
  · have HO : Hid (brF f (deep + 1) ts = some (x, r)) := ho
    have HX : Hid _ := hx
    clear ho hx
    go_wp2
    refine bodyPost_ret (v := .tuple #[.agg #[.int .i64 k, .string (ofBs tx), .bool br, .slice ao n cap], .bool true]) (by simp [results, Tryz.results178, go_sem, z0, z1, z2, z3]) rfl ⟨?_, .inr ⟨_, _, _, _, _, _, x, r, HO.out, by simp; omega, rfl, ?_, HX.out.move (fun g hg => ?_) (fun g hg => ?_)⟩⟩
    · repeat (refine grown_new ?_ (Nat.le_refl _) _ _)
      exact G3
    · repeat (refine RestIs.setCell ?_ hlt _ _)
      exact hr3
    · simp at hg
      repeat rw [Below.heap_setCell _ _ _ _ (by show g ≠ w.heap.size; omega)]
    · simp at hg; show w.heap.size ≤ g; omega
end Go.Proofs.YtilfjpmeededmaaGreatDoor

namespace Go.Proofs.YtilfjpmeededmaaGreatDoor
open Go.RowKit

set_option maxHeartbeats 1600000 in
set_option maxRecDepth 100000 in
theorem bracket_nil (w : World) (rb deep : Nat) (h : RestIs w rb []) :
    Calls Tryz.prog 255 #[.pointer (some ⟨rb, 0, none⟩), .int .i64 deep] w fun e w' => Reads w rb [] none e w' := by
  have hlt := h.lt
  have hne : w.heap.size ≠ rb := by omega
  have hA : headS 0 [] = false := by rfl
  have hr := h
  clear h
  by_cases hd : deep ≤ 20
  · go_enter Tryz.func255, Tryz.ntmps255
    go_wp2_with (first
      | (go_at_call 254; refine (next_nil _ _ (hr.alloc _)).mono ?_; rintro e w2 ⟨rfl, hb2⟩; have hk2 := blk_below (blk_new w _) hb2)
      | (go_at_call 331; refine (isHead_any _ _ _).mono ?_; rintro e w3 ⟨rfl, hb3⟩; have hk3 := blk_below (blk_alloc hk2 _) hb3; obtain ⟨⟨z0, z1, z2, z3⟩, f0, f1, f2, f3⟩ := cells4 hk3))
    have G3 : w.grownBy w3 (some rb) := grown_trans (grown_alloc (grown_trans (grown_alloc (grown_refl w _) _) (grown_below hb2 _)) _) (grown_below hb3 _)
    refine bodyPost_ret (v := .tuple #[.agg #[.int .i64 0, .string ⟨#[]⟩, .bool false, .slice none 0 0], .bool false]) (by simp [results, Tryz.results255, go_sem, z0, z1, z2, z3]) rfl ⟨?_, .inl ⟨rfl, rfl⟩⟩
    repeat (refine grown_new ?_ (Nat.le_refl _) _ _)
    exact G3
  · go_enter Tryz.func255, Tryz.ntmps255
    go_wp2_with (first
      | (go_at_call 254; refine (next_nil _ _ (hr.alloc _)).mono ?_; rintro e w2 ⟨rfl, hb2⟩; have hk2 := blk_below (blk_new w _) hb2; have hs2 := block_lt hk2; obtain ⟨⟨z0, z1, z2, z3⟩, f0, f1, f2, f3⟩ := cells4 hk2))
    have G3 : w.grownBy w2 (some rb) := grown_trans (grown_alloc (grown_refl w _) _) (grown_below hb2 _)
    refine bodyPost_ret (v := .tuple #[.agg #[.int .i64 0, .string ⟨#[]⟩, .bool false, .slice none 0 0], .bool false]) (by simp [results, Tryz.results255, go_sem, z0, z1, z2, z3, hs2]) rfl ⟨?_, .inl ⟨rfl, rfl⟩⟩
    refine grown_alloc ?_ _
    repeat (refine grown_new ?_ (Nat.le_refl _) _ _)
    exact G3

set_option maxHeartbeats 1600000 in
set_option maxRecDepth 100000 in
theorem bracket_bad (w : World) (rb deep : Nat) (t : Tk) (ts : List Tk) (h : RestIs w rb (t :: ts)) (hbad : 20 < deep ∨ headS t.1 t.2 = false) :
    Calls Tryz.prog 255 #[.pointer (some ⟨rb, 0, none⟩), .int .i64 deep] w fun e w' => Reads w rb (t :: ts) none e w' := by
  have hlt := h.lt
  have hne : w.heap.size ≠ rb := by omega
  have hr := h
  clear h
  by_cases hd : deep ≤ 20
  · have hA : headS t.1 t.2 = false := by rcases hbad with h | h; omega; exact h
    have HS : ∀ x : World, Calls Tryz.prog 331 #[.agg #[.int .i64 t.1, .string (ofBs t.2)]] x fun e w' => e = .returned (.bool false) ∧ Below x.heap.size x w' := by
      intro x; rw [← hA, ← ofBs_toList t.2]; simpa only [ofBs_toList] using isHead_any t.1 (ofBs t.2) x
    clear hA hbad
    go_enter Tryz.func255, Tryz.ntmps255
    go_wp2_with (first
      | (go_at_call 254; refine (next_cons _ _ t ts (hr.alloc _)).mono ?_; rintro e w2 ⟨rfl, hg2, hr2⟩; have hk2 := blk_grown (blk_new w _) hg2 hne)
      | (go_at_call 331; refine (HS _).mono ?_; rintro e w3 ⟨rfl, hb3⟩; have hk3 := blk_below (blk_alloc hk2 _) hb3; obtain ⟨⟨z0, z1, z2, z3⟩, f0, f1, f2, f3⟩ := cells4 hk3))
    have G3 : w.grownBy w3 (some rb) := grown_trans (grown_alloc (grown_trans (grown_alloc (grown_refl w _) _) hg2) _) (grown_below hb3 _)
    refine bodyPost_ret (v := .tuple #[.agg #[.int .i64 0, .string ⟨#[]⟩, .bool false, .slice none 0 0], .bool false]) (by simp [results, Tryz.results255, go_sem, z0, z1, z2, z3]) rfl ⟨?_, .inl ⟨rfl, rfl⟩⟩
    repeat (refine grown_new ?_ (Nat.le_refl _) _ _)
    exact G3
  · clear hbad
    go_enter Tryz.func255, Tryz.ntmps255
    go_wp2_with (first
      | (go_at_call 254; refine (next_cons _ _ t ts (hr.alloc _)).mono ?_; rintro e w2 ⟨rfl, hg2, hr2⟩; have hk2 := blk_grown (blk_new w _) hg2 hne; have hs2 := block_lt hk2; obtain ⟨⟨z0, z1, z2, z3⟩, f0, f1, f2, f3⟩ := cells4 hk2))
    have G3 : w.grownBy w2 (some rb) := grown_trans (grown_alloc (grown_refl w _) _) hg2
    refine bodyPost_ret (v := .tuple #[.agg #[.int .i64 0, .string ⟨#[]⟩, .bool false, .slice none 0 0], .bool false]) (by simp [results, Tryz.results255, go_sem, z0, z1, z2, z3, hs2]) rfl ⟨?_, .inl ⟨rfl, rfl⟩⟩
    refine grown_alloc ?_ _
    repeat (refine grown_new ?_ (Nat.le_refl _) _ _)
    exact G3
end Go.Proofs.YtilfjpmeededmaaGreatDoor

/- What the reader's tree and bracket read. -/
import Derived.Test.YtilfjpmeededmaaGreatDoorTreeP
namespace Go.Proofs.YtilfjpmeededmaaGreatDoor
open Go.RowKit

def zeroTree : Value := .agg #[.int .i64 0, .string ⟨#[]⟩, .bool false, .slice none 0 0]
/-- What a reading of an expression leaves: nothing, or a tree in new memory, the reader behind it. -/
def Reads (w : World) (rb : Nat) (ts : List Tk) (o : Option (Tr × List Tk)) (e : Ending) (w' : World) : Prop :=
  w.grownBy w' (some rb) ∧
    ((o = none ∧ e = .returned (.tuple #[.agg #[.int .i64 0, .string ⟨#[]⟩, .bool false, .slice none 0 0], .bool false])) ∨
     (∃ k tx br ao n cap t r, o = some (t, r) ∧ r.length < ts.length ∧ e = .returned (.tuple #[.agg #[.int .i64 k, .string (ofBs tx), .bool br, .slice ao n cap], .bool true]) ∧
        RestIs w' rb r ∧ IsTr w' (fun g => w.heap.size ≤ g) [.int .i64 k, .string (ofBs tx), .bool br, .slice ao n cap] t))
def TreeSpec (f : Nat) : Prop := ∀ (w : World) (rb deep : Nat) (ts : List Tk), RestIs w rb ts → 2 * ts.length ≤ f → ts.length ≤ 400 → deep ≤ 21 →
  Calls Tryz.prog 178 #[.pointer (some ⟨rb, 0, none⟩), .int .i64 deep] w fun e w' => Reads w rb ts (treeF f deep ts) e w'
def BrSpec (f : Nat) : Prop := ∀ (w : World) (rb deep : Nat) (ts : List Tk), RestIs w rb ts → 2 * ts.length + 1 ≤ f → ts.length ≤ 400 → deep ≤ 22 →
  Calls Tryz.prog 255 #[.pointer (some ⟨rb, 0, none⟩), .int .i64 deep] w fun e w' => Reads w rb ts (brF f deep ts) e w'

/-- A block of four cells, none frozen: what a walk asks of it. -/
theorem cells4 {x : World} {b : Nat} {a0 a1 a2 a3 : Value} {T : TypeId} (h : x.heap[b]? = some (.cells #[a0, a1, a2, a3] T (0, 0))) :
    (x.cell? ⟨b, 0, none⟩ = some a0 ∧ x.cell? ⟨b, 1, none⟩ = some a1 ∧ x.cell? ⟨b, 2, none⟩ = some a2 ∧ x.cell? ⟨b, 3, none⟩ = some a3) ∧
    (x.frozen? ⟨b, 0, none⟩ = false ∧ x.frozen? ⟨b, 1, none⟩ = false ∧ x.frozen? ⟨b, 2, none⟩ = false ∧ x.frozen? ⟨b, 3, none⟩ = false) := by
  simp [World.cell?, World.frozen?, h]
theorem cells2 {x : World} {b : Nat} {a0 a1 : Value} {T : TypeId} (h : x.heap[b]? = some (.cells #[a0, a1] T (0, 0))) :
    (x.cell? ⟨b, 0, none⟩ = some a0 ∧ x.cell? ⟨b, 1, none⟩ = some a1) ∧ (x.frozen? ⟨b, 0, none⟩ = false ∧ x.frozen? ⟨b, 1, none⟩ = false) := by
  simp [World.cell?, World.frozen?, h]
theorem blk_new (w : World) (o : Obj) : (w.alloc o).heap[w.heap.size]? = some o := heap_alloc_new w o
theorem blk_alloc {x : World} {b : Nat} {o : Obj} (h : x.heap[b]? = some o) (o' : Obj) : (x.alloc o').heap[b]? = some o := by
  rw [Below.heap_alloc _ _ _ (block_lt h)]; exact h
theorem blk_below {x y : World} {b : Nat} {o : Obj} (h : x.heap[b]? = some o) (hb : Below x.heap.size x y) : y.heap[b]? = some o := by
  rw [hb.block _ (block_lt h)]; exact h
theorem blk_grown {x y : World} {b rb : Nat} {o : Obj} (h : x.heap[b]? = some o) (hb : x.grownBy y (some rb)) (hne : b ≠ rb) : y.heap[b]? = some o := by
  rw [hb.block _ (block_lt h) (by simpa using hne)]; exact h

set_option maxHeartbeats 1600000 in
set_option maxRecDepth 100000 in
theorem tree_nil (w : World) (rb deep : Nat) (h : RestIs w rb []) :
    Calls Tryz.prog 178 #[.pointer (some ⟨rb, 0, none⟩), .int .i64 deep] w fun e w' => Reads w rb [] none e w' := by
  have hlt := h.lt
  have hne : w.heap.size ≠ rb := by omega
  have hA : aloneS 0 (ByteArray.mk #[]).toList = false := by rw [ByteArray.toList_eq]; rfl
  have hr := h
  clear h
  go_enter Tryz.func178, Tryz.ntmps178
  go_wp2_with (first
    | (go_at_call 254; refine (next_nil _ _ (hr.alloc _)).mono ?_; rintro e w2 ⟨rfl, hb2⟩; have hk2 := blk_below (blk_new w _) hb2)
    | (go_at_call 256; refine (standsAlone_any _ _ _).mono ?_; rintro e w3 ⟨rfl, hb3⟩; have hk3 := blk_below (blk_alloc hk2 _) hb3; obtain ⟨⟨z0, z1, z2, z3⟩, f0, f1, f2, f3⟩ := cells4 hk3))
  have G3 : w.grownBy w3 (some rb) := grown_trans (grown_alloc (grown_trans (grown_alloc (grown_refl w _) _) (grown_below hb2 _)) _) (grown_below hb3 _)
  refine bodyPost_ret (v := .tuple #[.agg #[.int .i64 0, .string ⟨#[]⟩, .bool false, .slice none 0 0], .bool false]) (by simp [results, Tryz.results178, go_sem, z0, z1, z2, z3]) rfl ⟨?_, .inl ⟨rfl, rfl⟩⟩
  repeat (refine grown_new ?_ (Nat.le_refl _) _ _)
  exact G3

set_option maxHeartbeats 1600000 in
set_option maxRecDepth 100000 in
theorem tree_leaf (w : World) (rb deep : Nat) (t : Tk) (ts : List Tk) (h : RestIs w rb (t :: ts)) (hk : ¬ t.1 = 1) :
    Calls Tryz.prog 178 #[.pointer (some ⟨rb, 0, none⟩), .int .i64 deep] w fun e w' => Reads w rb (t :: ts) (if aloneS t.1 t.2 then some (.mk t.1 t.2 false [], ts) else none) e w' := by
  have hlt := h.lt
  have hne : w.heap.size ≠ rb := by omega
  have hkb : (t.1 == 1) = false := by simpa using hk
  have hr := h
  clear h hk
  cases hA : aloneS t.1 t.2 with
  | false =>
    have HS : ∀ x : World, Calls Tryz.prog 256 #[.agg #[.int .i64 t.1, .string (ofBs t.2)]] x fun e w' => e = .returned (.bool false) ∧ Below x.heap.size x w' := by
      intro x; rw [← hA, ← ofBs_toList t.2]; simpa only [ofBs_toList] using standsAlone_any t.1 (ofBs t.2) x
    clear hA
    go_enter Tryz.func178, Tryz.ntmps178
    go_wp2_with (first
      | (go_at_call 254; refine (next_cons _ _ t ts (hr.alloc _)).mono ?_; rintro e w2 ⟨rfl, hg2, hr2⟩; have hk2 := blk_grown (blk_new w _) hg2 hne)
      | (go_at_call 256; refine (HS _).mono ?_; rintro e w3 ⟨rfl, hb3⟩; have hk3 := blk_below (blk_alloc hk2 _) hb3; obtain ⟨⟨z0, z1, z2, z3⟩, f0, f1, f2, f3⟩ := cells4 hk3))
    have G3 : w.grownBy w3 (some rb) := grown_trans (grown_alloc (grown_trans (grown_alloc (grown_refl w _) _) hg2) _) (grown_below hb3 _)
    refine bodyPost_ret (v := .tuple #[.agg #[.int .i64 0, .string ⟨#[]⟩, .bool false, .slice none 0 0], .bool false]) (by simp [results, Tryz.results178, go_sem, z0, z1, z2, z3]) rfl ⟨?_, .inl ⟨rfl, rfl⟩⟩
    repeat (refine grown_new ?_ (Nat.le_refl _) _ _)
    exact G3
  | true =>
    have HS : ∀ x : World, Calls Tryz.prog 256 #[.agg #[.int .i64 t.1, .string (ofBs t.2)]] x fun e w' => e = .returned (.bool true) ∧ Below x.heap.size x w' := by
      intro x; rw [← hA, ← ofBs_toList t.2]; simpa only [ofBs_toList] using standsAlone_any t.1 (ofBs t.2) x
    clear hA
    go_enter Tryz.func178, Tryz.ntmps178
    go_wp2_with (first
      | (go_at_call 254; refine (next_cons _ _ t ts (hr.alloc _)).mono ?_; rintro e w2 ⟨rfl, hg2, hr2⟩; have hk2 := blk_grown (blk_new w _) hg2 hne)
      | (go_at_call 256; refine (HS _).mono ?_; rintro e w3 ⟨rfl, hb3⟩; have hk3 := blk_below (blk_alloc hk2 _) hb3; have hk4 := blk_below (blk_new w2 _) hb3; obtain ⟨⟨z0, z1, z2, z3⟩, f0, f1, f2, f3⟩ := cells4 hk3; obtain ⟨⟨y0, y1⟩, _, _⟩ := cells2 hk4))
    have G3 : w.grownBy w3 (some rb) := grown_trans (grown_alloc (grown_trans (grown_alloc (grown_refl w _) _) hg2) _) (grown_below hb3 _)
    have R3 : RestIs w3 rb ts := (hr2.alloc _).below hb3
    refine bodyPost_ret (v := .tuple #[.agg #[.int .i64 t.1, .string (ofBs t.2), .bool false, .slice none 0 0], .bool true]) (by simp [results, Tryz.results178, go_sem, z0, z1, z2, z3]) rfl ⟨?_, .inr ⟨_, _, _, _, _, _, _, ts, rfl, by simp, rfl, ?_, IsTr.leaf _ _ _ _ _⟩⟩
    · repeat (refine grown_new ?_ (Nat.le_refl _) _ _)
      exact G3
    · repeat (refine RestIs.setCell ?_ hlt _ _)
      exact R3

set_option maxHeartbeats 1600000 in
set_option maxRecDepth 100000 in
theorem tree_open (f : Nat) (hB : BrSpec f) (w : World) (rb deep : Nat) (t : Tk) (ts : List Tk) (h : RestIs w rb (t :: ts)) (hl : 2 * ts.length + 1 ≤ f) (hl4 : ts.length ≤ 400) (hd : deep ≤ 21) (hk : t.1 = 1) :
    Calls Tryz.prog 178 #[.pointer (some ⟨rb, 0, none⟩), .int .i64 deep] w fun e w' => Reads w rb (t :: ts) (brF f (deep + 1) ts) e w' := by
  have hlt := h.lt
  have hne : w.heap.size ≠ rb := by omega
  have hkb : (t.1 == 1) = true := by simpa using hk
  have hr := h
  clear h hk
  have HB : ∀ x : World, RestIs x rb ts → Calls Tryz.prog 255 #[.pointer (some ⟨rb, 0, none⟩), .int .i64 (deep + 1)] x fun e w' => Reads x rb ts (brF f (deep + 1) ts) e w' :=
    fun x hx => hB x rb (deep + 1) ts hx hl hl4 (by omega)
  go_enter Tryz.func178, Tryz.ntmps178
  go_wp2_with (first
    | (go_at_call 254; refine (next_cons _ _ t ts (hr.alloc _)).mono ?_; rintro e w2 ⟨rfl, hg2, hr2⟩; have hk2 := blk_grown (blk_new w _) hg2 hne)
    | (go_at_call 255; refine (HB _ (hr2.alloc _)).mono ?_))
  rintro e w3 ⟨hg3, hres⟩
  have hk3 := blk_grown (blk_alloc hk2 _) hg3 hne
  obtain ⟨⟨z0, z1, z2, z3⟩, f0, f1, f2, f3⟩ := cells4 hk3
  have hs2 := block_lt hk2
  have G3 : w.grownBy w3 (some rb) := grown_trans (grown_alloc (grown_trans (grown_alloc (grown_refl w _) _) hg2) _) hg3
  rcases hres with ⟨ho, rfl⟩ | ⟨k, tx, br, ao, n, cap, x, r, ho, hrl, rfl, hr3, hx⟩
  · have HO : Hid (brF f (deep + 1) ts = none) := ho
    clear ho
    go_wp2
    refine bodyPost_ret (v := .tuple #[.agg #[.int .i64 0, .string ⟨#[]⟩, .bool false, .slice none 0 0], .bool false]) (by simp [results, Tryz.results178, go_sem, z0, z1, z2, z3]) rfl ⟨?_, .inl ⟨HO.out, rfl⟩⟩
    repeat (refine grown_new ?_ (Nat.le_refl _) _ _)
    exact G3
  · have HO : Hid (brF f (deep + 1) ts = some (x, r)) := ho
    have HX : Hid _ := hx
    clear ho hx
    go_wp2
    refine bodyPost_ret (v := .tuple #[.agg #[.int .i64 k, .string (ofBs tx), .bool br, .slice ao n cap], .bool true]) (by simp [results, Tryz.results178, go_sem, z0, z1, z2, z3]) rfl ⟨?_, .inr ⟨_, _, _, _, _, _, x, r, HO.out, by simp; omega, rfl, ?_, HX.out.move (fun g hg => ?_) (fun g hg => ?_)⟩⟩
    · repeat (refine grown_new ?_ (Nat.le_refl _) _ _)
      exact G3
    · repeat (refine RestIs.setCell ?_ hlt _ _)
      exact hr3
    · simp at hg
      repeat rw [Below.heap_setCell _ _ _ _ (by show g ≠ w.heap.size; omega)]
    · simp at hg; show w.heap.size ≤ g; omega
end Go.Proofs.YtilfjpmeededmaaGreatDoor

import Derived.Test.YtilfjpmeededmaaGreatDoorLbBZ
set_option linter.unusedVariables false
set_option linter.unusedSimpArgs false
namespace Go.Proofs.YtilfjpmeededmaaGreatDoor
open Go.RowKit
def allocs (w : World) : List Obj → World
  | [] => w
  | o :: os => allocs (w.alloc o) os
theorem allocs_below : ∀ (os : List Obj) (w : World), Below w.heap.size w (allocs w os)
  | [], w => Below.refl _ _
  | o :: os, w => ((Below.refl _ w).alloc (Nat.le_refl _) o).trans ((allocs_below os (w.alloc o)).mono (by simp [World.size_alloc]))
theorem allocs_at : ∀ (os : List Obj) (w : World) (k : Nat) (o : Obj), os[k]? = some o → (allocs w os).heap[w.heap.size + k]? = some o
  | [], w, k, o, h => by simp at h
  | a :: os, w, 0, o, h => by
    simp at h; subst h
    exact ((allocs_below os (w.alloc a)).block w.heap.size (by simp [World.size_alloc])).trans (heap_alloc_new w a)
  | a :: os, w, k + 1, o, h => by
    have := allocs_at os (w.alloc a) k o (by simpa using h)
    rw [World.size_alloc] at this
    rw [show w.heap.size + (k + 1) = w.heap.size + 1 + k by omega]; exact this
def knownObjs (N : Nat) : List Obj := [
  .cells #[.slice (some ⟨N + 16, 0, none⟩) 2 2, .slice (some ⟨N + 17, 0, none⟩) 1 1, .slice (some ⟨N + 19, 0, none⟩) 1 1] 26,
  .cells #[.string ⟨#[104, 97, 108, 102]⟩, .string ⟨#[110]⟩, .string ⟨#[40, 105, 102, 32, 40, 61, 32, 36, 49, 32, 48, 41, 32, 40, 110, 111, 116, 101, 32, 48, 41, 32, 40, 47, 32, 49, 48, 48, 32, 36, 49, 41, 41]⟩] 39,
  .cells #[.string ⟨#[107]⟩, .string ⟨#[110]⟩, .int .i64 5, .string ⟨#[104]⟩, .string ⟨#[98]⟩, .int .i64 2] 162,
  .cells #[.string ⟨#[109, 101]⟩] 9,
  .cells #[.string ⟨#[116]⟩, .slice (some ⟨N + 2, 0, none⟩) 2 2, .slice (some ⟨N + 9, 0, none⟩) 4 4, .int .i64 100, .string ⟨#[114, 111, 119, 46, 104]⟩, .slice (some ⟨N + 3, 0, none⟩) 1 1] 134,
  .cells #[.int .i64 1, .int .i64 1, .string ⟨#[]⟩, .int .i64 3, .int .i64 1, .string ⟨#[]⟩] 50,
  .cells #[.int .i64 1, .int .i64 2, .string ⟨#[]⟩, .int .i64 3, .int .i64 0, .string ⟨#[]⟩] 50,
  .cells #[.int .i64 1, .int .i64 3, .string ⟨#[]⟩, .int .i64 0, .int .i64 0, .string ⟨#[]⟩] 50,
  .cells #[.int .i64 1, .int .i64 0, .string ⟨#[]⟩, .int .i64 3, .int .i64 1, .string ⟨#[]⟩] 50,
  .cells #[.slice (some ⟨N + 5, 0, none⟩) 2 2, .slice (some ⟨N + 6, 0, none⟩) 2 2, .slice (some ⟨N + 7, 0, none⟩) 2 2, .slice (some ⟨N + 8, 0, none⟩) 2 2] 47,
  .cells #[.string ⟨#[116]⟩, .string ⟨#[97]⟩] 139,
  .cells #[.string ⟨#[40, 110, 111, 116, 101, 32, 97, 46, 107, 41]⟩] 9,
  .cells #[.slice (some ⟨N + 10, 0, none⟩) 1 1, .string ⟨#[40, 60, 32, 48, 32, 97, 46, 107, 41]⟩, .slice (some ⟨N + 11, 0, none⟩) 1 1, .slice none 0 0, .int .i64 (-1)] 63,
  .cells #[.string ⟨#[104, 97, 108, 102]⟩, .string ⟨#[110]⟩, .string ⟨#[40, 105, 102, 32, 40, 61, 32, 36, 49, 32, 48, 41, 32, 40, 110, 111, 116, 101, 32, 48, 41, 32, 40, 47, 32, 49, 48, 48, 32, 36, 49, 41, 41]⟩] 39,
  .cells #[.string ⟨#[116]⟩, .slice (some ⟨N + 2, 0, none⟩) 2 2, .slice (some ⟨N + 9, 0, none⟩) 4 4, .int .i64 100, .string ⟨#[114, 111, 119, 46, 104]⟩, .slice (some ⟨N + 3, 0, none⟩) 1 1] 134,
  .cells #[.string ⟨#[105, 102]⟩, .string ⟨#[]⟩, .string ⟨#[]⟩] 39,
  .cells #[.slice (some ⟨N + 13, 0, none⟩) 1 1, .slice (some ⟨N + 14, 0, none⟩) 1 1, .slice (some ⟨N + 15, 0, none⟩) 1 1, .slice none 0 0] 43,
  .cells #[.slice (some ⟨N + 10, 0, none⟩) 1 1, .string ⟨#[40, 60, 32, 48, 32, 97, 46, 107, 41]⟩, .slice (some ⟨N + 11, 0, none⟩) 1 1, .slice none 0 0, .int .i64 (-1)] 63,
  .cells #[.int .i64 1, .int .i64 8, .string ⟨#[]⟩] 50,
  .cells #[.slice (some ⟨N + 18, 0, none⟩) 1 1] 47]
set_option maxHeartbeats 8000000 in
set_option maxRecDepth 100000 in
theorem known_all (w : World) : Calls Tryz.prog 34 #[] w fun e w' => e = .returned (.agg #[.slice (some ⟨w.heap.size + 16, 0, none⟩) 2 2, .slice (some ⟨w.heap.size + 17, 0, none⟩) 1 1, .slice (some ⟨w.heap.size + 19, 0, none⟩) 1 1]) ∧ w' = allocs w (knownObjs w.heap.size) := by
  go_enter Tryz.func34, Tryz.ntmps34
  go_wp2_with fail
  exact bodyPost_ret (v := .agg #[.slice (some ⟨w.heap.size + 16, 0, none⟩) 2 2, .slice (some ⟨w.heap.size + 17, 0, none⟩) 1 1, .slice (some ⟨w.heap.size + 19, 0, none⟩) 1 1]) (by simp [results, Tryz.results34, go_sem]) rfl ⟨rfl, rfl⟩
theorem want_block {w : World} {g z n : Nat} {T : TypeId} {cs : List Value} (h : w.heap[g]? = some (.cells cs.toArray T (0, 0))) (hl : cs.length = n * z) : WantIn w z (some ⟨g, 0, none⟩) n cs :=
  ⟨hl, .inr ⟨g, 0, rfl, ln_lt h, fun j v hv => by rw [Nat.zero_add, blk_at h]; simpa using hv⟩⟩
theorem src_block {Ty : List Value → Nat → Prop} {w : World} {g z n : Nat} {T : TypeId} {cs : List Value} (h : w.heap[g]? = some (.cells cs.toArray T (0, 0))) (hl : cs.length = n * z) (hn : n ≤ 1048576) (h1 : ∀ v ∈ cs, v.oneCell' = true) (hty : Ty cs n) : SrcOk Ty w z ⟨some ⟨g, 0, none⟩, n, n, cs⟩ :=
  ⟨hn, (fun e => by cases e), want_block h hl, h1, hty⟩
def knFs0 : List FnT := [([104, 97, 108, 102], [110], [40, 105, 102, 32, 40, 61, 32, 36, 49, 32, 48, 41, 32, 40, 110, 111, 116, 101, 32, 48, 41, 32, 40, 47, 32, 49, 48, 48, 32, 36, 49, 41, 41])]
def knFs1 : List FnT := [([105, 102], [], [])]
def knTs : List TabT := [⟨[116], [([107], [110], 5), ([104], [98], 2)], [[(1, 1, []), (3, 1, [])], [(1, 2, []), (3, 0, [])], [(1, 3, []), (0, 0, [])], [(1, 0, []), (3, 1, [])]], 100, [114, 111, 119, 46, 104], [[109, 101]]⟩]
def knRow (N k : Nat) (cs : List CellT) : RowS := ⟨some ⟨N + k, 0, none⟩, 2, 2, cellCells cs⟩
def knTab (N : Nat) : TabS := ⟨⟨#[116]⟩, ⟨some ⟨N + 2, 0, none⟩, 2, 2, colCells [([107], [110], 5), ([104], [98], 2)]⟩, some ⟨N + 9, 0, none⟩, 4, 4, [knRow N 5 [(1, 1, []), (3, 1, [])], knRow N 6 [(1, 2, []), (3, 0, [])], knRow N 7 [(1, 3, []), (0, 0, [])], knRow N 8 [(1, 0, []), (3, 1, [])]], 100, ⟨#[114, 111, 119, 46, 104]⟩, ⟨some ⟨N + 3, 0, none⟩, 1, 1, txtCells [[109, 101]]⟩⟩
theorem cells_ty (cs : List CellT) (n : Nat) (h : n = cs.length) : TyC (cellCells cs) n := by
  subst h
  intro i hi
  have hg := List.getElem?_eq_getElem hi
  exact ⟨_, _, _, flat3 (fun c : CellT => [Value.int .i64 c.1, .int .i64 c.2.1, .string (ofBs c.2.2)]) (fun _ => rfl) cs i 0 _ hg (by omega), flat3 (fun c : CellT => [Value.int .i64 c.1, .int .i64 c.2.1, .string (ofBs c.2.2)]) (fun _ => rfl) cs i 1 _ hg (by omega), flat3 (fun c : CellT => [Value.int .i64 c.1, .int .i64 c.2.1, .string (ofBs c.2.2)]) (fun _ => rfl) cs i 2 _ hg (by omega)⟩
theorem cols_ty (cs : List ColT) (n : Nat) (h : n = cs.length) : TyK (colCells cs) n := by
  subst h
  intro i hi
  have hg := List.getElem?_eq_getElem hi
  exact ⟨_, _, _, flat3 (fun c : ColT => [Value.string (ofBs c.1), .string (ofBs c.2.1), .int .i64 c.2.2]) (fun _ => rfl) cs i 0 _ hg (by omega), flat3 (fun c : ColT => [Value.string (ofBs c.1), .string (ofBs c.2.1), .int .i64 c.2.2]) (fun _ => rfl) cs i 1 _ hg (by omega), flat3 (fun c : ColT => [Value.string (ofBs c.1), .string (ofBs c.2.1), .int .i64 c.2.2]) (fun _ => rfl) cs i 2 _ hg (by omega)⟩
theorem fns_ty (fs : List FnT) (n : Nat) (h : n = fs.length) : TyF (fnCells fs) n := by
  subst h
  intro i hi
  have hg := List.getElem?_eq_getElem hi
  exact ⟨_, _, _, flat3 (fun f : FnT => [Value.string (ofBs f.1), .string (ofBs f.2.1), .string (ofBs f.2.2)]) (fun _ => rfl) fs i 0 _ hg (by omega), flat3 (fun f : FnT => [Value.string (ofBs f.1), .string (ofBs f.2.1), .string (ofBs f.2.2)]) (fun _ => rfl) fs i 1 _ hg (by omega), flat3 (fun f : FnT => [Value.string (ofBs f.1), .string (ofBs f.2.1), .string (ofBs f.2.2)]) (fun _ => rfl) fs i 2 _ hg (by omega)⟩
theorem txts_ty (ls : List Bs) (n : Nat) (h : n = ls.length) : TyX (txtCells ls) n := by
  subst h
  intro i hi
  exact ⟨_, by rw [txtCells, List.getElem?_map, List.getElem?_eq_getElem hi]; rfl⟩
theorem cells_one (cs : List CellT) : ∀ v ∈ cellCells cs, v.oneCell' = true := by
  intro v hv
  obtain ⟨c, _, h⟩ := List.mem_flatMap.mp hv
  simp only [List.mem_cons, List.not_mem_nil, or_false] at h
  rcases h with rfl | rfl | rfl <;> rfl
theorem cols_one (cs : List ColT) : ∀ v ∈ colCells cs, v.oneCell' = true := by
  intro v hv
  obtain ⟨c, _, h⟩ := List.mem_flatMap.mp hv
  simp only [List.mem_cons, List.not_mem_nil, or_false] at h
  rcases h with rfl | rfl | rfl <;> rfl
theorem fns_one (fs : List FnT) : ∀ v ∈ fnCells fs, v.oneCell' = true := by
  intro v hv
  obtain ⟨c, _, h⟩ := List.mem_flatMap.mp hv
  simp only [List.mem_cons, List.not_mem_nil, or_false] at h
  rcases h with rfl | rfl | rfl <;> rfl
theorem txts_one (ls : List Bs) : ∀ v ∈ txtCells ls, v.oneCell' = true := by
  intro v hv
  obtain ⟨c, _, rfl⟩ := List.mem_map.mp hv
  rfl
end Go.Proofs.YtilfjpmeededmaaGreatDoor

namespace Go.Proofs.YtilfjpmeededmaaGreatDoor
open Go.RowKit
theorem texts_block {w : World} {g : Nat} {T : TypeId} {fs : List FnT} {n : Nat} (h : w.heap[g]? = some (.cells (fnCells fs).toArray T (0, 0))) (hn : n = fs.length) (hl : ∀ f ∈ fs, f.1.length ≤ maxLen ∧ f.2.2.length ≤ maxLen) (hm : n ≤ maxLen) : TextsIn w (.slice (some ⟨g, 0, none⟩) n n) fs := by
  subst hn
  refine ⟨_, _, rfl, hm, .inr ⟨g, 0, rfl, ln_lt h, fun i f hi => ?_⟩⟩
  have hg : ∀ (j : Nat) (u : Value), j < 3 → ([Value.string (ofBs f.1), .string (ofBs f.2.1), .string (ofBs f.2.2)] : List Value)[j]? = some u → w.cell? ⟨g, 0 + i * 3 + j, none⟩ = some u := fun j u hj hu => by
    rw [Nat.zero_add, blk_at h]
    have hx := flat3 (fun f : FnT => [Value.string (ofBs f.1), .string (ofBs f.2.1), .string (ofBs f.2.2)]) (fun _ => rfl) fs i j f hi hj
    simpa [fnCells] using hx.trans hu
  exact ⟨⟨hg 0 _ (by omega) rfl, hg 1 _ (by omega) rfl, hg 2 _ (by omega) rfl⟩, hl f (List.mem_of_getElem? hi)⟩
theorem cols_block {w : World} {g : Nat} {T : TypeId} {cs : List ColT} {n : Nat} (h : w.heap[g]? = some (.cells (colCells cs).toArray T (0, 0))) (hn : n = cs.length) (hl : ∀ c ∈ cs, c.1.length ≤ maxLen ∧ c.2.1.length ≤ maxLen) (hm : n ≤ maxLen) : ColsIn w (.slice (some ⟨g, 0, none⟩) n n) cs := by
  subst hn
  refine ⟨_, _, rfl, Nat.le_refl _, hm, .inr ⟨g, 0, rfl, ln_lt h, fun i f hi => ?_⟩⟩
  have hg : ∀ (j : Nat) (u : Value), j < 3 → ([Value.string (ofBs f.1), .string (ofBs f.2.1), .int .i64 f.2.2] : List Value)[j]? = some u → w.cell? ⟨g, 0 + i * 3 + j, none⟩ = some u := fun j u hj hu => by
    rw [Nat.zero_add, blk_at h]
    have hx := flat3 (fun f : ColT => [Value.string (ofBs f.1), .string (ofBs f.2.1), .int .i64 f.2.2]) (fun _ => rfl) cs i j f hi hj
    simpa [colCells] using hx.trans hu
  exact ⟨⟨hg 0 _ (by omega) rfl, hg 1 _ (by omega) rfl, hg 2 _ (by omega) rfl⟩, hl f (List.mem_of_getElem? hi)⟩
theorem cells_block {w : World} {g : Nat} {T : TypeId} {cs : List CellT} {n : Nat} (h : w.heap[g]? = some (.cells (cellCells cs).toArray T (0, 0))) (hn : n = cs.length) (hm : n ≤ maxLen) : CellsIn w (.slice (some ⟨g, 0, none⟩) n n) cs := by
  subst hn
  refine ⟨_, _, rfl, hm, .inr ⟨g, 0, rfl, ln_lt h, fun i f hi => ?_⟩⟩
  have hg : ∀ (j : Nat) (u : Value), j < 3 → ([Value.int .i64 f.1, .int .i64 f.2.1, .string (ofBs f.2.2)] : List Value)[j]? = some u → w.cell? ⟨g, 0 + i * 3 + j, none⟩ = some u := fun j u hj hu => by
    rw [Nat.zero_add, blk_at h]
    have hx := flat3 (fun f : CellT => [Value.int .i64 f.1, .int .i64 f.2.1, .string (ofBs f.2.2)]) (fun _ => rfl) cs i j f hi hj
    simpa [cellCells] using hx.trans hu
  exact ⟨hg 0 _ (by omega) rfl, hg 1 _ (by omega) rfl, hg 2 _ (by omega) rfl⟩
theorem strs_block {w : World} {g : Nat} {T : TypeId} {ls : List Bs} {n : Nat} (h : w.heap[g]? = some (.cells (txtCells ls).toArray T (0, 0))) (hn : n = ls.length) (hm : n ≤ maxLen) : StrsIn w (.slice (some ⟨g, 0, none⟩) n n) ls := by
  subst hn
  refine ⟨_, _, rfl, hm, .inr ⟨g, 0, rfl, ln_lt h, fun i l hi => ?_⟩⟩
  rw [Nat.zero_add, blk_at h]
  simp [txtCells, hi]
set_option maxRecDepth 100000 in
set_option maxHeartbeats 4000000 in
theorem known_bases (w : World) : BasesAt (allocs w (knownObjs w.heap.size)) (w.heap.size + 16) 0 2 ∧ w.heap.size + 16 < (allocs w (knownObjs w.heap.size)).heap.size := by
  have hat : ∀ (k : Nat) (o : Obj), (knownObjs w.heap.size)[k]? = some o → (allocs w (knownObjs w.heap.size)).heap[w.heap.size + k]? = some o := fun k o h => allocs_at _ w k o h
  obtain ⟨N, hN⟩ : ∃ N, N = w.heap.size := ⟨_, rfl⟩
  rw [← hN] at hat ⊢
  generalize hW : allocs w (knownObjs N) = W at hat ⊢
  have h2 := hat 2 _ rfl
  have h3 := hat 3 _ rfl
  have h5 := hat 5 _ rfl
  have h6 := hat 6 _ rfl
  have h7 := hat 7 _ rfl
  have h8 := hat 8 _ rfl
  have h9 := hat 9 _ rfl
  have h13 := hat 13 _ rfl
  have h14 := hat 14 _ rfl
  have h15 := hat 15 _ rfl
  have h16 := hat 16 _ rfl
  clear hat
  have hmx : ∀ k : Nat, k ≤ 100 → k ≤ maxLen := fun k hk => by unfold maxLen; omega
  have hrow : ∀ (k : Nat) (c : List CellT), W.heap[N + k]? = some (.cells (cellCells c).toArray 50 (0, 0)) → c.length = 2 → RowOk W (knRow N k c) := fun k c h hc =>
    src_block h (by rw [cellCells, flat3_len _ (fun _ => rfl), hc]) (by omega) (cells_one c) (cells_ty c 2 hc.symm)
  refine ⟨fun i hi => ?_, ln_lt h16⟩
  match i, hi with
  | 0, _ =>
    refine ⟨_, _, _, _, _, _, knFs0, knTs, (blk_at h16).trans rfl, (blk_at h16).trans rfl, ?_⟩
    refine ⟨texts_block (fs := knFs0) h13 rfl ?_ (hmx _ (by omega)), ?_, ⟨_, _, rfl, hmx _ (by decide), .inr ⟨N + 14, 0, rfl, ln_lt h14, ?_⟩⟩, src_block (cs := fnCells knFs0) h13 rfl (by omega) (fns_one _) (fns_ty _ _ rfl), by omega, (fun e => by cases e), [knTab N], ⟨rfl, .inr ⟨N + 14, 0, rfl, ln_lt h14, ?_⟩⟩, ?_, rfl, ?_⟩
    · intro f hf; simp [knFs0] at hf; subst hf; exact ⟨hmx _ (by decide), hmx _ (by decide)⟩
    · intro f hf; simp [knFs0] at hf; subst hf; exact hmx _ (by decide)
    · intro i t hi
      obtain ⟨rfl, rfl⟩ : i = 0 ∧ t = knTs[0] := by
        have hil := (List.getElem?_eq_some_iff.mp hi)
        obtain ⟨h1, h2⟩ := hil
        have : i = 0 := by simp [knTs] at h1; omega
        subst this; exact ⟨rfl, h2.symm⟩
      refine ⟨_, _, _, _, _, _, _, _, _, ⟨(blk_at h14).trans rfl, (blk_at h14).trans rfl, (blk_at h14).trans rfl, (blk_at h14).trans rfl, (blk_at h14).trans rfl, (blk_at h14).trans rfl⟩, cols_block h2 rfl ?_ (hmx _ (by omega)), ⟨_, _, rfl, hmx _ (by decide), .inr ⟨N + 9, 0, rfl, ln_lt h9, ?_⟩⟩, strs_block h3 rfl (hmx _ (by omega)), hmx _ (by decide), hmx _ (by decide)⟩
      · intro c hc; simp [knTs] at hc; rcases hc with rfl | rfl <;> exact ⟨hmx _ (by decide), hmx _ (by decide)⟩
      · intro i r hi
        have hil : i < 4 := (List.getElem?_eq_some_iff.mp hi).1
        match i, hil with
        | 0, _ => cases hi; exact ⟨_, _, _, (blk_at h9).trans rfl, cells_block h5 rfl (hmx _ (by omega))⟩
        | 1, _ => cases hi; exact ⟨_, _, _, (blk_at h9).trans rfl, cells_block h6 rfl (hmx _ (by omega))⟩
        | 2, _ => cases hi; exact ⟨_, _, _, (blk_at h9).trans rfl, cells_block h7 rfl (hmx _ (by omega))⟩
        | 3, _ => cases hi; exact ⟨_, _, _, (blk_at h9).trans rfl, cells_block h8 rfl (hmx _ (by omega))⟩
    · intro i s hi
      obtain ⟨rfl, rfl⟩ : i = 0 ∧ s = knTab N := by
        obtain ⟨h1, h2⟩ := List.getElem?_eq_some_iff.mp hi
        have : i = 0 := by simp at h1; omega
        subst this; exact ⟨rfl, h2.symm⟩
      exact ⟨(blk_at h14).trans rfl, (blk_at h14).trans rfl, (blk_at h14).trans rfl, (blk_at h14).trans rfl, (blk_at h14).trans rfl, (blk_at h14).trans rfl⟩
    · intro s hs
      obtain rfl := List.mem_singleton.mp hs
      refine ⟨src_block h2 rfl (by omega) (cols_one _) (cols_ty _ _ rfl), src_block h3 rfl (by omega) (txts_one _) (txts_ty _ _ rfl), by show 4 ≤ 1048576; omega, (fun e => by cases e), ⟨rfl, .inr ⟨N + 9, 0, rfl, ln_lt h9, ?_⟩⟩, ?_⟩
      · intro i r hi
        have hil : i < 4 := (List.getElem?_eq_some_iff.mp hi).1
        match i, hil with
        | 0, _ => cases hi; exact (blk_at h9).trans rfl
        | 1, _ => cases hi; exact (blk_at h9).trans rfl
        | 2, _ => cases hi; exact (blk_at h9).trans rfl
        | 3, _ => cases hi; exact (blk_at h9).trans rfl
      · intro r hr
        simp only [knTab, List.mem_cons, List.not_mem_nil, or_false] at hr
        rcases hr with rfl | rfl | rfl | rfl
        · exact hrow 5 _ h5 rfl
        · exact hrow 6 _ h6 rfl
        · exact hrow 7 _ h7 rfl
        · exact hrow 8 _ h8 rfl
    · intro i s t hi ht
      obtain ⟨rfl, rfl⟩ : i = 0 ∧ s = knTab N := by
        obtain ⟨h1, h2⟩ := List.getElem?_eq_some_iff.mp hi
        have : i = 0 := by simp at h1; omega
        subst this; exact ⟨rfl, h2.symm⟩
      cases ht
      refine ⟨rfl, rfl, rfl, rfl, rfl, rfl, rfl, rfl, rfl, ?_, hmx _ (by decide), hmx _ (by decide), ?_⟩
      · intro i r c hr hc
        have hil : i < 4 := (List.getElem?_eq_some_iff.mp hr).1
        match i, hil with
        | 0, _ => cases hr; cases hc; exact ⟨rfl, rfl⟩
        | 1, _ => cases hr; cases hc; exact ⟨rfl, rfl⟩
        | 2, _ => cases hr; cases hc; exact ⟨rfl, rfl⟩
        | 3, _ => cases hr; cases hc; exact ⟨rfl, rfl⟩
      · intro c hc; simp at hc; rcases hc with rfl | rfl <;> exact ⟨hmx _ (by decide), hmx _ (by decide)⟩
  | 1, _ =>
    refine ⟨_, _, _, _, _, _, knFs1, [], (blk_at h16).trans rfl, (blk_at h16).trans rfl, ?_⟩
    refine ⟨texts_block (fs := knFs1) h15 rfl ?_ (hmx _ (by omega)), ?_, ⟨_, _, rfl, hmx _ (by decide), .inl rfl⟩, src_block (cs := fnCells knFs1) h15 rfl (by omega) (fns_one _) (fns_ty _ _ rfl), by omega, (fun _ => ⟨rfl, rfl⟩), [], ⟨rfl, .inl rfl⟩, (fun s hs => by simp at hs), rfl, fun i s t hi => by simp at hi⟩
    · intro f hf; simp [knFs1] at hf; subst hf; exact ⟨hmx _ (by decide), hmx _ (by decide)⟩
    · intro f hf; simp [knFs1] at hf; subst hf; exact hmx _ (by decide)
end Go.Proofs.YtilfjpmeededmaaGreatDoor

namespace Go.Proofs.YtilfjpmeededmaaGreatDoor
open Go.RowKit
def OpsR (w : World) (b off n : Nat) : Prop := ∀ i, i < n → ∃ (k x y : Int) (s t : ByteArray) (lo : Option Addr) (ln lc : Nat),
  w.cell? ⟨b, off + i * 6, none⟩ = some (.int .i64 k) ∧ w.cell? ⟨b, off + i * 6 + 1, none⟩ = some (.int .i64 x) ∧ w.cell? ⟨b, off + i * 6 + 2, none⟩ = some (.int .i64 y) ∧
  w.cell? ⟨b, off + i * 6 + 3, none⟩ = some (.string s) ∧ w.cell? ⟨b, off + i * 6 + 4, none⟩ = some (.string t) ∧ w.cell? ⟨b, off + i * 6 + 5, none⟩ = some (.slice lo ln lc) ∧ -9223372036854775808 ≤ x ∧ x ≤ 9223372036854775807
theorem OpsR.keep {w x : World} {b off n : Nat} (h : OpsR w b off n) {B : Nat} (hb : Below B w x) (hlt : b < B) : OpsR x b off n := by
  intro i hi
  obtain ⟨k, y, z, s, t, lo, ln, lc, h0, h1, h2, h3, h4, h5, h6⟩ := h i hi
  exact ⟨k, y, z, s, t, lo, ln, lc, (hb.cell (p := ⟨b, _, none⟩) hlt).trans h0, (hb.cell (p := ⟨b, _, none⟩) hlt).trans h1, (hb.cell (p := ⟨b, _, none⟩) hlt).trans h2, (hb.cell (p := ⟨b, _, none⟩) hlt).trans h3, (hb.cell (p := ⟨b, _, none⟩) hlt).trans h4, (hb.cell (p := ⟨b, _, none⟩) hlt).trans h5, h6⟩
theorem opsR_new (x : World) (cs : Array Value) (T : TypeId) {b n : Nat} (hb : b = x.heap.size) (h : ∀ i, i < n → ∃ (k x y : Int) (s t : ByteArray) (lo : Option Addr) (ln lc : Nat), cs[i * 6]? = some (.int .i64 k) ∧ cs[i * 6 + 1]? = some (.int .i64 x) ∧ cs[i * 6 + 2]? = some (.int .i64 y) ∧
    cs[i * 6 + 3]? = some (.string s) ∧ cs[i * 6 + 4]? = some (.string t) ∧ cs[i * 6 + 5]? = some (.slice lo ln lc) ∧ -9223372036854775808 ≤ x ∧ x ≤ 9223372036854775807) : OpsR (x.alloc (.cells cs T)) b 0 n := by
  subst hb
  have hc : ∀ j, (x.alloc (.cells cs T)).cell? ⟨x.heap.size, j, none⟩ = cs[j]? := fun j => cells_at (heap_alloc_new x _)
  intro i hi
  obtain ⟨k, y, z, s, t, lo, ln, lc, h0, h1, h2, h3, h4, h5, h6⟩ := h i hi
  simp only [Nat.zero_add]
  exact ⟨k, y, z, s, t, lo, ln, lc, (hc _).trans h0, (hc _).trans h1, (hc _).trans h2, (hc _).trans h3, (hc _).trans h4, (hc _).trans h5, h6⟩
set_option maxHeartbeats 4000000 in
set_option maxRecDepth 100000 in
theorem opening_all (w : World) : Calls Tryz.prog 35 #[] w fun e w' => e = .returned (.slice (some ⟨w.heap.size + 1, 0, none⟩) 9 9) ∧ Below w.heap.size w w' ∧ w.heap.size + 1 < w'.heap.size ∧ OpsR w' (w.heap.size + 1) 0 9 := by
  go_enter Tryz.func35, Tryz.ntmps35
  go_wp2_with fail
  go_ret
  refine ⟨rfl, below_box2 w _ _, by simp [World.size_alloc], ?_⟩
  refine opsR_new (w.alloc _) _ _ (by simp [World.size_alloc]) fun i hi => ?_
  match i, hi with
  | 0, _ | 1, _ | 2, _ | 3, _ | 4, _ | 5, _ | 6, _ | 7, _ | 8, _ => exact ⟨_, _, _, _, _, _, _, _, rfl, rfl, rfl, rfl, rfl, rfl, by decide, by decide⟩
structure WorldB (w : World) (wb : Nat) (a0 : Option Addr) (l0 c0 : Nat) : Prop where
  blk : ∃ g1 g2 : Value, w.heap[wb]? = some (.cells #[.slice a0 l0 c0, g1, g2, .slice none 0 0, .slice none 0 0, .slice none 0 0, .slice none 0 0, .slice none 0 0] 100 (0, 0))
  small : l0 ≤ 1048576
  bases : l0 = 0 ∨ ∃ b off, a0 = some ⟨b, off, none⟩ ∧ b < w.heap.size ∧ BasesAt w b off l0
theorem WorldB.keep {w x : World} {wb : Nat} {a0 : Option Addr} {l0 c0 : Nat} (h : WorldB w wb a0 l0 c0) (hb : Below w.heap.size w x) : WorldB x wb a0 l0 c0 := by
  obtain ⟨g1, g2, h1⟩ := h.blk
  refine ⟨⟨g1, g2, (hb.block wb (ln_lt h1)).trans h1⟩, h.small, ?_⟩
  rcases h.bases with h | ⟨b, off, e, hl, hB⟩
  · exact .inl h
  · exact .inr ⟨b, off, e, by have := hb.size; omega, hB.keep hb hl⟩
theorem WorldB.is {w : World} {wb : Nat} {a0 : Option Addr} {l0 c0 : Nat} (h : WorldB w wb a0 l0 c0) : WorldIs w wb := by
  obtain ⟨g1, g2, h1⟩ := h.blk; exact ⟨_, g1, g2, h1⟩
theorem bases_all (w : World) (wb : Nat) (a0 : Option Addr) (l0 c0 : Nat) (h : WorldB w wb a0 l0 c0) (kd x y : Int) (hkd : kd = 2 ∨ kd = 3) (hx1 : -9223372036854775808 ≤ x) (hx2 : x ≤ 9223372036854775807) (s t : ByteArray) (lo : Option Addr) (ln lc : Nat) :
    Calls Tryz.prog 69 #[.pointer (some ⟨wb, 0, none⟩), .agg #[.int .i64 kd, .int .i64 x, .int .i64 y, .string s, .string t, .slice lo ln lc]] w fun e w' => e = .returned (.bool true) ∧ Below w.heap.size w w' := by
  obtain ⟨g1, g2, h1⟩ := h.blk
  have hc : w.cell? ⟨wb, 0, none⟩ = some (.slice a0 l0 c0) := (blk_at h1).trans rfl
  by_cases h0 : l0 = 0
  · subst h0
    exact bases_none w wb (.slice a0 0 c0) c0 (.inr ⟨a0, rfl⟩) hc (ln_lt h1) kd x y s t lo ln lc
  · obtain ⟨b, off, rfl, hl, hB⟩ := h.bases.resolve_left h0
    exact bases_any w wb b off l0 c0 hc (ln_lt h1) (by omega) h.small hl hB kd x y hkd hx1 hx2 s t lo ln lc
set_option maxHeartbeats 4000000 in
set_option maxRecDepth 100000 in
theorem step_base (w : World) (wb : Nat) (a0 : Option Addr) (l0 c0 : Nat) (h : WorldB w wb a0 l0 c0) (kd x y : Int) (hkd : kd = 2 ∨ kd = 3) (hx1 : -9223372036854775808 ≤ x) (hx2 : x ≤ 9223372036854775807) (s t : ByteArray) (lo : Option Addr) (ln lc : Nat) :
    Calls Tryz.prog 36 #[.pointer (some ⟨wb, 0, none⟩), .agg #[.int .i64 kd, .int .i64 x, .int .i64 y, .string s, .string t, .slice lo ln lc]] w fun e w' => e = .returned (.bool true) ∧ Below w.heap.size w w' := by
  have HB := bases_all _ wb a0 l0 c0 (h.keep (below_box w (.cells #[.int .i64 kd, .int .i64 x, .int .i64 y, .string s, .string t, .slice lo ln lc] 103))) kd x y hkd hx1 hx2 s t lo ln lc
  clear h
  rcases hkd with rfl | rfl
  · go_enter Tryz.func36, Tryz.ntmps36
    go_wp2_with (go_at_call 69; refine HB.mono ?_; rintro e w2 ⟨rfl, hb2⟩)
    go_ret
    exact ⟨rfl, (below_box w _).trans (hb2.mono (by simp [World.size_alloc]))⟩
  · go_enter Tryz.func36, Tryz.ntmps36
    go_wp2_with (go_at_call 69; refine HB.mono ?_; rintro e w2 ⟨rfl, hb2⟩)
    go_ret
    exact ⟨rfl, (below_box w _).trans (hb2.mono (by simp [World.size_alloc]))⟩
theorem known_b (w : World) : Calls Tryz.prog 34 #[] w fun e w' => e = .returned (.agg #[.slice (some ⟨w.heap.size + 16, 0, none⟩) 2 2, .slice (some ⟨w.heap.size + 17, 0, none⟩) 1 1, .slice (some ⟨w.heap.size + 19, 0, none⟩) 1 1]) ∧ Below w.heap.size w w' ∧ w.heap.size + 16 < w'.heap.size ∧ BasesAt w' (w.heap.size + 16) 0 2 :=
  (known_all w).mono fun e w' ⟨h1, h2⟩ => by
    subst h2
    exact ⟨h1, allocs_below _ w, (known_bases w).2, (known_bases w).1⟩
set_option maxHeartbeats 8000000 in
set_option maxRecDepth 100000 in
theorem plays_checks (w : World) (a0 a1 a2 ao : Option Addr) (l0 c0 l1 c1 l2 c2 n cap : Nat) (hn : n ≤ 1048576) (hl0 : l0 ≤ 1048576) (hbs : l0 = 0 ∨ ∃ b off, a0 = some ⟨b, off, none⟩ ∧ b < w.heap.size ∧ BasesAt w b off l0) (hops : n = 0 ∨ ∃ b off, ao = some ⟨b, off, none⟩ ∧ b < w.heap.size ∧ OpsR w b off n) :
    Calls Tryz.prog 14 #[.agg #[.slice a0 l0 c0, .slice a1 l1 c1, .slice a2 l2 c2], .slice ao n cap, .int .i64 2, .int .i64 3] w fun e w' => e = .returned (.bool true) ∧ Below w.heap.size w w' := by
  have HBS : Hid _ := hbs
  clear hbs
  go_enter Tryz.func14, Tryz.ntmps14
  go_wp2_with (first
    | (go_at_call 34; refine (known_b _).mono ?_; rintro e w2 ⟨rfl, hb2, hlt2, hbs2⟩)
    | (go_at_call 35; refine (opening_all _).mono ?_; rintro e w3 ⟨rfl, hb3, hlt3, hops3⟩))
  have B2 : Below w.heap.size w w2 := ((Below.refl _ w).alloc (Nat.le_refl _) _).trans (hb2.mono (by simp [World.size_alloc]))
  have hs2 := hb2.size
  have hs3 := hb3.size
  simp only [World.size_alloc] at hlt3 hops3 hs2 hs3 hlt2 hbs2
  have hF2 : WorldB (w2.alloc (.cells #[.slice (some ⟨w.heap.size + 1 + 16, 0, none⟩) 2 2, .slice (some ⟨w.heap.size + 1 + 17, 0, none⟩) 1 1, .slice (some ⟨w.heap.size + 1 + 19, 0, none⟩) 1 1, .slice none 0 0, .slice none 0 0, .slice none 0 0, .slice none 0 0, .slice none 0 0] 100)) w2.heap.size (some ⟨w.heap.size + 1 + 16, 0, none⟩) 2 2 :=
    ⟨⟨_, _, heap_alloc_new w2 _⟩, by omega, .inr ⟨_, _, rfl, by rw [World.size_alloc]; omega, hbs2.keep (below_box w2 _) hlt2⟩⟩
  have hF3 := hF2.keep hb3
  have B3 : Below w.heap.size w w3 := (B2.alloc B2.size _).trans (hb3.mono (by simp [World.size_alloc]; omega))
  have hG : w3.heap[w.heap.size]? = some (.cells #[.slice a0 l0 c0, .slice a1 l1 c1, .slice a2 l2 c2] 26 (0, 0)) :=
    (hb3.block _ (by simp [World.size_alloc]; omega)).trans ((Below.heap_alloc _ _ _ (by omega)).trans ((hb2.block _ (by simp [World.size_alloc])).trans (heap_alloc_new w _)))
  clear hb2 hb3 B2 hF2 hbs2 hlt2
  go_loopw [11] (fun iv wr => ∃ i : Nat, i ≤ 9 ∧ iv = .int .i64 i ∧ Below w3.heap.size w3 wr) (fun iv _ => 9 - (intOf iv).toNat)
  case atStart => exact ⟨0, by omega, rfl, Below.refl _ _⟩
  case round =>
    obtain ⟨i, hi, rfl, hBr⟩ := hrel
    have hbr := hBr.size
    by_cases hlt : i < 9
    · clear hops hG
      obtain ⟨k, x, y, s, t, lo, ln, lc, q0, q1, q2, q3, q4, q5, hx1, hx2⟩ := (hops3.keep hBr (by omega)) i hlt
      simp only [Nat.zero_add] at q0 q1 q2 q3 q4 q5
      have hFr := hF3.keep hBr
      clear hops3 hF3
      by_cases hk1 : k < 2
      · clear hFr
        go_wp2_with fail
        go_roundw
        case rel => exact ⟨i + 1, by omega, by go_num, hBr⟩
        case measure => simp [intOf]; omega
      · by_cases hk2 : 3 < k
        · clear hFr
          go_wp2_with fail
          go_roundw
          case rel => exact ⟨i + 1, by omega, by go_num, hBr⟩
          case measure => simp [intOf]; omega
        · have hkk : k = 2 ∨ k = 3 := by omega
          have HS := step_base wr w2.heap.size _ _ _ hFr k x y hkk hx1 hx2 s t lo ln lc
          clear hFr
          rcases hkk with rfl | rfl
          · go_wp2_with (go_at_call 36; refine HS.mono ?_; rintro e w4 ⟨rfl, hb4⟩)
            go_roundw
            case rel => exact ⟨i + 1, by omega, by go_num, hBr.trans (hb4.mono hbr)⟩
            case measure => simp [intOf]; omega
          · go_wp2_with (go_at_call 36; refine HS.mono ?_; rintro e w4 ⟨rfl, hb4⟩)
            go_roundw
            case rel => exact ⟨i + 1, by omega, by go_num, hBr.trans (hb4.mono hbr)⟩
            case measure => simp [intOf]; omega
    · generalize hwq : wr = wq at *
      clear hwq
      have hGr := (hBr.block _ (by omega)).trans hG
      have z0 : wq.cell? ⟨w.heap.size, 0, none⟩ = some (.slice a0 l0 c0) := (cells_at hGr).trans rfl
      have z1 : wq.cell? ⟨w.heap.size, 1, none⟩ = some (.slice a1 l1 c1) := (cells_at hGr).trans rfl
      have z2 : wq.cell? ⟨w.heap.size, 2, none⟩ = some (.slice a2 l2 c2) := (cells_at hGr).trans rfl
      have B4 : Below w.heap.size w wq := B3.trans (hBr.mono B3.size)
      clear hops3 hBr hG hGr B3 hF3
      obtain ⟨W, hW⟩ : ∃ W, W = wq.alloc (.cells #[.slice a0 l0 c0, .slice a1 l1 c1, .slice a2 l2 c2, .slice none 0 0, .slice none 0 0, .slice none 0 0, .slice none 0 0, .slice none 0 0] 100) := ⟨_, rfl⟩
      have hWs : W.heap.size = wq.heap.size + 1 := by rw [hW]; simp [World.size_alloc]
      have B5 : Below w.heap.size w W := by rw [hW]; exact B4.alloc B4.size _
      have hWB : WorldB W wq.heap.size a0 l0 c0 := by
        refine ⟨⟨_, _, by rw [hW]; exact heap_alloc_new wq _⟩, hl0, ?_⟩
        rcases HBS.out with h | ⟨b, off, e, hl, hB⟩
        · exact .inl h
        · exact .inr ⟨b, off, e, by have := B5.size; omega, hB.keep B5 hl⟩
      have HAT : ∀ P : World → Prop, P W → P (wq.alloc (.cells #[.slice a0 l0 c0, .slice a1 l1 c1, .slice a2 l2 c2, .slice none 0 0, .slice none 0 0, .slice none 0 0, .slice none 0 0, .slice none 0 0] 100)) := by intro P h; rw [← hW]; exact h
      clear hW
      go_wp2_with fail
      go_loopw [14] (fun iv wx => ∃ i : Nat, i ≤ n ∧ iv = .int .i64 i ∧ Below W.heap.size W wx) (fun iv _ => n - (intOf iv).toNat)
      case atStart => exact ⟨0, Nat.zero_le _, rfl, HAT (fun x => Below W.heap.size W x) (Below.refl _ _)⟩
      case round =>
        clear z0 z1 z2 HAT
        obtain ⟨i2, hi2, rfl, hBx⟩ := hrel
        have hbx := hBx.size
        by_cases hlt2 : i2 < n
        · obtain ⟨b, off, rfl, hbl, hO⟩ : ∃ b off, ao = some ⟨b, off, none⟩ ∧ b < w.heap.size ∧ OpsR w b off n := by
            rcases hops with h | h
            · omega
            · exact h
          have hbw := B5.size
          obtain ⟨k, x, y, s, t, lo, ln, lc, q0, q1, q2, q3, q4, q5, hx1, hx2⟩ := ((hO.keep B5 hbl).keep hBx (by omega)) i2 hlt2
          have hFr := hWB.keep hBx
          clear hops hO
          by_cases hk1 : k < 2
          · clear hFr
            go_wp2_with fail
            go_roundw
            case rel => exact ⟨i2 + 1, by omega, by go_num, hBx⟩
            case measure => simp [intOf]; omega
          · by_cases hk2 : 3 < k
            · clear hFr
              go_wp2_with fail
              go_roundw
              case rel => exact ⟨i2 + 1, by omega, by go_num, hBx⟩
              case measure => simp [intOf]; omega
            · have hkk : k = 2 ∨ k = 3 := by omega
              have HS := step_base wr wq.heap.size a0 l0 c0 hFr k x y hkk hx1 hx2 s t lo ln lc
              have hWi := hFr.is
              clear hFr
              rcases hkk with rfl | rfl
              · go_wp2_with (first
                  | (go_at_call 36; refine HS.mono ?_; rintro e w4 ⟨rfl, hb4⟩)
                  | (go_at_call 37; refine (whole_any _ _ ?_).mono ?_; exact hWi.keep hb4 (by omega); rintro e w5 ⟨rfl, rfl⟩))
                go_roundw
                case rel => exact ⟨i2 + 1, by omega, by go_num, hBx.trans (hb4.mono hbx)⟩
                case measure => simp [intOf]; omega
              · go_wp2_with (first
                  | (go_at_call 36; refine HS.mono ?_; rintro e w4 ⟨rfl, hb4⟩)
                  | (go_at_call 37; refine (whole_any _ _ ?_).mono ?_; exact hWi.keep hb4 (by omega); rintro e w5 ⟨rfl, rfl⟩))
                go_roundw
                case rel => exact ⟨i2 + 1, by omega, by go_num, hBx.trans (hb4.mono hbx)⟩
                case measure => simp [intOf]; omega
        · go_wp2_with fail
          go_ret
          exact ⟨rfl, B5.trans (hBx.mono B5.size)⟩
end Go.Proofs.YtilfjpmeededmaaGreatDoor

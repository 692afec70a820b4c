/- The maker's tokens. -/
/- The expressions that a maker makes, as plain data. -/
import Derived.Test.YtilfjpmeededmaaGreatDoorMakeNZ
namespace Go.Proofs.YtilfjpmeededmaaGreatDoor
open Go.RowKit

def numToks : List Bs := [[48], [49], [55], [45, 51], [50], [49, 48, 48, 48, 48, 48, 48, 48, 48, 48]]
def textToks : List Bs := [[39, 97, 39], [39, 98, 39], [39, 39], [117, 115, 101, 114], [39, 108, 111, 110, 103, 32, 116, 101, 120, 116, 39]]
def boolToks : List Bs := [[116, 114, 117, 101], [102, 97, 108, 115, 101]]
def litToks (t : Int) : List Bs := if t = 116 then textToks else if t = 98 then boolToks else numToks
def ownToks (c : Cfg) (t : Int) : List Bs := if t = 116 then c.texts else if t = 98 then c.bools else c.nums
def IsTok (c : Cfg) (t : Int) (tx : Bs) : Prop := tx ∈ litToks t ∨ tx ∈ ownToks c t

def Tokened (w : World) (mb : Nat) (c : Cfg) (a l : Int) (t : Int) (e : Ending) (w' : World) : Prop :=
  ∃ (tx : Bs) (a' : Int), e = .returned (.string (ofBs tx)) ∧ IsTok c t tx ∧ a ≤ a' ∧ a' ≤ a + 2 ∧ w.grownBy w' (some mb) ∧ MakerIs w' mb c a' l

theorem grown_blk {x y : World} {b mb : Nat} {o : Obj} (h : x.heap[b]? = some o) (hb : x.grownBy y (some mb)) (hne : b ≠ mb) : y.heap[b]? = some o := blk_grown h hb hne
/-- A row of texts that lies in a block: the text at a place. -/
theorem row_at {x : World} {b : Nat} {ts : List Bs} {T : TypeId} (h : x.heap[b]? = some (.cells (ts.map fun t => Value.string (ofBs t)).toArray T (0, 0))) {r : Int} (h0 : 0 ≤ r) (h1 : r < ts.length) :
    ∃ tx, tx ∈ ts ∧ x.cell? ⟨b, r.toNat, none⟩ = some (.string (ofBs tx)) := by
  have hr : r.toNat < ts.length := by omega
  refine ⟨ts[r.toNat], List.getElem_mem hr, ?_⟩
  simp [World.cell?, h, hr]
theorem strs_at {x y : World} {mb : Nat} {b off : Nat} {l : List Bs} (hg : x.grownBy y (some mb)) (hb : b ≠ mb) (hlt : b < x.heap.size) (hc : ∀ i (h : i < l.length), x.cell? ⟨b, off + i, none⟩ = some (.string (ofBs l[i]))) {r : Int} (h0 : 0 ≤ r) (h1 : r < l.length) :
    ∃ tx, tx ∈ l ∧ y.cell? ⟨b, off + r.toNat, none⟩ = some (.string (ofBs tx)) := by
  have hr : r.toNat < l.length := by omega
  refine ⟨l[r.toNat], List.getElem_mem hr, ?_⟩
  rw [World.cell?_of_block (w := x) (hg.block b hlt (by simpa using hb))]
  exact hc _ hr

set_option maxHeartbeats 1600000 in
set_option maxRecDepth 100000 in
theorem token_n (w : World) (mb : Nat) (c : Cfg) (a l : Int) (ha : 0 ≤ a) (ha2 : a ≤ 100000) (h : MakerIs w mb c a l) :
    Calls Tryz.prog 39 #[.pointer (some ⟨mb, 0, none⟩), .int .u8 110] w fun e w' => Tokened w mb c a l 110 e w' := by
  have hM := h
  have hlt := h.lt
  have hne : w.heap.size ≠ mb := by omega
  have hne1 : w.heap.size + 1 ≠ mb := by omega
  obtain ⟨rv, nv, tv, bv, hk, h1, h2, h3, h4⟩ := h
  obtain ⟨⟨y0, y1, y2, y3, y4, y5, y6, y7⟩, f1, f2⟩ := cells8 hk
  rcases h2 with ⟨hnil, ao, cap, rfl⟩ | ⟨b, off, cap, rfl, hl0, hl1, hb, hbl, hc⟩
  · clear h1 h3 h4 hk
    go_enter Tryz.func39, Tryz.ntmps39
    go_wp2_with (go_at_call 38; refine (number_any _ _ mb c a l ?c1 ?c2 ha ?c3 (hM.alloc _)).mono ?_)
    case c1 => decide
    case c2 => decide
    case c3 => omega
    rintro e w2 ⟨r, a', rfl, hr0, hr1, ha0, ha1, hg2, hM2⟩
    obtain ⟨tx, htx, hcell⟩ := row_at (ts := numToks) (grown_blk (blk_new w _) hg2 hne) hr0 hr1
    go_wp2
    go_ret
    exact ⟨tx, a', rfl, .inl htx, ha0, by omega, grown_trans (grown_alloc (grown_refl w _) _) hg2, hM2⟩
  · clear h1 h3 h4 hk
    go_enter Tryz.func39, Tryz.ntmps39
    go_wp2_with (go_at_call 38; refine (number_any _ _ mb c a l ?c1 ?c2 ha ?c3 (hM.alloc _)).mono ?_)
    case c1 => decide
    case c2 => decide
    case c3 => omega
    rintro e w2 ⟨r, a', rfl, hr0, hr1, ha0, ha1, hg2, hM2⟩
    have hkl := grown_blk (blk_new w _) hg2 hne
    have G2 : w.grownBy w2 (some mb) := grown_trans (grown_alloc (grown_refl w _) _) hg2
    have hbl2 : b < w2.heap.size := Nat.lt_of_lt_of_le hbl G2.size
    by_cases hr : 0 < r
    · go_wp2_with (go_at_call 38; refine (number_any _ _ mb c a' l ?c1 ?c2 ?c4 ?c3 hM2).mono ?_)
      case c1 => omega
      case c2 => omega
      case c3 => omega
      case c4 => omega
      rintro e w3 ⟨r3, a3, rfl, hr30, hr31, ha30, ha31, hg3, hM3⟩
      obtain ⟨tx, htx, hcell⟩ := strs_at (grown_trans G2 hg3) hb hbl hc hr30 hr31
      go_wp2
      go_ret
      exact ⟨tx, a3, rfl, .inr htx, by omega, by omega, grown_trans G2 hg3, hM3⟩
    · go_wp2_with (go_at_call 38; refine (number_any _ _ mb c a' l ?c1 ?c2 ?c4 ?c3 hM2).mono ?_)
      case c1 => omega
      case c2 => omega
      case c3 => omega
      case c4 => omega
      rintro e w3 ⟨r3, a3, rfl, hr30, hr31, ha30, ha31, hg3, hM3⟩
      obtain ⟨tx, htx, hcell⟩ := row_at (ts := numToks) (grown_blk hkl hg3 hne) hr30 hr31
      go_wp2
      go_ret
      exact ⟨tx, a3, rfl, .inl htx, by omega, by omega, grown_trans G2 hg3, hM3⟩

set_option maxHeartbeats 1600000 in
set_option maxRecDepth 100000 in
theorem token_t (w : World) (mb : Nat) (c : Cfg) (a l : Int) (ha : 0 ≤ a) (ha2 : a ≤ 100000) (h : MakerIs w mb c a l) :
    Calls Tryz.prog 39 #[.pointer (some ⟨mb, 0, none⟩), .int .u8 116] w fun e w' => Tokened w mb c a l 116 e w' := by
  have hM := h
  have hlt := h.lt
  have hne : w.heap.size ≠ mb := by omega
  have hne1 : w.heap.size + 1 ≠ mb := by omega
  obtain ⟨rv, nv, tv, bv, hk, h1, h2, h3, h4⟩ := h
  obtain ⟨⟨y0, y1, y2, y3, y4, y5, y6, y7⟩, f1, f2⟩ := cells8 hk
  rcases h3 with ⟨hnil, ao, cap, rfl⟩ | ⟨b, off, cap, rfl, hl0, hl1, hb, hbl, hc⟩
  · clear h1 h2 h4 hk
    go_enter Tryz.func39, Tryz.ntmps39
    go_wp2_with (go_at_call 38; refine (number_any _ _ mb c a l ?c1 ?c2 ha ?c3 ((hM.alloc _).alloc _)).mono ?_)
    case c1 => decide
    case c2 => decide
    case c3 => omega
    rintro e w2 ⟨r, a', rfl, hr0, hr1, ha0, ha1, hg2, hM2⟩
    obtain ⟨tx, htx, hcell⟩ := row_at (ts := textToks) (grown_blk (blk_new (w.alloc _) _) hg2 (by simpa using hne1)) hr0 hr1
    simp only [World.size_alloc] at hcell
    go_wp2
    go_ret
    exact ⟨tx, a', rfl, .inl htx, ha0, by omega, grown_trans (grown_alloc (grown_alloc (grown_refl w _) _) _) hg2, hM2⟩
  · clear h1 h2 h4 hk
    go_enter Tryz.func39, Tryz.ntmps39
    go_wp2_with (go_at_call 38; refine (number_any _ _ mb c a l ?c1 ?c2 ha ?c3 ((hM.alloc _).alloc _)).mono ?_)
    case c1 => decide
    case c2 => decide
    case c3 => omega
    rintro e w2 ⟨r, a', rfl, hr0, hr1, ha0, ha1, hg2, hM2⟩
    have hkl := grown_blk (blk_new (w.alloc _) _) hg2 (by simpa using hne1)
    have G2 : w.grownBy w2 (some mb) := grown_trans (grown_alloc (grown_alloc (grown_refl w _) _) _) hg2
    have hbl2 : b < w2.heap.size := Nat.lt_of_lt_of_le hbl G2.size
    by_cases hr : 0 < r
    · go_wp2_with (go_at_call 38; refine (number_any _ _ mb c a' l ?c1 ?c2 ?c4 ?c3 hM2).mono ?_)
      case c1 => omega
      case c2 => omega
      case c3 => omega
      case c4 => omega
      rintro e w3 ⟨r3, a3, rfl, hr30, hr31, ha30, ha31, hg3, hM3⟩
      obtain ⟨tx, htx, hcell⟩ := strs_at (grown_trans G2 hg3) hb hbl hc hr30 hr31
      go_wp2
      go_ret
      exact ⟨tx, a3, rfl, .inr htx, by omega, by omega, grown_trans G2 hg3, hM3⟩
    · go_wp2_with (go_at_call 38; refine (number_any _ _ mb c a' l ?c1 ?c2 ?c4 ?c3 hM2).mono ?_)
      case c1 => omega
      case c2 => omega
      case c3 => omega
      case c4 => omega
      rintro e w3 ⟨r3, a3, rfl, hr30, hr31, ha30, ha31, hg3, hM3⟩
      obtain ⟨tx, htx, hcell⟩ := row_at (ts := textToks) (grown_blk hkl hg3 (by simpa using hne1)) hr30 hr31
      simp only [World.size_alloc] at hcell
      go_wp2
      go_ret
      exact ⟨tx, a3, rfl, .inl htx, by omega, by omega, grown_trans G2 hg3, hM3⟩

set_option maxHeartbeats 1600000 in
set_option maxRecDepth 100000 in
theorem token_b (w : World) (mb : Nat) (c : Cfg) (a l : Int) (ha : 0 ≤ a) (ha2 : a ≤ 100000) (h : MakerIs w mb c a l) :
    Calls Tryz.prog 39 #[.pointer (some ⟨mb, 0, none⟩), .int .u8 98] w fun e w' => Tokened w mb c a l 98 e w' := by
  have hM := h
  have hlt := h.lt
  have hne : w.heap.size ≠ mb := by omega
  have hne1 : w.heap.size + 1 ≠ mb := by omega
  obtain ⟨rv, nv, tv, bv, hk, h1, h2, h3, h4⟩ := h
  obtain ⟨⟨y0, y1, y2, y3, y4, y5, y6, y7⟩, f1, f2⟩ := cells8 hk
  rcases h4 with ⟨hnil, ao, cap, rfl⟩ | ⟨b, off, cap, rfl, hl0, hl1, hb, hbl, hc⟩
  · clear h1 h2 h3 hk
    go_enter Tryz.func39, Tryz.ntmps39
    go_wp2_with (go_at_call 38; refine (number_any _ _ mb c a l ?c1 ?c2 ha ?c3 ((hM.alloc _).alloc _)).mono ?_)
    case c1 => decide
    case c2 => decide
    case c3 => omega
    rintro e w2 ⟨r, a', rfl, hr0, hr1, ha0, ha1, hg2, hM2⟩
    obtain ⟨tx, htx, hcell⟩ := row_at (ts := boolToks) (grown_blk (blk_new (w.alloc _) _) hg2 (by simpa using hne1)) hr0 hr1
    simp only [World.size_alloc] at hcell
    go_wp2
    go_ret
    exact ⟨tx, a', rfl, .inl htx, ha0, by omega, grown_trans (grown_alloc (grown_alloc (grown_refl w _) _) _) hg2, hM2⟩
  · clear h1 h2 h3 hk
    go_enter Tryz.func39, Tryz.ntmps39
    go_wp2_with (go_at_call 38; refine (number_any _ _ mb c a l ?c1 ?c2 ha ?c3 ((hM.alloc _).alloc _)).mono ?_)
    case c1 => decide
    case c2 => decide
    case c3 => omega
    rintro e w2 ⟨r, a', rfl, hr0, hr1, ha0, ha1, hg2, hM2⟩
    have hkl := grown_blk (blk_new (w.alloc _) _) hg2 (by simpa using hne1)
    have G2 : w.grownBy w2 (some mb) := grown_trans (grown_alloc (grown_alloc (grown_refl w _) _) _) hg2
    have hbl2 : b < w2.heap.size := Nat.lt_of_lt_of_le hbl G2.size
    by_cases hr : 0 < r
    · go_wp2_with (go_at_call 38; refine (number_any _ _ mb c a' l ?c1 ?c2 ?c4 ?c3 hM2).mono ?_)
      case c1 => omega
      case c2 => omega
      case c3 => omega
      case c4 => omega
      rintro e w3 ⟨r3, a3, rfl, hr30, hr31, ha30, ha31, hg3, hM3⟩
      obtain ⟨tx, htx, hcell⟩ := strs_at (grown_trans G2 hg3) hb hbl hc hr30 hr31
      go_wp2
      go_ret
      exact ⟨tx, a3, rfl, .inr htx, by omega, by omega, grown_trans G2 hg3, hM3⟩
    · go_wp2_with (go_at_call 38; refine (number_any _ _ mb c a' l ?c1 ?c2 ?c4 ?c3 hM2).mono ?_)
      case c1 => omega
      case c2 => omega
      case c3 => omega
      case c4 => omega
      rintro e w3 ⟨r3, a3, rfl, hr30, hr31, ha30, ha31, hg3, hM3⟩
      obtain ⟨tx, htx, hcell⟩ := row_at (ts := boolToks) (grown_blk hkl hg3 (by simpa using hne1)) hr30 hr31
      simp only [World.size_alloc] at hcell
      go_wp2
      go_ret
      exact ⟨tx, a3, rfl, .inl htx, by omega, by omega, grown_trans G2 hg3, hM3⟩

theorem token_any (w : World) (mb : Nat) (c : Cfg) (a l : Int) (t : Int) (ht : t = 110 ∨ t = 116 ∨ t = 98) (ha : 0 ≤ a) (ha2 : a ≤ 100000) (h : MakerIs w mb c a l) :
    Calls Tryz.prog 39 #[.pointer (some ⟨mb, 0, none⟩), .int .u8 t] w fun e w' => Tokened w mb c a l t e w' := by
  rcases ht with rfl | rfl | rfl
  · exact token_n w mb c a l ha ha2 h
  · exact token_t w mb c a l ha ha2 h
  · exact token_b w mb c a l ha ha2 h
end Go.Proofs.YtilfjpmeededmaaGreatDoor

namespace Go.Proofs.YtilfjpmeededmaaGreatDoor

def leafT (tx : Bs) : Tr := .mk (kindS tx) tx false []
def nodeT (h : Bs) (ops : List Tr) : Tr := .mk (kindS h) h true ops

mutual
def nodes : Tr → Nat
  | .mk _ _ _ ops => 1 + nodesL ops
def nodesL : List Tr → Nat
  | [] => 0
  | t :: ts => nodes t + nodesL ts
end
def hIf : Bs := [105, 102]
def hNote : Bs := [110, 111, 116, 101]
def hLen : Bs := [108, 101, 110]
def hCat : Bs := [99, 97, 116]
def hAnd : Bs := [97, 110, 100]
def hOr : Bs := [111, 114]
def hNot : Bs := [110, 111, 116]
def hNull : Bs := [105, 115, 110, 117, 108, 108]
def isTy (t : Int) : Prop := t = 110 ∨ t = 116 ∨ t = 98
def ariths : List Bs := [[43], [45], [42], [47]]
def cmps : List Bs := [[60, 61], [60], [61]]

/-- What may be made: a head, the types of its operands, its own. -/
inductive Sig (c : Cfg) : Bs → List Int → Int → Prop
  | ifs {t : Int} : isTy t → Sig c hIf [98, t, t] t
  | note {t : Int} : c.loud = true → isTy t → Sig c hNote [t] t
  | call : c.loud = true → c.call ≠ [] → Sig c c.call [110] 110
  | arith {h : Bs} : c.loud = true → h ∈ ariths → Sig c h [110, 110] 110
  | len : Sig c hLen [116] 110
  | cat {n : Nat} : c.loud = true → 1 ≤ n → n ≤ 3 → Sig c hCat (List.replicate n 116) 116
  | and {n : Nat} : 1 ≤ n → n ≤ 3 → Sig c hAnd (List.replicate n 98) 98
  | or {n : Nat} : 1 ≤ n → n ≤ 3 → Sig c hOr (List.replicate n 98) 98
  | not : Sig c hNot [98] 98
  | null {t : Int} : isTy t → Sig c hNull [t] 98
  | cmp {h : Bs} {t : Int} : h ∈ cmps → isTy t → Sig c h [t, t] 98

mutual
inductive Made (c : Cfg) : Int → Tr → Prop
  | tok {t : Int} {tx : Bs} : IsTok c t tx → Made c t (leafT tx)
  | node {h : Bs} {ts : List Int} {t : Int} {ops : List Tr} : Sig c h ts t → MadeL c ts ops → Made c t (nodeT h ops)
inductive MadeL (c : Cfg) : List Int → List Tr → Prop
  | nil : MadeL c [] []
  | cons {t : Int} {ts : List Int} {x : Tr} {xs : List Tr} : Made c t x → MadeL c ts xs → MadeL c (t :: ts) (x :: xs)
end

theorem MadeL.snoc {c : Cfg} {ts : List Int} {xs : List Tr} {t : Int} {x : Tr} (h : MadeL c ts xs) (k : Made c t x) : MadeL c (ts ++ [t]) (xs ++ [x]) := by
  induction xs generalizing ts with
  | nil => cases h; exact .cons k .nil
  | cons y ys ih => cases h with | cons a b => exact .cons a (ih b)
theorem nodesL_append (a b : List Tr) : nodesL (a ++ b) = nodesL a + nodesL b := by
  induction a with
  | nil => simp [nodesL]
  | cons t ts ih => simp only [List.cons_append, nodesL, ih]; omega
theorem depL_append (a b : List Tr) : depL (a ++ b) = max (depL a) (depL b) := by
  induction a with
  | nil => simp [depL]
  | cons t ts ih => simp only [List.cons_append, depL, ih]; omega
theorem render_leaf (tx : Bs) : render (leafT tx) = tx := by rw [leafT, render]; rfl
theorem render_node (h : Bs) (ops : List Tr) : render (nodeT h ops) = 40 :: (h ++ renders ops ++ [41]) := by rw [nodeT, render]; rfl
theorem nodes_leaf (tx : Bs) : nodes (leafT tx) = 1 := by rw [leafT, nodes, nodesL]
theorem nodes_node (h : Bs) (ops : List Tr) : nodes (nodeT h ops) = 1 + nodesL ops := by rw [nodeT, nodes]
theorem dep_leaf (tx : Bs) : dep (leafT tx) = 0 := by rw [leafT, dep]; rfl
theorem dep_node (h : Bs) (ops : List Tr) : dep (nodeT h ops) = 1 + depL ops := by rw [nodeT, dep]; rfl
/-- Short tokens and a short name. -/
structure CfgOK (c : Cfg) : Prop where
  nums : ∀ x ∈ c.nums, x.length ≤ 11
  texts : ∀ x ∈ c.texts, x.length ≤ 11
  bools : ∀ x ∈ c.bools, x.length ≤ 11
  call : c.call.length ≤ 8
theorem tok_len {c : Cfg} (hc : CfgOK c) {t : Int} {tx : Bs} (h : IsTok c t tx) : tx.length ≤ 11 := by
  rcases h with h | h
  · unfold litToks at h
    have key : ∀ l : List Bs, (l.all fun x => decide (x.length ≤ 11)) = true → tx ∈ l → tx.length ≤ 11 := by
      intro l hl hm; simpa using List.all_eq_true.mp hl tx hm
    split at h
    · exact key textToks (by decide) h
    · split at h
      · exact key boolToks (by decide) h
      · exact key numToks (by decide) h
  · unfold ownToks at h
    split at h
    · exact hc.texts _ h
    · split at h
      · exact hc.bools _ h
      · exact hc.nums _ h
theorem sig_len {c : Cfg} (hc : CfgOK c) {h : Bs} {ts : List Int} {t : Int} (hs : Sig c h ts t) : h.length ≤ 8 := by
  have key : ∀ l : List Bs, (l.all fun x => decide (x.length ≤ 8)) = true → h ∈ l → h.length ≤ 8 := by
    intro l hl hm; simpa using List.all_eq_true.mp hl h hm
  cases hs with
  | call => exact hc.call
  | arith _ hm => exact key ariths (by decide) hm
  | cmp hm _ => exact key cmps (by decide) hm
  | _ => decide
mutual
theorem made_len {c : Cfg} (hc : CfgOK c) : ∀ {t : Int} {x : Tr}, Made c t x → (render x).length + 1 ≤ 12 * nodes x
  | _, _, .tok h => by rw [render_leaf, nodes_leaf]; have := tok_len hc h; omega
  | _, _, .node hs ho => by
    rw [render_node, nodes_node]; have := sig_len hc hs; have := madeL_len hc ho
    simp only [List.length_cons, List.length_append, List.length_nil]; omega
theorem madeL_len {c : Cfg} (hc : CfgOK c) : ∀ {ts : List Int} {xs : List Tr}, MadeL c ts xs → (renders xs).length ≤ 12 * nodesL xs
  | _, _, .nil => by simp [renders, nodesL]
  | _, _, .cons a b => by
    have h1 := made_len hc a; have h2 := madeL_len hc b
    simp only [renders, nodesL, List.length_cons, List.length_append]; omega
end
theorem nodes_pos (t : Tr) : 1 ≤ nodes t := by cases t; rw [nodes]; omega
end Go.Proofs.YtilfjpmeededmaaGreatDoor

/- The expressions that a maker makes, as plain data. -/
import Derived.Test.YtilfjpmeededmaaMakeT
import Derived.Test.YtilfjpmeededmaaDecoQ
namespace Go.Proofs.Ytilfjpmeededmaa

def leafT (tx : Bs) : Tr := .mk (kindS tx) tx false []
def nodeT (h : Bs) (ops : List Tr) : Tr := .mk (kindS h) h true ops

mutual
def nodes : Tr → Nat
  | .mk _ _ _ ops => 1 + nodesL ops
def nodesL : List Tr → Nat
  | [] => 0
  | t :: ts => nodes t + nodesL ts
end
def hIf : Bs := [105, 102]
def hNote : Bs := [110, 111, 116, 101]
def hLen : Bs := [108, 101, 110]
def hCat : Bs := [99, 97, 116]
def hAnd : Bs := [97, 110, 100]
def hOr : Bs := [111, 114]
def hNot : Bs := [110, 111, 116]
def hNull : Bs := [105, 115, 110, 117, 108, 108]
def isTy (t : Int) : Prop := t = 110 ∨ t = 116 ∨ t = 98
def ariths : List Bs := [[43], [45], [42], [47]]
def cmps : List Bs := [[60, 61], [60], [61]]

/-- What may be made: a head, the types of its operands, its own. -/
inductive Sig (c : Cfg) : Bs → List Int → Int → Prop
  | ifs {t : Int} : isTy t → Sig c hIf [98, t, t] t
  | note {t : Int} : c.loud = true → isTy t → Sig c hNote [t] t
  | call : c.loud = true → c.call ≠ [] → Sig c c.call [110] 110
  | arith {h : Bs} : c.loud = true → h ∈ ariths → Sig c h [110, 110] 110
  | len : Sig c hLen [116] 110
  | cat {n : Nat} : c.loud = true → 1 ≤ n → n ≤ 3 → Sig c hCat (List.replicate n 116) 116
  | and {n : Nat} : 1 ≤ n → n ≤ 3 → Sig c hAnd (List.replicate n 98) 98
  | or {n : Nat} : 1 ≤ n → n ≤ 3 → Sig c hOr (List.replicate n 98) 98
  | not : Sig c hNot [98] 98
  | null {t : Int} : isTy t → Sig c hNull [t] 98
  | cmp {h : Bs} {t : Int} : h ∈ cmps → isTy t → Sig c h [t, t] 98

mutual
inductive Made (c : Cfg) : Int → Tr → Prop
  | tok {t : Int} {tx : Bs} : IsTok c t tx → Made c t (leafT tx)
  | node {h : Bs} {ts : List Int} {t : Int} {ops : List Tr} : Sig c h ts t → MadeL c ts ops → Made c t (nodeT h ops)
inductive MadeL (c : Cfg) : List Int → List Tr → Prop
  | nil : MadeL c [] []
  | cons {t : Int} {ts : List Int} {x : Tr} {xs : List Tr} : Made c t x → MadeL c ts xs → MadeL c (t :: ts) (x :: xs)
end

theorem MadeL.snoc {c : Cfg} {ts : List Int} {xs : List Tr} {t : Int} {x : Tr} (h : MadeL c ts xs) (k : Made c t x) : MadeL c (ts ++ [t]) (xs ++ [x]) := by
  induction xs generalizing ts with
  | nil => cases h; exact .cons k .nil
  | cons y ys ih => cases h with | cons a b => exact .cons a (ih b)
theorem nodesL_append (a b : List Tr) : nodesL (a ++ b) = nodesL a + nodesL b := by
  induction a with
  | nil => simp [nodesL]
  | cons t ts ih => simp only [List.cons_append, nodesL, ih]; omega
theorem depL_append (a b : List Tr) : depL (a ++ b) = max (depL a) (depL b) := by
  induction a with
  | nil => simp [depL]
  | cons t ts ih => simp only [List.cons_append, depL, ih]; omega
theorem render_leaf (tx : Bs) : render (leafT tx) = tx := by rw [leafT, render]; rfl
theorem render_node (h : Bs) (ops : List Tr) : render (nodeT h ops) = 40 :: (h ++ renders ops ++ [41]) := by rw [nodeT, render]; rfl
theorem nodes_leaf (tx : Bs) : nodes (leafT tx) = 1 := by rw [leafT, nodes, nodesL]
theorem nodes_node (h : Bs) (ops : List Tr) : nodes (nodeT h ops) = 1 + nodesL ops := by rw [nodeT, nodes]
theorem dep_leaf (tx : Bs) : dep (leafT tx) = 0 := by rw [leafT, dep]; rfl
theorem dep_node (h : Bs) (ops : List Tr) : dep (nodeT h ops) = 1 + depL ops := by rw [nodeT, dep]; rfl
/-- Short tokens and a short name. -/
structure CfgOK (c : Cfg) : Prop where
  nums : ∀ x ∈ c.nums, x.length ≤ 11
  texts : ∀ x ∈ c.texts, x.length ≤ 11
  bools : ∀ x ∈ c.bools, x.length ≤ 11
  call : c.call.length ≤ 8
theorem tok_len {c : Cfg} (hc : CfgOK c) {t : Int} {tx : Bs} (h : IsTok c t tx) : tx.length ≤ 11 := by
  rcases h with h | h
  · unfold litToks at h
    have key : ∀ l : List Bs, (l.all fun x => decide (x.length ≤ 11)) = true → tx ∈ l → tx.length ≤ 11 := by
      intro l hl hm; simpa using List.all_eq_true.mp hl tx hm
    split at h
    · exact key textToks (by decide) h
    · split at h
      · exact key boolToks (by decide) h
      · exact key numToks (by decide) h
  · unfold ownToks at h
    split at h
    · exact hc.texts _ h
    · split at h
      · exact hc.bools _ h
      · exact hc.nums _ h
theorem sig_len {c : Cfg} (hc : CfgOK c) {h : Bs} {ts : List Int} {t : Int} (hs : Sig c h ts t) : h.length ≤ 8 := by
  have key : ∀ l : List Bs, (l.all fun x => decide (x.length ≤ 8)) = true → h ∈ l → h.length ≤ 8 := by
    intro l hl hm; simpa using List.all_eq_true.mp hl h hm
  cases hs with
  | call => exact hc.call
  | arith _ hm => exact key ariths (by decide) hm
  | cmp hm _ => exact key cmps (by decide) hm
  | _ => decide
mutual
theorem made_len {c : Cfg} (hc : CfgOK c) : ∀ {t : Int} {x : Tr}, Made c t x → (render x).length + 1 ≤ 12 * nodes x
  | _, _, .tok h => by rw [render_leaf, nodes_leaf]; have := tok_len hc h; omega
  | _, _, .node hs ho => by
    rw [render_node, nodes_node]; have := sig_len hc hs; have := madeL_len hc ho
    simp only [List.length_cons, List.length_append, List.length_nil]; omega
theorem madeL_len {c : Cfg} (hc : CfgOK c) : ∀ {ts : List Int} {xs : List Tr}, MadeL c ts xs → (renders xs).length ≤ 12 * nodesL xs
  | _, _, .nil => by simp [renders, nodesL]
  | _, _, .cons a b => by
    have h1 := made_len hc a; have h2 := madeL_len hc b
    simp only [renders, nodesL, List.length_cons, List.length_append]; omega
end
theorem nodes_pos (t : Tr) : 1 ≤ nodes t := by cases t; rw [nodes]; omega
end Go.Proofs.Ytilfjpmeededmaa

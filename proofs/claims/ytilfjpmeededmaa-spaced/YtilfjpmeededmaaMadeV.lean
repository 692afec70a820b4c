/- What a maker makes is an expression. -/
import Derived.Test.YtilfjpmeededmaaMadeP
namespace Go.Proofs.Ytilfjpmeededmaa

def goodB (tx : Bs) : Bool := (!tx.isEmpty && tx.all fun c => !sepB c && c != 39) || (decide (2 ≤ tx.length) && (tx.headD 0 == 39) && (tx.getLastD 0 == 39) && ((tx.drop 1).dropLast).all fun c => c != 39)
theorem good_of {tx : Bs} (h : goodB tx = true) : Good tx := by
  unfold goodB at h
  rw [Bool.or_eq_true] at h
  rcases h with h | h
  · rw [Bool.and_eq_true] at h
    exact .inl ⟨(by have := h.1; intro e; subst e; cases this), h.2⟩
  · simp only [Bool.and_eq_true, decide_eq_true_eq] at h
    obtain ⟨⟨⟨h1, h2⟩, h3⟩, h4⟩ := h
    cases tx with
    | nil => simp at h1
    | cons c r =>
      cases hr : r.reverse with
      | nil => rw [List.reverse_eq_nil_iff] at hr; subst hr; simp at h1
      | cons d m =>
        have e : r = m.reverse ++ [d] := by have := congrArg List.reverse hr; simpa using this
        subst e
        have h3' : d = 39 := by
          rw [← List.cons_append, List.getLastD_concat] at h3; simpa using h3
        clear h3
        simp at h2 h4
        refine .inr ⟨m.reverse, ?_, ?_⟩
        · rw [h2, h3']
        · rw [List.all_eq_true]; intro x hx; have := h4 x (by simpa using hx); simpa using this
def leafOK (tx : Bs) : Bool := (kindS tx != 0) && (kindS tx != 1) && (kindS tx != 2) && goodB tx && aloneS (kindS tx) tx
def headOK (tx : Bs) : Bool := (kindS tx != 0) && goodB tx && headS (kindS tx) tx
theorem leaf_wf {tx : Bs} (h : leafOK tx = true) : Wf (leafT tx) := by
  unfold leafOK at h
  simp only [Bool.and_eq_true, bne_iff_ne, ne_eq] at h
  obtain ⟨⟨⟨⟨h1, h2⟩, h3⟩, h4⟩, h5⟩ := h
  exact .leaf rfl h1 h2 h3 (good_of h4) h5
theorem node_wf {tx : Bs} {ops : List Tr} (h : headOK tx = true) (ho : WfL ops) : Wf (nodeT tx ops) := by
  unfold headOK at h
  simp only [Bool.and_eq_true, bne_iff_ne, ne_eq] at h
  obtain ⟨⟨h1, h2⟩, h3⟩ := h
  exact .node rfl h1 (good_of h2) h3 ho
structure CfgGood (c : Cfg) : Prop where
  nums : c.nums.all leafOK = true
  texts : c.texts.all leafOK = true
  bools : c.bools.all leafOK = true
  call : c.call = [] ∨ headOK c.call = true
theorem lits_ok (t : Int) : (litToks t).all leafOK = true := by
  unfold litToks
  split
  · decide
  · split
    · decide
    · decide
theorem mtok_ok {c : Cfg} (hc : CfgGood c) {t : Int} {tx : Bs} (h : IsTok c t tx) : leafOK tx = true := by
  rcases h with h | h
  · exact List.all_eq_true.mp (lits_ok t) tx h
  · unfold ownToks at h
    split at h
    · exact List.all_eq_true.mp hc.texts tx h
    · split at h
      · exact List.all_eq_true.mp hc.bools tx h
      · exact List.all_eq_true.mp hc.nums tx h
theorem sig_ok {c : Cfg} (hc : CfgGood c) {h : Bs} {ts : List Int} {t : Int} (hs : Sig c h ts t) : headOK h = true := by
  cases hs with
  | call _ h0 => rcases hc.call with h | h; exact absurd h h0; exact h
  | arith _ hm => exact List.all_eq_true.mp (show ariths.all headOK = true by decide) _ hm
  | cmp hm _ => exact List.all_eq_true.mp (show cmps.all headOK = true by decide) _ hm
  | _ => decide
mutual
theorem made_wf {c : Cfg} (hc : CfgGood c) : ∀ {t : Int} {x : Tr}, Made c t x → Wf x
  | _, _, .tok h => leaf_wf (mtok_ok hc h)
  | _, _, .node hs ho => node_wf (sig_ok hc hs) (madeL_wf hc ho)
theorem madeL_wf {c : Cfg} (hc : CfgGood c) : ∀ {ts : List Int} {xs : List Tr}, MadeL c ts xs → WfL xs
  | _, _, .nil => .nil
  | _, _, .cons a b => .cons (made_wf hc a) (madeL_wf hc b)
end

theorem parse_same {x : Tr} (hw : Wf x) (hd : dep x ≤ 20) (hl : (render x).length ≤ 400) : parseS (render x) = some x := by
  have h0 := deco_tree (ts := []) (r := []) hw (.nil rfl) (fun _ => .inl rfl)
  rw [List.append_nil, List.append_nil] at h0
  have h1 := scan_deco h0
  have h2 := parse_tree (f := 2 * (toks x).length) (deep := 0) (r := []) hw (by omega) (Nat.le_refl _)
  rw [List.append_nil] at h2
  unfold parseS
  rw [if_neg (by omega), h1]
  simp only [Option.bind_some]
  unfold parseT
  rw [h2]
end Go.Proofs.Ytilfjpmeededmaa

/- Working out, of what is quiet, as a plain function. -/
/- What a maker makes that is not loud is typed, quiet, small, and has a value of its type. -/
/- The two functions of the promise, read. -/
import Derived.Test.YtilfjpmeededmaaGreatDoorWkDZ
import Derived.Test.YtilfjpmeededmaaGreatDoorTyG
import Derived.Test.YtilfjpmeededmaaGreatDoorBaAZ
import Derived.Test.YtilfjpmeededmaaGreatDoorMadePZ
import Derived.Test.YtilfjpmeededmaaGreatDoorBaDZ
import Derived.Test.YtilfjpmeededmaaGreatDoorMadeVZ
namespace Go.Proofs.YtilfjpmeededmaaGreatDoor
open Go.RowKit

def nilC : CellT := (0, 0, [])
def truC (b : Bool) : CellT := (3, truN b, [])
def valsQ (f : Ex → Option CellT) : List Ex → Option (List CellT)
  | [] => some []
  | e :: es => match f e with
    | none => none
    | some c => match valsQ f es with
      | none => none
      | some cs => some (c :: cs)
def upQ (f : Ex → Option CellT) (stop last : CellT) : List Ex → Option CellT
  | [] => some last
  | e :: es => match f e with
    | none => none
    | some c => if c = stop then some c else upQ f stop (if c.1 = 0 then c else last) es
def ifQ (f : Ex → Option CellT) : List Ex → Option CellT
  | [a, b, c] => match f a with
    | none => none
    | some v => if v = truC true then f b else f c
  | _ => none
def cmpQ (h : Bs) (n : Int) : CellT := if h = [61] then truC (n == 0) else if h = [60] then truC (decide (n < 0)) else truC (decide (n ≤ 0))
def app1 (h : Bs) (c : CellT) : Option CellT :=
  if h = hNull then some (truC (c.1 == 0)) else if c.1 = 0 then some nilC else if h = hNot then some (truC (c == truC false)) else if h = hLen then some (1, (c.2.2.length : Int), []) else none
def app2 (h : Bs) (a b : CellT) : Option CellT :=
  if h = [61] ∨ h = [60] ∨ h = [60, 61] then (if a.1 = 0 ∨ b.1 = 0 then some nilC else some (cmpQ h (cmpS a b))) else none
def appQ (h : Bs) : List CellT → Option CellT
  | [c] => if h = hNull ∨ h = hNot ∨ h = hLen then app1 h c else none
  | [a, b] => app2 h a b
  | _ => none
def headQ (f : Ex → Option CellT) (h : Bs) (ops : List Ex) : Option CellT :=
  if h = hAnd then upQ f (truC false) (truC true) ops
  else if h = hOr then upQ f (truC true) (truC false) ops
  else if h = hIf then ifQ f ops
  else match valsQ f ops with
    | none => none
    | some cs => appQ h cs
def placeQ (cs : List CellT) (p : Int) : Option CellT := if 0 ≤ p then cs[p.toNat]? else none
/-- The value of an expression that is quiet, in N steps down at most. -/
def evQ (fns : List Fn) (user : Bs) : Nat → List CellT → List CellT → Ex → Option CellT
  | 0, _, _, _ => none
  | N + 1, cols, args, .mk sort _ _ _ vk vn vs place head fi ops =>
    if 1000 < ops.length then none
    else if sort = 1 then some (2, 0, user)
    else if sort = 2 then placeQ cols place
    else if sort = 3 then placeQ args place
    else if sort = 4 then headQ (evQ fns user N cols args) head ops
    else if sort = 5 then (match fi with
      | none => none
      | some i => match fns[i]? with
        | none => none
        | some fn => match valsQ (evQ fns user N cols args) ops with
          | none => none
          | some cs => evQ fns user N [] cs fn.body)
    else some (vk, vn, vs)
theorem valsQ_get {f : Ex → Option CellT} : ∀ {es : List Ex} {cs : List CellT}, valsQ f es = some cs → cs.length = es.length ∧ ∀ i (h : i < es.length), ∃ c, cs[i]? = some c ∧ f es[i] = some c
  | [], cs, h => by
    rw [valsQ] at h; cases h; exact ⟨rfl, fun i h => by simp at h⟩
  | e :: es, cs, h => by
    rw [valsQ] at h
    split at h
    · cases h
    · next c hc =>
      split at h
      · cases h
      · next cs' hcs =>
        cases h
        obtain ⟨h1, h2⟩ := valsQ_get hcs
        refine ⟨by simp [h1], fun i hi => ?_⟩
        cases i with
        | zero => exact ⟨c, rfl, hc⟩
        | succ i => simpa using h2 i (by simpa using hi)

/- Of what a maker makes: it is typed, quiet, small, and has a value of its type. -/
/-- A number that a machine holds, a text of at most 1000 bytes. -/
def Bd (v : CellT) : Prop := -9223372036854775808 ≤ v.2.1 ∧ v.2.1 ≤ 9223372036854775807 ∧ v.2.2.length ≤ 1000
def OkC (t : Int) (v : CellT) : Prop := (v.1 = 0 ∨ v.1 = typeB t) ∧ Bd v
def hcfg : Cfg := ⟨false, [], [[36, 49], [36, 50]], [[36, 51]], [[36, 52]]⟩
def hps : List Int := [1, 1, 2, 3]
def ArgsOK (args : List CellT) : Prop := ∃ a b c d, args = [a, b, c, d] ∧ OkC 110 a ∧ OkC 110 b ∧ OkC 116 c ∧ OkC 98 d
structure Qt (t : Int) (x : Tr) (e : Ex) : Prop where
  typ : typS atoiS hps [] x = .ok e
  ty : e.ty = typeB t
  quiet : e.quiet = true
  size : e.size = nodes x
  ev : ∀ (fns : List Fn) (user : Bs) (args : List CellT), user.length ≤ 1000 → ArgsOK args → ∀ N, dep x < N → ∃ v, evQ fns user N [] args e = some v ∧ OkC t v
structure Qts (ts : List Int) (xs : List Tr) (es : List Ex) : Prop where
  typ : typsS atoiS hps [] xs = .ok es
  ty : es.map Ex.ty = ts.map typeB
  quiet : es.all Ex.quiet = true
  size : sumSize es = nodesL xs
  ev : ∀ (fns : List Fn) (user : Bs) (args : List CellT), user.length ≤ 1000 → ArgsOK args → ∀ N, depL xs < N → ∃ vs, valsQ (evQ fns user N [] args) es = some vs ∧ vs.length = ts.length ∧ ∀ (i : Nat) (v : CellT) (t : Int), vs[i]? = some v → ts[i]? = some t → OkC t v
theorem Qts.nil : Qts [] [] [] := ⟨rfl, rfl, rfl, rfl, fun _ _ _ _ _ _ _ => ⟨[], rfl, rfl, fun i v t h => by simp at h⟩⟩
theorem Qts.cons {t : Int} {ts : List Int} {x : Tr} {xs : List Tr} {e : Ex} {es : List Ex} (h : Qt t x e) (k : Qts ts xs es) : Qts (t :: ts) (x :: xs) (e :: es) := by
  refine ⟨by rw [typsS, h.typ]; simp only [k.typ], by simp [h.ty, k.ty], by simp only [List.all_cons, h.quiet, k.quiet]; rfl, by simp only [sumSize, nodesL, h.size, k.size]; omega, fun fns user args hu ha N hN => ?_⟩
  rw [depL] at hN
  obtain ⟨v, hv, hv2⟩ := h.ev fns user args hu ha N (by omega)
  obtain ⟨vs, hvs, hl, hvs2⟩ := k.ev fns user args hu ha N (by omega)
  refine ⟨v :: vs, by rw [valsQ, hv]; simp only [hvs], by simp [hl], fun i u s hu' hs => ?_⟩
  cases i with
  | zero => simp at hu' hs; subst hu' hs; exact hv2
  | succ i => simp at hu' hs; exact hvs2 i u s hu' hs
theorem upQ_ok {f : Ex → Option CellT} {stop : CellT} (hs : stop.1 = 3) : ∀ {es : List Ex} {vs : List CellT} {last : CellT}, valsQ f es = some vs → (∀ v ∈ vs, OkC 98 v) → OkC 98 last → ∃ r, upQ f stop last es = some r ∧ OkC 98 r
  | [], vs, last, _, _, hl => ⟨last, rfl, hl⟩
  | e :: es, vs, last, h, hv, hl => by
    rw [valsQ] at h
    split at h
    · cases h
    · next c hc =>
      split at h
      · cases h
      · next cs hcs =>
        cases h
        have hc2 := hv c (by simp)
        rw [upQ, hc]
        simp only
        by_cases hcs' : c = stop
        · rw [if_pos hcs']; exact ⟨c, rfl, hc2⟩
        · rw [if_neg hcs']
          refine upQ_ok hs hcs (fun v hv' => hv v (by simp [hv'])) ?_
          split
          · exact hc2
          · exact hl
theorem vals_all {ts : List Int} {vs : List CellT} (n : Nat) (ht : ts = List.replicate n 98) (hl : vs.length = ts.length) (h : ∀ (i : Nat) (v : CellT) (t : Int), vs[i]? = some v → ts[i]? = some t → OkC t v) : ∀ v ∈ vs, OkC 98 v := by
  intro v hv
  obtain ⟨i, hi, he⟩ := List.mem_iff_getElem.mp hv
  refine h i v 98 (by rw [List.getElem?_eq_getElem hi, he]) ?_
  subst ht
  simp only [List.length_replicate] at hl
  rw [List.getElem?_replicate, if_pos (by omega)]
theorem leaf_q {tx : Bs} {e : Ex} {t : Int} (h : typS atoiS hps [] (leafT tx) = .ok e) (h1 : e.ty = typeB t) (h2 : e.quiet = true) (h3 : e.size = 1) (h4 : ∀ (fns : List Fn) (user : Bs) (args : List CellT), user.length ≤ 1000 → ArgsOK args → ∀ N, ∃ v, evQ fns user (N + 1) [] args e = some v ∧ OkC t v) : ∃ e, Qt t (leafT tx) e :=
  ⟨e, h, h1, h2, by rw [h3, nodes_leaf]; rfl, fun fns user args hu ha N hN => by
    cases N with
    | zero => omega
    | succ N => exact h4 fns user args hu ha N⟩
end Go.Proofs.YtilfjpmeededmaaGreatDoor

namespace Go.Proofs.YtilfjpmeededmaaGreatDoor
open Go.RowKit

theorem tok_const {tx : Bs} {t : Int} (k n : Int) (s : Bs) (h6 : kindS tx ≠ 6) (h7 : kindS tx ≠ 7) (hs : singleS atoiS (kindS tx) tx = constEx k n s) (hk : k = typeB t) (hb : Bd (k, n, s)) : ∃ e, Qt t (leafT tx) e := by
  refine leaf_q (e := constEx k n s) (by rw [leafT, typS, if_neg Bool.false_ne_true, if_neg h6, if_neg h7, hs]) hk rfl rfl (fun fns user args hu ha N => ⟨(k, n, s), ?_, .inr hk, hb⟩)
  simp [constEx, evQ]
theorem tok_par {tx : Bs} {t : Int} (p : Nat) (k : Int) (h7 : kindS tx = 7) (hs : parT hps tx = .ok (parEx k p)) (hk : k = typeB t) (ho : ∀ args, ArgsOK args → ∃ v, args[p]? = some v ∧ OkC t v) : ∃ e, Qt t (leafT tx) e := by
  refine leaf_q (e := parEx k p) (by rw [leafT, typS, if_neg Bool.false_ne_true, h7, if_neg (by omega), if_pos rfl, hs]) hk rfl rfl (fun fns user args hu ha N => ?_)
  obtain ⟨v, hv, ho⟩ := ho args ha
  exact ⟨v, by simp [parEx, evQ, placeQ, hv], ho⟩
theorem bd_tru (b : Bool) : Bd (3, truN b, []) := by cases b <;> exact ⟨by decide, by decide, by decide⟩
theorem tok_num {tx : Bs} (h : kindS tx = 3) (hb : Bd (1, atoiS tx, [])) : ∃ e, Qt 110 (leafT tx) e :=
  tok_const 1 (atoiS tx) [] (by rw [h]; omega) (by rw [h]; omega) (by rw [h, singleS, if_pos rfl]) rfl hb
theorem tok_text {tx : Bs} (h : kindS tx = 4) (hl : tx.length ≤ 1000) : ∃ e, Qt 116 (leafT tx) e :=
  tok_const 2 0 _ (by rw [h]; omega) (by rw [h]; omega) (by rw [h, singleS, if_neg (by omega), if_pos rfl]) rfl ⟨by simp, by simp, by simp only [List.length_take, List.length_drop]; omega⟩
theorem tok_truth {tx : Bs} (h : kindS tx = 5) (hu : tx ≠ [117, 115, 101, 114]) : ∃ e, Qt 98 (leafT tx) e :=
  tok_const 3 (truN (tx == [116, 114, 117, 101])) [] (by rw [h]; omega) (by rw [h]; omega) (by rw [h, singleS, if_neg (by omega), if_neg (by omega), if_neg hu]) rfl (bd_tru _)
theorem tok_user : ∃ e, Qt 116 (leafT [117, 115, 101, 114]) e := by
  have h : kindS [117, 115, 101, 114] = 5 := by decide
  refine leaf_q (e := userEx) (by rw [leafT, typS, if_neg Bool.false_ne_true, h, if_neg (by omega), if_neg (by omega), singleS, if_neg (by omega), if_neg (by omega), if_pos rfl]) rfl rfl rfl (fun fns user args hul ha N => ⟨(2, 0, user), ?_, .inr rfl, by simp, by simp, hul⟩)
  simp [userEx, evQ]
theorem tok_q {t : Int} (ht : isTy t) {tx : Bs} (h : IsTok hcfg t tx) : ∃ e, Qt t (leafT tx) e := by
  rcases ht with rfl | rfl | rfl
  · rcases h with h | h
    · have : tx ∈ numToks := h
      have hk : kindS tx = 3 := by
        have := List.all_eq_true.mp (show numToks.all (fun x => kindS x == 3) = true by decide) tx this
        simpa using this
      have hb : Bd (1, atoiS tx, []) := by
        have h2 := List.all_eq_true.mp (show numToks.all (fun x => decide (-9223372036854775808 ≤ atoiS x) && decide (atoiS x ≤ 9223372036854775807)) = true by decide) tx this
        simp only [Bool.and_eq_true, decide_eq_true_eq] at h2
        exact ⟨h2.1, h2.2, by simp⟩
      exact tok_num hk hb
    · have h' : tx ∈ [[36, 49], [36, 50]] := h
      simp only [List.mem_cons, List.not_mem_nil, or_false] at h'
      rcases h' with rfl | rfl
      · exact tok_par 0 1 (by decide) rfl rfl fun args ⟨a, b, c, d, he, h1, _⟩ => ⟨a, by rw [he]; rfl, h1⟩
      · exact tok_par 1 1 (by decide) rfl rfl fun args ⟨a, b, c, d, he, _, h1, _⟩ => ⟨b, by rw [he]; rfl, h1⟩
  · rcases h with h | h
    · have h' : tx ∈ textToks := h
      by_cases hu : tx = [117, 115, 101, 114]
      · subst hu; exact tok_user
      · have := List.all_eq_true.mp (show textToks.all (fun x => kindS x == 4 || x == [117, 115, 101, 114]) = true by decide) tx h'
        have hk : kindS tx = 4 := by simpa [hu] using this
        have hl := List.all_eq_true.mp (show textToks.all (fun x => decide (x.length ≤ 1000)) = true by decide) tx h'
        exact tok_text hk (by simpa using hl)
    · have h' : tx ∈ [[36, 51]] := h
      rw [List.mem_singleton] at h'; subst h'
      exact tok_par 2 2 (by decide) rfl rfl fun args ⟨a, b, c, d, he, _, _, h1, _⟩ => ⟨c, by rw [he]; rfl, h1⟩
  · rcases h with h | h
    · have h' : tx ∈ boolToks := h
      have := List.all_eq_true.mp (show boolToks.all (fun x => kindS x == 5 && x != [117, 115, 101, 114]) = true by decide) tx h'
      simp only [Bool.and_eq_true, beq_iff_eq, bne_iff_ne, ne_eq] at this
      exact tok_truth this.1 this.2
    · have h' : tx ∈ [[36, 52]] := h
      rw [List.mem_singleton] at h'; subst h'
      exact tok_par 3 3 (by decide) rfl rfl fun args ⟨a, b, c, d, he, _, _, _, h1⟩ => ⟨d, by rw [he]; rfl, h1⟩
theorem mem_cmps {h : Bs} (hm : h ∈ cmps) : h = [60, 61] ∨ h = [60] ∨ h = [61] := by simpa [cmps] using hm
theorem sig_quiet {h : Bs} {ts : List Int} {t : Int} (hs : Sig hcfg h ts t) : builtS h = true ∧ loudS h = false ∧ typeS h (ts.map typeB) = typeB t ∧ isTy t ∧ ∀ s ∈ ts, isTy s := by
  have rep : ∀ (n : Nat) (s : Int), s ∈ List.replicate n (98 : Int) → isTy s := fun n s h => by rw [List.eq_of_mem_replicate h]; exact .inr (.inr rfl)
  cases hs with
  | @ifs t ht =>
    refine ⟨by decide, by decide, ?_, ht, fun s hs => ?_⟩
    · rcases ht with rfl | rfl | rfl <;> decide
    · simp only [List.mem_cons, List.not_mem_nil, or_false] at hs
      rcases hs with rfl | rfl | rfl
      · exact .inr (.inr rfl)
      · exact ht
      · exact ht
  | note h => cases h
  | call h => cases h
  | arith h => cases h
  | cat h => cases h
  | len => exact ⟨by decide, by decide, by decide, .inl rfl, fun s hs => by rw [List.mem_singleton] at hs; subst hs; exact .inr (.inl rfl)⟩
  | @and n h1 h2 =>
    refine ⟨by decide, by decide, ?_, .inr (.inr rfl), rep n⟩
    match n, h1, h2 with
    | 1, _, _ => decide
    | 2, _, _ => decide
    | 3, _, _ => decide
  | @or n h1 h2 =>
    refine ⟨by decide, by decide, ?_, .inr (.inr rfl), rep n⟩
    match n, h1, h2 with
    | 1, _, _ => decide
    | 2, _, _ => decide
    | 3, _, _ => decide
  | not => exact ⟨by decide, by decide, by decide, .inr (.inr rfl), fun s hs => by rw [List.mem_singleton] at hs; subst hs; exact .inr (.inr rfl)⟩
  | @null t ht =>
    refine ⟨by decide, by decide, ?_, .inr (.inr rfl), fun s hs => by rw [List.mem_singleton] at hs; subst hs; exact ht⟩
    rcases ht with rfl | rfl | rfl <;> decide
  | @cmp h t hm ht =>
    refine ⟨?_, ?_, ?_, .inr (.inr rfl), fun s hs => ?_⟩
    · rcases mem_cmps hm with rfl | rfl | rfl <;> decide
    · rcases mem_cmps hm with rfl | rfl | rfl <;> decide
    · rcases mem_cmps hm with rfl | rfl | rfl <;> rcases ht with rfl | rfl | rfl <;> decide
    · simp only [List.mem_cons, List.not_mem_nil, or_false] at hs
      rcases hs with rfl | rfl <;> exact ht
theorem sig_short {h : Bs} {ts : List Int} {t : Int} (hs : Sig hcfg h ts t) : ts.length ≤ 3 := by
  cases hs with
  | and _ h => simpa using h
  | or _ h => simpa using h
  | cat _ _ h => simpa using h
  | _ => simp
theorem ok_tru (b : Bool) : OkC 98 (truC b) := ⟨.inr rfl, bd_tru b⟩
theorem ok_nil (t : Int) : OkC t nilC := ⟨.inl rfl, by decide, by decide, by decide⟩
theorem list1 {l : List CellT} (h : l.length = 1) : ∃ a, l = [a] := List.length_eq_one_iff.mp h
theorem list2 {l : List CellT} (h : l.length = 2) : ∃ a b, l = [a, b] := by
  match l, h with
  | [a, b], _ => exact ⟨a, b, rfl⟩
theorem head_q {h : Bs} {ts : List Int} {t : Int} {es : List Ex} {vs : List CellT} {f : Ex → Option CellT} (hs : Sig hcfg h ts t) (hv : valsQ f es = some vs) (hl : vs.length = ts.length) (ho : ∀ (i : Nat) (v : CellT) (t : Int), vs[i]? = some v → ts[i]? = some t → OkC t v) : ∃ v, headQ f h es = some v ∧ OkC t v := by
  cases hs with
  | @ifs t ht =>
    obtain ⟨h1, h2⟩ := valsQ_get hv
    have h3 : es.length = 3 := by rw [← h1, hl]; rfl
    match es, h3 with
    | [a, b, c], _ =>
      obtain ⟨va, ga, fa⟩ := h2 0 (by simp)
      obtain ⟨vb, gb, fb⟩ := h2 1 (by simp)
      obtain ⟨vc, gc, fc⟩ := h2 2 (by simp)
      simp only [List.getElem_cons_zero, List.getElem_cons_succ] at fa fb fc
      have e : headQ f hIf [a, b, c] = if va = truC true then some vb else some vc := by
        rw [headQ, if_neg (by decide), if_neg (by decide), if_pos rfl, ifQ, fa]; simp only [fb, fc]
      rw [e]
      split
      · exact ⟨vb, rfl, ho 1 vb t gb rfl⟩
      · exact ⟨vc, rfl, ho 2 vc t gc rfl⟩
  | note h => cases h
  | call h => cases h
  | arith h => cases h
  | cat h => cases h
  | len =>
    obtain ⟨a, rfl⟩ := list1 hl
    rw [headQ, if_neg (by decide), if_neg (by decide), if_neg (by decide), hv]
    simp only [appQ, app1]
    rw [if_pos (by decide), if_neg (by decide)]
    have ha := (ho 0 a 116 rfl rfl).2
    split
    · exact ⟨_, rfl, ok_nil _⟩
    · exact ⟨_, rfl, .inr rfl, by show (-9223372036854775808 : Int) ≤ (a.2.2.length : Int); omega, by show (a.2.2.length : Int) ≤ 9223372036854775807; have := ha.2.2; omega, by simp⟩
  | @and n h1 h2 =>
    rw [headQ, if_pos rfl]
    exact upQ_ok rfl hv (vals_all n rfl hl ho) (ok_tru true)
  | @or n h1 h2 =>
    rw [headQ, if_neg (by decide), if_pos rfl]
    exact upQ_ok rfl hv (vals_all n rfl hl ho) (ok_tru false)
  | not =>
    obtain ⟨a, rfl⟩ := list1 hl
    rw [headQ, if_neg (by decide), if_neg (by decide), if_neg (by decide), hv]
    simp only [appQ, app1]
    rw [if_pos (by decide), if_neg (by decide)]
    split
    · exact ⟨_, rfl, ok_nil _⟩
    · exact ⟨_, rfl, ok_tru _⟩
  | null =>
    obtain ⟨a, rfl⟩ := list1 hl
    rw [headQ, if_neg (by decide), if_neg (by decide), if_neg (by decide), hv]
    simp only [appQ, app1]
    rw [if_pos (by decide), if_pos trivial]
    exact ⟨_, rfl, ok_tru _⟩
  | @cmp h t hm ht =>
    obtain ⟨a, b, rfl⟩ := list2 hl
    have e : headQ f h es = app2 h a b := by
      rcases mem_cmps hm with rfl | rfl | rfl <;>
      · rw [headQ, if_neg (by decide), if_neg (by decide), if_neg (by decide), hv]
        rfl
    rw [e, app2, if_pos (by rcases mem_cmps hm with rfl | rfl | rfl <;> decide)]
    split
    · exact ⟨_, rfl, ok_nil _⟩
    · refine ⟨_, rfl, ?_⟩
      unfold cmpQ
      split
      · exact ok_tru _
      · split <;> exact ok_tru _
theorem node_q {h : Bs} {ts : List Int} {t : Int} {xs : List Tr} {es : List Ex} (hs : Sig hcfg h ts t) (k : Qts ts xs es) : ∃ e, Qt t (nodeT h xs) e := by
  obtain ⟨h1, h2, h3, h4, _⟩ := sig_quiet hs
  refine ⟨.mk 4 (typeB t) (1 + sumSize es) true 0 0 [] 0 h none es, ?_, rfl, rfl, ?_, fun fns user args hu ha N hN => ?_⟩
  · rw [nodeT, typS, if_pos rfl, k.typ, afterS, finS, if_pos h1, k.ty, h3, if_neg (by rcases h4 with rfl | rfl | rfl <;> decide), k.quiet, h2]; rfl
  · rw [nodes_node, Ex.size, k.size]; omega
  · rw [dep_node] at hN
    cases N with
    | zero => omega
    | succ N =>
      obtain ⟨vs, hvs, hl, ho⟩ := k.ev fns user args hu ha N (by omega)
      obtain ⟨v, hv, hk⟩ := head_q hs hvs hl ho
      have hel : es.length ≤ 1000 := by
        have h5 := (valsQ_get hvs).1
        have h6 := sig_short hs
        omega
      exact ⟨v, by rw [evQ, if_neg (by omega), if_neg (by decide), if_neg (by decide), if_neg (by decide), if_pos rfl]; exact hv, hk⟩
mutual
theorem made_q : ∀ {t : Int} {x : Tr}, Made hcfg t x → isTy t → ∃ e, Qt t x e
  | _, _, .tok h, ht => tok_q ht h
  | _, _, .node hs ho, _ => by
    obtain ⟨es, he⟩ := madeL_q ho (sig_quiet hs).2.2.2.2
    exact node_q hs he
theorem madeL_q : ∀ {ts : List Int} {xs : List Tr}, MadeL hcfg ts xs → (∀ t ∈ ts, isTy t) → ∃ es, Qts ts xs es
  | _, _, .nil, _ => ⟨[], Qts.nil⟩
  | _, _, .cons a b, h => by
    obtain ⟨e, he⟩ := made_q a (h _ (by simp))
    obtain ⟨es, hes⟩ := madeL_q b (fun t ht => h t (by simp [ht]))
    exact ⟨e :: es, Qts.cons he hes⟩
end
end Go.Proofs.YtilfjpmeededmaaGreatDoor

namespace Go.Proofs.YtilfjpmeededmaaGreatDoor
open Go.RowKit

def nF : Bs := [102]
def nG : Bs := [103]
def hargs : Bs := [110, 110, 116, 98]
def gText : Bs := [40, 105, 102, 32, 40, 105, 115, 110, 117, 108, 108, 32, 36, 49, 41, 32, 40, 110, 111, 116, 101, 32, 40, 102, 32, 36, 49, 32, 36, 50, 32, 36, 51, 32, 36, 52, 41, 41, 32, 40, 102, 32, 36, 49, 32, 36, 50, 32, 36, 51, 32, 36, 52, 41, 41]
def callT : Tr := nodeT nF [leafT [36, 49], leafT [36, 50], leafT [36, 51], leafT [36, 52]]
def gTree : Tr := nodeT hIf [nodeT hNull [leafT [36, 49]], nodeT hNote [callT], callT]
theorem render_g : render gTree = gText := by
  simp only [gTree, callT, render_node, render_leaf, renders]; rfl
theorem wf_call : Wf callT := node_wf (by decide) (.cons (leaf_wf (by decide)) (.cons (leaf_wf (by decide)) (.cons (leaf_wf (by decide)) (.cons (leaf_wf (by decide)) .nil))))
theorem wf_g : Wf gTree := node_wf (by decide) (.cons (node_wf (by decide) (.cons (leaf_wf (by decide)) .nil)) (.cons (node_wf (by decide) (.cons wf_call .nil)) (.cons wf_call .nil)))
theorem dep_g : dep gTree ≤ 20 := by
  simp only [gTree, callT, dep_node, dep_leaf, depL]; omega
theorem parse_g : parseS gText = some gTree := by
  have := parse_same wf_g dep_g (by rw [render_g]; decide)
  rwa [render_g] at this
def fnF (e : Ex) : Fn := ⟨nF, hps, e⟩
def pars : List Ex := [parEx 1 0, parEx 1 1, parEx 2 2, parEx 3 3]
def callE (e : Ex) : Ex := .mk 5 e.ty (1 + sumSize pars + e.size) e.quiet 0 0 [] 0 nF (some 0) pars
def nullE : Ex := .mk 4 3 2 true 0 0 [] 0 hNull none [parEx 1 0]
def noteE (e : Ex) : Ex := .mk 4 e.ty (1 + sumSize [callE e]) false 0 0 [] 0 hNote none [callE e]
def gE (e : Ex) : Ex := .mk 4 e.ty (1 + sumSize [nullE, noteE e, callE e]) false 0 0 [] 0 hIf none [nullE, noteE e, callE e]
def fnG (e : Ex) : Fn := ⟨nG, hps, gE e⟩
theorem typ_leaf1 (fns : List Fn) : typS atoiS hps fns (leafT [36, 49]) = .ok (parEx 1 0) := by
  rw [leafT, typS, if_neg Bool.false_ne_true, show kindS [36, 49] = 7 by decide, if_neg (by omega), if_pos rfl]; rfl
theorem typ_leaf2 (fns : List Fn) : typS atoiS hps fns (leafT [36, 50]) = .ok (parEx 1 1) := by
  rw [leafT, typS, if_neg Bool.false_ne_true, show kindS [36, 50] = 7 by decide, if_neg (by omega), if_pos rfl]; rfl
theorem typ_leaf3 (fns : List Fn) : typS atoiS hps fns (leafT [36, 51]) = .ok (parEx 2 2) := by
  rw [leafT, typS, if_neg Bool.false_ne_true, show kindS [36, 51] = 7 by decide, if_neg (by omega), if_pos rfl]; rfl
theorem typ_leaf4 (fns : List Fn) : typS atoiS hps fns (leafT [36, 52]) = .ok (parEx 3 3) := by
  rw [leafT, typS, if_neg Bool.false_ne_true, show kindS [36, 52] = 7 by decide, if_neg (by omega), if_pos rfl]; rfl
theorem typ_node (fns : List Fn) (h : Bs) (xs : List Tr) : typS atoiS hps fns (nodeT h xs) = afterS fns h (typsS atoiS hps fns xs) := by
  rw [nodeT, typS, if_pos rfl]
theorem find_f (e : Ex) (r : List Fn) : findS (fnF e :: r) nF = some 0 := by
  rw [findS, List.findIdx?_cons]; rfl
theorem find_g (e : Ex) : findS [fnF e, fnG e] nG = some 1 := by
  simp [findS, List.findIdx?_cons, fnF, fnG, nF, nG]
theorem typ_call (e : Ex) (r : List Fn) : typS atoiS hps (fnF e :: r) callT = .ok (callE e) := by
  rw [callT, typ_node]
  simp only [typsS, typ_leaf1, typ_leaf2, typ_leaf3, typ_leaf4, afterS]
  rw [finS, if_neg (by decide), CallS, find_f]
  simp only [List.getElem?_cons_zero]
  rw [if_pos (show List.map Ex.ty [parEx 1 0, parEx 1 1, parEx 2 2, parEx 3 3] = (fnF e).args from rfl)]
  simp [callE, fnF, pars, parEx, Ex.quiet]
theorem typ_g (e : Ex) {t : Int} (ht : isTy t) (he : e.ty = typeB t) : typS atoiS hps [fnF e] gTree = .ok (gE e) := by
  have h1 : typS atoiS hps [fnF e] (nodeT hNull [leafT [36, 49]]) = .ok nullE := by
    rw [typ_node]
    simp only [typsS, typ_leaf1, afterS]
    rw [finS, if_pos (by decide), show typeS hNull (List.map Ex.ty [parEx 1 0]) = 3 by decide]
    rfl
  have h2 : typS atoiS hps [fnF e] (nodeT hNote [callT]) = .ok (noteE e) := by
    rw [typ_node]
    simp only [typsS, typ_call, afterS]
    have ht' : typeS hNote (List.map Ex.ty [callE e]) = e.ty := by
      simp only [List.map_cons, List.map_nil, callE, Ex.ty]
      show typeS hNote [e.ty] = e.ty
      rw [he]; rcases ht with rfl | rfl | rfl <;> decide
    have h0 : e.ty ≠ 0 := by rw [he]; rcases ht with rfl | rfl | rfl <;> decide
    rw [finS, if_pos (by decide), ht', if_neg h0, show loudS hNote = true by decide]
    simp [noteE]
  rw [gTree, typ_node]
  simp only [typsS, h1, h2, typ_call, afterS]
  have ht' : typeS hIf (List.map Ex.ty [nullE, noteE e, callE e]) = e.ty := by
    show typeS hIf [3, e.ty, e.ty] = e.ty
    rw [he]; rcases ht with rfl | rfl | rfl <;> decide
  have h0 : e.ty ≠ 0 := by rw [he]; rcases ht with rfl | rfl | rfl <;> decide
  rw [finS, if_pos (by decide), ht', if_neg h0]
  simp [gE, noteE, Ex.quiet]
theorem fns_read {t : Int} {x : Tr} {e : Ex} (ht : isTy t) (hw : Wf x) (hd : dep x ≤ 20) (hl : (render x).length ≤ 400) (hn : nodes x ≤ 100) (hq : Qt t x e) : readFs [] [(nF, hargs, render x), (nG, hargs, gText)] = .ok [fnF e, fnG e] := by
  have hta : typesL hargs = hps := by decide
  have hsz : e.size ≤ 100 := by rw [hq.size]; omega
  have h1 : addS [] nF hargs (render x) = .ok (fnF e) := by
    rw [addS, if_neg (by decide), hta, readS, parse_same hw hd hl]
    simp only [hq.typ, sizedS]
    rw [if_neg (by omega)]
    rfl
  have h2 : addS [fnF e] nG hargs gText = .ok (fnG e) := by
    have hf : firstS [gvS (!freeS [fnF e] nG) 2, gvS (!areTypesS hargs) 9] = 0 := by
      have : freeS [fnF e] nG = true := by
        have h3 : findS [fnF e] nG = none := by simp [findS, List.findIdx?_cons, fnF, nF, nG]
        rw [freeS, h3]; decide
      rw [this]; decide
    rw [addS, hf, if_neg (by omega), hta, readS, parse_g]
    simp only [typ_g e ht hq.ty, sizedS]
    have hs : (gE e).size = 14 + 2 * e.size := by simp [gE, noteE, callE, nullE, pars, sumSize, Ex.size, parEx]; omega
    rw [if_neg (by omega)]
    rfl
  rw [readFs, h1]
  simp only [nextFs, List.nil_append]
  rw [readFs, h2]
  simp only [nextFs]
  rfl
end Go.Proofs.YtilfjpmeededmaaGreatDoor

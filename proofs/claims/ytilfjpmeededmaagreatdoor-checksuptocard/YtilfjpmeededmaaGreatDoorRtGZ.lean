import Derived.Test.YtilfjpmeededmaaGreatDoorRtEZ
import Derived.Test.YtilfjpmeededmaaGreatDoorBaBZ
import Derived.Laws.OwnMore
import Derived.Deep.LoopGhost
import Derived.Deep.DeepCutAuto
import Derived.Deep.RegionWith
set_option linter.unusedVariables false
set_option linter.unusedSimpArgs false
namespace Go.Proofs.YtilfjpmeededmaaGreatDoor
open Go.RowKit
def tyR (o : Except Int Ex) : Int := match o with | .error _ => 0 | .ok x => ltI x.ty
def errR (o : Except Int Ex) : Int := match o with | .error n => n | .ok _ => 0
def isTyp (t : Int) : Prop := t = 1 ∨ t = 2 ∨ t = 3
def ltB (t : Int) : UInt8 := if t = 1 then 110 else if t = 2 then 116 else 98
theorem ltB_I {t : Int} (h : isTyp t) : ((ltB t).toNat : Int) = ltI t ∧ tyLet (ltB t) = true ∧ typeB (ltB t).toNat = t := by
  rcases h with rfl | rfl | rfl <;> decide
theorem ltB_inj {a b : Int} (ha : isTyp a) (hb : isTyp b) (h : ltB a = ltB b) : a = b := by
  rcases ha with rfl | rfl | rfl <;> rcases hb with rfl | rfl | rfl <;> first | rfl | (exact absurd h (by decide))
theorem ltI_ne {a : Int} (ha : isTyp a) : ltI a ≠ 0 := by
  rcases ha with rfl | rfl | rfl <;> decide
structure KnOK (ps : Sc) (args : Bs) (rfs : List RF) : Prop where
  par : ps.2 = typesL args
  lets : args.all tyLet = true
  cols : ∀ c ∈ ps.1, isTyp c.2
  words : ∀ c ∈ ps.1, colS c.1 = true
  fty : ∀ r ∈ rfs, isTyp r.fn.body.ty
  fargs : ∀ r ∈ rfs, r.fn.args = typesL r.args ∧ r.args.all tyLet = true
  free : ∀ r ∈ rfs, builtS r.fn.name = false
  sizes : ∀ r ∈ rfs, 0 ≤ r.fn.body.size ∧ r.fn.body.size ≤ 300
theorem typeB_let {c : UInt8} (h : tyLet c = true) : isTyp (typeB c.toNat) ∧ ltI (typeB c.toNat) = (c.toNat : Int) := by
  unfold tyLet at h
  simp only [Bool.or_eq_true, beq_iff_eq] at h
  rcases h with (rfl | rfl) | rfl <;> exact ⟨by unfold isTyp; decide, by decide⟩
theorem leaf_same (atoi : Bs → Int) {ps : Sc} {args : Bs} {rfs : List RF} (hK : KnOK ps args rfs) (fns : List Fn) {t : Tr} (hL : Lone t) (hb : t.br = false) :
    tyR (typS atoi ps fns t) = atomR ps.1 args t.tx ∧ ((∃ x, typS atoi ps fns t = .ok x ∧ isTyp x.ty) ∨ typS atoi ps fns t = .error 2) := by
  obtain ⟨k, tx, br, ops⟩ := t
  obtain ⟨h0, hat, hk⟩ := hL hb
  have hb' : br = false := hb
  have hk' : k = kindS tx := hk
  subst hb' hk'
  have hat' : atomS tx = true := hat
  show tyR (typS atoi ps fns (.mk (kindS tx) tx false ops)) = atomR ps.1 args tx ∧ _
  have h40 : (tx == [40]) = false := by
    rw [Bool.eq_false_iff]; intro e; rw [beq_iff_eq] at e; subst e; exact absurd hat' (by decide)
  have h41 : (tx == [41]) = false := by
    rw [Bool.eq_false_iff]; intro e; rw [beq_iff_eq] at e; subst e; exact absurd hat' (by decide)
  have hop : operS tx = false := by
    rw [Bool.eq_false_iff]; intro e; rw [(oper_atom e).1] at hat'; cases hat'
  rw [typS, if_neg Bool.false_ne_true]
  have hkd : kindS tx = if numS tx then 3 else if quoteS tx then 4 else if parS tx then 7 else if wordS tx then 5 else if colS tx then 6 else 0 := by
    unfold kindS; rw [h40, h41, hop]; rfl
  cases h1 : numS tx with
  | true =>
    have hk3 : kindS tx = 3 := by rw [hkd, h1]; rfl
    rw [hk3, if_neg (by decide), if_neg (by decide)]
    exact ⟨by rw [atomR, h1]; rfl, .inl ⟨_, rfl, .inl rfl⟩⟩
  | false =>
    rw [h1, if_neg Bool.false_ne_true] at hkd
    cases h2 : quoteS tx with
    | true =>
      have hk4 : kindS tx = 4 := by rw [hkd, h2]; rfl
      rw [hk4, if_neg (by decide), if_neg (by decide)]
      exact ⟨by rw [atomR, h1, h2]; rfl, .inl ⟨_, rfl, .inr (.inl rfl)⟩⟩
    | false =>
      rw [h2, if_neg Bool.false_ne_true] at hkd
      cases h3 : parS tx with
      | true =>
        have hk7 : kindS tx = 7 := by rw [hkd, h3]; rfl
        rw [hk7, if_neg (by decide), if_pos rfl]
        obtain ⟨c, rfl, hc1, hc2⟩ := parS_inv h3
        have hA : atomR ps.1 args [36, c] = parLet args [36, c] := by
          rw [atomR, h1, h2, h3]; rfl
        rw [hA, parT, parLet, hK.par, typesL, List.getElem?_map]
        cases hg : args[(([36, c] : Bs).getD 1 0).toNat - 49]? with
        | none => exact ⟨rfl, .inr rfl⟩
        | some d =>
          have hd : tyLet d = true := List.all_eq_true.mp hK.lets d (List.mem_of_getElem? hg)
          exact ⟨(typeB_let hd).2, .inl ⟨_, rfl, (typeB_let hd).1⟩⟩
      | false =>
        rw [h3, if_neg Bool.false_ne_true] at hkd
        cases h4 : wordS tx with
        | true =>
          have hk5 : kindS tx = 5 := by rw [hkd, h4]; rfl
          have hv : valS tx = true := by
            have hc := (word_facts h4).2.2.2.2.1
            rw [atomS, h1, h2, h3, hc] at hat'; simpa using hat'
          rw [hk5, if_neg (by decide), if_neg (by decide)]
          unfold valS at hv
          simp only [Bool.or_eq_true, beq_iff_eq] at hv
          rcases hv with (rfl | rfl) | rfl
          · exact ⟨by rw [atomR, h1, h2]; rfl, .inl ⟨_, rfl, .inr (.inr rfl)⟩⟩
          · exact ⟨by rw [atomR, h1, h2]; rfl, .inl ⟨_, rfl, .inr (.inr rfl)⟩⟩
          · exact ⟨by rw [atomR, h1, h2]; rfl, .inl ⟨_, rfl, .inr (.inl rfl)⟩⟩
        | false =>
          have hv : valS tx = false := by
            rw [Bool.eq_false_iff]; intro e; rw [val_word e] at h4; cases h4
          have hc : colS tx = true := by
            rw [atomS, h1, h2, h3, hv] at hat'; simpa using hat'
          have hk6 : kindS tx = 6 := by rw [hkd, h4, hc]; rfl
          rw [hk6, if_pos rfl]
          unfold valS at hv
          simp only [Bool.or_eq_false_iff] at hv
          have hA : atomR ps.1 args tx = letAt ps.1 (colIx ps.1 tx) := by
            rw [atomR, h1, h2, h3, show (tx == wUser) = false from hv.2, show (tx == wTrue) = false from hv.1.1, show (tx == wFalse) = false from hv.1.2]; rfl
          rw [hA, colT]
          cases hi : colIx ps.1 tx with
          | none => exact ⟨rfl, .inr rfl⟩
          | some i =>
            cases hg : ps.1[i]? with
            | none => exact ⟨by simp only [letAt, hg]; rfl, .inr (by simp only [hg])⟩
            | some c => exact ⟨by simp only [letAt, hg]; rfl, .inl ⟨colEx c.2 i, by simp only [hg], hK.cols c (List.mem_of_getElem? hg)⟩⟩
def letsOf (es : List Ex) : Bs := es.map fun x => ltB x.ty
theorem typ_lit {ls : List Int} {es : List Ex} (hl : ∀ z ∈ ls, isTyp z) (he : ∀ x ∈ es, isTyp x.ty) : (letsOf es == ls.map ltB) = decide (es.map Ex.ty = ls) := by
  rw [Bool.eq_iff_iff, beq_iff_eq, decide_eq_true_eq]
  induction es generalizing ls with
  | nil => cases ls <;> simp [letsOf]
  | cons x xs ih =>
    cases ls with
    | nil => simp [letsOf]
    | cons z zs =>
      have := ih (ls := zs) (fun z' h => hl z' (List.mem_cons_of_mem _ h)) (fun y h => he y (List.mem_cons_of_mem _ h))
      simp only [letsOf, List.map_cons, List.cons.injEq] at this ⊢
      rw [this]
      exact ⟨fun h => ⟨ltB_inj (he x (List.mem_cons_self ..)) (hl z (List.mem_cons_self ..)) h.1, h.2⟩, fun h => ⟨by rw [h.1], h.2⟩⟩
theorem typ_all {n : Int} (hn : isTyp n) {es : List Ex} (he : ∀ x ∈ es, isTyp x.ty) : everyS (letsOf es) (ltB n) = (decide (0 < (es.map Ex.ty).length) && (es.map Ex.ty).all (· == n)) := by
  have h1 : (letsOf es).all (· == ltB n) = (es.map Ex.ty).all (· == n) := by
    induction es with
    | nil => rfl
    | cons x xs ih =>
      have e := ih (fun y h => he y (List.mem_cons_of_mem _ h))
      simp only [letsOf, List.map_cons, List.all_cons] at e ⊢
      rw [e]
      congr 1
      rw [Bool.eq_iff_iff, beq_iff_eq, beq_iff_eq]
      exact ⟨fun h => ltB_inj (he x (List.mem_cons_self ..)) hn h, fun h => by rw [h]⟩
  unfold everyS
  rw [h1, Bool.and_comm]
  congr 1
  cases es <;> simp [letsOf]
theorem head_same2 {h : Bs} (hb : builtS h = true) {es : List Ex} (he : ∀ x ∈ es, isTyp x.ty) : hdT h (letsOf es) = ltI (typeS h (es.map Ex.ty)) ∧ (typeS h (es.map Ex.ty) ≠ 0 → isTyp (typeS h (es.map Ex.ty))) := by
  have t1 : isTyp 1 := .inl rfl
  have t2 : isTyp 2 := .inr (.inl rfl)
  have t3 : isTyp 3 := .inr (.inr rfl)
  have L : ∀ (ls : List Int) (n : Int), (∀ z ∈ ls, isTyp z) → isTyp n → litL (letsOf es == ls.map ltB) (ltI n) = ltI (litT ls n (es.map Ex.ty)) ∧ (litT ls n (es.map Ex.ty) ≠ 0 → isTyp (litT ls n (es.map Ex.ty))) := by
    intro ls n hl hn
    rw [typ_lit hl he, litT, litL]
    by_cases h : es.map Ex.ty = ls
    · rw [if_pos h, decide_eq_true h]; exact ⟨rfl, fun _ => hn⟩
    · rw [if_neg h, decide_eq_false h]; exact ⟨rfl, fun h => absurd rfl h⟩
  have A : ∀ n : Int, isTyp n → litL (everyS (letsOf es) (ltB n)) (ltI n) = ltI (allT n (es.map Ex.ty)) ∧ (allT n (es.map Ex.ty) ≠ 0 → isTyp (allT n (es.map Ex.ty))) := by
    intro n hn
    rw [typ_all hn he, allT, litL]
    by_cases h : 0 < (es.map Ex.ty).length ∧ (es.map Ex.ty).all (· == n) = true
    · rw [if_pos h, decide_eq_true h.1, h.2]; exact ⟨rfl, fun _ => hn⟩
    · rw [if_neg h]
      have : (decide (0 < (es.map Ex.ty).length) && (es.map Ex.ty).all (· == n)) = false := by
        rw [Bool.eq_false_iff]; intro e; rw [Bool.and_eq_true, decide_eq_true_eq] at e; exact h e
      rw [this]; exact ⟨rfl, fun h => absurd rfl h⟩
  have C : litL (alikeL (letsOf es)) 98 = ltI (cmpT (es.map Ex.ty)) ∧ (cmpT (es.map Ex.ty) ≠ 0 → isTyp (cmpT (es.map Ex.ty))) := by
    match es, he with
    | [], _ => exact ⟨rfl, fun h => absurd rfl h⟩
    | [_], _ => exact ⟨rfl, fun h => absurd rfl h⟩
    | [a, b], he =>
      have ha := he a (by simp)
      have hb := he b (by simp)
      show litL (ltB a.ty == ltB b.ty) 98 = ltI (if a.ty = b.ty then 3 else 0) ∧ ((if a.ty = b.ty then 3 else 0) ≠ 0 → isTyp (if a.ty = b.ty then 3 else 0))
      by_cases h : a.ty = b.ty
      · rw [if_pos h, h]; simp [litL, ltI]; exact t3
      · have : (ltB a.ty == ltB b.ty) = false := by
          rw [beq_eq_false_iff_ne]; intro e; exact h (ltB_inj ha hb e)
        rw [if_neg h, this]; exact ⟨rfl, fun h => absurd rfl h⟩
    | _ :: _ :: _ :: _, _ => exact ⟨rfl, fun h => absurd rfl h⟩
  simp only [builtS, builtIns, List.any_cons, List.any_nil, Bool.or_eq_true, beq_iff_eq, Bool.or_false] at hb
  rcases hb with rfl | rfl | rfl | rfl | rfl | rfl | rfl | rfl | rfl | rfl | rfl | rfl | rfl | rfl | rfl
  · exact L [1, 1] 1 (by intro z hz; simp at hz; rw [hz]; exact t1) t1
  · exact L [1, 1] 1 (by intro z hz; simp at hz; rw [hz]; exact t1) t1
  · exact L [1, 1] 1 (by intro z hz; simp at hz; rw [hz]; exact t1) t1
  · exact L [1, 1] 1 (by intro z hz; simp at hz; rw [hz]; exact t1) t1
  · exact C
  · exact C
  · exact C
  · exact A 3 t3
  · exact A 3 t3
  · exact L [3] 3 (by intro z hz; simp at hz; rw [hz]; exact t3) t3
  · match es, he with
    | [], _ => exact ⟨rfl, fun h => absurd rfl h⟩
    | [_], _ => exact ⟨rfl, fun _ => t3⟩
    | a :: b :: l, _ =>
      refine ⟨?_, fun h => absurd rfl h⟩
      show litL (((letsOf (a :: b :: l)).length : Int) == 1) 98 = 0
      have : (((letsOf (a :: b :: l)).length : Int) == 1) = false := by simp [letsOf]; omega
      rw [this]; rfl
  · match es, he with
    | [], _ => exact ⟨rfl, fun h => absurd rfl h⟩
    | [_], _ => exact ⟨rfl, fun h => absurd rfl h⟩
    | [_, _], _ => exact ⟨rfl, fun h => absurd rfl h⟩
    | [c, a, b], he =>
      have hc := he c (by simp)
      have ha := he a (by simp)
      have hb := he b (by simp)
      show (if ltB c.ty = 98 ∧ ltB a.ty = ltB b.ty then ((ltB a.ty).toNat : Int) else 0) = ltI (if c.ty = 3 ∧ a.ty = b.ty then a.ty else 0) ∧ ((if c.ty = 3 ∧ a.ty = b.ty then a.ty else 0) ≠ 0 → isTyp (if c.ty = 3 ∧ a.ty = b.ty then a.ty else 0))
      by_cases h : c.ty = 3 ∧ a.ty = b.ty
      · rw [if_pos h, if_pos ⟨by rw [h.1]; rfl, by rw [h.2]⟩]; exact ⟨(ltB_I ha).1, fun _ => ha⟩
      · rw [if_neg h, if_neg (fun e => h ⟨ltB_inj hc t3 e.1, ltB_inj ha hb e.2⟩)]; exact ⟨rfl, fun h => absurd rfl h⟩
    | _ :: _ :: _ :: _ :: _, _ => exact ⟨rfl, fun h => absurd rfl h⟩
  · exact L [2] 1 (by intro z hz; simp at hz; rw [hz]; exact t2) t1
  · exact A 2 t2
  · match es, he with
    | [], _ => exact ⟨rfl, fun h => absurd rfl h⟩
    | [a], he => exact ⟨(ltB_I (he a (by simp))).1, fun _ => he a (by simp)⟩
    | _ :: _ :: _, _ => exact ⟨rfl, fun h => absurd rfl h⟩
mutual
theorem typ_typed (atoi : Bs → Int) {ps : Sc} {args : Bs} {rfs : List RF} (hK : KnOK ps args rfs) : ∀ (t : Tr) (x : Ex), (∀ y ∈ post t, Lone y) → typS atoi ps (RF.list rfs) t = .ok x → isTyp x.ty
  | .mk k tx false ops, x, hL, hx => by
    rcases (leaf_same atoi hK (RF.list rfs) (hL (.mk k tx false ops) (by rw [post]; simp)) rfl).2 with ⟨y, h1, h2⟩ | h
    · rw [hx] at h1; cases h1; exact h2
    · rw [hx] at h; cases h
  | .mk k tx true ops, x, hL, hx => by
    rw [typS, if_pos rfl] at hx
    cases hts : typsS atoi ps (RF.list rfs) ops with
    | error n => rw [hts] at hx; cases hx
    | ok es =>
      rw [hts] at hx
      have he := typs_typed atoi hK ops es (fun y hy => hL y (by rw [post]; exact List.mem_append_left _ hy)) hts
      have hx' : finS (RF.list rfs) tx es = .ok x := hx
      unfold finS at hx'
      cases hb : builtS tx with
      | true =>
        rw [hb, if_pos rfl] at hx'
        split at hx'
        · cases hx'
        · next h0 => cases hx'; exact (head_same2 hb he).2 h0
      | false =>
        rw [hb, if_neg Bool.false_ne_true] at hx'
        unfold CallS at hx'
        split at hx'
        · cases hx'
        · next i hi =>
          split at hx'
          · cases hx'
          · next f hf =>
            split at hx'
            · cases hx'
              have hm := List.mem_of_getElem? hf
              rw [RF.list, List.mem_map] at hm
              obtain ⟨r, hr, rfl⟩ := hm
              exact hK.fty r hr
            · cases hx'
theorem typs_typed (atoi : Bs → Int) {ps : Sc} {args : Bs} {rfs : List RF} (hK : KnOK ps args rfs) : ∀ (ts : List Tr) (es : List Ex), (∀ y ∈ posts ts, Lone y) → typsS atoi ps (RF.list rfs) ts = .ok es → ∀ x ∈ es, isTyp x.ty
  | [], es, hL, h => by rw [typsS] at h; cases h; simp
  | t :: ts, es, hL, h => by
    rw [posts] at hL
    rw [typsS] at h
    split at h
    · cases h
    · next x hx =>
      split at h
      · cases h
      · next xs hxs =>
        cases h
        intro y hy
        rcases List.mem_cons.mp hy with rfl | hy
        · exact typ_typed atoi hK t _ (fun y hy => hL y (List.mem_append_left _ hy)) hx
        · exact typs_typed atoi hK ts xs (fun y hy => hL y (List.mem_append_right _ hy)) hxs y hy
end
def brTy (rfs : List RF) (tx : Bs) (lets : Bs) : Int := match findS (RF.list rfs) tx with
  | some i => (match rfs[i]? with | none => 0 | some r => litL (lets == r.args) (ltI r.fn.body.ty))
  | none => hdT tx lets
def brErr (rfs : List RF) (tx : Bs) (lets : Bs) : Int := if (findS (RF.list rfs) tx).isNone && !builtS tx then 2 else if brTy rfs tx lets = 0 then 3 else 0
theorem find_name {fns : List Fn} {l : Bs} {i : Nat} (h : findS fns l = some i) : ∃ f, fns[i]? = some f ∧ f.name = l := by
  unfold findS at h
  obtain ⟨h1, h2, _⟩ := List.findIdx?_eq_some_iff_getElem.mp h
  exact ⟨fns[i], List.getElem?_eq_getElem h1, by simpa using h2⟩
theorem br_same (atoi : Bs → Int) {ps : Sc} {args : Bs} {rfs : List RF} (hK : KnOK ps args rfs) {k : Int} {tx : Bs} {ops : List Tr} {es : List Ex} (hts : typsS atoi ps (RF.list rfs) ops = .ok es) (he : ∀ x ∈ es, isTyp x.ty) :
    errR (typS atoi ps (RF.list rfs) (.mk k tx true ops)) = brErr rfs tx (letsOf es) ∧ (brErr rfs tx (letsOf es) = 0 → ∃ x, typS atoi ps (RF.list rfs) (.mk k tx true ops) = .ok x ∧ ltI x.ty = brTy rfs tx (letsOf es)) ∧ (brErr rfs tx (letsOf es) ≠ 0 → typS atoi ps (RF.list rfs) (.mk k tx true ops) = .error (brErr rfs tx (letsOf es))) := by
  rw [typS, if_pos rfl, hts]
  show errR (finS (RF.list rfs) tx es) = _ ∧ (_ → ∃ x, finS (RF.list rfs) tx es = .ok x ∧ _) ∧ (_ → finS (RF.list rfs) tx es = _)
  unfold finS
  cases hb : builtS tx with
  | true =>
    rw [if_pos rfl]
    have hn : findS (RF.list rfs) tx = none := by
      cases hf : findS (RF.list rfs) tx with
      | none => rfl
      | some i =>
        obtain ⟨f, h1, h2⟩ := find_name hf
        have hm := List.mem_of_getElem? h1
        rw [RF.list, List.mem_map] at hm
        obtain ⟨r, hr, rfl⟩ := hm
        rw [← h2, hK.free r hr] at hb; cases hb
    obtain ⟨h1, h2⟩ := head_same2 hb he
    have hT : brTy rfs tx (letsOf es) = ltI (typeS tx (es.map Ex.ty)) := by rw [brTy, hn]; exact h1
    have hE : brErr rfs tx (letsOf es) = if ltI (typeS tx (es.map Ex.ty)) = 0 then 3 else 0 := by rw [brErr, hn, hb, hT]; rfl
    rw [hE, hT]
    by_cases h0 : typeS tx (es.map Ex.ty) = 0
    · rw [if_pos h0, h0]; exact ⟨rfl, fun h => absurd h (by decide), fun _ => rfl⟩
    · have hne := ltI_ne (h2 h0)
      rw [if_neg h0, if_neg hne]; exact ⟨rfl, fun _ => ⟨_, rfl, rfl⟩, fun h => absurd rfl h⟩
  | false =>
    rw [if_neg Bool.false_ne_true]
    unfold CallS
    cases hf : findS (RF.list rfs) tx with
    | none =>
      have hE : brErr rfs tx (letsOf es) = 2 := by rw [brErr, hf, hb]; rfl
      rw [hE]; exact ⟨rfl, fun h => absurd h (by decide), fun _ => rfl⟩
    | some i =>
      obtain ⟨f, h1, _⟩ := find_name hf
      have h1' := h1
      rw [RF.list, List.getElem?_map] at h1'
      cases hr : rfs[i]? with
      | none => rw [hr] at h1'; cases h1'
      | some r =>
        rw [hr] at h1'
        have hfr : r.fn = f := Option.some.inj h1'
        subst hfr
        have hm := List.mem_of_getElem? hr
        have hT : brTy rfs tx (letsOf es) = litL (letsOf es == r.args) (ltI r.fn.body.ty) := by simp only [brTy, hf, hr]
        have hE : brErr rfs tx (letsOf es) = if litL (letsOf es == r.args) (ltI r.fn.body.ty) = 0 then 3 else 0 := by rw [brErr, hf, hb, hT]; rfl
        have hq : (letsOf es == r.args) = decide (es.map Ex.ty = r.fn.args) := by
          obtain ⟨ha, hl⟩ := hK.fargs r hm
          have hra : r.args = (typesL r.args).map ltB := by
            rw [typesL, List.map_map]
            conv => lhs; rw [← List.map_id r.args]
            refine List.map_congr_left fun c hc => ?_
            have := List.all_eq_true.mp hl c hc
            unfold tyLet at this
            simp only [Bool.or_eq_true, beq_iff_eq] at this
            rcases this with (rfl | rfl) | rfl <;> decide
          rw [hra, ha]
          refine typ_lit (fun z hz => ?_) he
          rw [typesL, List.mem_map] at hz
          obtain ⟨c, hc, rfl⟩ := hz
          exact (typeB_let (List.all_eq_true.mp hl c hc)).1
        rw [hE, hT, hq]
        simp only [h1]
        by_cases hm2 : es.map Ex.ty = r.fn.args
        · have hne := ltI_ne (hK.fty r hm)
          rw [if_pos hm2, decide_eq_true hm2, litL, if_pos rfl, if_neg hne]; exact ⟨rfl, fun _ => ⟨_, rfl, rfl⟩, fun h => absurd rfl h⟩
        · rw [if_neg hm2, decide_eq_false hm2, show litL false (ltI r.fn.body.ty) = 0 from rfl, if_pos rfl]; exact ⟨rfl, fun h => absurd h (by decide), fun _ => rfl⟩
end Go.Proofs.YtilfjpmeededmaaGreatDoor

namespace Go.Proofs.YtilfjpmeededmaaGreatDoor
open Go.RowKit
def wordList : List Bs := [[97, 110, 100], [111, 114], [110, 111, 116], [105, 115, 110, 117, 108, 108], [105, 102], [108, 101, 110], [99, 97, 116], [110, 111, 116, 101]]
theorem built_parts (l : Bs) : builtS l = (operS l || amongB wordList l) := by
  rw [← oper_contains]
  unfold amongB operList wordList builtS builtIns
  simp only [List.contains_cons, List.contains_nil, Bool.or_false, List.any_cons, List.any_nil]
  simp only [Bool.or_assoc]
set_option maxHeartbeats 800000 in
set_option maxRecDepth 100000 in
theorem refOperators_any (x : World) : Calls Tryz.prog 336 #[] x fun e w' => e = .returned (.slice (some ⟨x.heap.size, 0, none⟩) 7 7) ∧ w' = x.alloc (.cells (operList.map fun t => Value.string (ofBs t)).toArray 9) := by
  go_enter Tryz.func336, Tryz.ntmps336
  go_wp2
  go_ret
  exact ⟨rfl, rfl⟩
set_option maxHeartbeats 800000 in
set_option maxRecDepth 100000 in
theorem refWords_any (x : World) : Calls Tryz.prog 266 #[] x fun e w' => e = .returned (.slice (some ⟨x.heap.size, 0, none⟩) 8 8) ∧ w' = x.alloc (.cells (wordList.map fun t => Value.string (ofBs t)).toArray 9) := by
  go_enter Tryz.func266, Tryz.ntmps266
  go_wp2
  go_ret
  exact ⟨rfl, rfl⟩
theorem amongOf (L : List Bs) (n : Nat) (hn : L.length = n) (h100 : n ≤ 100000) (x : World) (b : Nat) (hb : x.heap[b]? = some (.cells (L.map fun t => Value.string (ofBs t)).toArray 9 (0, 0))) (l : Bs) :
    Calls Tryz.prog 265 #[.slice (some ⟨b, 0, none⟩) n n, .string (ofBs l)] x fun e w' => e = .returned (.bool (amongB L l)) ∧ w' = x := by
  subst hn
  have := among_any L (ofBs l) x b 0 L.length (Nat.le_refl _) h100 (fun i h => by simp [World.cell?, hb, h])
  rw [ofBs_toList] at this; exact this
theorem ints_other {w : World} {v : Value} {n m g cap q : Nat} {xs cs : List Value} (h : w.ownsRow 0 3 1 v n xs) (hO : w.ownsRow 0 359 4 (.slice (some ⟨g, 0, none⟩) m cap) m cs) (hq : v.ownBlock = some q) : q ≠ g := by
  intro e
  subst e
  rcases h.2 with ⟨rfl, _⟩ | ⟨g1, c1, cur1, rfl, _, h1, _⟩
  · cases hq
  · have : g1 = q := Option.some.inj hq
    subst this
    rcases hO.2 with ⟨h', _⟩ | ⟨g2, c2, cur2, h', _, h2, _⟩
    · cases h'
    · cases h'; rw [h1] at h2; cases h2
theorem Nodes.stored {w : World} {S : Nat → Prop} {cs : List Value} {l : List Tr} {ty : Nat → Int} {g cap i : Nat} {n : Int} (hN : Nodes w S cs 0 l ty) (hO : w.ownsRow 0 359 4 (.slice (some ⟨g, 0, none⟩) l.length cap) l.length cs) (hi : i < l.length) :
    Nodes (w.setCell ⟨g, i * 4 + 3, none⟩ (.int .u8 n)) S (cs.set (i * 4 + 3) (.int .u8 n)) 0 l (fun j => if j = i then n else ty j) := by
  have hlen : cs.length = l.length * 4 := hO.1
  intro j t hj
  obtain ⟨v, is, h0, h1, h2, h3, h4, h5, h6, h7, h8⟩ := hN j t hj
  rw [Nat.zero_add] at h0 h1 h2 h3
  refine ⟨v, is, ?_, ?_, ?_, ?_, owns_keep h4 fun q hq => Below.heap_setCell _ _ _ _ (ints_other h4 hO hq), h5, h6, h7, h8⟩
  · rw [Nat.zero_add, List.getElem?_set_ne (by omega)]; exact h0
  · rw [Nat.zero_add, List.getElem?_set_ne (by omega)]; exact h1
  · rw [Nat.zero_add, List.getElem?_set_ne (by omega)]; exact h2
  · rw [Nat.zero_add]
    by_cases e : j = i
    · subst e
      rw [show 4 * j + 3 = j * 4 + 3 by omega, List.getElem?_set_self (by omega)]; simp only [if_true]
    · rw [List.getElem?_set_ne (by omega)]; simp only [if_neg e]; exact h3
theorem Nodes.grown {w x : World} {S : Nat → Prop} {cs : List Value} {lo : Nat} {l : List Tr} {ty : Nat → Int} (h : Nodes w S cs lo l ty) (hk : ∀ g, g < w.heap.size → x.heap[g]? = w.heap[g]?) : Nodes x S cs lo l ty := by
  intro j t hj
  obtain ⟨v, is, h0, h1, h2, h3, h4, h5⟩ := h j t hj
  exact ⟨v, is, h0, h1, h2, h3, owns_keep h4 fun g hg => hk g (h4.lt g hg).2, h5⟩
theorem Nodes.congr {w : World} {S : Nat → Prop} {cs : List Value} {lo : Nat} {l : List Tr} {ty ty' : Nat → Int} (h : Nodes w S cs lo l ty) (e : ∀ j, j < l.length → ty j = ty' j) : Nodes w S cs lo l ty' := by
  intro j t hj
  obtain ⟨v, is, h0, h1, h2, h3, h4⟩ := h j t hj
  exact ⟨v, is, h0, h1, h2, by rw [← e j (List.getElem?_eq_some_iff.mp hj).1]; exact h3, h4⟩
def tysTo (atoi : Bs → Int) (ps : Sc) (fns : List Fn) (l : List Tr) (i : Nat) (j : Nat) : Int := if j < i then (match l[j]? with | none => 0 | some t => tyR (typS atoi ps fns t)) else 0
theorem tysTo_step {atoi : Bs → Int} {ps : Sc} {fns : List Fn} {l : List Tr} {i : Nat} (hi : i < l.length) (j : Nat) : (if j = i then tyR (typS atoi ps fns l[i]) else tysTo atoi ps fns l i j) = tysTo atoi ps fns l (i + 1) j := by
  unfold tysTo
  by_cases e : j = i
  · subst e; rw [if_pos rfl, if_pos (by omega), List.getElem?_eq_getElem hi]
  · rw [if_neg e]
    by_cases h : j < i
    · rw [if_pos h, if_pos (by omega)]
    · rw [if_neg h, if_neg (by omega)]
theorem ops_typed {atoi : Bs → Int} {ps : Sc} {fns : List Fn} {ops : List Tr} (h : ∀ t ∈ ops, ∃ x, typS atoi ps fns t = .ok x) : ∃ es, typsS atoi ps fns ops = .ok es ∧ es.length = ops.length ∧ ∀ (m : Nat) (t : Tr), ops[m]? = some t → ∃ x, es[m]? = some x ∧ typS atoi ps fns t = .ok x := by
  induction ops with
  | nil => exact ⟨[], rfl, rfl, fun m t h => by simp at h⟩
  | cons t ts ih =>
    obtain ⟨x, hx⟩ := h t (List.mem_cons_self ..)
    obtain ⟨es, h1, h2, h3⟩ := ih fun y hy => h y (List.mem_cons_of_mem _ hy)
    refine ⟨x :: es, by rw [typsS, hx, h1], by simp [h2], fun m y hy => ?_⟩
    cases m with
    | zero => simp at hy; subst hy; exact ⟨x, rfl, hx⟩
    | succ m => simpa using h3 m y (by simpa using hy)
end Go.Proofs.YtilfjpmeededmaaGreatDoor

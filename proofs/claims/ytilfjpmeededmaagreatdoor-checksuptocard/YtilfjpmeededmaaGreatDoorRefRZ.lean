import Derived.Test.YtilfjpmeededmaaGreatDoorRef6
import Derived.Test.YtilfjpmeededmaaGreatDoorDecoQZ
set_option linter.unusedVariables false
set_option linter.unusedSimpArgs false
namespace Go.Proofs.YtilfjpmeededmaaGreatDoor
def no39 (l : Bs) : Bool := l.all fun c => !(c == 39)
theorem no39_word {l : Bs} (h : wordS l = true) : no39 l = true := by
  unfold wordS at h
  simp only [Bool.and_eq_true] at h
  unfold no39
  rw [List.all_eq_true]
  intro c hc
  have := List.all_eq_true.mp h.2 c hc
  cases hh : (c == 39) with
  | false => rfl
  | true => rw [beq_iff_eq] at hh; subst hh; simp [ldB, letterB, digitB] at this
theorem no39_loop (l : Bs) : ∀ n : Int, numLoop l n = true → no39 l = true := by
  induction l with
  | nil => intro n _; rfl
  | cons c r ih =>
    intro n h
    rw [numLoop, Bool.and_eq_true, Bool.and_eq_true] at h
    have hd := digitB_bd h.1.1
    unfold no39
    rw [List.all_cons, Bool.and_eq_true]
    refine ⟨?_, ih _ h.2⟩
    cases hh : (c == 39) with
    | false => rfl
    | true => rw [beq_iff_eq] at hh; subst hh; simp at hd
theorem no39_num {l : Bs} (h : numS l = true) : no39 l = true := by
  unfold numS at h
  rw [Bool.or_eq_true] at h
  rcases h with h | h
  · rw [beq_iff_eq] at h; subst h; decide
  · simp only [Bool.and_eq_true] at h
    have hl := no39_loop _ _ h.2
    unfold unminus at hl
    cases l with
    | nil => rfl
    | cons c r =>
      rw [List.headD_cons] at hl
      cases h45 : (c == 45) with
      | true =>
        rw [h45, if_pos rfl] at hl
        rw [beq_iff_eq] at h45; subst h45
        unfold no39 at hl ⊢
        rw [List.all_cons]; simpa using hl
      | false => rw [h45, if_neg Bool.false_ne_true] at hl; exact hl
theorem no39_par {l : Bs} (h : parS l = true) : no39 l = true := by
  unfold parS at h
  simp only [Bool.and_eq_true, decide_eq_true_eq] at h
  obtain ⟨⟨⟨h1, h2⟩, h3⟩, _⟩ := h
  match l, h1 with
  | [a, b], _ =>
    have ha : a = 36 := by simpa using h2
    have hb := digitB_bd h3
    subst ha
    unfold no39
    have : (b == 39) = false := by
      cases hh : (b == 39) with
      | false => rfl
      | true => rw [beq_iff_eq] at hh; subst hh; simp at hb
    simp [this]
theorem no39_col {l : Bs} (h : colS l = true) : no39 l = true := by
  unfold colS at h
  simp only [Bool.and_eq_true] at h
  obtain ⟨⟨hc, h1⟩, h2⟩ := h
  have a1 := no39_word h1
  have a2 := no39_word h2
  have e := tw_split l
  have hs := (ib_some l 46 hc)
  unfold no39 at *
  rw [e, List.all_append, a1, Bool.true_and]
  cases hd : l.dropWhile (· != 46) with
  | nil => rfl
  | cons c r =>
    rw [hd] at a2
    have hc2 : (c != 46) = false := by
      have := List.head?_dropWhile_not (p := (· != 46)) l
      rw [hd] at this; simpa using this
    have : c = 46 := by simpa using hc2
    subst this
    rw [List.all_cons]; simpa using a2
theorem no39_oper {l : Bs} (h : operS l = true) : no39 l = true := by
  unfold operS at h
  simp only [Bool.or_eq_true, beq_iff_eq] at h
  rcases h with (((((h | h) | h) | h) | h) | h) | h <;> (subst h; decide)
theorem kind_quoteR {l : Bs} (h : kindS l ≠ 0) : quoteS l = true ∨ no39 l = true := by
  unfold kindS at h
  split at h
  · next e => right; rw [beq_iff_eq] at e; subst e; decide
  · split at h
    · next e => right; rw [beq_iff_eq] at e; subst e; decide
    · split at h
      · next e => right; exact no39_oper e
      · split at h
        · next e => right; exact no39_num e
        · split at h
          · next e => left; exact e
          · split at h
            · next e => right; exact no39_par e
            · split at h
              · next e => right; exact no39_word e
              · split at h
                · next e => right; exact no39_col e
                · exact absurd rfl h
theorem quote_form {l : Bs} (h : quoteS l = true) : ∃ inner : Bs, l = 39 :: (inner ++ [39]) ∧ inner.all (fun c => c != 39) = true := by
  unfold quoteS at h
  simp only [Bool.and_eq_true, decide_eq_true_eq] at h
  obtain ⟨⟨⟨⟨h1, _⟩, h2⟩, h3⟩, h4⟩ := h
  cases l with
  | nil => simp at h1
  | cons c r =>
    have hc : c = 39 := by simpa using h2
    subst hc
    cases hr : r.reverse with
    | nil => rw [List.reverse_eq_nil_iff] at hr; subst hr; simp at h1
    | cons d m =>
      have e : r = m.reverse ++ [d] := by have := congrArg List.reverse hr; simpa using this
      subst e
      have hd : d = 39 := by
        have e2 : (39 :: (m.reverse ++ [d])).getD ((39 :: (m.reverse ++ [d])).length - 1) 0 = d := by
          rw [List.getD_eq_getElem?_getD]; simp
        rw [e2] at h3; simpa using h3
      subst hd
      refine ⟨m.reverse, rfl, ?_⟩
      have e3 : ((39 :: (m.reverse ++ [39])).take ((39 :: (m.reverse ++ [39])).length - 1)).drop 1 = m.reverse := by simp
      rw [e3] at h4
      rw [List.all_eq_true] at h4 ⊢
      intro x hx
      have := h4 x hx
      unfold quoC at this
      simp only [Bool.and_eq_true] at this
      simpa using this.2
theorem remQ_closed (i r : Bs) (h : i.all (fun c => c != 39) = true) : remQ (i ++ 39 :: r) = i.length + 1 := by
  induction i with
  | nil => rfl
  | cons c t ih =>
    rw [List.all_cons, Bool.and_eq_true] at h
    have : (c == 39) = false := by simpa using h.1
    rw [List.cons_append, remQ, this, if_neg Bool.false_ne_true, ih h.2]; simp
theorem remP_all (t r : Bs) (h : t.all plainC = true) (hr : r = [] ∨ plainC (r.headD 0) = false) : remP (t ++ r) = t.length := by
  induction t with
  | nil =>
    rcases hr with rfl | hr
    · rfl
    · cases r with
      | nil => rfl
      | cons c r => simp only [List.headD_cons] at hr; rw [List.nil_append, remP, hr]; rfl
  | cons c t ih =>
    rw [List.all_cons, Bool.and_eq_true] at h
    rw [List.cons_append, remP, h.1, if_pos rfl, ih h.2]; simp
theorem plain_sep (c : UInt8) : plainC c = (!sepB c && !(c == 39)) := by unfold plainC sepB; cases blankB c.toNat <;> cases bracketB c.toNat <;> rfl
theorem sep_ends {l : Bs} {n : Nat} (h : endOK (l.drop n)) : endsOK l n = true := by
  unfold endsOK
  rcases h with h | h
  · rw [h]; rfl
  · cases hd : l.drop n with
    | nil => rfl
    | cons c r =>
      rw [hd] at h
      simp only [List.headD_cons] at h ⊢
      unfold sepB at h
      rw [Bool.or_eq_true] at h
      rcases h with h | h
      · have : 0 < skN (c :: r) := by unfold skN; rw [List.takeWhile_cons, isBl, h]; simp
        rw [decide_eq_true this]; rfl
      · rw [h]; simp
theorem ends_sep {l : Bs} {n : Nat} (h : endsOK l n = true) : endOK (l.drop n) := by
  unfold endsOK at h
  cases hd : l.drop n with
  | nil => exact .inl rfl
  | cons c r =>
    rw [hd] at h
    right
    simp only [List.headD_cons, Bool.or_eq_true, decide_eq_true_eq] at h ⊢
    rcases h with (h | h) | h
    · unfold skN at h
      rw [List.takeWhile_cons] at h
      cases hb : isBl c with
      | true => unfold isBl at hb; unfold sepB; rw [hb]; rfl
      | false => rw [hb] at h; simp at h
    · cases h
    · unfold sepB; rw [h]; simp
theorem tk_of_good {tx r : Bs} (hg : Good tx) (he : endOK r) : tkLen (tx ++ r) = tx.length ∧ tkText (tx ++ r) = tx := by
  have hlen : tkLen (tx ++ r) = tx.length := by
    have hh := good_head hg
    rcases hg with ⟨h0, ha⟩ | ⟨i, rfl, ha⟩
    · cases tx with
      | nil => exact absurd rfl h0
      | cons c t =>
        rw [List.all_cons, Bool.and_eq_true] at ha
        have hc : (c == 39) = false := by have := ha.1; simp at this; simpa using this.2
        have hp : t.all plainC = true := by
          rw [List.all_eq_true]; intro x hx
          have := List.all_eq_true.mp ha.2 x hx
          rw [plain_sep]; simpa [bne] using this
        have hr : r = [] ∨ plainC (r.headD 0) = false := by
          rcases he with h | h
          · exact .inl h
          · right; rw [plain_sep, h]; rfl
        unfold tkLen
        simp only [List.cons_append, List.headD_cons, List.drop_succ_cons, List.drop_zero, hc, Bool.false_eq_true, if_false]
        rw [remP_all t r hp hr]; simp; omega
    · unfold tkLen
      have e : ((39 :: (i ++ [39])) ++ r).drop 1 = i ++ 39 :: r := by simp
      rw [e, remQ_closed i r ha]; simp; omega
  refine ⟨hlen, ?_⟩
  unfold tkText
  rw [hlen, List.take_left, sep_ends (by rw [List.drop_left]; exact he)]; rfl
theorem all_take_rem (l : Bs) : (l.take (remP l)).all plainC = true := by
  induction l with
  | nil => rfl
  | cons c r ih =>
    rw [remP]
    cases h : plainC c with
    | true => rw [if_pos rfl, List.take_succ_cons, List.all_cons, h, ih]; rfl
    | false => rfl
theorem remQ_form (l : Bs) : (∃ i r, l = i ++ 39 :: r ∧ i.all (fun c => c != 39) = true ∧ remQ l = i.length + 1) ∨ (no39 l = true ∧ remQ l = l.length) := by
  induction l with
  | nil => right; exact ⟨rfl, rfl⟩
  | cons c r ih =>
    cases h : (c == 39) with
    | true =>
      left
      refine ⟨[], r, ?_, rfl, ?_⟩
      · rw [beq_iff_eq] at h; rw [h]; rfl
      · rw [remQ, h]; rfl
    | false =>
      rcases ih with ⟨i, t, rfl, hi, he⟩ | ⟨hn, he⟩
      · left
        refine ⟨c :: i, t, rfl, ?_, ?_⟩
        · rw [List.all_cons, hi]; simpa using h
        · rw [remQ, h, if_neg Bool.false_ne_true, he]; simp
      · right
        refine ⟨?_, ?_⟩
        · unfold no39 at *; rw [List.all_cons, hn, h]; rfl
        · rw [remQ, h, if_neg Bool.false_ne_true, he]; simp
theorem good_of_tk {l : Bs} (h0 : 0 < l.length) (hs : sepB (l.headD 0) = false) (ht : tkText l ≠ []) (hk : kindS (tkText l) ≠ 0) : ∃ r, l = tkText l ++ r ∧ Good (tkText l) ∧ endOK r ∧ r = l.drop (tkLen l) := by
  unfold tkText at ht hk ⊢
  cases he : endsOK l (tkLen l) with
  | false => rw [he] at ht; exact absurd rfl ht
  | true =>
    rw [he, if_pos rfl] at hk
    rw [if_pos rfl]
    refine ⟨l.drop (tkLen l), (List.take_append_drop _ _).symm, ?_, ends_sep he, rfl⟩
    cases l with
    | nil => simp at h0
    | cons c r =>
      rw [List.headD_cons] at hs
      unfold tkLen at hk ⊢
      simp only [List.headD_cons, List.drop_succ_cons, List.drop_zero] at hk ⊢
      cases h39 : (c == 39) with
      | false =>
        rw [h39, if_neg Bool.false_ne_true, Nat.add_comm, List.take_succ_cons] at hk
        rw [if_neg Bool.false_ne_true, Nat.add_comm, List.take_succ_cons]
        refine .inl ⟨by simp, ?_⟩
        rw [List.all_cons, hs, Bool.and_eq_true]
        refine ⟨by simpa using h39, ?_⟩
        have := all_take_rem r
        rw [List.all_eq_true] at this ⊢
        intro x hx
        have hx2 := this x hx
        rw [plain_sep] at hx2; simpa [bne] using hx2
      | true =>
        rw [h39, if_pos rfl, Nat.add_comm, List.take_succ_cons] at hk
        rw [if_pos rfl, Nat.add_comm, List.take_succ_cons]
        have hc : c = 39 := by simpa using h39
        subst hc
        rcases remQ_form r with ⟨i, t, rfl, hi, hq⟩ | ⟨hn, hq⟩
        · rw [hq]
          have e : (i ++ 39 :: t).take (i.length + 1) = i ++ [39] := by
            rw [show i ++ 39 :: t = (i ++ [39]) ++ t by simp]
            have : (i ++ [39]).length = i.length + 1 := by simp
            rw [← this, List.take_left]
          rw [e]; exact .inr ⟨i, rfl, hi⟩
        · exfalso
          rw [hq, List.take_length] at hk
          rcases kind_quoteR hk with hq2 | hn2
          · obtain ⟨inner, e, _⟩ := quote_form hq2
            have e2 : r = inner ++ [39] := by simpa using e
            subst e2
            unfold no39 at hn; simp at hn
          · unfold no39 at hn2; rw [List.all_cons] at hn2; cases hn2
theorem tw_append (l : Bs) (p : UInt8 → Bool) : l = l.takeWhile p ++ l.dropWhile p := (List.takeWhile_append_dropWhile).symm
theorem tw_len_drop (l : Bs) (p : UInt8 → Bool) : l.take (l.takeWhile p).length = l.takeWhile p ∧ l.drop (l.takeWhile p).length = l.dropWhile p := by
  have e := tw_append l p
  constructor
  · have : (l.takeWhile p ++ l.dropWhile p).take (l.takeWhile p).length = l.takeWhile p := List.take_left
    rw [← e] at this; exact this
  · have : (l.takeWhile p ++ l.dropWhile p).drop (l.takeWhile p).length = l.dropWhile p := List.drop_left
    rw [← e] at this; exact this
theorem dw_end (l : Bs) : endOK (l.dropWhile notSep) := by
  cases hd : l.dropWhile notSep with
  | nil => exact .inl rfl
  | cons c r =>
    right
    have : notSep c = false := by
      have := List.head?_dropWhile_not (p := notSep) l
      rw [hd] at this; simpa using this
    rw [sep_notSep] at this; simpa using this
theorem good_of_piece {l : Bs} (h0 : 0 < l.length) (hs : sepB (l.headD 0) = false) (hk : kindS (l.take (plen l)) ≠ 0) : Good (l.take (plen l)) ∧ endOK (l.drop (plen l)) := by
  have hp : plen l = qlen l + ((l.drop (qlen l)).takeWhile notSep).length := by
    unfold plen; rw [(sep_split hs).2, if_neg Bool.false_ne_true]
  have hend : endOK (l.drop (plen l)) := by
    rw [hp, ← List.drop_drop, (tw_len_drop _ _).2]; exact dw_end _
  refine ⟨?_, hend⟩
  cases l with
  | nil => simp at h0
  | cons c r =>
    rw [List.headD_cons] at hs
    cases h39 : (c == 39) with
    | false =>
      have hq : qlen (c :: r) = 0 := by unfold qlen; rw [List.headD_cons, h39]; rfl
      rw [hq, List.drop_zero, Nat.zero_add] at hp
      have ht : (c :: r).take (plen (c :: r)) = (c :: r).takeWhile notSep := by rw [hp]; exact (tw_len_drop _ _).1
      rw [ht] at hk ⊢
      have hne : (c :: r).takeWhile notSep ≠ [] := by rw [List.takeWhile_cons, sep_notSep, hs]; simp
      have hn : no39 ((c :: r).takeWhile notSep) = true := by
        rcases kind_quoteR hk with h | h
        · obtain ⟨i, e, _⟩ := quote_form h
          rw [List.takeWhile_cons, sep_notSep, hs] at e
          simp only [Bool.not_false, if_true, List.cons.injEq] at e
          rw [e.1] at h39; cases h39
        · exact h
      refine .inl ⟨hne, ?_⟩
      rw [List.all_eq_true]
      intro x hx
      have h1 : notSep x = true := by
        have := List.all_takeWhile (l := c :: r) (p := notSep)
        rw [List.all_eq_true] at this; exact this x hx
      have h2 := List.all_eq_true.mp hn x hx
      rw [sep_notSep] at h1
      rw [h1]; simpa [bne] using h2
    | true =>
      have hc : c = 39 := by simpa using h39
      subst hc
      rcases kind_quoteR hk with h | h
      · obtain ⟨i, e, hi⟩ := quote_form h
        rw [e]; exact .inr ⟨i, rfl, hi⟩
      · exfalso
        have hpos : 0 < plen (39 :: r) := plen_pos _ (by simp) (sep_split hs).1
        obtain ⟨m, hm⟩ : ∃ m, plen (39 :: r) = m + 1 := ⟨plen (39 :: r) - 1, by omega⟩
        rw [hm, List.take_succ_cons] at h
        unfold no39 at h; rw [List.all_cons] at h; cases h
theorem tk_piece {l : Bs} (h0 : 0 < l.length) (hs : sepB (l.headD 0) = false) (hk : kindS (l.take (plen l)) ≠ 0) : tkText l = l.take (plen l) ∧ tkLen l = plen l := by
  obtain ⟨g, he⟩ := good_of_piece h0 hs hk
  have hl : (l.take (plen l)).length = plen l := by rw [List.length_take]; have := plen_le l h0; omega
  have := tk_of_good (r := l.drop (plen l)) g he
  rw [List.take_append_drop] at this
  exact ⟨this.2, by rw [this.1, hl]⟩
end Go.Proofs.YtilfjpmeededmaaGreatDoor

namespace Go.Proofs.YtilfjpmeededmaaGreatDoor
def skS (l : Bs) : Bs := l.drop (skN l)
def tokS (l : Bs) : Bs × Bs := if l.length = 0 ∨ bracketB (l.headD 0).toNat = true then ([], l) else (tkText l, skS (l.drop (tkLen l)))
mutual
def oneS : Nat → Nat → Bs → Option (Tr × Bs)
  | 0, _, _ => none
  | f + 1, deep, l =>
    if (skS l).headD 0 == 40 then
      (if headR (tokS (skS ((skS l).drop 1))).1 && decide (deep < 20) then
        (opsR f (deep + 1) (tokS (skS ((skS l).drop 1))).2).map (fun p => (Tr.mk (kindS (tokS (skS ((skS l).drop 1))).1) (tokS (skS ((skS l).drop 1))).1 true p.1, skS (p.2.drop 1)))
      else none)
    else if atomS (tokS (skS l)).1 then some (Tr.mk (kindS (tokS (skS l)).1) (tokS (skS l)).1 false [], (tokS (skS l)).2) else none
def opsR : Nat → Nat → Bs → Option (List Tr × Bs)
  | 0, _, _ => none
  | f + 1, deep, l =>
    if l.length = 0 then none else if l.headD 0 == 41 then some ([], l) else
      match oneS f deep l with
      | none => none
      | some (x, r) => (opsR f deep r).map (fun p => (x :: p.1, p.2))
end
theorem sk_zero (l : Bs) : skN (skS l) = 0 := by
  unfold skS skN
  rw [(tw_len_drop l isBl).2]
  cases hd : l.dropWhile isBl with
  | nil => rfl
  | cons c r =>
    have : isBl c = false := by
      have := List.head?_dropWhile_not (p := isBl) l
      rw [hd] at this; simpa using this
    rw [List.takeWhile_cons, this]; rfl
theorem sk_head {l : Bs} (h : skN l = 0) (h0 : 0 < l.length) : blankB (l.headD 0).toNat = false := by
  cases l with
  | nil => simp at h0
  | cons c r =>
    unfold skN at h
    rw [List.takeWhile_cons] at h
    cases hb : isBl c with
    | true => rw [hb] at h; simp at h
    | false => exact hb
theorem scan_sk (l : Bs) : scanS (skS l) = scanS l := by
  have e : l = l.takeWhile isBl ++ skS l := by unfold skS skN; rw [(tw_len_drop l isBl).2]; exact tw_append l isBl
  have hb : blanksB (l.takeWhile isBl) = true := List.all_takeWhile
  have := scan_blanks (l.takeWhile isBl) (skS l) hb
  rw [← e] at this; exact this.symm
theorem sk_len (l : Bs) : (skS l).length ≤ l.length := by unfold skS; simp
theorem head_cons {l : Bs} {c : UInt8} (hc : c ≠ 0) (h : l.headD 0 = c) : l = c :: l.drop 1 := by
  cases l with
  | nil => simp at h; exact absurd h.symm hc
  | cons d r => simp at h; subst h; rfl
theorem scan_br {c : UInt8} (hc : c = 40 ∨ c = 41) (r : Bs) : scanS (c :: r) = (scanS r).map ((kindS [c], [c]) :: ·) := by
  have hp : plen ([c] ++ r) = ([c] : Bs).length := by
    unfold plen; rw [if_pos]; rfl
    rcases hc with rfl | rfl <;> rfl
  have := scan_one [c] r (by simp) (by rcases hc with rfl | rfl <;> rfl) hp
  rw [if_neg (by rcases hc with rfl | rfl <;> decide)] at this
  exact this
theorem scan_tk {l : Bs} (h0 : 0 < l.length) (hs : sepB (l.headD 0) = false) (ht : tkText l ≠ []) (hk : kindS (tkText l) ≠ 0) :
    scanS l = (scanS (skS (l.drop (tkLen l)))).map ((kindS (tkText l), tkText l) :: ·) ∧ Good (tkText l) := by
  obtain ⟨r, e, g, he, hr⟩ := good_of_tk h0 hs ht hk
  have h1 := scan_one (tkText l) r (good_pos g) (sep_split (good_head g)).1 (good_plen g he)
  rw [← e, if_neg hk] at h1
  rw [h1, scan_sk, ← hr]
  exact ⟨rfl, g⟩
theorem map_map_app (o : Option (List Tk)) (a b : List Tk) : (o.map (b ++ ·)).map (a ++ ·) = o.map ((a ++ b) ++ ·) := by cases o <;> simp
theorem head_kind {l : Bs} (hl : bracketB (l.headD 0).toNat = false) (h : headR l = true) : kindS l ≠ 0 ∧ l ≠ [] ∧ headS (kindS l) l = true := by
  have e := head_same hl
  rw [h] at e
  refine ⟨?_, ?_, e⟩
  · intro h0; rw [h0] at e; simp [headS] at e
  · intro h0; subst h0; cases h
theorem atom_kind {l : Bs} (hl : bracketB (l.headD 0).toNat = false) (h : atomS l = true) : kindS l ≠ 0 ∧ l ≠ [] ∧ aloneS (kindS l) l = true ∧ ¬ kindS l = 1 ∧ ¬ kindS l = 2 := by
  have e := atom_same hl
  rw [h] at e
  have hb : (l == [40]) = false ∧ (l == [41]) = false := by
    constructor
    · rw [Bool.eq_false_iff]; intro h; rw [beq_iff_eq] at h; subst h; cases hl
    · rw [Bool.eq_false_iff]; intro h; rw [beq_iff_eq] at h; subst h; cases hl
  have hk : kindS l ≠ 1 ∧ kindS l ≠ 2 ∧ (kindS l = 0 → valS l = false) := by
    unfold kindS
    rw [hb.1, hb.2, if_neg Bool.false_ne_true, if_neg Bool.false_ne_true]
    refine ⟨?_, ?_, ?_⟩
    · repeat (first | (split; decide) | decide)
      all_goals (repeat split) <;> decide
    · repeat (first | (split; decide) | decide)
      all_goals (repeat split) <;> decide
    · intro h0
      cases hv : valS l with
      | false => rfl
      | true =>
        have hw := val_word hv
        have f := word_facts hw
        rw [f.1, f.2.1, f.2.2.1, f.2.2.2.1, hw] at h0
        simp at h0
  refine ⟨?_, ?_, e, hk.1, hk.2.1⟩
  · intro h0
    rw [h0] at e
    unfold aloneS at e
    rw [hk.2.2 h0] at e; simp at e
  · intro h0; subst h0; cases h
end Go.Proofs.YtilfjpmeededmaaGreatDoor

namespace Go.Proofs.YtilfjpmeededmaaGreatDoor
theorem tok_at {l : Bs} (hz : skN l = 0) (hne : (tokS l).1 ≠ []) : 0 < l.length ∧ bracketB (l.headD 0).toNat = false ∧ sepB (l.headD 0) = false ∧ tokS l = (tkText l, skS (l.drop (tkLen l))) := by
  by_cases h : l.length = 0 ∨ bracketB (l.headD 0).toNat = true
  · unfold tokS at hne; rw [if_pos h] at hne; exact absurd rfl hne
  · have h0 : 0 < l.length := by
      rcases Nat.eq_zero_or_pos l.length with e | e
      · exact absurd (.inl e) h
      · exact e
    have hb : bracketB (l.headD 0).toNat = false := by
      rw [Bool.eq_false_iff]; exact fun e => h (.inr e)
    refine ⟨h0, hb, ?_, ?_⟩
    · unfold sepB; rw [sk_head hz h0, hb]; rfl
    · unfold tokS; rw [if_neg h]
theorem tk_head {l : Bs} (h0 : 0 < l.length) (ht : tkText l ≠ []) : (tkText l).headD 0 = l.headD 0 := by
  unfold tkText at ht ⊢
  cases he : endsOK l (tkLen l) with
  | false => rw [he] at ht; exact absurd rfl ht
  | true =>
    rw [if_pos rfl]
    cases l with
    | nil => simp at h0
    | cons c r =>
      have : tkLen (c :: r) = tkLen (c :: r) - 1 + 1 := by unfold tkLen; omega
      rw [this, List.take_succ_cons]; rfl
mutual
theorem one_sound : ∀ (f deep : Nat) (l : Bs) (t : Tr) (r : Bs), oneS f deep l = some (t, r) → scanS l = (scanS r).map (toks t ++ ·) ∧ Wf t ∧ deep + dep t ≤ 20 + (if deep ≤ 20 then 0 else deep - 20) ∧ skN r = 0 := by
  intro f
  match f with
  | 0 => intro deep l t r h; simp [oneS] at h
  | f + 1 =>
    intro deep l t r h
    rw [oneS] at h
    cases h40 : ((skS l).headD 0 == 40) with
    | true =>
      rw [h40, if_pos rfl] at h
      have e1 : skS l = 40 :: (skS l).drop 1 := head_cons (by decide) (by simpa using h40)
      obtain ⟨l2, hl2⟩ : ∃ l2, l2 = skS ((skS l).drop 1) := ⟨_, rfl⟩
      rw [← hl2] at h
      have hz2 : skN l2 = 0 := by rw [hl2]; exact sk_zero _
      cases hc : (headR (tokS l2).1 && decide (deep < 20)) with
      | false => rw [hc] at h; simp at h
      | true =>
        rw [hc, if_pos rfl] at h
        rw [Bool.and_eq_true, decide_eq_true_eq] at hc
        obtain ⟨⟨ops, r4⟩, ho, he⟩ := Option.map_eq_some_iff.mp h
        simp only [Prod.mk.injEq] at he
        obtain ⟨rfl, rfl⟩ := he
        have hne : (tokS l2).1 ≠ [] := by intro e; rw [e] at hc; have := hc.1; cases this
        obtain ⟨h0, hb, hs, et⟩ := tok_at hz2 hne
        rw [et] at ho hc hne ⊢
        simp only at ho hc hne ⊢
        have hk := head_kind (by rw [tk_head h0 hne]; exact hb) hc.1
        obtain ⟨s1, g⟩ := scan_tk h0 hs hk.2.1 hk.1
        obtain ⟨s2, w2, d2, q2⟩ := ops_sound f (deep + 1) _ ops r4 ho
        obtain ⟨q, rfl⟩ : ∃ q, r4 = 41 :: q := ⟨_, head_cons (by decide) q2⟩
        refine ⟨?_, .node rfl hk.1 g hk.2.2 w2, ?_, sk_zero _⟩
        · rw [← scan_sk l, e1, scan_br (.inl rfl), ← scan_sk ((skS l).drop 1), ← hl2, s1, s2]
          rw [scan_sk, scan_br (.inr rfl)]
          rw [toks, if_pos rfl]
          have k40 : kindS [40] = 1 := by decide
          have k41 : kindS [41] = 2 := by decide
          rw [k40, k41]
          show _ = (scanS q).map _
          cases scanS q <;> simp
        · rw [dep, if_pos rfl]
          have hd : deep < 20 := hc.2
          rw [if_pos (by omega)] at d2 ⊢
          omega
    | false =>
      rw [h40, if_neg Bool.false_ne_true] at h
      cases hc : atomS (tokS (skS l)).1 with
      | false => rw [hc] at h; simp at h
      | true =>
        rw [hc, if_pos rfl] at h
        simp only [Option.some.injEq, Prod.mk.injEq] at h
        obtain ⟨rfl, rfl⟩ := h
        have hne : (tokS (skS l)).1 ≠ [] := by intro e; rw [e] at hc; cases hc
        obtain ⟨h0, hb, hs, et⟩ := tok_at (sk_zero l) hne
        rw [et] at hc hne ⊢
        simp only at hc hne ⊢
        have hk := atom_kind (by rw [tk_head h0 hne]; exact hb) hc
        obtain ⟨s1, g⟩ := scan_tk h0 hs hk.2.1 hk.1
        refine ⟨?_, .leaf rfl hk.1 hk.2.2.2.1 hk.2.2.2.2 g hk.2.2.1, ?_, sk_zero _⟩
        · rw [← scan_sk l, s1, toks]
          cases scanS (skS ((skS l).drop (tkLen (skS l)))) <;> simp
        · rw [dep]; simp only [Bool.false_eq_true, if_false]
          split <;> omega
theorem ops_sound : ∀ (f deep : Nat) (l : Bs) (xs : List Tr) (r : Bs), opsR f deep l = some (xs, r) → scanS l = (scanS r).map (toksL xs ++ ·) ∧ WfL xs ∧ deep + depL xs ≤ 20 + (if deep ≤ 20 then 0 else deep - 20) ∧ r.headD 0 = 41 := by
  intro f
  match f with
  | 0 => intro deep l xs r h; simp [opsR] at h
  | f + 1 =>
    intro deep l xs r h
    rw [opsR] at h
    by_cases h0 : l.length = 0
    · rw [if_pos h0] at h; simp at h
    · rw [if_neg h0] at h
      cases h41 : (l.headD 0 == 41) with
      | true =>
        rw [h41, if_pos rfl] at h
        simp only [Option.some.injEq, Prod.mk.injEq] at h
        obtain ⟨rfl, rfl⟩ := h
        refine ⟨?_, .nil, ?_, by simpa using h41⟩
        · rw [toksL]; cases scanS l <;> simp
        · rw [depL]; split <;> omega
      | false =>
        rw [h41, if_neg Bool.false_ne_true] at h
        cases h1 : oneS f deep l with
        | none => rw [h1] at h; simp at h
        | some p =>
          obtain ⟨x, r1⟩ := p
          rw [h1] at h
          simp only at h
          obtain ⟨⟨ys, r2⟩, ho, he⟩ := Option.map_eq_some_iff.mp h
          simp only [Prod.mk.injEq] at he
          obtain ⟨rfl, rfl⟩ := he
          obtain ⟨s1, w1, d1, z1⟩ := one_sound f deep l x r1 h1
          obtain ⟨s2, w2, d2, q2⟩ := ops_sound f deep r1 ys r2 ho
          refine ⟨?_, .cons w1 w2, ?_, q2⟩
          · rw [s1, s2, toksL, map_map_app]
          · rw [depL]; omega
end
end Go.Proofs.YtilfjpmeededmaaGreatDoor

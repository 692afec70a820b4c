import Derived.Test.YtilfjpmeededmaaGreatDoorRefVZ
import Derived.Test.YtilfjpmeededmaaGreatDoorTyGZ
import Derived.Test.YtilfjpmeededmaaGreatDoorSliZ
import Derived.Deep.RegionWith
import Derived.Deep.CutRange
import Derived.Deep.DeepCutAuto
set_option linter.unusedVariables false
set_option linter.unusedSimpArgs false
namespace Go.Proofs.YtilfjpmeededmaaGreatDoor
open Go.RowKit
def Tr.kd : Tr → Int
  | .mk k _ _ _ => k
def Tr.tx : Tr → Bs
  | .mk _ t _ _ => t
def Tr.br : Tr → Bool
  | .mk _ _ b _ => b
def Tr.ops : Tr → List Tr
  | .mk _ _ _ o => o
mutual
def post : Tr → List Tr
  | .mk k tx br ops => posts ops ++ [.mk k tx br ops]
def posts : List Tr → List Tr
  | [] => []
  | t :: ts => post t ++ posts ts
end
def Lone (t : Tr) : Prop := t.br = false → t.ops = [] ∧ atomS t.tx = true ∧ t.kd = kindS t.tx
theorem post_last : ∀ t : Tr, (post t)[(post t).length - 1]? = some t
  | .mk k tx br ops => by rw [post]; simp
def NodeIs (w : World) (S : Nat → Prop) (cs : List Value) (lo : Nat) (l : List Tr) (ty : Nat → Int) (j : Nat) (t : Tr) : Prop := ∃ (v : Value) (is : List Nat),
  cs[4 * (lo + j)]? = some (.string (ofBs t.tx)) ∧ cs[4 * (lo + j) + 1]? = some (.bool t.br) ∧ cs[4 * (lo + j) + 2]? = some v ∧ cs[4 * (lo + j) + 3]? = some (.int .u8 (ty j)) ∧
  w.ownsRow 0 3 1 v t.ops.length (is.map fun j : Nat => Value.int .i64 (j : Int)) ∧ (∀ g, v.ownBlock = some g → S g) ∧ is.length = t.ops.length ∧ Lone t ∧
  ∀ (m q : Nat), is[m]? = some q → ∃ q', q = lo + q' ∧ q' < j ∧ l[q']? = t.ops[m]?
def Nodes (w : World) (S : Nat → Prop) (cs : List Value) (lo : Nat) (l : List Tr) (ty : Nat → Int) : Prop := ∀ (j : Nat) (t : Tr), l[j]? = some t → NodeIs w S cs lo l ty j t
theorem nodes_app {w : World} {S : Nat → Prop} {cs : List Value} {lo : Nat} {a b : List Tr} (ha : Nodes w S cs lo a (fun _ => 0)) (hb : Nodes w S cs (lo + a.length) b (fun _ => 0)) : Nodes w S cs lo (a ++ b) (fun _ => 0) := by
  intro j t hj
  rcases Nat.lt_or_ge j a.length with h | h
  · rw [List.getElem?_append_left h] at hj
    obtain ⟨v, is, h0, h1, h2, h3, h4, h5, h6, h7, h8⟩ := ha j t hj
    refine ⟨v, is, h0, h1, h2, h3, h4, h5, h6, h7, fun m q hq => ?_⟩
    obtain ⟨q', e, hl, hg⟩ := h8 m q hq
    exact ⟨q', e, hl, by rw [List.getElem?_append_left (by omega)]; exact hg⟩
  · rw [List.getElem?_append_right h] at hj
    obtain ⟨v, is, h0, h1, h2, h3, h4, h5, h6, h7, h8⟩ := hb _ t hj
    have e : lo + a.length + (j - a.length) = lo + j := by omega
    rw [e] at h0 h1 h2 h3
    refine ⟨v, is, h0, h1, h2, h3, h4, h5, h6, h7, fun m q hq => ?_⟩
    obtain ⟨q', e, hl, hg⟩ := h8 m q hq
    exact ⟨a.length + q', by omega, by omega, by rw [List.getElem?_append_right (by omega), show a.length + q' - a.length = q' by omega]; exact hg⟩
mutual
theorem Rep.nodes {w : World} {S : Nat → Prop} {cs : List Value} : ∀ {lo i : Nat} {t : Tr}, Rep w S cs lo i t → Nodes w S cs lo (post t) (fun _ => 0) ∧ lo + (post t).length = i + 1
  | lo, i, .mk k tx br ops, .mk (v := v) (is := is) a b c c3 d e f l _ => by
    obtain ⟨h1, h2, h3, h4⟩ := RepL.nodes f
    rw [post]
    refine ⟨fun j t hj => ?_, by rw [List.length_append, List.length_singleton]; omega⟩
    rcases Nat.lt_or_ge j (posts ops).length with h | h
    · rw [List.getElem?_append_left h] at hj
      obtain ⟨v, is, q0, q1, q2, q3, q4, q5, q6, q7, q8⟩ := h1 j t hj
      refine ⟨v, is, q0, q1, q2, q3, q4, q5, q6, q7, fun m q hq => ?_⟩
      obtain ⟨q', e, hl, hg⟩ := q8 m q hq
      exact ⟨q', e, hl, by rw [List.getElem?_append_left (by omega)]; exact hg⟩
    · rw [List.getElem?_append_right h] at hj
      have h0 : j - (posts ops).length = 0 := by have := (List.getElem?_eq_some_iff.mp hj).1; simp at this; omega
      rw [h0] at hj
      simp at hj
      subst hj
      have hi : 4 * (lo + j) = 4 * i := by omega
      refine ⟨v, is, by rw [hi]; exact a, by rw [hi]; exact b, by rw [hi]; exact c, by rw [hi]; exact c3, d, e, h3, l, fun m q hq => ?_⟩
      obtain ⟨q', e', hl, hg⟩ := h4 m q hq
      exact ⟨q', e', by omega, by rw [List.getElem?_append_left hl]; exact hg⟩
theorem RepL.nodes {w : World} {S : Nat → Prop} {cs : List Value} : ∀ {lo hi : Nat} {is : List Nat} {ts : List Tr}, RepL w S cs lo hi is ts → Nodes w S cs lo (posts ts) (fun _ => 0) ∧ lo + (posts ts).length = hi ∧ is.length = ts.length ∧ ∀ (m q : Nat), is[m]? = some q → ∃ q', q = lo + q' ∧ q' < (posts ts).length ∧ (posts ts)[q']? = ts[m]?
  | lo, _, _, _, .nil => ⟨fun j t h => by simp [posts] at h, by simp [posts], rfl, fun m q h => by simp at h⟩
  | lo, hi, _, _, .cons (i := i) (t := t) (ts := ts) a b => by
    obtain ⟨h1, h2⟩ := Rep.nodes a
    obtain ⟨h3, h4, h5, h6⟩ := RepL.nodes b
    rw [posts]
    have e : lo + (post t).length = i + 1 := h2
    refine ⟨nodes_app h1 (by rw [e]; exact h3), by rw [List.length_append]; omega, by simp [h5], fun m q hq => ?_⟩
    cases m with
    | zero =>
      simp at hq
      subst hq
      have hp := post_last t
      have hpl : 0 < (post t).length := List.length_pos_of_mem (List.mem_of_getElem? hp)
      exact ⟨(post t).length - 1, by omega, by rw [List.length_append]; omega, by rw [List.getElem?_append_left (by omega), hp]; rfl⟩
    | succ m =>
      obtain ⟨q', e', hl, hg⟩ := h6 m q (by simpa using hq)
      refine ⟨(post t).length + q', by omega, by rw [List.length_append]; omega, ?_⟩
      rw [List.getElem?_append_right (by omega), show (post t).length + q' - (post t).length = q' by omega, hg]
      simp
end
mutual
theorem Rep.texts {w : World} {S : Nat → Prop} {cs : List Value} : ∀ {lo i : Nat} {t : Tr}, Rep w S cs lo i t → ∀ y ∈ post t, y.tx.length ≤ maxLen
  | lo, i, .mk k tx br ops, .mk a b c c3 d e f l z, y, hy => by
    rw [post] at hy
    rcases List.mem_append.mp hy with h | h
    · exact RepL.texts f y h
    · rw [List.mem_singleton.mp h]; exact z
theorem RepL.texts {w : World} {S : Nat → Prop} {cs : List Value} : ∀ {lo hi : Nat} {is : List Nat} {ts : List Tr}, RepL w S cs lo hi is ts → ∀ y ∈ posts ts, y.tx.length ≤ maxLen
  | _, _, _, _, .nil, y, hy => by simp [posts] at hy
  | _, _, _, _, .cons a b, y, hy => by
    rw [posts] at hy
    rcases List.mem_append.mp hy with h | h
    · exact Rep.texts a y h
    · exact RepL.texts b y h
end
mutual
theorem post_err (atoi : Bs → Int) (ps : Sc) (fns : List Fn) : ∀ (t : Tr) (pre : List Tr) (s : Tr) (suf : List Tr) (n : Int), (∀ x ∈ post t, Lone x) → post t = pre ++ s :: suf → (∀ p ∈ pre, ∃ x, typS atoi ps fns p = .ok x) → typS atoi ps fns s = .error n → typS atoi ps fns t = .error n
  | .mk k tx br ops, pre, s, suf, n, hL, he, hp, hs => by
    rw [post] at he
    by_cases h0 : suf = []
    · subst h0
      have := (List.append_inj' he rfl).2
      simp at this
      rw [this]; exact hs
    · obtain ⟨suf', hsuf⟩ : ∃ suf', posts ops = pre ++ s :: suf' := by
        refine ⟨suf.dropLast, ?_⟩
        have h1 := congrArg List.dropLast he
        rw [List.dropLast_concat, List.dropLast_append_of_ne_nil (by simp), List.dropLast_cons_of_ne_nil h0] at h1
        exact h1
      have hw := posts_err atoi ps fns ops pre s suf' n (fun x hx => hL x (by rw [post]; exact List.mem_append_left _ hx)) hsuf hp hs
      cases br with
      | false =>
        have := (hL (.mk k tx false ops) (by rw [post]; simp) rfl).1
        rw [show (Tr.mk k tx false ops).ops = ops from rfl] at this
        subst this
        simp [posts] at hsuf
      | true => rw [typS, if_pos rfl, hw]; rfl
theorem posts_err (atoi : Bs → Int) (ps : Sc) (fns : List Fn) : ∀ (ts : List Tr) (pre : List Tr) (s : Tr) (suf : List Tr) (n : Int), (∀ x ∈ posts ts, Lone x) → posts ts = pre ++ s :: suf → (∀ p ∈ pre, ∃ x, typS atoi ps fns p = .ok x) → typS atoi ps fns s = .error n → typsS atoi ps fns ts = .error n
  | [], pre, s, suf, n, hL, he, hp, hs => by simp [posts] at he
  | t :: ts, pre, s, suf, n, hL, he, hp, hs => by
    rw [posts] at he hL
    rcases List.append_eq_append_iff.mp he with ⟨a, h1, h2⟩ | ⟨a, h1, h2⟩
    · have hok : ∃ x, typS atoi ps fns t = .ok x := hp t (by rw [h1]; exact List.mem_append_left _ (List.mem_of_getElem? (post_last t)))
      obtain ⟨x, hx⟩ := hok
      have := posts_err atoi ps fns ts a s suf n (fun x hx => hL x (List.mem_append_right _ hx)) h2 (fun p hp' => hp p (by rw [h1]; exact List.mem_append_right _ hp')) hs
      rw [typsS, hx, this]
    · cases a with
      | nil =>
        rw [List.append_nil] at h1
        rw [List.nil_append] at h2
        have hok : ∃ x, typS atoi ps fns t = .ok x := hp t (by rw [← h1]; exact List.mem_of_getElem? (post_last t))
        obtain ⟨x, hx⟩ := hok
        have := posts_err atoi ps fns ts [] s suf n (fun x hx => hL x (List.mem_append_right _ hx)) h2.symm (fun p hp' => by simp at hp') hs
        rw [typsS, hx, this]
      | cons b a =>
        rw [List.cons_append, List.cons.injEq] at h2
        have := post_err atoi ps fns t pre s a n (fun x hx => hL x (List.mem_append_left _ hx)) (by rw [h1, h2.1]) hp hs
        rw [typsS, this]
end
def fszS (fns : List Fn) (t : Tr) : Int := if t.br && !builtS t.tx then (match findS fns t.tx with | none => 0 | some i => match fns[i]? with | none => 0 | some f => f.body.size) else 0
def sumI : List Int → Int
  | [] => 0
  | x :: xs => x + sumI xs
theorem sumI_app (a b : List Int) : sumI (a ++ b) = sumI a + sumI b := by
  induction a with
  | nil => simp [sumI]
  | cons x xs ih => simp [sumI, ih]; omega
theorem single_size (atoi : Bs → Int) (k : Int) (tx : Bs) : (singleS atoi k tx).size = 1 := by
  unfold singleS; repeat' split
  all_goals rfl
mutual
theorem post_size (atoi : Bs → Int) (ps : Sc) (fns : List Fn) : ∀ (t : Tr) (x : Ex), (∀ y ∈ post t, Lone y) → typS atoi ps fns t = .ok x → x.size = (post t).length + sumI ((post t).map (fszS fns))
  | .mk k tx br ops, x, hL, hx => by
    rw [post] at hL ⊢
    rw [List.map_append, sumI_app, List.length_append]
    cases br with
    | false =>
      have h0 := (hL (.mk k tx false ops) (by simp) rfl).1
      rw [show (Tr.mk k tx false ops).ops = ops from rfl] at h0
      subst h0
      rw [typS, if_neg Bool.false_ne_true] at hx
      have hs : x.size = 1 := by
        split at hx
        · unfold colT at hx
          split at hx
          · cases hx
          · split at hx
            · cases hx
            · cases hx; rfl
        · split at hx
          · unfold parT at hx
            split at hx
            · cases hx
            · cases hx; rfl
          · cases hx; exact single_size _ _ _
      rw [hs]; simp [posts, sumI, fszS, Tr.br]
    | true =>
      rw [typS, if_pos rfl] at hx
      cases hts : typsS atoi ps fns ops with
      | error n => rw [hts] at hx; cases hx
      | ok es =>
        rw [hts] at hx
        have hz := posts_size atoi ps fns ops es (fun y hy => hL y (List.mem_append_left _ hy)) hts
        have hx' : finS fns tx es = .ok x := hx
        unfold finS at hx'
        cases hb : builtS tx with
        | true =>
          rw [hb, if_pos rfl] at hx'
          split at hx'
          · cases hx'
          · cases hx'
            simp [Ex.size, sumI, fszS, Tr.br, Tr.tx, hb]; omega
        | false =>
          rw [hb, if_neg Bool.false_ne_true] at hx'
          unfold CallS at hx'
          split at hx'
          · cases hx'
          · next i hi =>
            split at hx'
            · cases hx'
            · next f hf =>
              split at hx'
              · cases hx'
                simp [Ex.size, sumI, fszS, Tr.br, Tr.tx, hb, hi, hf]; omega
              · cases hx'
theorem posts_size (atoi : Bs → Int) (ps : Sc) (fns : List Fn) : ∀ (ts : List Tr) (es : List Ex), (∀ y ∈ posts ts, Lone y) → typsS atoi ps fns ts = .ok es → sumSize es = (posts ts).length + sumI ((posts ts).map (fszS fns))
  | [], es, hL, h => by
    rw [typsS] at h; cases h; simp [posts, sumSize, sumI]
  | t :: ts, es, hL, h => by
    rw [posts] at hL ⊢
    rw [typsS] at h
    split at h
    · cases h
    · next x hx =>
      split at h
      · cases h
      · next xs hxs =>
        cases h
        have h1 := post_size atoi ps fns t x (fun y hy => hL y (List.mem_append_left _ hy)) hx
        have h2 := posts_size atoi ps fns ts xs (fun y hy => hL y (List.mem_append_right _ hy)) hxs
        rw [List.map_append, sumI_app, List.length_append, sumSize]; omega
end
end Go.Proofs.YtilfjpmeededmaaGreatDoor

namespace Go.Proofs.YtilfjpmeededmaaGreatDoor
open Go.RowKit
def tyLet (c : UInt8) : Bool := c == 110 || c == 116 || c == 98
set_option maxHeartbeats 800000 in
set_option maxRecDepth 100000 in
theorem refTypes_any (s : ByteArray) (w : World) (hs : s.size ≤ maxLen) :
    Calls Tryz.prog 267 #[.string s] w fun e w' => e = .returned (.bool (s.toList.all tyLet)) ∧ w' = w := by
  unfold maxLen at hs
  go_enter Tryz.func267, Tryz.ntmps267
  go_wp2_with fail
  go_loop [3] (fun i => ∃ k : Nat, k ≤ s.size ∧ i = .int .i64 k ∧ Hid (s.toList.all tyLet = (s.toList.drop k).all tyLet)) (fun i => s.size - (intOf i).toNat)
  case atStart => exact ⟨0, Nat.zero_le _, rfl, rfl⟩
  case round =>
    obtain ⟨k, hk, rfl, HA⟩ := hrel
    by_cases hlt : k < s.size
    · have HS : Hid ((s.toList.drop k).all tyLet = (tyLet s[k] && (s.toList.drop (k + 1)).all tyLet)) := all_drop tyLet s k hlt
      have HD : Hid (tyLet s[k] = (decide ((s[k].toNat : Int) = 110) || decide ((s[k].toNat : Int) = 116) || decide ((s[k].toNat : Int) = 98))) := by
        unfold tyLet
        have e : ∀ n : Nat, n < 256 → (s[k] == UInt8.ofNat n) = decide ((s[k].toNat : Int) = n) := by
          intro n hn
          rw [Bool.eq_iff_iff]; simp only [beq_iff_eq, decide_eq_true_eq]
          constructor
          · intro h; rw [h]; simp; omega
          · intro h; apply UInt8.toNat_inj.mp; simp; omega
        have e1 := e 110 (by omega); have e2 := e 116 (by omega); have e3 := e 98 (by omega)
        rw [Hid]; show (s[k] == UInt8.ofNat 110 || s[k] == UInt8.ofNat 116 || s[k] == UInt8.ofNat 98) = _; rw [e1, e2, e3]; rfl
      by_cases h1 : (s[k].toNat : Int) = 110
      · go_wp2_with fail
        go_round
        case rel => exact ⟨k + 1, by omega, by go_num, by rw [Hid, HA.out, HS.out, HD.out, decide_eq_true h1]; rfl⟩
        case measure => simp [intOf]; omega
      · by_cases h2 : (s[k].toNat : Int) = 116
        · go_wp2_with fail
          go_round
          case rel => exact ⟨k + 1, by omega, by go_num, by rw [Hid, HA.out, HS.out, HD.out, decide_eq_false h1, decide_eq_true h2]; rfl⟩
          case measure => simp [intOf]; omega
        · by_cases h3 : (s[k].toNat : Int) = 98
          · go_wp2_with fail
            go_round
            case rel => exact ⟨k + 1, by omega, by go_num, by rw [Hid, HA.out, HS.out, HD.out, decide_eq_false h1, decide_eq_false h2, decide_eq_true h3]; rfl⟩
            case measure => simp [intOf]; omega
          · have HF : Hid (tyLet s[k] = false) := by rw [Hid, HD.out, decide_eq_false h1, decide_eq_false h2, decide_eq_false h3]; rfl
            have b1 : ((s[k].toNat : Int) != 110) = true := by simpa using h1
            have b2 : ((s[k].toNat : Int) != 116) = true := by simpa using h2
            have b3 : ((s[k].toNat : Int) != 98) = true := by simpa using h3
            clear h1 h2 h3
            go_wp2_with fail
            go_ret
            exact ⟨ret_bool (by rw [HA.out, HS.out, HF.out]; rfl), rfl⟩
    · have HE : Hid ((s.toList.drop k).all tyLet = true) := all_end tyLet s k (by omega)
      go_wp2_with fail
      go_ret
      exact ⟨ret_bool (by rw [HA.out, HE.out]), rfl⟩
def everyS (l : Bs) (c : UInt8) : Bool := l.all (· == c) && !l.isEmpty
set_option maxHeartbeats 800000 in
set_option maxRecDepth 100000 in
theorem refEvery_any (s : ByteArray) (c : UInt8) (w : World) (hs : s.size ≤ maxLen) :
    Calls Tryz.prog 390 #[.string s, .int .u8 c.toNat] w fun e w' => e = .returned (.bool (everyS s.toList c)) ∧ w' = w := by
  unfold maxLen at hs
  have HV : Hid (everyS s.toList c = (s.toList.all (· == c) && !s.toList.isEmpty)) := rfl
  go_enter Tryz.func390, Tryz.ntmps390
  go_wp2_with fail
  go_loop [5] (fun i => ∃ k : Nat, k ≤ s.size ∧ i = .int .i64 k ∧ Hid (s.toList.all (· == c) = (s.toList.drop k).all (· == c))) (fun i => s.size - (intOf i).toNat)
  case atStart => exact ⟨0, Nat.zero_le _, rfl, rfl⟩
  case round =>
    obtain ⟨k, hk, rfl, HA⟩ := hrel
    by_cases hlt : k < s.size
    · have HS : Hid ((s.toList.drop k).all (· == c) = ((s[k] == c) && (s.toList.drop (k + 1)).all (· == c))) := all_drop (· == c) s k hlt
      have hE : Hid (s.toList.isEmpty = false) := isEmpty_f s (by omega)
      by_cases h1 : (s[k].toNat : Int) = c.toNat
      · have h2 : Hid ((s[k] == c) = true) := by rw [Hid, beq_iff_eq]; apply UInt8.toNat_inj.mp; omega
        go_wp2_with fail
        go_round
        case rel => exact ⟨k + 1, by omega, by go_num, by rw [Hid, HA.out, HS.out, h2.out]; rfl⟩
        case measure => simp [intOf]; omega
      · have h2 : Hid ((s[k] == c) = false) := by
          rw [Hid, beq_eq_false_iff_ne]; intro e; rw [e] at h1; exact h1 rfl
        have h3 : ((s[k].toNat : Int) != (c.toNat : Int)) = true := by simpa using h1
        clear h1
        go_wp2_with fail
        go_ret
        exact ⟨ret_bool (by rw [HV.out, HA.out, HS.out, h2.out]; rfl), rfl⟩
    · have HE : Hid ((s.toList.drop k).all (· == c) = true) := all_end (· == c) s k (by omega)
      go_wp2_with fail
      go_ret
      exact ⟨ret_bool (by rw [HV.out, HA.out, HE.out]; rfl), rfl⟩
end Go.Proofs.YtilfjpmeededmaaGreatDoor

namespace Go.Proofs.YtilfjpmeededmaaGreatDoor
open Go.RowKit
def alikeL (l : Bs) : Bool := match l with | [a, b] => a == b | _ => false
def ifL (l : Bs) : Int := match l with | [c, a, b] => if c = 98 ∧ a = b then (a.toNat : Int) else 0 | _ => 0
def noteL (l : Bs) : Int := match l with | [a] => (a.toNat : Int) | _ => 0
def litL (b : Bool) (n : Int) : Int := if b then n else 0
def evN (l : Bs) (n : Int) : Bool := if n = 98 then everyS l 98 else everyS l 116
def hdT (h l : Bs) : Int :=
  if h = [43] ∨ h = [45] ∨ h = [42] ∨ h = [47] then litL (l == [110, 110]) 110
  else if h = [61] ∨ h = [60] ∨ h = [60, 61] then litL (alikeL l) 98
  else if h = [97, 110, 100] ∨ h = [111, 114] then litL (everyS l 98) 98
  else if h = [110, 111, 116] then litL (l == [98]) 98
  else if h = [105, 115, 110, 117, 108, 108] then litL ((l.length : Int) == 1) 98
  else if h = [105, 102] then ifL l
  else if h = [108, 101, 110] then litL (l == [116]) 110
  else if h = [99, 97, 116] then litL (everyS l 116) 116
  else if h = [110, 111, 116, 101] then noteL l else 0
theorem below_dN (w : World) (n : Nat) : Below w.heap.size w (w.drewN n) := ⟨rfl, rfl, rfl, Nat.le_refl _, fun _ _ => rfl⟩
theorem ret_u8 {a b : Int} (h : a = b) : Ending.returned (.int .u8 a) = .returned (.int .u8 b) := by rw [h]
theorem size2 {s : ByteArray} (h : s.size = 2) : ∃ a b, s.toList = [a, b] := by
  have hl : s.toList.length = 2 := by rw [toList_length]; exact h
  match s.toList, hl with
  | [a, b], _ => exact ⟨a, b, rfl⟩
theorem size3 {s : ByteArray} (h : s.size = 3) : ∃ a b c, s.toList = [a, b, c] := by
  have hl : s.toList.length = 3 := by rw [toList_length]; exact h
  match s.toList, hl with
  | [a, b, c], _ => exact ⟨a, b, c, rfl⟩
set_option maxHeartbeats 8000000 in
set_option maxRecDepth 100000 in
theorem refHeadType_any (h : Bs) (hb : builtS h = true) (s : ByteArray) (w : World) (hs : s.size ≤ maxLen) :
    Calls Tryz.prog 375 #[.string ⟨h.toArray⟩, .string s] w fun e w' => e = .returned (.int .u8 (hdT h s.toList)) ∧ Below w.heap.size w w' := by
  have HE : ∀ (n : Int) (x : World), (n = 98 ∨ n = 116) → Calls Tryz.prog 390 #[.string s, .int .u8 n] x fun e w' => e = .returned (.bool (evN s.toList n)) ∧ w' = x := by
    rintro n x (rfl | rfl)
    · exact refEvery_any s 98 x hs
    · exact refEvery_any s 116 x hs
  have hbs : evN s.toList 98 = everyS s.toList 98 := rfl
  have hts : evN s.toList 116 = everyS s.toList 116 := rfl
  obtain ⟨bs, hb1⟩ : ∃ b, b = everyS s.toList 98 := ⟨_, rfl⟩
  obtain ⟨ts, ht1⟩ : ∃ b, b = everyS s.toList 116 := ⟨_, rfl⟩
  rw [← hb1] at hbs
  rw [← ht1] at hts
  have HBS : Hid (bs = everyS s.toList 98) := hb1
  have HTS : Hid (ts = everyS s.toList 116) := ht1
  clear hb1 ht1
  unfold maxLen at hs
  go_enter Tryz.func375, Tryz.ntmps375
  go_upto_region 1 with fail
  go_cut [5] (fun s5 wx => ∃ al : Bool, s5 = .bool al ∧ Hid (al = alikeL s.toList) ∧ Below w.heap.size w wx)
  case first =>
    by_cases h2 : s.size = 2
    · have HA : Hid (((s[0].toNat : Int) == (s[1].toNat : Int)) = alikeL s.toList) := by
        obtain ⟨a, b, hl⟩ := size2 h2
        have g0 : s[0] = a := by have := toList_get s 0 (by omega); simp only [hl] at this; exact this.symm
        have g1 : s[1] = b := by have := toList_get s 1 (by omega); simp only [hl] at this; exact this.symm
        rw [Hid, hl, g0, g1, alikeL, Bool.eq_iff_iff]; simp only [beq_iff_eq]
        exact ⟨fun e => UInt8.toNat_inj.mp (by omega), fun e => by rw [e]⟩
      go_region
      all_goals (go_wp2_with fail; go_meet)
      all_goals exact ⟨_, rfl, HA, by first | exact below_dN _ _ | exact Below.refl _ _ | exact (Below.refl _ _).drew⟩
    · have HA : Hid (false = alikeL s.toList) := by
        have hn : s.toList.length ≠ 2 := by rw [toList_length]; exact h2
        rw [Hid]
        match s.toList, hn with
        | [], _ => rfl
        | [_], _ => rfl
        | [_, _], hn => exact absurd rfl hn
        | _ :: _ :: _ :: _, _ => rfl
      have h3 : ((s.size : Int) == 2) = false := by simp; omega
      go_region
      all_goals (go_wp2_with fail; go_meet)
      all_goals exact ⟨_, rfl, HA, by first | exact below_dN _ _ | exact Below.refl _ _ | exact (Below.refl _ _).drew⟩
  case rest =>
    obtain ⟨al, rfl, HAL, hB⟩ := hcut
    simp only [builtS, builtIns, List.any_cons, List.any_nil, Bool.or_eq_true, beq_iff_eq, Bool.or_false] at hb
    rcases hb with rfl | rfl | rfl | rfl | rfl | rfl | rfl | rfl | rfl | rfl | rfl | rfl | rfl | rfl | rfl
    · go_wp2_with (go_at_call 390; refine (HE _ _ (by decide)).mono ?_; rintro e w2 ⟨rfl, rfl⟩)
      all_goals (try (go_region; all_goals (try go_wp2_with fail)))
      all_goals go_ret
      all_goals (refine ⟨ret_u8 ?_, by first | exact hB | exact hB.drew | exact hB.trans (below_dN _ _)⟩; have e1 := HBS.out; have e2 := HTS.out; have e3 := HAL.out; simp_all [hdT, litL])
    · go_wp2_with (go_at_call 390; refine (HE _ _ (by decide)).mono ?_; rintro e w2 ⟨rfl, rfl⟩)
      all_goals (try (go_region; all_goals (try go_wp2_with fail)))
      all_goals go_ret
      all_goals (refine ⟨ret_u8 ?_, by first | exact hB | exact hB.drew | exact hB.trans (below_dN _ _)⟩; have e1 := HBS.out; have e2 := HTS.out; have e3 := HAL.out; simp_all [hdT, litL])
    · go_wp2_with (go_at_call 390; refine (HE _ _ (by decide)).mono ?_; rintro e w2 ⟨rfl, rfl⟩)
      all_goals (try (go_region; all_goals (try go_wp2_with fail)))
      all_goals go_ret
      all_goals (refine ⟨ret_u8 ?_, by first | exact hB | exact hB.drew | exact hB.trans (below_dN _ _)⟩; have e1 := HBS.out; have e2 := HTS.out; have e3 := HAL.out; simp_all [hdT, litL])
    · go_wp2_with (go_at_call 390; refine (HE _ _ (by decide)).mono ?_; rintro e w2 ⟨rfl, rfl⟩)
      all_goals (try (go_region; all_goals (try go_wp2_with fail)))
      all_goals go_ret
      all_goals (refine ⟨ret_u8 ?_, by first | exact hB | exact hB.drew | exact hB.trans (below_dN _ _)⟩; have e1 := HBS.out; have e2 := HTS.out; have e3 := HAL.out; simp_all [hdT, litL])
    · go_wp2_with (go_at_call 390; refine (HE _ _ (by decide)).mono ?_; rintro e w2 ⟨rfl, rfl⟩)
      all_goals (try (go_region; all_goals (try go_wp2_with fail)))
      all_goals go_ret
      all_goals (refine ⟨ret_u8 ?_, by first | exact hB | exact hB.drew | exact hB.trans (below_dN _ _)⟩; have e1 := HBS.out; have e2 := HTS.out; have e3 := HAL.out; simp_all [hdT, litL])
    · go_wp2_with (go_at_call 390; refine (HE _ _ (by decide)).mono ?_; rintro e w2 ⟨rfl, rfl⟩)
      all_goals (try (go_region; all_goals (try go_wp2_with fail)))
      all_goals go_ret
      all_goals (refine ⟨ret_u8 ?_, by first | exact hB | exact hB.drew | exact hB.trans (below_dN _ _)⟩; have e1 := HBS.out; have e2 := HTS.out; have e3 := HAL.out; simp_all [hdT, litL])
    · go_wp2_with (go_at_call 390; refine (HE _ _ (by decide)).mono ?_; rintro e w2 ⟨rfl, rfl⟩)
      all_goals (try (go_region; all_goals (try go_wp2_with fail)))
      all_goals go_ret
      all_goals (refine ⟨ret_u8 ?_, by first | exact hB | exact hB.drew | exact hB.trans (below_dN _ _)⟩; have e1 := HBS.out; have e2 := HTS.out; have e3 := HAL.out; simp_all [hdT, litL])
    · go_wp2_with (go_at_call 390; refine (HE _ _ (by decide)).mono ?_; rintro e w2 ⟨rfl, rfl⟩)
      all_goals (try (go_region; all_goals (try go_wp2_with fail)))
      all_goals go_ret
      all_goals (refine ⟨ret_u8 ?_, by first | exact hB | exact hB.drew | exact hB.trans (below_dN _ _)⟩; have e1 := HBS.out; have e2 := HTS.out; have e3 := HAL.out; simp_all [hdT, litL])
    · go_wp2_with (go_at_call 390; refine (HE _ _ (by decide)).mono ?_; rintro e w2 ⟨rfl, rfl⟩)
      all_goals (try (go_region; all_goals (try go_wp2_with fail)))
      all_goals go_ret
      all_goals (refine ⟨ret_u8 ?_, by first | exact hB | exact hB.drew | exact hB.trans (below_dN _ _)⟩; have e1 := HBS.out; have e2 := HTS.out; have e3 := HAL.out; simp_all [hdT, litL])
    · go_wp2_with (go_at_call 390; refine (HE _ _ (by decide)).mono ?_; rintro e w2 ⟨rfl, rfl⟩)
      all_goals (try (go_region; all_goals (try go_wp2_with fail)))
      all_goals go_ret
      all_goals (refine ⟨ret_u8 ?_, by first | exact hB | exact hB.drew | exact hB.trans (below_dN _ _)⟩; have e1 := HBS.out; have e2 := HTS.out; have e3 := HAL.out; simp_all [hdT, litL])
    · have hl1 : s.toList.length = s.size := toList_length s
      go_wp2_with (go_at_call 390; refine (HE _ _ (by decide)).mono ?_; rintro e w2 ⟨rfl, rfl⟩)
      all_goals (try (go_region; all_goals (try go_wp2_with fail)))
      all_goals go_ret
      all_goals (refine ⟨ret_u8 ?_, by first | exact hB | exact hB.drew | exact hB.trans (below_dN _ _)⟩; have e1 := HBS.out; have e2 := HTS.out; have e3 := HAL.out; simp_all [hdT, litL])
    · by_cases h3 : s.size = 3
      · obtain ⟨a, b, c, hl⟩ := size3 h3
        have g0 : s[0] = a := by have := toList_get s 0 (by omega); simp only [hl] at this; exact this.symm
        have g1 : s[1] = b := by have := toList_get s 1 (by omega); simp only [hl] at this; exact this.symm
        have g2 : s[2] = c := by have := toList_get s 2 (by omega); simp only [hl] at this; exact this.symm
        have HL : Hid (hdT [105, 102] s.toList = if a = 98 ∧ b = c then (b.toNat : Int) else 0) := by rw [Hid, hl]; rfl
        clear hl
        by_cases ha : a = 98
        · have ha' : ((a.toNat : Int) == 98) = true := by rw [ha]; rfl
          by_cases hbc : b = c
          · have hbc' : ((b.toNat : Int) == (c.toNat : Int)) = true := by rw [hbc]; simp
            have HL2 : Hid (hdT [105, 102] s.toList = (b.toNat : Int)) := by rw [Hid, HL.out, if_pos ⟨ha, hbc⟩]
            clear HL ha hbc
            go_wp2_with (go_at_call 390; refine (HE _ _ (by decide)).mono ?_; rintro e w2 ⟨rfl, rfl⟩)
            all_goals (try (go_region; all_goals (try go_wp2_with fail)))
            all_goals go_ret
            all_goals exact ⟨ret_u8 HL2.out.symm, by first | exact hB | exact hB.drew | exact hB.trans (below_dN _ _)⟩
          · have hbc' : ((b.toNat : Int) == (c.toNat : Int)) = false := by
              rw [beq_eq_false_iff_ne]; intro e; exact hbc (UInt8.toNat_inj.mp (by omega))
            have HL2 : Hid (hdT [105, 102] s.toList = 0) := by rw [Hid, HL.out, if_neg (fun h => hbc h.2)]
            clear HL ha hbc
            go_wp2_with (go_at_call 390; refine (HE _ _ (by decide)).mono ?_; rintro e w2 ⟨rfl, rfl⟩)
            all_goals (try (go_region; all_goals (try go_wp2_with fail)))
            all_goals go_ret
            all_goals exact ⟨ret_u8 HL2.out.symm, by first | exact hB | exact hB.drew | exact hB.trans (below_dN _ _)⟩
        · have ha' : ((a.toNat : Int) == 98) = false := by
            rw [beq_eq_false_iff_ne]; intro e; exact ha (UInt8.toNat_inj.mp (by simpa using Int.ofNat.inj e))
          have HL2 : Hid (hdT [105, 102] s.toList = 0) := by rw [Hid, HL.out, if_neg (fun h => ha h.1)]
          clear HL ha
          go_wp2_with (go_at_call 390; refine (HE _ _ (by decide)).mono ?_; rintro e w2 ⟨rfl, rfl⟩)
          all_goals (try (go_region; all_goals (try go_wp2_with fail)))
          all_goals go_ret
          all_goals exact ⟨ret_u8 HL2.out.symm, by first | exact hB | exact hB.drew | exact hB.trans (below_dN _ _)⟩
      · have h3' : ((s.size : Int) == 3) = false := by simp; omega
        have HL2 : Hid (hdT [105, 102] s.toList = 0) := by
          rw [Hid]; show ifL s.toList = 0
          have hn : s.toList.length ≠ 3 := by rw [toList_length]; exact h3
          match s.toList, hn with
          | [], _ => rfl
          | [_], _ => rfl
          | [_, _], _ => rfl
          | [_, _, _], hn => exact absurd rfl hn
          | _ :: _ :: _ :: _ :: _, _ => rfl
        clear h3
        go_wp2_with (go_at_call 390; refine (HE _ _ (by decide)).mono ?_; rintro e w2 ⟨rfl, rfl⟩)
        all_goals (try (go_region; all_goals (try go_wp2_with fail)))
        all_goals go_ret
        all_goals exact ⟨ret_u8 HL2.out.symm, by first | exact hB | exact hB.drew | exact hB.trans (below_dN _ _)⟩
    · go_wp2_with (go_at_call 390; refine (HE _ _ (by decide)).mono ?_; rintro e w2 ⟨rfl, rfl⟩)
      all_goals (try (go_region; all_goals (try go_wp2_with fail)))
      all_goals go_ret
      all_goals (refine ⟨ret_u8 ?_, by first | exact hB | exact hB.drew | exact hB.trans (below_dN _ _)⟩; have e1 := HBS.out; have e2 := HTS.out; have e3 := HAL.out; simp_all [hdT, litL])
    · go_wp2_with (go_at_call 390; refine (HE _ _ (by decide)).mono ?_; rintro e w2 ⟨rfl, rfl⟩)
      all_goals (try (go_region; all_goals (try go_wp2_with fail)))
      all_goals go_ret
      all_goals (refine ⟨ret_u8 ?_, by first | exact hB | exact hB.drew | exact hB.trans (below_dN _ _)⟩; have e1 := HBS.out; have e2 := HTS.out; have e3 := HAL.out; simp_all [hdT, litL])
    · by_cases h1 : s.size = 1
      · have HL2 : Hid (hdT [110, 111, 116, 101] s.toList = (s[0].toNat : Int)) := by
          have hl : s.toList = [s[0]] := by
            have := drop_cons s 0 (by omega)
            rw [List.drop_zero] at this
            rw [this, List.drop_of_length_le (by rw [toList_length]; omega)]
          rw [Hid, hl]; rfl
        go_wp2_with (go_at_call 390; refine (HE _ _ (by decide)).mono ?_; rintro e w2 ⟨rfl, rfl⟩)
        all_goals (try (go_region; all_goals (try go_wp2_with fail)))
        all_goals go_ret
        all_goals exact ⟨ret_u8 HL2.out.symm, by first | exact hB | exact hB.drew | exact hB.trans (below_dN _ _)⟩
      · have h1' : ((s.size : Int) == 1) = false := by simp; omega
        have HL2 : Hid (hdT [110, 111, 116, 101] s.toList = 0) := by
          rw [Hid]; show noteL s.toList = 0
          have hn : s.toList.length ≠ 1 := by rw [toList_length]; exact h1
          match s.toList, hn with
          | [], _ => rfl
          | [_], hn => exact absurd rfl hn
          | _ :: _ :: _, _ => rfl
        clear h1
        go_wp2_with (go_at_call 390; refine (HE _ _ (by decide)).mono ?_; rintro e w2 ⟨rfl, rfl⟩)
        all_goals (try (go_region; all_goals (try go_wp2_with fail)))
        all_goals go_ret
        all_goals exact ⟨ret_u8 HL2.out.symm, by first | exact hB | exact hB.drew | exact hB.trans (below_dN _ _)⟩
end Go.Proofs.YtilfjpmeededmaaGreatDoor

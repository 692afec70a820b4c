/- Every token is fit to be typed. -/
/- Small functions of package base. -/
import Derived.Test.YtilfjpmeededmaaGreatDoorTyLZ
import Derived.Test.YtilfjpmeededmaaGreatDoorShelfN
import Derived.Lib.AtoiErrMem
namespace Go.Proofs.YtilfjpmeededmaaGreatDoor
open Go.RowKit

def atoiS (l : Bs) : Int := (Lib.atoi l).getD 0
theorem numLoop_dec : ∀ (l : Bs) (n : Nat), numLoop l n = true → ∃ m, Lib.decFrom n l = some m
  | [], n, _ => ⟨n, rfl⟩
  | c :: r, n, h => by
    rw [numLoop] at h
    simp only [Bool.and_eq_true, decide_eq_true_eq, digitB] at h
    obtain ⟨⟨⟨h1, h2⟩, h3⟩, h4⟩ := h
    have hd : Lib.digitVal c = some (c.toNat - 48) := by unfold Lib.digitVal; rw [if_pos (by omega)]
    have e : ((n : Int) * 10 + ((c.toNat : Int) - 48)) = ((n * 10 + (c.toNat - 48) : Nat) : Int) := by omega
    rw [e] at h4
    obtain ⟨m, hm⟩ := numLoop_dec r _ h4
    exact ⟨m, by rw [Lib.decFrom, hd]; exact hm⟩
theorem numLoop_len : ∀ (l : Bs) (n : Nat), numLoop l n = true → 1 ≤ n → n * 10 ^ l.length ≤ 1000000000 ∨ l = []
  | [], _, _, _ => .inr rfl
  | c :: r, n, h, hn => by
    rw [numLoop] at h
    simp only [Bool.and_eq_true, decide_eq_true_eq, digitB] at h
    obtain ⟨⟨⟨h1, h2⟩, h3⟩, h4⟩ := h
    have e : ((n : Int) * 10 + ((c.toNat : Int) - 48)) = ((n * 10 + (c.toNat - 48) : Nat) : Int) := by omega
    rw [e] at h4
    left
    rcases numLoop_len r _ h4 (by omega) with h5 | h5
    · rw [List.length_cons, Nat.pow_succ]
      have : n * (10 ^ r.length * 10) = (n * 10) * 10 ^ r.length := by rw [Nat.mul_comm (10 ^ r.length) 10, Nat.mul_assoc]
      rw [this]
      refine Nat.le_trans (Nat.mul_le_mul_right _ (by omega)) h5
    · subst h5; simp; omega
theorem num_short {l : Bs} (h0 : !(l.headD 0 == 48)) (h1 : 0 < l.length) (h : numLoop l 0 = true) : l.length ≤ 11 := by
  match l, h1 with
  | c :: r, _ =>
    rw [numLoop] at h
    simp only [Bool.and_eq_true, decide_eq_true_eq, digitB] at h
    obtain ⟨⟨⟨h2, h3⟩, h4⟩, h5⟩ := h
    simp only [List.headD_cons, Bool.not_eq_true', beq_eq_false_iff_ne, ne_eq] at h0
    have hc : c.toNat ≠ 48 := fun e => h0 (UInt8.toNat.inj (by rw [e]; rfl))
    have e : ((0 : Int) * 10 + ((c.toNat : Int) - 48)) = ((c.toNat - 48 : Nat) : Int) := by omega
    rw [e] at h5
    rcases numLoop_len r _ h5 (by omega) with h6 | h6
    · have : 10 ^ r.length ≤ 1000000000 := Nat.le_trans (Nat.le_mul_of_pos_left _ (by omega)) h6
      have hr : r.length ≤ 10 := by
        rcases Nat.lt_or_ge 10 r.length with hgt | hle
        · have : 10 ^ 11 ≤ 10 ^ r.length := Nat.pow_le_pow_right (by omega) hgt
          omega
        · exact hle
      simp; omega
    · subst h6; simp
theorem num_atoi {l : Bs} (h : numS l = true) : l.length ≤ 18 ∧ Lib.atoi l = some (atoiS l) := by
  suffices hs : l.length ≤ 18 ∧ ∃ n, Lib.atoi l = some n by
    obtain ⟨h1, n, hn⟩ := hs
    exact ⟨h1, by rw [atoiS, hn]; rfl⟩
  simp only [numS, Bool.or_eq_true, beq_iff_eq, Bool.and_eq_true, decide_eq_true_eq] at h
  rcases h with rfl | ⟨⟨h1, h2⟩, h3⟩
  · exact ⟨by simp, ⟨0, by decide⟩⟩
  · have hsh := num_short h2 h1 h3
    obtain ⟨m, hm⟩ := numLoop_dec (unminus l) 0 h3
    have hde : Lib.decNat (unminus l) = some m := by
      unfold Lib.decNat
      rw [if_neg (by intro e; rw [List.isEmpty_iff_length_eq_zero] at e; omega)]
      exact hm
    match l with
    | [] => simp [unminus] at h1
    | b :: r =>
      by_cases hb : b = 45
      · subst hb
        have e : unminus (45 :: r) = r := by simp [unminus]
        rw [e] at hde hsh
        exact ⟨by simp; omega, _, by rw [Lib.atoi, if_pos (by decide), hde]; rfl⟩
      · have e : unminus (b :: r) = b :: r := by simp [unminus, hb]
        rw [e] at hde hsh h3
        have h43 : (b == 43) = false := by
          rw [numLoop] at h3
          simp only [Bool.and_eq_true, decide_eq_true_eq, digitB] at h3
          have := h3.1.1.1
          rw [beq_eq_false_iff_ne]; intro e; subst e; simp at this
        exact ⟨by omega, _, by rw [Lib.atoi, if_neg (by simpa using hb), if_neg (by rw [h43]; exact Bool.false_ne_true), hde]; rfl⟩
theorem tok_ok (l : Bs) : TokOK atoiS (kindS l) l := by
  refine ⟨fun h x => ?_, fun h => ?_, fun h => kind_par h⟩
  · obtain ⟨h1, h2⟩ := num_atoi (kind_num h)
    refine (Tryz.strconv_Atoi (ofBs l) (atoiS l) (by rw [ofBs_size]; exact h1) (by simpa [ofBs] using h2) x).mono fun e w' ⟨he, t, hw⟩ => ?_
    subst hw
    exact ⟨he, Lib.bytesWorld_below _ _ _⟩
  · have := kind_quote h
    simp only [quoteS, Bool.and_eq_true, decide_eq_true_eq] at this
    exact ⟨this.1.1.1.1, this.1.1.1.2⟩
/-- Whatever text is read as an expression, where no columns are known. -/
theorem readFit (s : Bs) (t : Tr) (h : parseS s = some t) : Fit (TokOK atoiS) t ∧ nodT t ≤ 1000 := parse_fit _ tok_ok s t h
end Go.Proofs.YtilfjpmeededmaaGreatDoor

namespace Go.Proofs.YtilfjpmeededmaaGreatDoor
open Go.RowKit

def typesL (l : Bs) : List Int := l.map fun c => typeB c.toNat

set_option maxHeartbeats 4000000 in
set_option maxRecDepth 100000 in
theorem typesOf_any (s : ByteArray) (w : World) (hs : s.size ≤ 1000) :
    Calls Tryz.prog 136 #[.string s] w fun e w' => ∃ v', e = .returned v' ∧ (IntsIn w' v' (typesL s.toList) ∧ w'.ownsRow w.heap.size 3 1 v' (typesL s.toList).length (intCells (typesL s.toList))) ∧ Below w.heap.size w w' := by
  obtain ⟨i0, hi, hz0, hz1, hz2⟩ := info_parts infoIntT
  go_enter Tryz.func136, Tryz.ntmps136
  go_wp2_with fail
  go_loopw [3, 7] (fun kv iv wr => ∃ (i kn kc : Nat) (ko : Option Addr), i ≤ s.size ∧ kv = .slice ko kn kc ∧ iv = .int .i64 i ∧ wr.ownsRow w.heap.size 3 1 (.slice ko kn kc) i (intCells (typesL (s.toList.take i))) ∧ Below w.heap.size w wr) (fun _ iv _ => s.size - (intOf iv).toNat)
  case atStart => exact ⟨0, 0, 0, none, Nat.zero_le _, rfl, rfl, World.ownsRow_nil _ _ _ _, Below.refl _ _⟩
  case round =>
    obtain ⟨i, kn, kc, ko, hi', rfl, rfl, hko, hB⟩ := hrel
    have hsz := hB.size
    by_cases hlt : i < s.size
    · have HT : Hid (typesL (s.toList.take (i + 1)) = typesL (s.toList.take i) ++ [typeB s[i].toNat]) := by
        have e : s.toList.take (i + 1) = s.toList.take i ++ [s[i]] := by
          rw [List.take_succ_eq_append_getElem (by rw [toList_length]; exact hlt), toList_get s i hlt]
        rw [Hid, typesL, e, List.map_append]; rfl
      go_wp2_with (first
        | (go_at_call 208; refine (typeOfB_any _ _).mono ?_; rintro e w2 ⟨rfl, rfl⟩)
        | (at_builtin; refine wpList_append_own _ rfl (.tmp 10) (.tmp 15) 30 rfl w.heap.size 3 i0 (.int .i64 0) 1 8 Tryz.underlying30 hi hz0 hz1 hz2 rfl (by decide) _ _ _ rfl (hko.alloc _) ⟨w2.heap.size, 0, none⟩ 1 1 [.int .i64 (typeB s[i].toNat)] rfl rfl ?c1 ?c2 ?c3 ?c4 ?c5 ?_))
      case c1 =>
        intro j u hj
        match j, hj with
        | 0, hj => simp at hj; subst hj; simp [Addr.add]
      case c2 => intro u hu; simp at hu; subst hu; rfl
      case c3 => unfold maxLen; omega
      case c4 => omega
      case c5 => simp; omega
      · intro v' w3 hown' hgrow _
        obtain ⟨ao', n', cap', rfl⟩ : ∃ ao' n' cap', v' = .slice ao' n' cap' := by
          rcases hown'.2 with ⟨e, _⟩ | ⟨q, cap', cur, e, _⟩ <;> exact ⟨_, _, _, e⟩
        have R : w3.ownsRow w.heap.size 3 1 (.slice ao' n' cap') (i + 1) (intCells (typesL (s.toList.take (i + 1)))) := by
          rw [HT.out]; simp only [intCells, List.map_append, List.map_cons, List.map_nil] at hown' ⊢; exact hown'
        have RB : Below w.heap.size w w3 := (hB.alloc hsz _).grown hgrow (by simp; omega) (fun k hk => (hko.lt k hk).1)
        clear hown' hgrow hko HT
        go_wp2
        go_roundw
        case rel => exact ⟨i + 1, _, _, _, by omega, rfl, by go_num, R, RB⟩
        case measure => simp [intOf]; omega
    · have hie : s.toList.take i = s.toList := List.take_of_length_le (by rw [toList_length]; omega)
      have HI : Hid (IntsIn wr (.slice ko kn kc) (typesL s.toList) ∧ wr.ownsRow w.heap.size 3 1 (.slice ko kn kc) (typesL s.toList).length (intCells (typesL s.toList))) := by
        rw [hie] at hko
        have hl : (typesL s.toList).length = i := by rw [typesL, List.length_map, toList_length]; omega
        rw [← hl] at hko
        exact ⟨intsIn_own (b := w.heap.size) hko (by rw [hl]; omega), hko⟩
      clear hko hie
      go_wp2_with fail
      go_ret
      exact ⟨_, rfl, HI.out, hB⟩

def areTypesS (l : Bs) : Bool := decide (l.length ≤ 4) && !(typesL l).any (· == 0)
set_option maxHeartbeats 1600000 in
set_option maxRecDepth 100000 in
theorem areTypes_any (s : ByteArray) (w : World) : Calls Tryz.prog 135 #[.string s] w fun e w' => e = .returned (.bool (areTypesS s.toList)) ∧ Below w.heap.size w w' := by
  by_cases h4 : s.size ≤ 4
  · have HC := typesOf_any s w (by omega)
    have HK : ∀ (x : World) (v : Value), IntsIn x v (typesL s.toList) → Calls Tryz.prog 95 #[v, .int .i64 0] x fun e w' => e = .returned (.bool ((typesL s.toList).any (· == 0))) ∧ w' = x := fun x v h => sliContains_any x v _ 0 h
    obtain ⟨d, hd⟩ : ∃ d, d = (typesL s.toList).any (· == 0) := ⟨_, rfl⟩
    have HR : Hid (areTypesS s.toList = !d) := by rw [Hid, areTypesS, toList_length, decide_eq_true h4, ← hd, Bool.true_and]
    rw [← hd] at HK
    obtain ⟨zs, hzs⟩ : ∃ zs, zs = typesL s.toList := ⟨_, rfl⟩
    rw [← hzs] at HC HK
    have hdec : decide ((s.size : Int) ≤ 4) = true := by simp; omega
    clear hd hzs h4
    go_enter Tryz.func135, Tryz.ntmps135
    go_wp2_with (first
      | (go_at_call 136; refine HC.mono ?_; rintro e w2 ⟨v', rfl, ⟨hi2, _⟩, hb2⟩)
      | (go_at_call 95; refine (HK _ _ hi2).mono ?_; rintro e w3 ⟨rfl, rfl⟩))
    go_ret
    exact ⟨by rw [HR.out]; rfl, hb2⟩
  · have HR : Hid (areTypesS s.toList = false) := by rw [Hid, areTypesS, toList_length, decide_eq_false h4]; rfl
    have hdec : decide ((s.size : Int) ≤ 4) = false := by simp; omega
    go_enter Tryz.func135, Tryz.ntmps135
    go_wp2_with fail
    go_ret
    exact ⟨ret_bool HR.out.symm, Below.refl _ _⟩

/-- Whether a further function may have this name. -/
def freeS (fns : List Fn) (l : Bs) : Bool := wordS l && !valS l && !builtS l && (findS fns l).isNone
set_option maxHeartbeats 1600000 in
set_option maxRecDepth 100000 in
theorem isFree_any (w : World) (FB : List Nat) (fns : List Fn) (bb : Nat) (fo : Option Addr) (fnn fc : Nat) (hbb : bb < w.heap.size) (hc : w.cell? ⟨bb, 0, none⟩ = some (.slice fo fnn fc)) (hF : FnsIn w FB (.slice fo fnn fc) fns) (l : Bs) (hl : l.length ≤ maxLen) :
    Calls Tryz.prog 134 #[.pointer (some ⟨bb, 0, none⟩), .string (ofBs l)] w fun e w' => e = .returned (.bool (freeS fns l)) ∧ Below w.heap.size w w' := by
  have HW : ∀ x : World, Calls Tryz.prog 138 #[.string (ofBs l)] x fun e w' => e = .returned (.bool (wordS l)) ∧ w' = x := by
    intro x; have := isWord_any (ofBs l) x (by rw [ofBs_size]; exact hl); rw [ofBs_toList] at this; exact this
  have HV : ∀ x : World, Calls Tryz.prog 206 #[.string (ofBs l)] x fun e w' => e = .returned (.bool (valS l)) ∧ Below x.heap.size x w' := by
    intro x; have := isValueWord_any (ofBs l) x; rw [ofBs_toList] at this; exact this
  have HB : ∀ x : World, Calls Tryz.prog 207 #[.string (ofBs l)] x fun e w' => e = .returned (.bool (builtS l)) ∧ w' = x := by
    intro x; have := isBuiltIn_any (ofBs l) x; rw [ofBs_toList] at this; exact this
  have HD : ∀ x : World, Below w.heap.size w x → Calls Tryz.prog 78 #[.slice fo fnn fc, .string (ofBs l)] x fun e w' => (∃ p, e = .returned (.pointer p) ∧ FpIs FB (findS fns l) p) ∧ Below x.heap.size x w' := fun x hx => find_any x FB _ fns l (hF.keep hx)
  have HR : Hid (freeS fns l = (wordS l && !valS l && !builtS l && (findS fns l).isNone)) := rfl
  obtain ⟨a, ha⟩ : ∃ a, a = wordS l := ⟨_, rfl⟩
  obtain ⟨b, hb⟩ : ∃ b, b = valS l := ⟨_, rfl⟩
  obtain ⟨d, hd⟩ : ∃ d, d = builtS l := ⟨_, rfl⟩
  obtain ⟨o, ho⟩ : ∃ o, o = findS fns l := ⟨_, rfl⟩
  rw [← ha] at HW HR
  rw [← hb] at HV HR
  rw [← hd] at HB HR
  rw [← ho] at HD HR
  clear ha hb hd ho hF
  cases a
  · go_enter Tryz.func134, Tryz.ntmps134
    go_wp2_with (go_at_call 138; refine (HW _).mono ?_; rintro e w2 ⟨rfl, rfl⟩)
    go_ret
    exact ⟨by rw [HR.out]; rfl, Below.refl _ _⟩
  · cases b
    · cases d
      · go_enter Tryz.func134, Tryz.ntmps134
        go_wp2_with (first
          | (go_at_call 138; refine (HW _).mono ?_; rintro e w2 ⟨rfl, rfl⟩)
          | (go_at_call 206; refine (HV _).mono ?_; rintro e w3 ⟨rfl, hb3⟩)
          | (go_at_call 207; refine (HB _).mono ?_; rintro e w4 ⟨rfl, rfl⟩; have c4 := (hb3.cell (p := ⟨bb, 0, none⟩) hbb).trans hc)
          | (go_at_call 78; refine (HD _ hb3).mono ?_; rintro e w5 ⟨⟨p, rfl, hp⟩, hb5⟩))
        have hpn : p.isNone = o.isNone := by
          cases o with
          | none => have : p = none := hp; rw [this]; rfl
          | some i => obtain ⟨q, _, rfl⟩ := hp; rfl
        go_ret
        exact ⟨by rw [HR.out, ← hpn]; rfl, hb3.trans (hb5.mono hb3.size)⟩
      · go_enter Tryz.func134, Tryz.ntmps134
        go_wp2_with (first
          | (go_at_call 138; refine (HW _).mono ?_; rintro e w2 ⟨rfl, rfl⟩)
          | (go_at_call 206; refine (HV _).mono ?_; rintro e w3 ⟨rfl, hb3⟩)
          | (go_at_call 207; refine (HB _).mono ?_; rintro e w4 ⟨rfl, rfl⟩))
        go_ret
        exact ⟨by rw [HR.out]; rfl, hb3⟩
    · go_enter Tryz.func134, Tryz.ntmps134
      go_wp2_with (first
        | (go_at_call 138; refine (HW _).mono ?_; rintro e w2 ⟨rfl, rfl⟩)
        | (go_at_call 206; refine (HV _).mono ?_; rintro e w3 ⟨rfl, hb3⟩))
      go_ret
      exact ⟨by rw [HR.out]; rfl, hb3⟩
end Go.Proofs.YtilfjpmeededmaaGreatDoor

import Derived.Test.YtilfjpmeededmaaGreatDoorColZ
set_option linter.unusedVariables false
set_option linter.unusedSimpArgs false
namespace Go.Proofs.YtilfjpmeededmaaGreatDoor
open Go.RowKit
def qlen (l : Bs) : Nat := if l.headD 0 == 39 then (if (l.drop 1).contains 39 then ((l.drop 1).takeWhile (· != 39)).length + 2 else 0) else 0
def notSep (c : UInt8) : Bool := !blankB c.toNat && !bracketB c.toNat
def plen (l : Bs) : Nat := if bracketB (l.headD 0).toNat then 1 else qlen l + ((l.drop (qlen l)).takeWhile notSep).length
theorem qlen_le (l : Bs) : qlen l ≤ l.length := by
  unfold qlen
  split
  · split
    · next h => have := (ib_some (l.drop 1) 39 h).2.1; simp at this ⊢; omega
    · omega
  · omega
set_option maxHeartbeats 800000 in
set_option maxRecDepth 100000 in
theorem quoteLength_any (s : ByteArray) (w : World) (hs : s.size ≤ maxLen) (hpos : 0 < s.size) :
    Calls Tryz.prog 325 #[.string s] w fun e w' => e = .returned (.int .i64 (qlen s.toList)) ∧ w' = w := by
  unfold maxLen at hs
  have HH : Hid ((s.toList.headD 0 == 39) = decide ((s[0].toNat : Int) = 39)) := by
    rw [Hid, head_get s hpos]; exact u8_eq _ 39 (by omega)
  by_cases h : (s[0].toNat : Int) = 39
  · have hd : (s.extract 1 s.size).data.toList = s.toList.drop 1 := by rw [data_toList, ext_drop]
    by_cases hc : (s.toList.drop 1).contains 39 = true
    · obtain ⟨i1, i2, _, _⟩ := ib_some _ 39 hc
      obtain ⟨n, hn⟩ : ∃ n, n = ((s.toList.drop 1).takeWhile (· != 39)).length := ⟨_, rfl⟩
      rw [← hn] at i1 i2
      rw [List.length_drop, toList_length] at i2
      have HQ : Hid (qlen s.toList = n + 2) := by rw [Hid, qlen, HH.out, decide_eq_true h, if_pos rfl, if_pos hc, hn]
      have HI : ∀ w : World, Calls Tryz.prog 370 #[.string (s.extract 1 s.size), .int .u8 39] w fun e w' => e = .returned (.int .i64 n) ∧ w' = w := by
        intro w; rw [← i1, ← hd]; exact Tryz.strings_IndexByte (s.extract 1 s.size) 39 w
      clear HH hc hd i1 hn
      go_enter Tryz.func325, Tryz.ntmps325
      go_wp2_with (go_at_call 370; refine (HI _).mono ?_; rintro e w2 ⟨rfl, rfl⟩)
      go_ret
      exact ⟨ret_int (by rw [HQ.out]; go_num), rfl⟩
    · rw [Bool.not_eq_true] at hc
      have HQ : Hid (qlen s.toList = 0) := by rw [Hid, qlen, HH.out, decide_eq_true h, if_pos rfl, if_neg (by rw [hc]; simp)]
      have HI : ∀ w : World, Calls Tryz.prog 370 #[.string (s.extract 1 s.size), .int .u8 39] w fun e w' => e = .returned (.int .i64 (-1)) ∧ w' = w := by
        intro w; rw [← ib_none _ _ hc, ← hd]; exact Tryz.strings_IndexByte (s.extract 1 s.size) 39 w
      clear HH hc hd
      go_enter Tryz.func325, Tryz.ntmps325
      go_wp2_with (go_at_call 370; refine (HI _).mono ?_; rintro e w2 ⟨rfl, rfl⟩)
      go_ret
      exact ⟨ret_int (by rw [HQ.out]; rfl), rfl⟩
  · have HQ : Hid (qlen s.toList = 0) := by rw [Hid, qlen, HH.out, decide_eq_false h]; rfl
    clear HH
    go_enter Tryz.func325, Tryz.ntmps325
    go_wp2_with fail
    go_ret
    exact ⟨ret_int (by rw [HQ.out]; rfl), rfl⟩
theorem tw_drop (s : ByteArray) (k : Nat) (h : k < s.size) : (s.toList.drop k).takeWhile notSep = if notSep s[k] then s[k] :: (s.toList.drop (k + 1)).takeWhile notSep else [] := by
  rw [drop_cons s k h, List.takeWhile_cons]
theorem tw_end (s : ByteArray) (k : Nat) (h : s.size ≤ k) : (s.toList.drop k).takeWhile notSep = [] := by
  rw [List.drop_of_length_le (by rw [toList_length]; exact h)]; rfl
set_option maxHeartbeats 800000 in
set_option maxRecDepth 100000 in
theorem pieceLength_any (s : ByteArray) (w : World) (hs : s.size ≤ maxLen) (hpos : 0 < s.size) :
    Calls Tryz.prog 252 #[.string s] w fun e w' => e = .returned (.int .i64 (plen s.toList)) ∧ w' = w := by
  have hq := qlen_le s.toList
  rw [toList_length] at hq
  obtain ⟨q, hqe⟩ : ∃ q, q = qlen s.toList := ⟨_, rfl⟩
  rw [← hqe] at hq
  have HQL : ∀ w : World, Calls Tryz.prog 325 #[.string s] w fun e w' => e = .returned (.int .i64 q) ∧ w' = w := by
    intro w; rw [hqe]; exact quoteLength_any s w hs hpos
  by_cases h : bracketB s[0].toNat = true
  · have HP : Hid (plen s.toList = 1) := by rw [Hid, plen, head_get s hpos, if_pos h]
    unfold maxLen at hs
    clear hqe
    go_enter Tryz.func252, Tryz.ntmps252
    go_wp2_with (go_at_call 324; refine (isBracket_any _ _).mono ?_; rintro e w2 ⟨rfl, rfl⟩)
    go_ret
    exact ⟨ret_int (by rw [HP.out]; rfl), rfl⟩
  · rw [Bool.not_eq_true] at h
    have HP : Hid (plen s.toList = q + ((s.toList.drop q).takeWhile notSep).length) := by
      rw [Hid, plen, head_get s hpos, if_neg (by rw [h]; simp), hqe]
    unfold maxLen at hs
    clear hqe
    go_enter Tryz.func252, Tryz.ntmps252
    go_wp2_with (first | (go_at_call 324; refine (isBracket_any _ _).mono ?_; rintro e w2 ⟨rfl, rfl⟩) | (go_at_call 325; refine (HQL _).mono ?_; rintro e w2 ⟨rfl, rfl⟩))
    go_loop [3] (fun i => ∃ k : Nat, k ≤ s.size ∧ i = .int .i64 k ∧ Hid (plen s.toList = k + ((s.toList.drop k).takeWhile notSep).length)) (fun i => s.size - (intOf i).toNat)
    case atStart => exact ⟨q, hq, rfl, HP⟩
    case round =>
      obtain ⟨k, hk, rfl, HA⟩ := hrel
      by_cases hlt : k < s.size
      · have HS := tw_drop s k hlt
        replace HS : Hid _ := HS
        have HN : Hid (notSep s[k] = (!blankB s[k].toNat && !bracketB s[k].toNat)) := rfl
        by_cases hb : blankB s[k].toNat = true
        · have HF : Hid (plen s.toList = k) := by rw [Hid, HA.out, HS.out, HN.out, hb]; rfl
          go_wp2_with (first | (go_at_call 251; refine (isBlank_any _ _).mono ?_; rintro e w2 ⟨rfl, rfl⟩) | (go_at_call 324; refine (isBracket_any _ _).mono ?_; rintro e w2 ⟨rfl, rfl⟩))
          go_ret
          exact ⟨ret_int (by rw [HF.out]), rfl⟩
        · rw [Bool.not_eq_true] at hb
          by_cases hc : bracketB s[k].toNat = true
          · have HF : Hid (plen s.toList = k) := by rw [Hid, HA.out, HS.out, HN.out, hb, hc]; rfl
            go_wp2_with (first | (go_at_call 251; refine (isBlank_any _ _).mono ?_; rintro e w2 ⟨rfl, rfl⟩) | (go_at_call 324; refine (isBracket_any _ _).mono ?_; rintro e w2 ⟨rfl, rfl⟩))
            go_ret
            exact ⟨ret_int (by rw [HF.out]), rfl⟩
          · rw [Bool.not_eq_true] at hc
            have HF : Hid (plen s.toList = (k + 1) + ((s.toList.drop (k + 1)).takeWhile notSep).length) := by
              rw [Hid, HA.out, HS.out, HN.out, hb, hc]; simp; omega
            go_wp2_with (first | (go_at_call 251; refine (isBlank_any _ _).mono ?_; rintro e w2 ⟨rfl, rfl⟩) | (go_at_call 324; refine (isBracket_any _ _).mono ?_; rintro e w2 ⟨rfl, rfl⟩))
            go_round
            case rel => exact ⟨k + 1, by omega, by go_num, HF⟩
            case measure => simp [intOf]; omega
      · have HE : Hid ((s.toList.drop k).takeWhile notSep = []) := tw_end s k (by omega)
        go_wp2_with fail
        go_ret
        exact ⟨ret_int (by rw [HA.out, HE.out]; simp), rfl⟩
end Go.Proofs.YtilfjpmeededmaaGreatDoor

namespace Go.Proofs.YtilfjpmeededmaaGreatDoor
open Go.RowKit
abbrev Tk := Int × Bs
def ofBs (l : Bs) : ByteArray := ⟨l.toArray⟩
theorem ofBs_toList (l : Bs) : (ofBs l).toList = l := mk_toList l
theorem ba_eq (s : ByteArray) : s = ofBs s.toList := by
  unfold ofBs; rw [ByteArray.toList_eq]
theorem ofBs_size (l : Bs) : (ofBs l).size = l.length := mk_size l
def tokCells (t : Tk) : List Value := [.int .i64 t.1, .string (ofBs t.2)]
def toksCells (ts : List Tk) : List Value := ts.flatMap tokCells
theorem toksCells_append (a b : List Tk) : toksCells (a ++ b) = toksCells a ++ toksCells b := by simp [toksCells]
theorem toksCells_one (t : Tk) : toksCells [t] = tokCells t := by simp [toksCells]
def scanF : Nat → Bs → Option (List Tk)
  | 0, _ => some []
  | f + 1, l => if l.length = 0 then some [] else if blankB (l.headD 0).toNat then scanF f (l.drop 1) else
      if kindS (l.take (plen l)) = 0 then none else (scanF f (l.drop (plen l))).map ((kindS (l.take (plen l)), l.take (plen l)) :: ·)
def scanS (l : Bs) : Option (List Tk) := scanF l.length l
theorem qlen_pos (l : Bs) : plen l = 1 ∨ plen l = qlen l + ((l.drop (qlen l)).takeWhile notSep).length := by
  unfold plen; split
  · exact .inl rfl
  · exact .inr rfl
theorem plen_pos (l : Bs) (h : 0 < l.length) (hb : blankB (l.headD 0).toNat = false) : 0 < plen l := by
  unfold plen
  split
  · omega
  · next hbr =>
    rw [Bool.not_eq_true] at hbr
    by_cases hq : qlen l = 0
    · rw [hq]
      cases l with
      | nil => simp at h
      | cons c r =>
        have : notSep c = true := by simp only [List.headD_cons] at hb hbr; simp [notSep, hb, hbr]
        rw [List.drop_zero, List.takeWhile_cons, this]; simp
    · omega
theorem plen_le (l : Bs) (h : 0 < l.length) : plen l ≤ l.length := by
  rcases qlen_pos l with e | e
  · omega
  · have := tw_le (l.drop (qlen l)) notSep
    have hq := qlen_le l
    rw [List.length_drop] at this
    omega
theorem scanF_fuel : ∀ (f : Nat) (l : Bs), l.length ≤ f → scanF f l = scanS l := by
  have key : ∀ (n f g : Nat) (l : Bs), l.length ≤ n → l.length ≤ f → l.length ≤ g → scanF f l = scanF g l := by
    intro n
    induction n with
    | zero =>
      intro f g l h _ _
      have hl : l.length = 0 := by omega
      cases f <;> cases g <;> simp [scanF, hl]
    | succ n ih =>
      intro f g l h hf hg
      cases f with
      | zero =>
        have hl : l.length = 0 := by omega
        cases g <;> simp [scanF, hl]
      | succ f =>
        cases g with
        | zero =>
          have hl : l.length = 0 := by omega
          simp [scanF, hl]
        | succ g =>
          rw [scanF, scanF]
          by_cases hl : l.length = 0
          · rw [if_pos hl, if_pos hl]
          · rw [if_neg hl, if_neg hl]
            cases hb : blankB (l.headD 0).toNat with
            | true => rw [if_pos rfl, if_pos rfl]; exact ih f g _ (by simp; omega) (by simp; omega) (by simp; omega)
            | false =>
              have hp := plen_pos l (by omega) hb
              rw [if_neg Bool.false_ne_true, if_neg Bool.false_ne_true, ih f g (l.drop (plen l)) (by simp; omega) (by simp; omega) (by simp; omega)]
  intro f l h
  exact key l.length f l.length l (Nat.le_refl _) h (Nat.le_refl _)
theorem scanS_nil (l : Bs) (h : l.length = 0) : scanS l = some [] := by rw [scanS, h, scanF]
theorem scanS_eq (l : Bs) (h : 0 < l.length) : scanS l = if blankB (l.headD 0).toNat then scanS (l.drop 1) else
      if kindS (l.take (plen l)) = 0 then none else (scanS (l.drop (plen l))).map ((kindS (l.take (plen l)), l.take (plen l)) :: ·) := by
  obtain ⟨n, hn⟩ : ∃ n, l.length = n + 1 := ⟨l.length - 1, by omega⟩
  rw [scanS, hn, scanF, if_neg (by omega)]
  cases hb : blankB (l.headD 0).toNat with
  | true => rw [if_pos rfl, if_pos rfl]; exact scanF_fuel _ _ (by simp; omega)
  | false =>
    have hp := plen_pos l (by omega) hb
    rw [if_neg Bool.false_ne_true, if_neg Bool.false_ne_true, scanF_fuel n (l.drop (plen l)) (by simp; omega)]
theorem map_cons_append (o : Option (List Tk)) (a : List Tk) (t : Tk) : (o.map (t :: ·)).map (a ++ ·) = o.map ((a ++ [t]) ++ ·) := by
  cases o <;> simp
theorem ownsRow_below {w w' : World} {base n : Nat} {e : TypeId} {size : Nat} {v : Value} {xs : List Value} (h : w.ownsRow base e size v n xs) (hb : Below w.heap.size w w') : w'.ownsRow base e size v n xs :=
  h.kept (row := none) ⟨hb.os, hb.tape, hb.output, hb.size, fun k hk _ => hb.block k hk⟩ (by
    cases hv : v.ownBlock with
    | none => exact .inl rfl
    | some k => exact .inr (by simp))
end Go.Proofs.YtilfjpmeededmaaGreatDoor

namespace Go.Proofs.YtilfjpmeededmaaGreatDoor
open Go.RowKit
theorem infoTok : (Tryz.prog.info? 233).map (fun i => (i.zero, i.size, i.bytes)) = some (some (.agg #[.int .i64 0, .string ⟨#[]⟩]), 2, 24) := by kernel_rfl
set_option maxHeartbeats 1600000 in
set_option maxRecDepth 100000 in
theorem scan_any (s0 : ByteArray) (w : World) (hs0 : s0.size ≤ 400) :
    Calls Tryz.prog 177 #[.string s0] w fun e w' => Below w.heap.size w w' ∧
      ((scanS s0.toList = none ∧ e = .returned (.tuple #[.slice none 0 0, .bool false])) ∨
       (∃ ts v, scanS s0.toList = some ts ∧ ts.length ≤ 400 ∧ e = .returned (.tuple #[v, .bool true]) ∧ w'.ownsRow w.heap.size 233 2 v ts.length (toksCells ts))) := by
  obtain ⟨i0, hi, hz0, hz1, hz2⟩ := info_parts infoTok
  go_enter Tryz.func177, Tryz.ntmps177
  go_wp2_with fail
  go_loopw [0, 4] (fun sv tv wr => ∃ (s : ByteArray) (ts : List Tk), sv = .string s ∧ s.size + ts.length ≤ 400 ∧ wr.ownsRow w.heap.size 233 2 tv ts.length (toksCells ts) ∧ Below w.heap.size w wr ∧ Hid (scanS s0.toList = (scanS s.toList).map (ts ++ ·))) (fun sv _ _ => match sv with | .string s => s.size | _ => 0)
  case atStart => exact ⟨s0, [], rfl, by simpa using hs0, World.ownsRow_nil _ _ _ _, Below.refl _ _, by rw [Hid]; simp⟩
  case round =>
    obtain ⟨s, ts, rfl, hlen, hown, hbel, HA⟩ := hrel
    have hsz : s.size ≤ 400 := by omega
    have hsm : s.size ≤ maxLen := by unfold maxLen; omega
    by_cases h0 : s.size = 0
    · have HE : Hid (scanS s0.toList = some ts) := by rw [Hid, HA.out, scanS_nil _ (by rw [toList_length, h0])]; simp
      go_wp2_with fail
      go_ret2
      exact ⟨hbel, .inr ⟨ts, _, HE.out, by omega, rfl, hown⟩⟩
    · have hpos : 0 < s.size := by omega
      have HS := scanS_eq s.toList (by rw [toList_length]; exact hpos)
      rw [head_get s hpos] at HS
      replace HS : Hid _ := HS
      by_cases hb : blankB s[0].toNat = true
      · have HN : Hid (scanS s0.toList = (scanS (s.extract 1 s.size).toList).map (ts ++ ·)) := by
          rw [Hid, HA.out, HS.out, if_pos hb, ext_drop]
        go_wp2_with (go_at_call 251; refine (isBlank_any _ _).mono ?_; rintro e w2 ⟨rfl, rfl⟩)
        go_roundw
        case rel => exact ⟨s.extract 1 s.size, ts, rfl, by simp; omega, hown, hbel, HN⟩
        case measure => simp; omega
      · rw [Bool.not_eq_true] at hb
        have hp1 := plen_pos s.toList (by rw [toList_length]; exact hpos) (by rw [head_get s hpos]; exact hb)
        have hp2 := plen_le s.toList (by rw [toList_length]; exact hpos)
        rw [toList_length] at hp2
        obtain ⟨n, hn⟩ : ∃ n, n = plen s.toList := ⟨_, rfl⟩
        have HPL : ∀ w : World, Calls Tryz.prog 252 #[.string s] w fun e w' => e = .returned (.int .i64 n) ∧ w' = w := by
          intro w; rw [hn]; exact pieceLength_any s w hsm hpos
        obtain ⟨k, hk⟩ : ∃ k, k = kindS (s.toList.take n) := ⟨_, rfl⟩
        have HKO : ∀ w : World, Calls Tryz.prog 253 #[.string (s.extract 0 n)] w fun e w' => e = .returned (.int .i64 k) ∧ Below w.heap.size w w' := by
          intro w; rw [hk, ← ext_take]; exact kindOf_any _ _ (by simp; unfold maxLen; omega)
        have HS2 : Hid (scanS s0.toList = if k = 0 then none else (scanS (s.extract n s.size).toList).map ((ts ++ [(k, s.toList.take n)]) ++ ·)) := by
          rw [Hid, HA.out, HS.out, if_neg (by rw [hb]; simp), ← hn, ← hk, ext_drop]
          by_cases hk0 : k = 0
          · rw [if_pos hk0, if_pos hk0]; rfl
          · rw [if_neg hk0, if_neg hk0, map_cons_append]
        rw [← hn] at hp1 hp2
        have HX : Hid (Value.string (s.extract 0 n) = .string (ofBs (s.toList.take n))) := by
          rw [Hid]; congr 1; rw [← ext_take]; exact ba_eq _
        clear HA HS hn hk
        by_cases hk0 : k = 0
        · have HF : Hid (scanS s0.toList = none) := by rw [Hid, HS2.out, if_pos hk0]
          subst hk0
          go_wp2_with (first | (go_at_call 251; refine (isBlank_any _ _).mono ?_; rintro e w2 ⟨rfl, rfl⟩) | (go_at_call 252; refine (HPL _).mono ?_; rintro e w2 ⟨rfl, rfl⟩) | (go_at_call 253; refine (HKO _).mono ?_; rintro e w2 ⟨rfl, hb2⟩))
          go_ret2
          exact ⟨hbel.trans (hb2.mono hbel.size), .inl ⟨HF.out, rfl⟩⟩
        · have HF : Hid (scanS s0.toList = (scanS (s.extract n s.size).toList).map ((ts ++ [(k, s.toList.take n)]) ++ ·)) := by rw [Hid, HS2.out, if_neg hk0]
          clear HS2
          have hkb : (k == 0) = false := by simpa using hk0
          clear hk0
          go_wp2_with (first
            | (go_at_call 251; refine (isBlank_any _ _).mono ?_; rintro e w2 ⟨rfl, rfl⟩)
            | (go_at_call 252; refine (HPL _).mono ?_; rintro e w2 ⟨rfl, rfl⟩)
            | (go_at_call 253; refine (HKO _).mono ?_; rintro e w2 ⟨rfl, hb2⟩)
            | (at_builtin; refine wpList_append_own _ rfl (.tmp 23) (.tmp 27) 343 rfl w.heap.size 233 i0 (.agg #[.int .i64 0, .string ⟨#[]⟩]) 2 24 Tryz.underlying343 hi hz0 hz1 hz2 rfl (by decide) _ _ _ rfl ((ownsRow_below hown hb2).alloc _) ⟨w2.heap.size, 0, none⟩ 1 1 [.int .i64 k, .string (s.extract 0 n)] rfl rfl ?c1 ?c2 ?c3 ?c4 ?c5 ?_))
          case c1 =>
            intro j u hj
            match j, hj with
            | 0, hj => simp at hj; subst hj; simp [Addr.add]
            | 1, hj => simp at hj; subst hj; simp [Addr.add]
          case c2 => intro u hu; simp at hu; rcases hu with rfl | rfl <;> rfl
          case c3 => unfold maxLen; omega
          case c4 => omega
          case c5 => have := hbel.size; have := hb2.size; simp; omega
          · intro v' w3 hown' hgrow _
            have R : w3.ownsRow w.heap.size 233 2 v' (ts ++ [(k, s.toList.take n)]).length (toksCells (ts ++ [(k, s.toList.take n)])) := by
              rw [toksCells_append, toksCells_one, tokCells, ← HX.out]; simpa using hown'
            have hz := hbel.size
            have hz2 := hb2.size
            have RB : Below w.heap.size w w3 := ((hbel.trans (hb2.mono hz)).alloc (by omega) _).grown hgrow (by simp; omega) (fun k hk => (hown.lt k hk).1)
            clear hown' hgrow hown hb2 HPL HKO HX
            go_wp2
            go_roundw
            case rel => exact ⟨s.extract n s.size, _, rfl, by simp; omega, R, RB, HF⟩
            case measure => simp; omega
end Go.Proofs.YtilfjpmeededmaaGreatDoor

import Derived.Test.YtilfjpmeededmaaGreatDoorRef5Z
import Derived.Deep.CutBlock
set_option linter.unusedVariables false
set_option linter.unusedSimpArgs false
namespace Go.Proofs.YtilfjpmeededmaaGreatDoor
open Go.RowKit
def plainC (c : UInt8) : Bool := !blankB c.toNat && !bracketB c.toNat && !(c == 39)
def remQ : Bs → Nat
  | [] => 0
  | c :: r => if c == 39 then 1 else remQ r + 1
def remP : Bs → Nat
  | [] => 0
  | c :: r => if plainC c then remP r + 1 else 0
def tkLen (l : Bs) : Nat := 1 + (if l.headD 0 == 39 then remQ (l.drop 1) else remP (l.drop 1))
theorem remQ_le (l : Bs) : remQ l ≤ l.length := by
  induction l with
  | nil => simp [remQ]
  | cons c r ih => rw [remQ]; split <;> simp; omega
theorem remP_le (l : Bs) : remP l ≤ l.length := by
  induction l with
  | nil => simp [remP]
  | cons c r ih => rw [remP]; split <;> simp; omega
theorem tkLen_le (l : Bs) (h : 0 < l.length) : tkLen l ≤ l.length := by
  unfold tkLen
  have h1 := remQ_le (l.drop 1)
  have h2 := remP_le (l.drop 1)
  rw [List.length_drop] at h1 h2
  split <;> omega
theorem remQ_drop (s : ByteArray) (k : Nat) (h : k < s.size) : remQ (s.toList.drop k) = if s[k] == 39 then 1 else remQ (s.toList.drop (k + 1)) + 1 := by rw [drop_cons s k h, remQ]
theorem remP_drop (s : ByteArray) (k : Nat) (h : k < s.size) : remP (s.toList.drop k) = if plainC s[k] then remP (s.toList.drop (k + 1)) + 1 else 0 := by rw [drop_cons s k h, remP]
theorem rem_end (s : ByteArray) (k : Nat) (h : s.size ≤ k) : remQ (s.toList.drop k) = 0 ∧ remP (s.toList.drop k) = 0 := by
  rw [List.drop_of_length_le (by rw [toList_length]; exact h)]; exact ⟨rfl, rfl⟩
theorem grown_drew {a w : World} {row : Option Nat} (h : a.grownBy w row) : a.grownBy w.drew row := ⟨h.os, h.tape, h.output, h.size, h.block⟩
theorem RdIs.drew {w : World} {rb : Nat} {s : ByteArray} {k : Nat} {v : Value} (h : RdIs w rb s k v) : RdIs w.drew rb s k v := h
theorem ref_head (s : ByteArray) (i : Nat) (h : i < s.size) : (s.toList.drop i).isEmpty = false ∧ (s.toList.drop i).headD 0 = s[i] := by
  rw [drop_cons s i h]; exact ⟨rfl, rfl⟩
theorem ext_mid (s : ByteArray) (k n : Nat) : (s.extract k (k + n)).toList = (s.toList.drop k).take n := by
  rw [ByteArray.toList_eq, ByteArray.data_extract, Array.toList_extract, ← ByteArray.toList_eq, List.extract_eq_take_drop, Nat.add_sub_cancel_left]
def endsOK (l : Bs) (n : Nat) : Bool := decide (0 < skN (l.drop n)) || (l.drop n).isEmpty || bracketB ((l.drop n).headD 0).toNat
def tkText (l : Bs) : Bs := if endsOK l (tkLen l) then l.take (tkLen l) else []
set_option maxHeartbeats 1600000 in
set_option maxRecDepth 100000 in
theorem token_none (s : ByteArray) (w : World) (rb k : Nat) (v : Value) (h : RdIs w rb s k v) (hk : k ≤ s.size) (hn : k = s.size ∨ ∃ hlt : k < s.size, bracketB s[k].toNat = true) :
    Calls Tryz.prog 260 #[.pointer (some ⟨rb, 0, none⟩)] w fun e w' => e = .returned (.string ⟨#[]⟩) ∧ w' = w := by
  obtain ⟨⟨y0, y1, y2⟩, f1, f2⟩ := cells3R h
  by_cases hlt : k < s.size
  · have hb : bracketB s[k].toNat = true := by rcases hn with h | ⟨_, h⟩; omega; exact h
    clear hn
    go_enter Tryz.func260, Tryz.ntmps260
    go_wp2_with (go_at_call 335; refine (refBracket_any _ _).mono ?_; rintro e w2 ⟨rfl, rfl⟩)
    go_ret
    exact ⟨rfl, rfl⟩
  · clear hn
    go_enter Tryz.func260, Tryz.ntmps260
    go_wp2_with (go_at_call 335; refine (refBracket_any _ _).mono ?_; rintro e w2 ⟨rfl, rfl⟩)
    go_ret
    exact ⟨rfl, rfl⟩
set_option maxHeartbeats 4000000 in
set_option maxRecDepth 100000 in
theorem token_some (s : ByteArray) (hs : s.size ≤ 400) (w : World) (rb k : Nat) (v : Value) (h : RdIs w rb s k v) (hlt : k < s.size) (hb : bracketB s[k].toNat = false) :
    Calls Tryz.prog 260 #[.pointer (some ⟨rb, 0, none⟩)] w fun e w' => e = .returned (.string (ofBs (tkText (s.toList.drop k)))) ∧
      (∃ k', k' = k + tkLen (s.toList.drop k) + skN (s.toList.drop (k + tkLen (s.toList.drop k))) ∧ k' ≤ s.size ∧ w.grownBy w' (some rb) ∧ RdIs w' rb s k' v) := by
  obtain ⟨⟨y0, y1, y2⟩, f1, f2⟩ := cells3R h
  obtain ⟨q, hq⟩ : ∃ q, q = (s[k] == 39) := ⟨_, rfl⟩
  have HT : Hid (k + tkLen (s.toList.drop k) = (k + 1) + (if q then remQ (s.toList.drop (k + 1)) else remP (s.toList.drop (k + 1)))) := by
    rw [Hid, hq, tkLen, drop_cons s k hlt]; simp only [List.headD_cons, List.drop_succ_cons, List.drop_zero]; omega
  have hq2 : ((s[k].toNat : Int) == 39) = q := by rw [hq]; exact ref_u8i s[k] 39 (by omega)
  have hle := tkLen_le (s.toList.drop k) (by rw [List.length_drop, toList_length]; omega)
  rw [List.length_drop, toList_length] at hle
  clear hq
  have hdk : decide (s.size ≤ k) = false := by simp; omega
  have hdk2 : decide ((s.size : Int) ≤ (k : Int)) = false := by simp; omega
  have HBR : ∀ (c : Int) (x : World), Calls Tryz.prog 335 #[.int .u8 c] x fun e w' => e = .returned (.bool (bracketB c)) ∧ x = w' := fun c x => (refBracket_any c x).mono fun e w' h => ⟨h.1, h.2.symm⟩
  have HBL : ∀ (c : Int) (x : World), Calls Tryz.prog 334 #[.int .u8 c] x fun e w' => e = .returned (.bool (blankB c)) ∧ x = w' := fun c x => (refBlank_any c x).mono fun e w' h => ⟨h.1, h.2.symm⟩
  go_enter Tryz.func260, Tryz.ntmps260
  go_upto_block 0 with (go_at_call 335; refine (HBR _ _).mono ?_; rintro e w2 ⟨rfl, rfl⟩)
  go_cut [] (fun wx => w.grownBy wx (some rb) ∧ RdIs wx rb s (k + tkLen (s.toList.drop k)) v)
  case first =>
    go_wp2_with fail
    go_loopg [5] (s.size - (k + 1)) (fun gk _ wr => ∃ k1 : Nat, gk = s.size - k1 ∧ k1 ≤ s.size ∧ k < k1 ∧ Hid (k + tkLen (s.toList.drop k) = k1 + (if q then remQ (s.toList.drop k1) else remP (s.toList.drop k1))) ∧ w.grownBy wr (some rb) ∧ RdIs wr rb s k1 v)
    case atStart => exact ⟨k + 1, rfl, by omega, by omega, HT, grown_setCell _ _ _ _, h.inc⟩
    case round =>
      clear y0 y1 y2 f1 f2 HT h
      obtain ⟨k1, hgk, hk1, hkk, HA, hg, hR⟩ := hrel
      subst hgk
      obtain ⟨⟨y0, y1, y2⟩, f1, f2⟩ := cells3R hR
      by_cases hlt1 : k1 < s.size
      · have h39e : ((s[k1].toNat : Int) == 39) = (s[k1] == 39) := ref_u8i s[k1] 39 (by omega)
        have HQ := remQ_drop s k1 hlt1
        have HP := remP_drop s k1 hlt1
        cases q with
        | true =>
          cases h39 : (s[k1] == 39) with
          | true =>
            rw [h39] at h39e HQ
            have HN : Hid (k + tkLen (s.toList.drop k) = k1 + 1) := by rw [Hid, HA.out, if_pos rfl, HQ]; rfl
            clear HA HQ HP h39
            go_wp2_with fail
            go_region
            all_goals (try go_wp2_with fail)
            go_region
            all_goals (try go_wp2_with (first | (go_at_call 335; refine (HBR _ _).mono ?_; rintro e w2 ⟨rfl, rfl⟩) | (go_at_call 334; refine (HBL _ _).mono ?_; rintro e w2 ⟨rfl, rfl⟩)))
            go_meet
            case rel =>
              rw [HN.out]
              constructor
              · exact grown_drew (grown_drew (grown_trans hg (grown_setCell _ _ _ _)))
              · exact hR.inc
          | false =>
            rw [h39] at h39e HQ
            have HN : Hid (k + tkLen (s.toList.drop k) = (k1 + 1) + (if true then remQ (s.toList.drop (k1 + 1)) else remP (s.toList.drop (k1 + 1)))) := by
              rw [Hid, HA.out, if_pos rfl, if_pos rfl, HQ, if_neg Bool.false_ne_true]; omega
            clear HA HQ HP h39
            go_wp2_with fail
            go_region
            all_goals (try go_wp2_with fail)
            go_region
            all_goals (try go_wp2_with (first | (go_at_call 335; refine (HBR _ _).mono ?_; rintro e w2 ⟨rfl, rfl⟩) | (go_at_call 334; refine (HBL _ _).mono ?_; rintro e w2 ⟨rfl, rfl⟩)))
            go_roundg (s.size - (k1 + 1))
            case measure => omega
            case rel =>
              refine ⟨k1 + 1, rfl, by omega, by omega, HN, ?_, ?_⟩
              · exact grown_drew (grown_drew (grown_trans hg (grown_setCell _ _ _ _)))
              · exact hR.inc
        | false =>
          by_cases hbl : blankB s[k1].toNat = true
          · have HN : Hid (k + tkLen (s.toList.drop k) = k1) := by rw [Hid, HA.out, if_neg Bool.false_ne_true, HP, plainC, hbl]; rfl
            clear HA HQ HP
            go_wp2_with fail
            go_region
            all_goals (try go_wp2_with fail)
            go_region
            all_goals (try go_wp2_with (first | (go_at_call 335; refine (HBR _ _).mono ?_; rintro e w2 ⟨rfl, rfl⟩) | (go_at_call 334; refine (HBL _ _).mono ?_; rintro e w2 ⟨rfl, rfl⟩)))
            go_meet
            case rel =>
              rw [HN.out]
              constructor
              · exact grown_drew (grown_drew hg)
              · exact hR
          · rw [Bool.not_eq_true] at hbl
            by_cases hbr : bracketB s[k1].toNat = true
            · have HN : Hid (k + tkLen (s.toList.drop k) = k1) := by rw [Hid, HA.out, if_neg Bool.false_ne_true, HP, plainC, hbl, hbr]; rfl
              clear HA HQ HP
              go_wp2_with fail
              go_region
              all_goals (try go_wp2_with fail)
              go_region
              all_goals (try go_wp2_with (first | (go_at_call 335; refine (HBR _ _).mono ?_; rintro e w2 ⟨rfl, rfl⟩) | (go_at_call 334; refine (HBL _ _).mono ?_; rintro e w2 ⟨rfl, rfl⟩)))
              go_meet
              case rel =>
                rw [HN.out]
                constructor
                · exact grown_drew (grown_drew hg)
                · exact hR
            · rw [Bool.not_eq_true] at hbr
              cases h39 : (s[k1] == 39) with
              | true =>
                have HN : Hid (k + tkLen (s.toList.drop k) = k1) := by rw [Hid, HA.out, if_neg Bool.false_ne_true, HP, plainC, hbl, hbr, h39]; rfl
                rw [h39] at h39e
                clear HA HQ HP h39
                go_wp2_with fail
                go_region
                all_goals (try go_wp2_with fail)
                go_region
                all_goals (try go_wp2_with (first | (go_at_call 335; refine (HBR _ _).mono ?_; rintro e w2 ⟨rfl, rfl⟩) | (go_at_call 334; refine (HBL _ _).mono ?_; rintro e w2 ⟨rfl, rfl⟩)))
                go_meet
                case rel =>
                  rw [HN.out]
                  constructor
                  · exact grown_drew (grown_drew hg)
                  · exact hR
              | false =>
                have HN : Hid (k + tkLen (s.toList.drop k) = (k1 + 1) + (if false then remQ (s.toList.drop (k1 + 1)) else remP (s.toList.drop (k1 + 1)))) := by
                  rw [Hid, HA.out, if_neg Bool.false_ne_true, if_neg Bool.false_ne_true, HP, plainC, hbl, hbr, h39]; simp; omega
                rw [h39] at h39e
                clear HA HQ HP h39
                go_wp2_with fail
                go_region
                all_goals (try go_wp2_with fail)
                go_region
                all_goals (try go_wp2_with (first | (go_at_call 335; refine (HBR _ _).mono ?_; rintro e w2 ⟨rfl, rfl⟩) | (go_at_call 334; refine (HBL _ _).mono ?_; rintro e w2 ⟨rfl, rfl⟩)))
                go_roundg (s.size - (k1 + 1))
                case measure => omega
                case rel =>
                  refine ⟨k1 + 1, rfl, by omega, by omega, HN, ?_, ?_⟩
                  · exact grown_drew (grown_drew (grown_trans hg (grown_setCell _ _ _ _)))
                  · exact hR.inc
      · have HN : Hid (k + tkLen (s.toList.drop k) = k1) := by
          have := rem_end s k1 (by omega)
          rw [Hid, HA.out, this.1, this.2]; split <;> rfl
        clear HA
        go_wp2_with fail
        go_region
        all_goals (try go_wp2_with fail)
        go_meet
        case rel =>
          rw [HN.out]
          constructor
          · exact grown_drew hg
          · exact hR
  case rest =>
    obtain ⟨hg, hR⟩ := hcut
    clear HT y0 y1 y2 f1 f2 h
    obtain ⟨n, hn⟩ : ∃ n, n = tkLen (s.toList.drop k) := ⟨_, rfl⟩
    rw [← hn] at hR hle
    have HN0 : Hid _ := hn
    have hdd : (s.toList.drop k).drop n = s.toList.drop (k + n) := by rw [List.drop_drop]
    have HX : Hid (s.extract k (k + n) = ofBs ((s.toList.drop k).take n)) := by
      rw [Hid, ba_eq (s.extract k (k + n)), ext_mid]
    have HTT : Hid (tkText (s.toList.drop k) = if endsOK (s.toList.drop k) n then (s.toList.drop k).take n else []) := by rw [Hid, tkText, ← hn]
    have HEE : Hid (endsOK (s.toList.drop k) n = (decide (0 < skN (s.toList.drop (k + n))) || (s.toList.drop (k + n)).isEmpty || bracketB ((s.toList.drop (k + n)).headD 0).toNat)) := by rw [Hid, endsOK, hdd]
    obtain ⟨e1, he1⟩ : ∃ e1, e1 = k + n := ⟨_, rfl⟩
    have hke : k ≤ e1 := by omega
    have hle1 : e1 ≤ s.size := by omega
    rw [← he1] at hR HX HEE
    have HE1 : Hid _ := he1
    clear hdd hn he1 hle
    obtain ⟨⟨y0, y1, y2⟩, f1, f2⟩ := cells3R hR
    go_wp2_with fail
    go_region
    go_wp2_with (go_at_call 259; refine (skip_any s hs _ rb e1 v hR.drew hle1).mono ?_)
    rintro e w3 ⟨rfl, hk3, hg3, hR3⟩
    have G3 : w.grownBy w3 (some rb) := grown_trans (grown_drew hg) hg3
    clear y0 y1 y2 f1 f2 hg hg3 hR
    obtain ⟨⟨y0, y1, y2⟩, f1, f2⟩ := cells3R hR3
    by_cases hsk : 0 < skN (s.toList.drop e1)
    · have HF : Hid (tkText (s.toList.drop k) = (s.toList.drop k).take n) := by
        rw [Hid, HTT.out, HEE.out, decide_eq_true hsk]; rfl
      obtain ⟨k3, hk3e⟩ : ∃ k3, k3 = e1 + skN (s.toList.drop e1) := ⟨_, rfl⟩
      have H3 : Hid _ := hk3e
      rw [← hk3e] at y1 hk3 hR3
      have hdc : decide (0 < skN (s.toList.drop e1)) = true := decide_eq_true hsk
      clear hk3e hsk
      by_cases hlt3 : k3 < s.size
      · go_wp2_with fail
        go_quiet ((go_at_call 335; exact Calls.quiet_of_same (refBracket_any _ _)))
        go_wp2_with fail
        go_ret
        exact ⟨by rw [HF.out, ← HX.out]; rfl, k3, (by rw [H3.out, HE1.out, HN0.out]), hk3, grown_drewN G3 _, hR3⟩
      · have hge : decide ((k3 : Int) < (s.size : Int)) = false := by simp; omega
        go_wp2_with fail
        go_quiet ((go_at_call 335; exact Calls.quiet_of_same (refBracket_any _ _)))
        go_wp2_with fail
        go_ret
        exact ⟨by rw [HF.out, ← HX.out]; rfl, k3, (by rw [H3.out, HE1.out, HN0.out]), hk3, grown_drewN G3 _, hR3⟩
    · have hz : skN (s.toList.drop e1) = 0 := by omega
      have hdc : decide (0 < skN (s.toList.drop e1)) = false := decide_eq_false hsk
      have HE2 : Hid (endsOK (s.toList.drop k) n = ((s.toList.drop e1).isEmpty || bracketB ((s.toList.drop e1).headD 0).toNat)) := by rw [Hid, HEE.out, hdc]; rfl
      have HZ : Hid _ := hz
      rw [hz] at y1 hk3 hR3
      simp only [Nat.add_zero] at y1 hk3 hR3
      clear hz hsk HEE
      by_cases hlt3 : e1 < s.size
      · obtain ⟨r1, r2⟩ := ref_head s e1 hlt3
        rw [r1, r2, Bool.false_or] at HE2
        clear r1 r2
        cases hbr : bracketB s[e1].toNat with
        | true =>
          have HF : Hid (tkText (s.toList.drop k) = (s.toList.drop k).take n) := by rw [Hid, HTT.out, HE2.out, hbr]; rfl
          go_wp2_with fail
          go_quiet ((go_at_call 335; exact Calls.quiet_of_same (refBracket_any _ _)))
          go_wp2_with fail
          go_ret
          exact ⟨by rw [HF.out, ← HX.out]; rfl, e1, (by have hz := HZ.out; rw [HE1.out, HN0.out] at hz ⊢; omega), hk3, grown_drewN G3 _, hR3⟩
        | false =>
          have HF : Hid (tkText (s.toList.drop k) = []) := by rw [Hid, HTT.out, HE2.out, hbr]; rfl
          go_wp2_with fail
          go_quiet ((go_at_call 335; exact Calls.quiet_of_same (refBracket_any _ _)))
          go_wp2_with fail
          go_ret
          exact ⟨by rw [HF.out]; rfl, e1, (by have hz := HZ.out; rw [HE1.out, HN0.out] at hz ⊢; omega), hk3, grown_drewN G3 _, hR3⟩
      · have HF : Hid (tkText (s.toList.drop k) = (s.toList.drop k).take n) := by
          have e : (s.toList.drop e1).isEmpty = true := by rw [List.drop_of_length_le (by rw [toList_length]; omega)]; rfl
          rw [Hid, HTT.out, HE2.out, e]; rfl
        have hge : decide ((e1 : Int) < (s.size : Int)) = false := by simp; omega
        go_wp2_with fail
        go_quiet ((go_at_call 335; exact Calls.quiet_of_same (refBracket_any _ _)))
        go_wp2_with fail
        go_ret
        exact ⟨by rw [HF.out, ← HX.out]; rfl, e1, (by have hz := HZ.out; rw [HE1.out, HN0.out] at hz ⊢; omega), hk3, grown_drewN G3 _, hR3⟩
end Go.Proofs.YtilfjpmeededmaaGreatDoor

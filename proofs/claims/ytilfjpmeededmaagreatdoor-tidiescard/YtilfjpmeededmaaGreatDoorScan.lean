/- What scan answers: the tokens, in a slice of the call's own. -/
import Derived.Test.YtilfjpmeededmaaGreatDoorScanP
namespace Go.Proofs.YtilfjpmeededmaaGreatDoor
open Go.RowKit

theorem infoTok : (Tryz.prog.info? 233).map (fun i => (i.zero, i.size, i.bytes)) = some (some (.agg #[.int .i64 0, .string ⟨#[]⟩]), 2, 24) := by kernel_rfl

set_option maxHeartbeats 1600000 in
set_option maxRecDepth 100000 in
theorem scan_any (s0 : ByteArray) (w : World) (hs0 : s0.size ≤ 400) :
    Calls Tryz.prog 177 #[.string s0] w fun e w' => Below w.heap.size w w' ∧
      ((scanS s0.toList = none ∧ e = .returned (.tuple #[.slice none 0 0, .bool false])) ∨
       (∃ ts v, scanS s0.toList = some ts ∧ ts.length ≤ 400 ∧ e = .returned (.tuple #[v, .bool true]) ∧ w'.ownsRow w.heap.size 233 2 v ts.length (toksCells ts))) := by
  obtain ⟨i0, hi, hz0, hz1, hz2⟩ := info_parts infoTok
  go_enter Tryz.func177, Tryz.ntmps177
  go_wp2_with fail
  go_loopw [0, 4] (fun sv tv wr => ∃ (s : ByteArray) (ts : List Tk), sv = .string s ∧ s.size + ts.length ≤ 400 ∧ wr.ownsRow w.heap.size 233 2 tv ts.length (toksCells ts) ∧ Below w.heap.size w wr ∧ Hid (scanS s0.toList = (scanS s.toList).map (ts ++ ·))) (fun sv _ _ => match sv with | .string s => s.size | _ => 0)
  case atStart => exact ⟨s0, [], rfl, by simpa using hs0, World.ownsRow_nil _ _ _ _, Below.refl _ _, by rw [Hid]; simp⟩
  case round =>
    obtain ⟨s, ts, rfl, hlen, hown, hbel, HA⟩ := hrel
    have hsz : s.size ≤ 400 := by omega
    have hsm : s.size ≤ maxLen := by unfold maxLen; omega
    by_cases h0 : s.size = 0
    · have HE : Hid (scanS s0.toList = some ts) := by rw [Hid, HA.out, scanS_nil _ (by rw [toList_length, h0])]; simp
      go_wp2_with fail
      go_ret2
      exact ⟨hbel, .inr ⟨ts, _, HE.out, by omega, rfl, hown⟩⟩
    · have hpos : 0 < s.size := by omega
      have HS := scanS_eq s.toList (by rw [toList_length]; exact hpos)
      rw [head_get s hpos] at HS
      replace HS : Hid _ := HS
      by_cases hb : blankB s[0].toNat = true
      · have HN : Hid (scanS s0.toList = (scanS (s.extract 1 s.size).toList).map (ts ++ ·)) := by
          rw [Hid, HA.out, HS.out, if_pos hb, ext_drop]
        go_wp2_with (go_at_call 251; refine (isBlank_any _ _).mono ?_; rintro e w2 ⟨rfl, rfl⟩)
        go_roundw
        case rel => exact ⟨s.extract 1 s.size, ts, rfl, by simp; omega, hown, hbel, HN⟩
        case measure => simp; omega
      · rw [Bool.not_eq_true] at hb
        have hp1 := plen_pos s.toList (by rw [toList_length]; exact hpos) (by rw [head_get s hpos]; exact hb)
        have hp2 := plen_le s.toList (by rw [toList_length]; exact hpos)
        rw [toList_length] at hp2
        obtain ⟨n, hn⟩ : ∃ n, n = plen s.toList := ⟨_, rfl⟩
        have HPL : ∀ w : World, Calls Tryz.prog 252 #[.string s] w fun e w' => e = .returned (.int .i64 n) ∧ w' = w := by
          intro w; rw [hn]; exact pieceLength_any s w hsm hpos
        obtain ⟨k, hk⟩ : ∃ k, k = kindS (s.toList.take n) := ⟨_, rfl⟩
        have HKO : ∀ w : World, Calls Tryz.prog 253 #[.string (s.extract 0 n)] w fun e w' => e = .returned (.int .i64 k) ∧ Below w.heap.size w w' := by
          intro w; rw [hk, ← ext_take]; exact kindOf_any _ _ (by simp; unfold maxLen; omega)
        have HS2 : Hid (scanS s0.toList = if k = 0 then none else (scanS (s.extract n s.size).toList).map ((ts ++ [(k, s.toList.take n)]) ++ ·)) := by
          rw [Hid, HA.out, HS.out, if_neg (by rw [hb]; simp), ← hn, ← hk, ext_drop]
          by_cases hk0 : k = 0
          · rw [if_pos hk0, if_pos hk0]; rfl
          · rw [if_neg hk0, if_neg hk0, map_cons_append]
        rw [← hn] at hp1 hp2
        have HX : Hid (Value.string (s.extract 0 n) = .string (ofBs (s.toList.take n))) := by
          rw [Hid]; congr 1; rw [← ext_take]; exact ba_eq _
        clear HA HS hn hk
        by_cases hk0 : k = 0
        · have HF : Hid (scanS s0.toList = none) := by rw [Hid, HS2.out, if_pos hk0]
          subst hk0
          go_wp2_with (first | (go_at_call 251; refine (isBlank_any _ _).mono ?_; rintro e w2 ⟨rfl, rfl⟩) | (go_at_call 252; refine (HPL _).mono ?_; rintro e w2 ⟨rfl, rfl⟩) | (go_at_call 253; refine (HKO _).mono ?_; rintro e w2 ⟨rfl, hb2⟩))
          go_ret2
          exact ⟨hbel.trans (hb2.mono hbel.size), .inl ⟨HF.out, rfl⟩⟩
        · have HF : Hid (scanS s0.toList = (scanS (s.extract n s.size).toList).map ((ts ++ [(k, s.toList.take n)]) ++ ·)) := by rw [Hid, HS2.out, if_neg hk0]
          clear HS2
          have hkb : (k == 0) = false := by simpa using hk0
          clear hk0
          go_wp2_with (first
            | (go_at_call 251; refine (isBlank_any _ _).mono ?_; rintro e w2 ⟨rfl, rfl⟩)
            | (go_at_call 252; refine (HPL _).mono ?_; rintro e w2 ⟨rfl, rfl⟩)
            | (go_at_call 253; refine (HKO _).mono ?_; rintro e w2 ⟨rfl, hb2⟩)
            | (at_builtin; refine wpList_append_own _ rfl (.tmp 23) (.tmp 27) 343 rfl w.heap.size 233 i0 (.agg #[.int .i64 0, .string ⟨#[]⟩]) 2 24 Tryz.underlying343 hi hz0 hz1 hz2 rfl (by decide) _ _ _ rfl ((ownsRow_below hown hb2).alloc _) ⟨w2.heap.size, 0, none⟩ 1 1 [.int .i64 k, .string (s.extract 0 n)] rfl rfl ?c1 ?c2 ?c3 ?c4 ?c5 ?_))
          case c1 =>
            intro j u hj
            match j, hj with
            | 0, hj => simp at hj; subst hj; simp [Addr.add]
            | 1, hj => simp at hj; subst hj; simp [Addr.add]
          case c2 => intro u hu; simp at hu; rcases hu with rfl | rfl <;> rfl
          case c3 => unfold maxLen; omega
          case c4 => omega
          case c5 => have := hbel.size; have := hb2.size; simp; omega
          · intro v' w3 hown' hgrow _
            have R : w3.ownsRow w.heap.size 233 2 v' (ts ++ [(k, s.toList.take n)]).length (toksCells (ts ++ [(k, s.toList.take n)])) := by
              rw [toksCells_append, toksCells_one, tokCells, ← HX.out]; simpa using hown'
            have hz := hbel.size
            have hz2 := hb2.size
            have RB : Below w.heap.size w w3 := ((hbel.trans (hb2.mono hz)).alloc (by omega) _).grown hgrow (by simp; omega) (fun k hk => (hown.lt k hk).1)
            clear hown' hgrow hown hb2 HPL HKO HX
            go_wp2
            go_roundw
            case rel => exact ⟨s.extract n s.size, _, rfl, by simp; omega, R, RB, HF⟩
            case measure => simp; omega
end Go.Proofs.YtilfjpmeededmaaGreatDoor

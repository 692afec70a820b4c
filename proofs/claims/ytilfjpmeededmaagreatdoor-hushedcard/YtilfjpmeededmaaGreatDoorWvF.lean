/- Package work: apply, of heads that compare. -/
import Derived.Test.YtilfjpmeededmaaGreatDoorWvD
import Derived.Test.YtilfjpmeededmaaGreatDoorWvE
import Derived.Deep.RegionHeld2
namespace Go.Proofs.YtilfjpmeededmaaGreatDoor
open Go.RowKit

set_option maxHeartbeats 4000000 in
set_option maxRecDepth 100000 in
theorem apply_cmp (w : World) (v : Value) (a c : CellT) (h : CellsIn w v [a, c]) (ha : a.1 ≠ 0) (hc0 : c.1 ≠ 0) (hd : Bs) (hh : hd = [61] ∨ hd = [60] ∨ hd = [60, 61]) :
    Calls Tryz.prog 221 #[.string (ofBs hd), v] w fun e w' => Vald w (cmpQ hd (cmpS a c)) e w' := by
  have HC := nilContainsFunc_any (w.alloc (cellO 0 0 ⟨#[]⟩)) v [a, c] (h.keep (below_box w _))
  have hn : anyNil [a, c] = false := by simp [anyNil, ha, hc0]
  rw [hn] at HC
  obtain ⟨b, off, cap, rfl, hb, hc⟩ := cellsIn_two h
  have HP := fun x : World => compare_any hd hh a c x
  obtain ⟨ak, an, al⟩ := a
  obtain ⟨ck, cn, cl⟩ := c
  simp only at HP hc
  obtain ⟨r, hr⟩ : ∃ r, r = cmpQ hd (cmpS (ak, an, al) (ck, cn, cl)) := ⟨_, rfl⟩
  rw [← hr] at HP ⊢
  clear hn h hr ha hc0
  have e1 : ofBs hd = ⟨#[61]⟩ ∨ ofBs hd = ⟨#[60]⟩ ∨ ofBs hd = ⟨#[60, 61]⟩ := by
    rcases hh with rfl | rfl | rfl
    · exact .inl rfl
    · exact .inr (.inl rfl)
    · exact .inr (.inr rfl)
  clear hh
  rcases e1 with e1 | e1 | e1 <;> rw [e1] at HP ⊢ <;> clear e1
  all_goals
    go_enter Tryz.func221, Tryz.ntmps221
    go_upto_region 17 with (go_at_call 299; refine HC.mono ?_; rintro e w2 ⟨rfl, hb2⟩; obtain ⟨B2, k2, l2⟩ := nilBox hb2; obtain ⟨⟨q0, q1, q2⟩, p0, p1, p2⟩ := hc w2 B2; have hb' := Nat.lt_of_lt_of_le hb B2.size)
    clear HC hc hb2
    go_region_with (go_at_call 303; refine (HP _).mono ?_; rintro e w3 ⟨⟨t, ht, rfl⟩, hb3⟩; replace hb3 := undrewB hb3; obtain ⟨⟨r0, r1, r2⟩, rf0, rf1, rf2⟩ := cells3 ((hb3.block _ l2).trans k2); have l3 := Nat.lt_of_lt_of_le l2 hb3.size)
    all_goals (go_wp2_with fail)
    all_goals
      refine bodyPost_ret (v := .tuple #[.agg #[.int .i64 3, .int .i64 (truN t), .string ⟨#[]⟩], .int .i64 0]) (by simp [results, Tryz.results221, go_sem, r0, r1, r2]) rfl ⟨by rw [ht]; rfl, ?_⟩
      first | exact set3_below (B2.trans (hb3.mono B2.size)) (Nat.le_refl _) _ _ _ | exact (set3_below (B2.trans (hb3.mono B2.size)) (Nat.le_refl _) _ _ _).drew

theorem anyNil_two {a b : CellT} (h : a.1 = 0 ∨ b.1 = 0) : anyNil [a, b] = true := by
  rcases h with h | h <;> simp [anyNil, h]
/-- apply, of what is quiet. -/
theorem apply_any (w : World) (v : Value) (cs : List CellT) (h : CellsIn w v cs) (hd : Bs) (r : CellT) (ha : appQ hd cs = some r) :
    Calls Tryz.prog 221 #[.string (ofBs hd), v] w fun e w' => Vald w r e w' := by
  match cs, ha with
  | [], ha => cases ha
  | [c], ha =>
    rw [appQ] at ha
    split at ha
    · next hh =>
      rw [app1] at ha
      by_cases h1 : hd = hNull
      · subst h1
        rw [if_pos rfl] at ha; cases ha
        exact apply_null w v c h
      · rw [if_neg h1] at ha
        have h5 : hd = hNot ∨ hd = hLen ∨ hd = [61] ∨ hd = [60] ∨ hd = [60, 61] := by
          rcases hh with h | h | h
          · exact absurd h h1
          · exact .inl h
          · exact .inr (.inl h)
        by_cases h0 : c.1 = 0
        · rw [if_pos h0] at ha; cases ha
          exact apply_nil w v [c] h (by simp [anyNil, h0]) hd h5
        · rw [if_neg h0] at ha
          by_cases h2 : hd = hNot
          · subst h2
            rw [if_pos rfl] at ha; cases ha
            exact apply_not w v c h h0
          · rw [if_neg h2] at ha
            by_cases h3 : hd = hLen
            · subst h3
              rw [if_pos rfl] at ha; cases ha
              exact apply_len w v c h h0
            · rw [if_neg h3] at ha; cases ha
    · cases ha
  | [a, c], ha =>
    rw [appQ, app2] at ha
    by_cases hh : hd = [61] ∨ hd = [60] ∨ hd = [60, 61]
    · rw [if_pos hh] at ha
      by_cases h0 : a.1 = 0 ∨ c.1 = 0
      · rw [if_pos h0] at ha; cases ha
        exact apply_nil w v [a, c] h (anyNil_two h0) hd (.inr (.inr hh))
      · rw [if_neg h0] at ha; cases ha
        exact apply_cmp w v a c h (fun e => h0 (.inl e)) (fun e => h0 (.inr e)) hd hh
    · rw [if_neg hh] at ha; cases ha
  | _ :: _ :: _ :: _, ha => cases ha
end Go.Proofs.YtilfjpmeededmaaGreatDoor

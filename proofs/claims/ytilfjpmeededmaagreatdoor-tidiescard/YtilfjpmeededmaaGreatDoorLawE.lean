/-
  PROVED: for all goods and every script the statement Tidies (P3: every Tidy of the script, of whatever text, answers as the document does; so does the one that stands ahead of it; no list has come out) answers true, and what came in reads behind the call as it read before it. The condition: five variables of Go's library (strconv's two errors, three tables) stand as the program's text lays them, tied to that text by the given tie; the tie speaks of the pruned copy of the project, without its tests. The walk looks into none of them.
-/
import Derived.Test.YtilfjpmeededmaaGreatDoorRows
import Derived.Test.YtilfjpmeededmaaGreatDoorCards
import Derived.Test.YtilfjpmeededmaaGreatDoorTie
import Derived.Test.YtilfjpmeededmaaGreatDoorLawC
import Derived.Test.YtilfjpmeededmaaGreatDoorLawF
import Derived.LaidMore
import Derived.LaidOnce
import Derived.Stop.Joined
import Derived.SevenTiedAt
import Derived.Test.YtilfjpmeededmaaGreatDoorLvg
import Derived.Test.YtilfjpmeededmaaGreatDoorCardH
namespace Go.Proofs.YtilfjpmeededmaaGreatDoor
open Go.ChangeShapes Go.WideShapes Go.ChangeAt Go.RowKit
open Go
set_option linter.unusedVariables false

/-- The heap that the door's own run leaves meets the condition. -/
theorem door_met (os : Os) (args : Array Value) : laidMetH Tryz.prog Rows.tidiesRow.laid ((World.doorLaid Tryz.prog 62 os).forCall (fun _ _ => 0) ⟨#[], args, []⟩).memory :=
  laidMetH_of_parts3 (fuel := 8) (laidMet_of_run' 8 (by kernel_rfl) (by kernel_rfl)) (by kernel_rfl) (by kernel_rfl)

set_option maxRecDepth 100000 in
theorem td_lifted (os : Os) (started : os.Started) (H : Type) (enc : TypeId × Value → H) :
    ReturnsInHanded {} Tryz.checked os 3 .any (fun w args => (Rows.tidiesSpec.pre enc Tryz.prog Tryz.f3 [] false w args ∧ laidMetH Tryz.prog Rows.tidiesRow.laid w) ∧ sizedMet enc Tryz.prog Tryz.f3 (OpenSpec.ofChange Rows.tidiesSpec) false w args) (Rows.tidiesSpec.post enc Tryz.prog Tryz.f3 false true false false) := by
  refine returnsInHanded_of_change_and (C := Tryz.checked) (X := fun w _ => laidMetH Tryz.prog Rows.tidiesRow.laid w) (fun _ _ _ hh h => h.of_heap hh) td_own started (by kernel_rfl) Tryz.func3
    (ChangeSpec.witness_shaped (enc := enc) (C := Tryz.checked) (os := os) (X := fun w _ => laidMetH Tryz.prog Rows.tidiesRow.laid w) false (World.doorLaid Tryz.prog 62 os) #[.agg #[.slice none 0 0, .slice none 0 0, .slice none 0 0], .slice none 0 0] 8 rfl (World.shaped_of_RefB (by kernel_rfl) (by kernel_rfl)) (by kernel_rfl) (by kernel_rfl) (by kernel_rfl) (door_met os _)) ?_
  intro W base args ds gs before hval0 hW _ _ hL _
  have hval : ∀ (j : Nat) t v, Tryz.f3.params[j]? = some t → args[j]? = some v → Value.okWide Tryz.prog W .any base t v := hval0
  have hW' := hW
  obtain ⟨p, q, hA0, hV, rfl, hfz, hnd⟩ := hW
  have hA : DataW.TrodAll enc Tryz.prog W 0 (fun _ => true) true Tryz.f3.params.toList args.toList ds p := hA0
  rw [Tryz.params3] at hA hval
  obtain ⟨v0, vs0, d0, ds0, p0, q0, hargs, rfl, rfl, h0, r0⟩ := trodAll_cons hA
  obtain ⟨v1, vs1, d1, ds1, p1, q1, rfl, rfl, rfl, h1, r1⟩ := trodAll_cons r0
  obtain ⟨rfl, rfl, rfl⟩ := trodAll_nil r1
  obtain rfl : args = #[v0, v1] := by cases args; simp_all
  obtain ⟨rfl, rfl⟩ := trodVars_none hV
  obtain ⟨cs0, rfl, hcs0⟩ := okWide_struct Tryz.underlying26 (hval 0 26 v0 rfl rfl)
  have k0 := h0
  have lt0 : ∀ x ∈ p0, x.block < W.heap.size := by obtain ⟨m, hm⟩ := k0; exact DataW.trod_lt m _ _ _ hm
  obtain ⟨a0, l0, c0, a1, l1, c1, a2, l2, c2, e0⟩ : ∃ a0 l0 c0 a1 l1 c1 a2 l2 c2, cs0 = #[.slice a0 l0 c0, .slice a1 l1 c1, .slice a2 l2 c2] := by
    obtain ⟨fuel, hf⟩ := h0
    have h3 : cs0.toList.length = 3 := by rw [Array.length_toList, hcs0]; kernel_rfl
    have hf' : DataW.trod enc Tryz.prog W 0 (fun _ => true) true fuel 26 cs0.toList = some (d0, p0) := by simpa [Value.cells] using hf
    obtain ⟨a0, l0, c0, a1, l1, c1, a2, l2, c2, e⟩ := goods_of_trod hf' h3
    exact ⟨a0, l0, c0, a1, l1, c1, a2, l2, c2, by rw [← Array.toList_inj]; exact e⟩
  subst e0
  obtain ⟨ao, n, cap, rfl⟩ := okWide_slice Tryz.underlying27 (hval 1 27 v1 rfl rfl)
  have k1 := h1
  have lt1 : ∀ x ∈ p1, x.block < W.heap.size := by obtain ⟨m, hm⟩ := k1; exact DataW.trod_lt m _ _ _ hm
  obtain ⟨hn, hops⟩ : n ≤ maxLen ∧ (n = 0 ∨ ∃ b off, ao = some ⟨b, off, none⟩ ∧ b < W.heap.size ∧ OpsAt W b off n) := by
    obtain ⟨fuel, hf⟩ := h1
    exact ops_of_trod (by simpa [Value.cells] using hf)
  clear hA0 hval0
  refine (tidies_step W a0 a1 a2 ao l0 c0 l1 c1 l2 c2 n cap hn hops).mono fun e W' ⟨he, bel⟩ => ?_
  subst he
  exact ⟨_, rfl, _, _, _, [], _, [], hW', trodAll_mk1 (shut_bool Tryz.underlying4 _), (trodAll_cons_mk (Below.trod td_laid (by kernel_rfl) (of_decide_eq_true (by kernel_rfl)) k0 bel lt0) (trodAll_cons_mk (Below.trod td_laid (by kernel_rfl) (of_decide_eq_true (by kernel_rfl)) k1 bel lt1) trodAll_mk0)), rfl, bel.frame _, fun h => by cases h⟩

theorem td_name : Tryz.pinned.checked.prog.funcNamed Rows.tidiesRow.func = some 3 := by kernel_rfl
theorem td_inst : Tryz.f3.isInstance Tryz.pinned.checked.prog Rows.tidiesRow.origin Rows.tidiesRow.targs := of_decide_eq_true (by kernel_rfl)
theorem td_wrap : Tryz.f3.isWrapper Tryz.pinned.checked.prog Rows.tidiesRow.wrapper Rows.tidiesRow.mainSum := by
  unfold Func.isWrapper; first | (rw [if_pos (by decide +kernel)]; kernel_rfl) | (rw [if_neg (by decide +kernel)]; exact ⟨rfl, rfl⟩)
theorem td_over : Rows.tidiesRow.holds Tryz.pinned (OpenSpec.ofChange Rows.tidiesSpec) :=
  OpenClaim.holds_of_wide_leaving 3 Tryz.f3 rfl rfl rfl rfl rfl rfl rfl ⟨rfl, rfl, rfl, rfl, rfl⟩ rfl rfl rfl rfl rfl td_name Tryz.func3 td_closed
    td_inst td_wrap (fun os started H enc _ => leaving_of_handed (td_lifted os started H enc))

theorem cg_gt : true = Rows.tidiesRow.goesBy Tryz.pinned.checked.prog := by
  have hu : Tryz.prog.unfollowed 3 = true := by
    have := td_k10; rw [beq_iff_eq] at this; exact this.symm
  have : Tryz.prog.goesFrom "curtain/curtainlaw.Tidies" = true := by
    unfold Program.goesFrom
    rw [cg_ft, Option.any_some, goes_of hu]
  have e : Rows.tidiesRow.func = "curtain/curtainlaw.Tidies" := rfl
  have this' : Tryz.pinned.checked.prog.goesFrom "curtain/curtainlaw.Tidies" = true := this
  unfold OpenClaim.goesBy Program.goesAt
  rw [e, this', Bool.true_or]
/-- THE STATEMENT. -/
theorem tidies_card_holds : Rows.TidiesCardSaid :=
  holds_tied_goes .later [.data, .data, .data, .sentinel, .sentinel] true (true, "6fd12d082dd462b6ee9d8164c12dd7c438499c6601c3c9515c9beeaddf52b2cb") true true
    td_over cg_wt tidies_row_tie rfl ⟨rfl, rfl⟩ cg_m rfl
    (fun f fn hf hfn => by
      obtain rfl : f = 3 := Option.some.inj (cg_ft.symm.trans hf) |>.symm
      obtain rfl : fn = Tryz.f3 := (Option.some.inj (Tryz.func3.symm.trans hfn)).symm
      exact ⟨cg_lk, fun j t ht => by
        rw [Tryz.params3] at ht
        have hm : t ∈ [26, 27] := by simpa using Array.mem_of_getElem? ht
        have hm2 : t ∈ [30, 31, 3, 26, 27] := by simp only [List.mem_cons, List.not_mem_nil, or_false] at hm; rcases hm with h | h <;> simp [h]
        exact (show Tryz.prog.wantsStandIn t = false by simpa using List.all_eq_true.1 cg_st t hm2)⟩)
    cg_gt
#print axioms tidies_card_holds
end Go.Proofs.YtilfjpmeededmaaGreatDoor

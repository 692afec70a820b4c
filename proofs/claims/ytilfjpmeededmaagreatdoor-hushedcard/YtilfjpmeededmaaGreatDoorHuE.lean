/-
  PROVED: for every list of numbers, every list of raw cells and every kind the statement Hushed (P5, P6, P11: a function that is made of what is quiet is quiet; called with anything that fits it neither fails nor is noted, and what it gives is nothing or of its type; a function that notes it where its first argument is nothing is not quiet, gives the same, and is noted just then) answers true, and what came in reads behind the call as it read before it. The condition: five variables of Go's library (strconv's two errors, three tables) stand as the program's text lays them, tied to that text by the given tie; the tie speaks of the pruned copy of the project, without its tests. The walk reads one of them, the powers of ten of strconv.
-/
import Derived.Test.YtilfjpmeededmaaGreatDoorRows
import Derived.Test.YtilfjpmeededmaaGreatDoorCards
import Derived.Test.YtilfjpmeededmaaGreatDoorTie
import Derived.Test.YtilfjpmeededmaaGreatDoorHuG
import Derived.Test.YtilfjpmeededmaaGreatDoorHuF
import Derived.LaidMore
import Derived.LaidOnce
import Derived.Stop.Joined
import Derived.SevenTiedAt
import Derived.Test.YtilfjpmeededmaaGreatDoorLvg
import Derived.Test.YtilfjpmeededmaaGreatDoorCardH
namespace Go.Proofs.YtilfjpmeededmaaGreatDoor
open Go.ChangeShapes Go.WideShapes Go.ChangeAt Go.RowKit
open Go
set_option linter.unusedVariables false

/-- The heap that the door's own run leaves meets the condition. -/
theorem hu_met (os : Os) (args : Array Value) : laidMetH Tryz.prog Rows.hushedRow.laid ((World.doorLaid Tryz.prog 62 os).forCall (fun _ _ => 0) ⟨#[], args, []⟩).memory :=
  laidMetH_of_parts3 (fuel := 8) (laidMet_of_run' 8 (by kernel_rfl) (by kernel_rfl)) (by kernel_rfl) (by kernel_rfl)

set_option maxRecDepth 100000 in
theorem hu_lifted (os : Os) (started : os.Started) (H : Type) (enc : TypeId × Value → H) :
    ReturnsInHanded {} Tryz.checked os 6 .any (fun w args => (Rows.hushedSpec.pre enc Tryz.prog Tryz.f6 [] false w args ∧ laidMetH Tryz.prog Rows.hushedRow.laid w) ∧ sizedMet enc Tryz.prog Tryz.f6 (OpenSpec.ofChange Rows.hushedSpec) false w args) (Rows.hushedSpec.post enc Tryz.prog Tryz.f6 false true false false) := by
  refine returnsInHanded_of_change_and (C := Tryz.checked) (X := fun w _ => laidMetH Tryz.prog Rows.hushedRow.laid w) (fun _ _ _ hh h => h.of_heap hh) hu_own started (by kernel_rfl) Tryz.func6
    (ChangeSpec.witness_shaped (enc := enc) (C := Tryz.checked) (os := os) (X := fun w _ => laidMetH Tryz.prog Rows.hushedRow.laid w) false (World.doorLaid Tryz.prog 62 os) #[.slice none 0 0, .slice none 0 0, .int .i64 0] 8 rfl (World.shaped_of_RefB (by kernel_rfl) (by kernel_rfl)) (by kernel_rfl) (by kernel_rfl) (by kernel_rfl) (hu_met os _)) ?_
  intro W base args ds gs before hval0 hW _ _ hL _
  have hval : ∀ (j : Nat) t v, Tryz.f6.params[j]? = some t → args[j]? = some v → Value.okWide Tryz.prog W .any base t v := hval0
  have hW' := hW
  obtain ⟨p, q, hA0, hV, rfl, hfz, hnd⟩ := hW
  have hA : DataW.TrodAll enc Tryz.prog W 0 (fun _ => true) true Tryz.f6.params.toList args.toList ds p := hA0
  rw [Tryz.params6] at hA hval
  obtain ⟨v0, vs0, d0, ds0, p0, q0, hargs, rfl, rfl, h0, r0⟩ := trodAll_cons hA
  obtain ⟨v1, vs1, d1, ds1, p1, q1, rfl, rfl, rfl, h1, r1⟩ := trodAll_cons r0
  obtain ⟨v2, vs2, d2, ds2, p2, q2, rfl, rfl, rfl, h2, r2⟩ := trodAll_cons r1
  obtain ⟨rfl, rfl, rfl⟩ := trodAll_nil r2
  obtain rfl : args = #[v0, v1, v2] := by cases args; simp_all
  obtain ⟨rfl, rfl⟩ := trodVars_none hV
  obtain ⟨a0, len0, cap0, rfl⟩ := okWide_slice Tryz.underlying30 (hval 0 30 v0 rfl rfl)
  have k0 := h0
  have lt0 : ∀ x ∈ p0, x.block < W.heap.size := by obtain ⟨m, hm⟩ := k0; exact DataW.trod_lt m _ _ _ hm
  obtain ⟨z0, w0⟩ : ∃ zs, IsRowH .i64 W a0 len0 cap0 zs := by
    obtain ⟨fuel, hf⟩ := h0
    rcases open_ints Tryz.underlying30 Tryz.underlying3 (by kernel_rfl) hf with ⟨hcs, _⟩ | ⟨x, l, c, zs, hcs, _, hl, hm, hz, _, hcell, hwz⟩
    · simp [Value.cells] at hcs
      obtain ⟨rfl, rfl, rfl⟩ := hcs
      exact ⟨[], .inl ⟨rfl, rfl, rfl, rfl⟩⟩
    · simp [Value.cells] at hcs
      obtain ⟨rfl, rfl, rfl⟩ := hcs
      exact ⟨zs, .inr ⟨_, rfl, hl, hm, by simpa using hz, hcell, hwz⟩⟩
  obtain ⟨a1, len1, cap1, rfl⟩ := okWide_slice Tryz.underlying31 (hval 1 31 v1 rfl rfl)
  have k1 := h1
  have lt1 : ∀ x ∈ p1, x.block < W.heap.size := by obtain ⟨m, hm⟩ := k1; exact DataW.trod_lt m _ _ _ hm
  have w1 : ArgsAt W a1 len1 := by
    obtain ⟨fuel, hf⟩ := h1
    exact args_of_trod (by simpa [Value.cells] using hf)
  have k2 := h2
  have lt2 : ∀ x ∈ p2, x.block < W.heap.size := by obtain ⟨m, hm⟩ := k2; exact DataW.trod_lt m _ _ _ hm
  obtain ⟨kind, rfl⟩ := okWide_int Tryz.underlying3 (hval 2 3 v2 rfl rfl)
  obtain ⟨n1, n2⟩ : -9223372036854775808 ≤ kind ∧ kind ≤ 9223372036854775807 := by
    obtain ⟨fuel, hf⟩ := h2
    obtain ⟨n, u, b1, b2⟩ := int_of_trod hf
    simp [Value.cells] at u
    subst u; exact ⟨b1, b2⟩
  clear hA0 hval0
  refine (hushed_walk (.slice a0 len0 cap0) W (fun x mb => ints_of_rowH w0 x mb) kind n1 n2 a1 len1 cap1 w1 (tab_of_laid hL)).mono fun e W' ⟨he, bel⟩ => ?_
  subst he
  exact ⟨_, rfl, _, _, _, [], _, [], hW', trodAll_mk1 (shut_bool Tryz.underlying4 _), (trodAll_cons_mk (Below.trod hu_laid (by kernel_rfl) (of_decide_eq_true (by kernel_rfl)) k0 bel lt0) (trodAll_cons_mk (Below.trod hu_laid (by kernel_rfl) (of_decide_eq_true (by kernel_rfl)) k1 bel lt1) (trodAll_cons_mk (Below.trod hu_laid (by kernel_rfl) (of_decide_eq_true (by kernel_rfl)) k2 bel lt2) trodAll_mk0))), rfl, bel.frame _, fun h => by cases h⟩

theorem hu_name : Tryz.pinned.checked.prog.funcNamed Rows.hushedRow.func = some 6 := by kernel_rfl
theorem hu_inst : Tryz.f6.isInstance Tryz.pinned.checked.prog Rows.hushedRow.origin Rows.hushedRow.targs := of_decide_eq_true (by kernel_rfl)
theorem hu_wrap : Tryz.f6.isWrapper Tryz.pinned.checked.prog Rows.hushedRow.wrapper Rows.hushedRow.mainSum := by
  unfold Func.isWrapper; first | (rw [if_pos (by decide +kernel)]; kernel_rfl) | (rw [if_neg (by decide +kernel)]; exact ⟨rfl, rfl⟩)
theorem hu_over : Rows.hushedRow.holds Tryz.pinned (OpenSpec.ofChange Rows.hushedSpec) :=
  OpenClaim.holds_of_wide_leaving 6 Tryz.f6 rfl rfl rfl rfl rfl rfl rfl ⟨rfl, rfl, rfl, rfl, rfl⟩ rfl rfl rfl rfl rfl hu_name Tryz.func6 hu_closed
    hu_inst hu_wrap (fun os started H enc _ => leaving_of_handed (hu_lifted os started H enc))

theorem cg_gh : true = Rows.hushedRow.goesBy Tryz.pinned.checked.prog := by
  have hu : Tryz.prog.unfollowed 6 = true := by
    have := hu_k10; rw [beq_iff_eq] at this; exact this.symm
  have : Tryz.prog.goesFrom "curtain/curtainkeep.Hushed" = true := by
    unfold Program.goesFrom
    rw [cg_fh, Option.any_some, goes_of hu]
  have e : Rows.hushedRow.func = "curtain/curtainkeep.Hushed" := rfl
  have this' : Tryz.pinned.checked.prog.goesFrom "curtain/curtainkeep.Hushed" = true := this
  unfold OpenClaim.goesBy Program.goesAt
  rw [e, this', Bool.true_or]
/-- THE STATEMENT. -/
theorem hushed_card_holds : Rows.HushedCardSaid :=
  holds_tied_goes .later [.data, .data, .data, .sentinel, .sentinel] true (true, "6fd12d082dd462b6ee9d8164c12dd7c438499c6601c3c9515c9beeaddf52b2cb") true true
    hu_over cg_wh hushed_row_tie rfl ⟨rfl, rfl⟩ cg_m rfl
    (fun f fn hf hfn => by
      obtain rfl : f = 6 := Option.some.inj (cg_fh.symm.trans hf) |>.symm
      obtain rfl : fn = Tryz.f6 := (Option.some.inj (Tryz.func6.symm.trans hfn)).symm
      exact ⟨cg_lk, fun j t ht => by
        rw [Tryz.params6] at ht
        have hm : t ∈ [30, 31, 3] := by simpa using Array.mem_of_getElem? ht
        have hm2 : t ∈ [30, 31, 3, 26, 27] := by simp only [List.mem_cons, List.not_mem_nil, or_false] at hm; rcases hm with h | h | h <;> simp [h]
        exact (show Tryz.prog.wantsStandIn t = false by simpa using List.all_eq_true.1 cg_st t hm2)⟩)
    cg_gh
#print axioms hushed_card_holds
end Go.Proofs.YtilfjpmeededmaaGreatDoor

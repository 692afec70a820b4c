/-
  PROVED: for all goods and every script that are together of bulk at most 1048576 the statement Checks (P4, P5: every Check and every Quiet of the script, of whatever base, answers as the document does; so do those that stand ahead of it; what was lent is the caller's still) answers true, and what came in reads behind the call as it read before it. The conditions: the bound; five variables of Go's library (strconv's two errors, three tables) stand as the program's text lays them,
-/
import Derived.Test.YtilfjpmeededmaaGreatDoorRows
import Derived.Test.YtilfjpmeededmaaGreatDoorCards
import Derived.Test.YtilfjpmeededmaaGreatDoorTie
import Derived.Test.YtilfjpmeededmaaGreatDoorLbHZ
import Derived.Test.YtilfjpmeededmaaGreatDoorLbIZ
import Derived.LaidMore
import Derived.LaidOnce
import Derived.Stop.Joined
import Derived.SevenTiedAt
import Derived.Deep.DeepHandedRow
import Derived.Deep.DeepWitnessRowRef
set_option linter.unusedVariables false
set_option linter.unusedSimpArgs false
namespace Go.Proofs.YtilfjpmeededmaaGreatDoor
open Go.ChangeShapes Go.WideShapes Go.ChangeAt Go.RowKit
open Go
set_option linter.unusedVariables false
theorem cu_own : ownKnob Tryz.prog.godebug = none := by kernel_rfl
theorem cu_laid : laidOutB Tryz.prog = true := by kernel_rfl
theorem cu_met (os : Os) (args : Array Value) : laidMetH Tryz.prog cuRow.laid ((World.doorLaid Tryz.prog 62 os).forCall (fun _ _ => 0) ⟨#[], args, []⟩).memory :=
  laidMetH_of_parts3 (fuel := 8) (laidMet_of_run' 8 (by kernel_rfl) (by kernel_rfl)) (by kernel_rfl) (by kernel_rfl)
theorem cu_reads (os : Os) {H : Type} (enc : TypeId × Value → H) : ∃ places, DataW.whole enc Tryz.prog ((World.doorLaid Tryz.prog 62 os).forCall (fun _ _ => 0) ⟨#[], #[.agg #[.slice none 0 0, .slice none 0 0, .slice none 0 0], .slice none 0 0], []⟩).memory Tryz.f4.params.toList cuSp.vars false #[Value.agg #[.slice none 0 0, .slice none 0 0, .slice none 0 0], .slice none 0 0].toList 8 = some ([.agg [.nil, .nil, .nil], .nil], [], places) :=
  ⟨[], by kernel_rfl⟩
set_option maxRecDepth 100000 in
theorem cu_lifted (os : Os) (started : os.Started) (H : Type) (enc : TypeId × Value → H) (F : Stop.Interp) :
    ReturnsInHanded {} Tryz.checked os 4 .any (cuSp.preRow enc Tryz.prog Tryz.f4 cuRow.domain false cuRow.laid) ((cuSp.at F).post enc Tryz.prog Tryz.f4 false true false false) := by
  obtain ⟨places, hx⟩ := cu_reads os enc
  refine returnsInHanded_of_row (C := Tryz.checked) (s := cuSp) cu_own started (by kernel_rfl) Tryz.func4
    (witness_row_atRef (enc := enc) (C := Tryz.checked) false (World.doorLaid Tryz.prog 62 os) #[.agg #[.slice none 0 0, .slice none 0 0, .slice none 0 0], .slice none 0 0] rfl (by kernel_rfl) (by kernel_rfl) (by kernel_rfl)
      (OpenSpec.preRow_of_cond 8 hx (by kernel_rfl) (fun k hk => by cases hk; kernel_rfl) (by kernel_rfl) (cu_met os _))) ?_
  intro W base args ds gs before hval0 hW _ hcond _ _ _ _
  have hval : ∀ (j : Nat) t v, Tryz.f4.params[j]? = some t → args[j]? = some v → Value.okWide Tryz.prog W .any base t v := hval0
  have hW' := hW
  have hk : Rows.uptoSmall H (ds ++ gs) = true := hcond _ rfl
  obtain ⟨p, q, hA0, hV, rfl, hfz, hnd⟩ := hW
  have hA : DataW.TrodAll enc Tryz.prog W 0 (fun _ => true) true Tryz.f4.params.toList args.toList ds p := hA0
  rw [Tryz.params4] at hA hval
  obtain ⟨v0, vs0, d0, ds0, p0, q0, hargs, rfl, rfl, h0, r0⟩ := trodAll_cons hA
  obtain ⟨v1, vs1, d1, ds1, p1, q1, rfl, rfl, rfl, h1, r1⟩ := trodAll_cons r0
  obtain ⟨rfl, rfl, rfl⟩ := trodAll_nil r1
  obtain rfl : args = #[v0, v1] := by cases args; simp_all
  obtain ⟨rfl, rfl⟩ := trodVars_none hV
  have hbk := of_decide_eq_true hk
  simp only [List.append_nil, Rows.uptoBulkAll] at hbk
  obtain ⟨cs0, rfl, hcs0⟩ := okWide_struct Tryz.underlying26 (hval 0 26 v0 rfl rfl)
  have k0 := h0
  have lt0 : ∀ x ∈ p0, x.block < W.heap.size := by obtain ⟨m, hm⟩ := k0; exact DataW.trod_lt m _ _ _ hm
  obtain ⟨a0, l0, c0, a1, n1, c1, a2, n2, c2, e0, hl0, hbs⟩ : ∃ a0 l0 c0 a1 n1 c1 a2 n2 c2, cs0 = #[.slice a0 l0 c0, .slice a1 n1 c1, .slice a2 n2 c2] ∧ l0 ≤ 1048576 ∧ (l0 = 0 ∨ ∃ b off, a0 = some ⟨b, off, Option.none⟩ ∧ b < W.heap.size ∧ BasesAt W b off l0) := by
    obtain ⟨fuel, hf⟩ := h0
    have h3 : cs0.toList.length = 3 := by rw [Array.length_toList, hcs0]; kernel_rfl
    have hf' : DataW.trod enc Tryz.prog W 0 (fun _ => true) true fuel 26 cs0.toList = some (d0, p0) := by simpa [Value.cells] using hf
    obtain ⟨a0, l0, c0, a1, n1, c1, a2, n2, c2, e, g1, g2⟩ := read_goods h3 hf' (show Rows.uptoBulk d0 ≤ 1048576 by omega)
    exact ⟨a0, l0, c0, a1, n1, c1, a2, n2, c2, by rw [← Array.toList_inj]; exact e, g1, g2⟩
  subst e0
  obtain ⟨ao, n, cap, rfl⟩ := okWide_slice Tryz.underlying27 (hval 1 27 v1 rfl rfl)
  have k1 := h1
  have lt1 : ∀ x ∈ p1, x.block < W.heap.size := by obtain ⟨m, hm⟩ := k1; exact DataW.trod_lt m _ _ _ hm
  obtain ⟨hn, hops⟩ : n ≤ 1048576 ∧ (n = 0 ∨ ∃ b off, ao = some ⟨b, off, Option.none⟩ ∧ b < W.heap.size ∧ OpsR W b off n) := by
    obtain ⟨fuel, hf⟩ := h1
    have hf' : DataW.trod enc Tryz.prog W 0 (fun _ => true) true fuel 27 [.slice ao n cap] = some (d1, p1) := by simpa [Value.cells] using hf
    obtain ⟨ao', n', cap', e, g1, g2⟩ := read_ops hf' (show Rows.uptoBulk d1 ≤ 1048576 by omega)
    cases e
    exact ⟨g1, g2⟩
  clear hA0 hval0
  refine (checks_step W a0 a1 a2 ao l0 c0 n1 c1 n2 c2 n cap hn hl0 hbs hops).mono fun e W' ⟨he, bel⟩ => ?_
  subst he
  exact ⟨_, rfl, _, _, _, [], _, [], hW', trodAll_mk1 (shut_bool Tryz.underlying4 _), (trodAll_cons_mk (Below.trod cu_laid (by kernel_rfl) (of_decide_eq_true (by kernel_rfl)) k0 bel lt0) (trodAll_cons_mk (Below.trod cu_laid (by kernel_rfl) (of_decide_eq_true (by kernel_rfl)) k1 bel lt1) trodAll_mk0)), rfl, bel.frame _, fun h => by cases h⟩
theorem cu_name : Tryz.pinned.checked.prog.funcNamed cuRow.func = some 4 := by kernel_rfl
theorem cu_inst : Tryz.f4.isInstance Tryz.pinned.checked.prog cuRow.origin cuRow.targs := of_decide_eq_true (by kernel_rfl)
theorem cu_wrap : Tryz.f4.isWrapper Tryz.pinned.checked.prog cuRow.wrapper cuRow.mainSum := by
  unfold Func.isWrapper; first | (rw [if_pos (by decide +kernel)]; kernel_rfl) | (rw [if_neg (by decide +kernel)]; exact ⟨rfl, rfl⟩)
theorem cu_alone : cuRow.holds Tryz.pinned cuSp :=
  OpenClaim.holds_of_cond 4 Tryz.f4 rfl rfl rfl rfl rfl rfl rfl ⟨rfl, rfl, rfl, rfl, rfl⟩ rfl rfl rfl rfl rfl cu_name Tryz.func4 cu_closed cu_inst cu_wrap
    (fun os started H enc _ F => by rw [OpenClaim.pre_eq_preRow]; exact cu_lifted os started H enc F)
theorem cu_over : Rows.checksUptoRow.holds Tryz.pinned (Rows.OpenSpec.upto Rows.checksSpec) := holds_leaving (c := cuRow) rfl rfl rfl (by kernel_rfl) cu_alone
theorem cu_gt : true = Rows.checksUptoRow.goesBy Tryz.pinned.checked.prog := by
  have hu : Tryz.prog.unfollowed 4 = true := by
    have := cu_k10; rw [beq_iff_eq] at this; exact this.symm
  have : Tryz.prog.goesFrom "curtain/curtainlaw.Checks" = true := by
    unfold Program.goesFrom
    rw [cv_ft, Option.any_some, goes_ofv hu]
  have e : Rows.checksUptoRow.func = "curtain/curtainlaw.Checks" := rfl
  have this' : Tryz.pinned.checked.prog.goesFrom "curtain/curtainlaw.Checks" = true := this
  unfold OpenClaim.goesBy Program.goesAt
  rw [e, this', Bool.true_or]
/-- THE STATEMENT. -/
theorem checks_upto_card_holds : Rows.ChecksUptoCardSaid :=
  holds_tied_goes .later [.data, .data, .data, .sentinel, .sentinel] true (true, "6fd12d082dd462b6ee9d8164c12dd7c438499c6601c3c9515c9beeaddf52b2cb") true true
    cu_over cv_wt checksUpto_row_tie rfl ⟨rfl, rfl⟩ cv_m rfl
    (fun f fn hf hfn => by
      obtain rfl : f = 4 := Option.some.inj (cv_ft.symm.trans hf) |>.symm
      obtain rfl : fn = Tryz.f4 := (Option.some.inj (Tryz.func4.symm.trans hfn)).symm
      exact ⟨cv_lk, fun j t ht => by
        rw [Tryz.params4] at ht
        have hm : t ∈ [26, 27] := by simpa using Array.mem_of_getElem? ht
        exact (show Tryz.prog.wantsStandIn t = false by simpa using List.all_eq_true.1 cv_st t hm)⟩)
    cu_gt
#print axioms checks_upto_card_holds
end Go.Proofs.YtilfjpmeededmaaGreatDoor

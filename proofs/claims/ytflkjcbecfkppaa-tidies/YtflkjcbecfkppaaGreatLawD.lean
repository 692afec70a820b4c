/-
  PROVED: for all goods and every script the statement Tidies (P3: every Tidy of the script, of whatever text, answers as the document does; so does the one that stands ahead of it; no list has come out) answers true, and what came in reads behind the call as it read before it. No condition.
-/
import Derived.Test.YtflkjcbecfkppaaGreatRows
import Derived.Test.YtflkjcbecfkppaaGreatLawC
namespace Go.Proofs.YtflkjcbecfkppaaGreat
open Go.ChangeShapes Go.WideShapes Go.ChangeAt Go.RowKit
set_option linter.unusedVariables false

set_option maxRecDepth 100000 in
theorem td_lifted (os : Os) (started : os.Started) (H : Type) (enc : TypeId × Value → H) :
    ReturnsInHanded {} Tryz.checked os 3 .any (Rows.tidiesSpec.pre6 enc Tryz.prog Tryz.f3 Rows.tidiesRow.domain false) (Rows.tidiesSpec.post enc Tryz.prog Tryz.f3 false true false false) := by
  refine returnsInHanded_of_change (C := Tryz.checked) td_own started (by kernel_rfl) Tryz.func3
    (ChangeSpec.witness6 (enc := enc) (C := Tryz.checked) false ⟨#[], #[.agg #[.slice none 0 0, .slice none 0 0, .slice none 0 0], .slice none 0 0], []⟩ 8 (by kernel_rfl) (by kernel_rfl) (by kernel_rfl) (by kernel_rfl)) ?_
  intro W base args ds gs before hval0 hW hcnd _
  have hval : ∀ (j : Nat) t v, Tryz.f3.params[j]? = some t → args[j]? = some v → Value.okWide Tryz.prog W .any base t v := hval0
  have hW' := hW
  obtain ⟨p, q, hA0, hV, rfl, hfz, hnd⟩ := hW
  have hA : DataW.TrodAll enc Tryz.prog W 0 (fun _ => true) true Tryz.f3.params.toList args.toList ds p := hA0
  rw [Tryz.params3] at hA hval
  obtain ⟨v0, vs0, d0, ds0, p0, q0, hargs, rfl, rfl, h0, r0⟩ := trodAll_cons hA
  obtain ⟨v1, vs1, d1, ds1, p1, q1, rfl, rfl, rfl, h1, r1⟩ := trodAll_cons r0
  obtain ⟨rfl, rfl, rfl⟩ := trodAll_nil r1
  obtain rfl : args = #[v0, v1] := by cases args; simp_all
  obtain ⟨rfl, rfl⟩ := trodVars_none hV
  obtain ⟨cs0, rfl, hcs0⟩ := okWide_struct Tryz.underlying26 (hval 0 26 v0 rfl rfl)
  have k0 := h0
  have lt0 : ∀ x ∈ p0, x.block < W.heap.size := by obtain ⟨m, hm⟩ := k0; exact DataW.trod_lt m _ _ _ hm
  obtain ⟨a0, l0, c0, a1, l1, c1, a2, l2, c2, e0⟩ : ∃ a0 l0 c0 a1 l1 c1 a2 l2 c2, cs0 = #[.slice a0 l0 c0, .slice a1 l1 c1, .slice a2 l2 c2] := by
    obtain ⟨fuel, hf⟩ := h0
    have h3 : cs0.toList.length = 3 := by rw [Array.length_toList, hcs0]; kernel_rfl
    have hf' : DataW.trod enc Tryz.prog W 0 (fun _ => true) true fuel 26 cs0.toList = some (d0, p0) := by simpa [Value.cells] using hf
    obtain ⟨a0, l0, c0, a1, l1, c1, a2, l2, c2, e⟩ := goods_of_trod hf' h3
    exact ⟨a0, l0, c0, a1, l1, c1, a2, l2, c2, by rw [← Array.toList_inj]; exact e⟩
  subst e0
  obtain ⟨ao, n, cap, rfl⟩ := okWide_slice Tryz.underlying27 (hval 1 27 v1 rfl rfl)
  have k1 := h1
  have lt1 : ∀ x ∈ p1, x.block < W.heap.size := by obtain ⟨m, hm⟩ := k1; exact DataW.trod_lt m _ _ _ hm
  obtain ⟨hn, hops⟩ : n ≤ maxLen ∧ (n = 0 ∨ ∃ b off, ao = some ⟨b, off, none⟩ ∧ b < W.heap.size ∧ OpsAt W b off n) := by
    obtain ⟨fuel, hf⟩ := h1
    exact ops_of_trod (by simpa [Value.cells] using hf)
  clear hA0 hval0
  refine (tidies_step W a0 a1 a2 ao l0 c0 l1 c1 l2 c2 n cap hn hops).mono fun e W' ⟨he, bel⟩ => ?_
  subst he
  exact ⟨_, rfl, _, _, _, [], _, [], hW', trodAll_mk1 (shut_bool Tryz.underlying4 _), (trodAll_cons_mk (Below.trod td_laid (by kernel_rfl) (of_decide_eq_true (by kernel_rfl)) k0 bel lt0) (trodAll_cons_mk (Below.trod td_laid (by kernel_rfl) (of_decide_eq_true (by kernel_rfl)) k1 bel lt1) trodAll_mk0)), rfl, bel.frame _, fun h => by cases h⟩

theorem td_over : Rows.tidiesRow.holds Tryz.pinned (OpenSpec.ofChange Rows.tidiesSpec) :=
  OpenClaim.holds_of_wide 3 Tryz.f3 rfl rfl rfl rfl rfl rfl rfl ⟨rfl, rfl, rfl, rfl, rfl⟩ rfl rfl rfl rfl rfl (by kernel_rfl) Tryz.func3 (by kernel_rfl)
    (of_decide_eq_true (by kernel_rfl)) (by unfold Func.isWrapper; first | (rw [if_pos (by decide +kernel)]; kernel_rfl) | (rw [if_neg (by decide +kernel)]; exact ⟨rfl, rfl⟩))
    (fun os started H enc _ => td_lifted os started H enc)

/-- THE STATEMENT. -/
theorem tidies_holds : Rows.TidiesSaid := td_over
#print axioms tidies_holds
end Go.Proofs.YtflkjcbecfkppaaGreat

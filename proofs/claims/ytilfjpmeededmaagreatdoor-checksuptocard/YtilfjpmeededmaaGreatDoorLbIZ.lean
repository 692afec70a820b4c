import Derived.Conc.Holds
import Derived.Leaving
import Derived.SevenTiedAt
import Derived.JoinedCond
import Derived.Test.YtilfjpmeededmaaGreatDoorRows
import Derived.Test.YtilfjpmeededmaaGreatDoorCards
import Derived.Test.YtilfjpmeededmaaGreatDoorTie
import Derived.ProofKit
import Derived.KernelRfl
import Derived.OpenShut
set_option linter.unusedVariables false
set_option linter.unusedSimpArgs false
namespace Go.Proofs.YtilfjpmeededmaaGreatDoor
open Go
theorem holds_tied_goes (Lk : Looks) {p : Pinned} {s : OpenSpec} {c : OpenClaim} (kinds : List LaidKind) (tests : Bool) (har : Bool × String) (lk g : Bool)
    (hc : c.holds p s) (hw : c.wfByText s = true) (htie : c.laidByTextAt Lk p kinds tests)
    (hst : c.start = .entering) (hnb : c.noBlocks = false ∧ c.again = false) (hm : p.checked.prog.mainIs = some (har.1, har.2.toList)) (hn : (!har.1 && har.2.isEmpty && !lk) = false)
    (hl : ∀ f fn, p.checked.prog.funcNamed c.func = some f → p.checked.prog.funcs[f]? = some fn → lk = p.checked.prog.looks [] ∧ ∀ (j : Nat) t, fn.params[j]? = some t → p.checked.prog.wantsStandIn t = false)
    (hg : g = c.goesBy p.checked.prog) :
    Claim7.holds p (.plain s) { stood := { row := c, standIns := [], harness := har, looks := lk }, kinds := [], alts := [], goes := g, laidByText := true, laidKinds := kinds, laidTests := tests, laidLooks := Lk } := by
  have h6 : ∀ r : OpenClaim, Claim7.isSixth { stood := { row := r, standIns := [], harness := har, looks := lk }, kinds := [] } = false := fun r => by simpa [Claim7.isSixth] using hn
  exact ⟨Claim7.tied_new_at Lk kinds tests (Claim7.new_of_sixth hc har lk hst hnb hm (h6 c) hl) hw, (fun D hD => by cases hD), htie, (fun h => by cases h), hg⟩
end Go.Proofs.YtilfjpmeededmaaGreatDoor

namespace Go.Proofs.YtilfjpmeededmaaGreatDoor
open Go
theorem open_leaving {a : Assume} {C : Checked} {os : Os} {f : FuncId} {r : Reach} {ok : Program → World → Reach → Nat → FuncId → Input → Prop} {Pre : World → Array Value → Prop} {Post : World → Array Value → Value → World → Prop} {alw : Machine → Prop} (h : ReturnsInOpen a Option.none C os f r ok Pre Post (aloneAtReturn C.prog) alw) : ReturnsInOpen a Option.none C os f r ok Pre Post (leavingAtReturn C.prog) alw := by
  obtain ⟨e, own, st, wit, run⟩ := h
  refine ⟨e, own, st, wit, fun w tape i hf => ?_⟩
  obtain ⟨n, v, w', h1, h2, h3, h4, ⟨j, last, h5, h6, h7⟩, h8⟩ := run w tape i hf
  exact ⟨n, v, w', h1, h2, h3, h4, ⟨j, last, h5, h6, h7.2.1, Go.onlyLeaving_of_quiet h7.1, h7.2.2⟩, h8⟩
theorem holds_leaving {p : Pinned} {s : OpenSpec} {c : OpenClaim} (hst : c.start = .entering) (hsp : c.stops = []) (hlv : c.leaving = false) (hwf : OpenClaim.wf s ({ c with leaving := true } : OpenClaim) = true) (h : c.holds p s) : ({ c with leaving := true } : OpenClaim).holds p s := by
  obtain ⟨_, h2, h3, h4, h5, h6, h7, h8, f, fn, k1, k2, k3, k4, k5, k6, k7, k8, k9, k10, k11, k12, k13, k14, k15, k16, k17, k18, k19, k20, k21, L, k22, k23⟩ := h
  refine ⟨hwf, h2, h3, h4, h5, h6, h7, h8, f, fn, k1, k2, k3, k4, k5, k6, k7, k8, k9, k10, k11, k12, k13, k14, k15, k16, k17, k18, k19, k20, k21, L, k22, fun os hw hq H enc inj => ?_⟩
  have hf := k23 os hw hq H enc inj
  unfold OpenClaim.form at hf ⊢
  rw [hst, hsp] at hf
  show match c.start, c.stops with
    | .entering, [] => _
    | .entering, _ :: _ => _
    | .atMain, [] => _
    | .atMain, _ :: _ => _
    | .atBar, [] => _
    | .atBar, _ :: _ => _
  rw [hst, hsp]
  intro F
  have hF := hf F
  have e2 : c.atReturn p.checked.prog = aloneAtReturn p.checked.prog := by unfold OpenClaim.atReturn; rw [hlv]
  rw [e2] at hF
  exact open_leaving hF
end Go.Proofs.YtilfjpmeededmaaGreatDoor

namespace Go.Proofs.YtilfjpmeededmaaGreatDoor
open Go
theorem cv_m : Tryz.pinned.checked.prog.mainIs = some (true, "6fd12d082dd462b6ee9d8164c12dd7c438499c6601c3c9515c9beeaddf52b2cb".toList) := by kernel_rfl
theorem cv_lk : true = Tryz.pinned.checked.prog.looks [] := by kernel_rfl
theorem cv_st : ([26, 27].all fun u => !Tryz.prog.wantsStandIn u) = true := by kernel_rfl
theorem cv_ft : Tryz.prog.funcNamed "curtain/curtainlaw.Checks" = some 4 := by kernel_rfl
theorem cv_wt : Rows.checksUptoRow.wfByText (Rows.OpenSpec.upto Rows.checksSpec) = true := by kernel_rfl
theorem goes_anyv : Tryz.prog.funcs.any Func.goes = true := by
  rw [Array.any_eq_true]
  obtain ⟨h, e⟩ := Array.getElem?_eq_some_iff.mp Tryz.func97
  exact ⟨_, h, by rw [e]; kernel_rfl⟩
theorem goes_ofv {f : FuncId} (hu : Tryz.prog.unfollowed f = true) : Tryz.prog.goes f = true := by
  unfold Program.goes
  rw [hu, goes_anyv, Bool.and_true, Bool.or_true]
end Go.Proofs.YtilfjpmeededmaaGreatDoor

namespace Go.Proofs.YtilfjpmeededmaaGreatDoor
open Go.ChangeShapes Go.WideShapes Go.ChangeAt Go.RowKit
def cuSp : OpenSpec := Rows.OpenSpec.upto Rows.checksSpec
def cuRow : OpenClaim := { Rows.checksUptoRow with leaving := false }
theorem cu_k0 : (cuRow.wf (OpenSpec.ofChange cuSp.bare)) = true := by kernel_rfl
theorem cu_k1 : (laidOutB Tryz.pinned.checked.prog) = true := by kernel_rfl
theorem cu_k2 : (mapsRowed Tryz.pinned.checked.prog) = true := by kernel_rfl
theorem cu_k3 : (Tryz.f4.params.all (Tryz.pinned.checked.prog.readableRec ·)) = true := by kernel_rfl
theorem cu_k4 : (namedTie Tryz.pinned.checked.prog cuRow.named cuSp.bare.vars) = true := by kernel_rfl
theorem cu_k5 : ((cuRow.stops == [])) = true := by kernel_rfl
theorem cu_k6 : ((Tryz.pinned.checked.prog.stops == [])) = true := by kernel_rfl
theorem cu_k7 : ((cuRow.knobs == [])) = true := by kernel_rfl
theorem cu_k8 : ((Tryz.pinned.checked.prog.stopKnobs == [])) = true := by kernel_rfl
theorem cu_k9 : ((cuRow.inPlace == Tryz.pinned.checked.prog.inPlace 4)) = true := by kernel_rfl
theorem cu_k10 : ((cuRow.unfollowed == Tryz.pinned.checked.prog.unfollowed 4)) = true := by kernel_rfl
theorem cu_k11 : ((cuRow.recurses == Tryz.pinned.checked.prog.recurses 4)) = true := by kernel_rfl
theorem cu_k12 : ((cuRow.named == Tryz.pinned.checked.prog.varsNamed 4)) = true := by kernel_rfl
theorem cu_k13 : ((cuRow.maps == (Tryz.f4.params.toList ++ cuSp.bare.plain.varTypes Tryz.pinned.checked.prog).any (Tryz.pinned.checked.prog.mapsRec ·))) = true := by kernel_rfl
theorem cu_k14 : ((cuRow.ifaces == (Tryz.f4.params.toList ++ cuSp.bare.plain.varTypes Tryz.pinned.checked.prog).any (Tryz.pinned.checked.prog.ifacesRec ·))) = true := by kernel_rfl
theorem cu_k15 : ((cuRow.mapsOut == Tryz.pinned.checked.prog.mapsAmong Tryz.f4.resultTypes.toList)) = true := by kernel_rfl
theorem cu_k16 : ((cuRow.loops == (Tryz.f4.params.toList ++ cuSp.bare.plain.varTypes Tryz.pinned.checked.prog).any (Tryz.pinned.checked.prog.loopsFrom ·))) = true := by kernel_rfl
theorem cu_k17 : ((cuRow.wideKeys == (Tryz.f4.params.toList ++ cuSp.bare.plain.varTypes Tryz.pinned.checked.prog ++ Tryz.f4.resultTypes.toList).any (Tryz.pinned.checked.prog.wideKeysFrom ·))) = true := by kernel_rfl
theorem cu_k18 : (cuSp.bare.vars.all (Tryz.pinned.checked.prog.varReadable ·)) = true := by kernel_rfl
theorem cu_k19 : (Tryz.f4.resultTypes.all (fun t => Tryz.pinned.checked.prog.readableRec t && decide (t < Tryz.pinned.checked.prog.types.size))) = true := by kernel_rfl
theorem cu_k20 : ((cuRow.ifacesOut == Tryz.f4.resultTypes.toList.any (Tryz.pinned.checked.prog.ifacesRec ·))) = true := by kernel_rfl
theorem cu_k21 : ((cuRow.loopsOut == Tryz.f4.resultTypes.toList.any (Tryz.pinned.checked.prog.loopsFrom ·))) = true := by kernel_rfl
theorem cu_k22 : ((cuRow.plainKeys == Tryz.pinned.checked.prog.plainKeys)) = true := by kernel_rfl
theorem cu_k23 : (cuRow.shortTexts.isNone) = true := by kernel_rfl
theorem cu_k24 : (Tryz.pinned.checked.prog.stopsHeard) = true := by kernel_rfl
theorem cu_k25 : (Tryz.pinned.checked.prog.mayEnter) = true := by kernel_rfl
theorem cu_k26 : ((cuRow.lifted == Tryz.pinned.checked.prog.liftsFinal)) = true := by kernel_rfl
theorem cu_k27 : ((Tryz.pinned.checked.prog.make == some cuRow.make)) = true := by kernel_rfl
theorem cu_dom : cuRow.domain.isEmpty = true := by kernel_rfl
theorem cu_k28 : (cuRow.kinds == []) = true := by kernel_rfl
theorem cu_k29 : ((cuRow.pinned == cuRow.pinnedBy)) = true := by kernel_rfl
theorem cu_k30 : ((cuRow.veiled == (Tryz.f4.params.toList ++ cuSp.bare.plain.varTypes Tryz.pinned.checked.prog ++ Tryz.f4.resultTypes.toList).any (Tryz.pinned.checked.prog.veiledRec ·))) = true := by kernel_rfl
theorem cu_k31 : (cuRow.veiledFits Tryz.pinned.checked.prog Tryz.f4.params.toList (Tryz.f4.params.toList ++ cuSp.bare.plain.varTypes Tryz.pinned.checked.prog ++ Tryz.f4.resultTypes.toList)) = true := by kernel_rfl
theorem cu_closed : joinedFacts Tryz.pinned.checked.prog 4 Tryz.f4 cuSp.bare cuRow = true := by
  unfold joinedFacts
  rw [cu_k0, cu_k1, cu_k2, cu_k3, cu_k4, cu_k5, cu_k6, cu_k7, cu_k8, cu_k9, cu_k10, cu_k11, cu_k12, cu_k13, cu_k14, cu_k15, cu_k16, cu_k17, cu_k18, cu_k19, cu_k20, cu_k21, cu_k22, cu_k23, cu_k24, cu_k25, cu_k26, cu_k27, if_pos cu_dom, cu_k28, cu_k29, cu_k30, cu_k31]
  rfl
end Go.Proofs.YtilfjpmeededmaaGreatDoor

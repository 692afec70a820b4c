/- What a maker makes is an expression; with other blanks the same; with more behind it, or a bracket open, none. -/
import Derived.Test.YtilfjpmeededmaaDecoP
import Derived.Test.YtilfjpmeededmaaMadeV
namespace Go.Proofs.Ytilfjpmeededmaa

theorem parse_deco {x : Tr} {d : Bs} (hw : Wf x) (hd : dep x ≤ 20) (h : Deco (toks x) d) (hl : d.length ≤ 400) : tidyS d = some (render x) := by
  have h1 := scan_deco h
  have h2 := parse_tree (f := 2 * (toks x).length) (deep := 0) (r := []) hw (by omega) (Nat.le_refl _)
  rw [List.append_nil] at h2
  unfold tidyS parseS
  rw [if_neg (by omega), h1]
  simp only [Option.bind_some]
  unfold parseT
  rw [h2]; rfl
theorem tidy_same {x : Tr} (hw : Wf x) (hd : dep x ≤ 20) (hl : (render x).length ≤ 400) : tidyS (render x) = some (render x) := by
  have := deco_tree (ts := []) (r := []) hw (.nil rfl) (fun _ => .inl rfl)
  rw [List.append_nil, List.append_nil] at this
  exact parse_deco hw hd this hl
theorem tidy_spaced {x : Tr} {o : Bs} (hw : Wf x) (hd : dep x ≤ 20) (h : Spd none false (render x) o) (hl : o.length ≤ 400) : tidyS o = some (render x) :=
  parse_deco hw hd (spd_deco hw h) hl
theorem tidy_more {x : Tr} (hw : Wf x) (hd : dep x ≤ 20) : tidyS (render x ++ [32, 49]) = none := by
  have h0 : Deco [(3, [49])] [32, 49] := .tok (b := [32]) (tx := [49]) (r := []) rfl (by decide) (by decide) (good_of (by decide)) (.nil rfl) (.inl rfl)
  have h1 := scan_deco (deco_tree hw h0 (fun _ => end_bl _))
  unfold tidyS parseS
  split
  · rfl
  · rw [h1]
    simp only [Option.bind_some]
    have hp := parse_tree (f := 2 * (toks x ++ [((3 : Int), ([49] : Bs))]).length) (deep := 0) (r := [((3 : Int), ([49] : Bs))]) hw (by omega) (by simp; omega)
    unfold parseT
    rw [hp]
    rfl
theorem tidy_open {x : Tr} (hw : Wf x) (hd : dep x ≤ 19) : tidyS ([40, 110, 111, 116, 32] ++ render x) = none := by
  have D := deco_tree (ts := []) (r := []) hw (.nil rfl) (fun _ => .inl rfl)
  rw [List.append_nil, List.append_nil] at D
  have D1 : Deco ((5, hNot) :: toks x) (hNot ++ (32 :: render x)) := .tok (b := []) rfl (by decide) (by decide) (good_of (by decide)) (deco_blanks (b := [32]) rfl D) (end_bl _)
  have D2 : Deco ((1, [40]) :: (5, hNot) :: toks x) (40 :: (hNot ++ (32 :: render x))) := .br (b := []) (c := 40) rfl rfl D1
  have h1 := scan_deco D2
  unfold tidyS parseS
  split
  · rfl
  · have e : [40, 110, 111, 116, 32] ++ render x = 40 :: (hNot ++ (32 :: render x)) := by simp [hNot]
    rw [e, h1]
    simp only [Option.bind_some]
    have hz : treeF (2 * ((1, [40]) :: (5, hNot) :: toks x : List Tk).length) 0 ((1, [40]) :: (5, hNot) :: toks x) = none := by
      obtain ⟨a, b, he, hk⟩ := first_kind hw
      have hp := parse_tree (f := 2 * (toks x).length + 1) (deep := 1) (r := []) hw (by omega) (by omega)
      rw [List.append_nil] at hp
      have hh : headS (5, hNot).1 (5, hNot).2 = true := by decide
      rw [show 2 * ((1, [40]) :: (5, hNot) :: toks x : List Tk).length = 2 * (toks x).length + 2 + 1 + 1 by simp; omega]
      rw [treeF, if_pos rfl, brF, if_neg (by omega), hh, if_pos rfl]
      rw [show 2 * (toks x).length + 2 = (2 * (toks x).length + 1) + 1 by omega]
      rw [he] at hp ⊢
      rw [opsF, if_neg hk, hp]
      rfl
    unfold parseT
    rw [hz]; rfl
end Go.Proofs.Ytilfjpmeededmaa

import Derived.Test.YtilfjpmeededmaaGreatDoorSliZ
import Derived.Test.YtilfjpmeededmaaGreatDoorDecoQZ
set_option linter.unusedVariables false
set_option linter.unusedSimpArgs false
namespace Go.Proofs.YtilfjpmeededmaaGreatDoor
open Go.RowKit
def cmpT (ks : List Int) : Int := match ks with | [a, b] => if a = b then 3 else 0 | _ => 0
def ifT (ks : List Int) : Int := match ks with | [c, a, b] => if c = 3 ∧ a = b then a else 0 | _ => 0
def oneT (ks : List Int) : Int := match ks with | [_] => 3 | _ => 0
def noteT (ks : List Int) : Int := match ks with | [a] => a | _ => 0
def litT (ls : List Int) (n : Int) (ks : List Int) : Int := if ks = ls then n else 0
def allT (n : Int) (ks : List Int) : Int := if 0 < ks.length ∧ ks.all (· == n) = true then n else 0
def typeS (l : Bs) (ks : List Int) : Int :=
  if l = [43] ∨ l = [45] ∨ l = [42] ∨ l = [47] then litT [1, 1] 1 ks
  else if l = [61] ∨ l = [60] ∨ l = [60, 61] then cmpT ks
  else if l = [97, 110, 100] ∨ l = [111, 114] then allT 3 ks
  else if l = [110, 111, 116] then litT [3] 3 ks
  else if l = [105, 115, 110, 117, 108, 108] then oneT ks
  else if l = [105, 102] then ifT ks
  else if l = [108, 101, 110] then litT [2] 1 ks
  else if l = [99, 97, 116] then allT 2 ks
  else if l = [110, 111, 116, 101] then noteT ks else 0
theorem intsIn_lit1 (w : World) (a : Int) : IntsIn (w.alloc (.cells #[.int .i64 a] 3)) (.slice (some ⟨w.heap.size, 0, none⟩) 1 1) [a] := by
  refine ⟨_, _, rfl, by simp, .inr ⟨_, _, rfl, by simp [World.size_alloc], fun j u hj => ?_⟩⟩
  rw [Nat.zero_add, blk_at (heap_alloc_new w _)]
  match j, hj with
  | 0, hj => simp at hj; subst hj; rfl
theorem intsIn_lit2 (w : World) (a b : Int) : IntsIn (w.alloc (.cells #[.int .i64 a, .int .i64 b] 3)) (.slice (some ⟨w.heap.size, 0, none⟩) 2 2) [a, b] := by
  refine ⟨_, _, rfl, by simp, .inr ⟨_, _, rfl, by simp [World.size_alloc], fun j u hj => ?_⟩⟩
  rw [Nat.zero_add, blk_at (heap_alloc_new w _)]
  match j, hj with
  | 0, hj => simp at hj; subst hj; rfl
  | 1, hj => simp at hj; subst hj; rfl
theorem below_drewN (w : World) (n : Nat) : Below w.heap.size w (w.drewN n) := ⟨rfl, rfl, rfl, Nat.le_refl _, fun _ _ => rfl⟩
theorem below_box (w : World) (o : Obj) : Below w.heap.size w (w.alloc o) := (Below.refl _ _).alloc (Nat.le_refl _) _
theorem IntsIn.form {w : World} {v : Value} {zs : List Int} (h : IntsIn w v zs) : ∃ ao cap, v = .slice ao zs.length cap := by obtain ⟨ao, cap, h, _⟩ := h; exact ⟨ao, cap, h⟩
theorem IntsIn.at {w : World} {v : Value} {zs : List Int} (h : IntsIn w v zs) (hz : zs ≠ []) : ∃ b off cap, v = .slice (some ⟨b, off, none⟩) zs.length cap ∧ b < w.heap.size ∧ ∀ j u, zs[j]? = some u → w.cell? ⟨b, off + j, none⟩ = some (.int .i64 u) := by
  obtain ⟨ao, cap, rfl, _, h | ⟨b, off, rfl, h1, h2⟩⟩ := h
  · exact absurd h hz
  · exact ⟨b, off, cap, rfl, h1, h2⟩
set_option maxHeartbeats 800000 in
set_option maxRecDepth 100000 in
theorem typeOf_plus (w : World) (v : Value) (ks : List Int) (h : IntsIn w v ks) :
    Calls Tryz.prog 377 #[.string ⟨#[43]⟩, v] w fun e w' => e = .returned (.int .i64 (litT [1, 1] 1 ks)) ∧ Below w.heap.size w w' := by
  have HC := sliEqual_any _ v (.slice (some ⟨w.heap.size, 0, none⟩) 2 2) ks [1, 1] (h.keep (below_box w _)) (intsIn_lit2 w 1 1)
  obtain ⟨ao, cap, rfl⟩ := h.form
  obtain ⟨d, hd⟩ : ∃ d, d = decide (ks = [1, 1]) := ⟨_, rfl⟩
  have HR : Hid (litT [1, 1] 1 ks = gvS d 1) := by rw [Hid, hd, litT, gvS]; simp
  rw [← hd] at HC
  clear hd h
  go_enter Tryz.func377, Tryz.ntmps377
  go_wp2_with (first
    | (go_at_call 380; refine HC.mono ?_; rintro e w2 ⟨rfl, hb2⟩)
    | (go_at_call 391; refine (given_any _ _ _).mono ?_; rintro e w3 ⟨rfl, rfl⟩))
  go_ret
  exact ⟨by rw [HR.out]; rfl, (below_box w _).trans (hb2.mono (by simp [World.size_alloc]))⟩
set_option maxHeartbeats 800000 in
set_option maxRecDepth 100000 in
theorem typeOf_minus (w : World) (v : Value) (ks : List Int) (h : IntsIn w v ks) :
    Calls Tryz.prog 377 #[.string ⟨#[45]⟩, v] w fun e w' => e = .returned (.int .i64 (litT [1, 1] 1 ks)) ∧ Below w.heap.size w w' := by
  have HC := sliEqual_any _ v (.slice (some ⟨w.heap.size, 0, none⟩) 2 2) ks [1, 1] (h.keep (below_box w _)) (intsIn_lit2 w 1 1)
  obtain ⟨ao, cap, rfl⟩ := h.form
  obtain ⟨d, hd⟩ : ∃ d, d = decide (ks = [1, 1]) := ⟨_, rfl⟩
  have HR : Hid (litT [1, 1] 1 ks = gvS d 1) := by rw [Hid, hd, litT, gvS]; simp
  rw [← hd] at HC
  clear hd h
  go_enter Tryz.func377, Tryz.ntmps377
  go_wp2_with (first
    | (go_at_call 380; refine HC.mono ?_; rintro e w2 ⟨rfl, hb2⟩)
    | (go_at_call 391; refine (given_any _ _ _).mono ?_; rintro e w3 ⟨rfl, rfl⟩))
  go_ret
  exact ⟨by rw [HR.out]; rfl, (below_box w _).trans (hb2.mono (by simp [World.size_alloc]))⟩
set_option maxHeartbeats 800000 in
set_option maxRecDepth 100000 in
theorem typeOf_times (w : World) (v : Value) (ks : List Int) (h : IntsIn w v ks) :
    Calls Tryz.prog 377 #[.string ⟨#[42]⟩, v] w fun e w' => e = .returned (.int .i64 (litT [1, 1] 1 ks)) ∧ Below w.heap.size w w' := by
  have HC := sliEqual_any _ v (.slice (some ⟨w.heap.size, 0, none⟩) 2 2) ks [1, 1] (h.keep (below_box w _)) (intsIn_lit2 w 1 1)
  obtain ⟨ao, cap, rfl⟩ := h.form
  obtain ⟨d, hd⟩ : ∃ d, d = decide (ks = [1, 1]) := ⟨_, rfl⟩
  have HR : Hid (litT [1, 1] 1 ks = gvS d 1) := by rw [Hid, hd, litT, gvS]; simp
  rw [← hd] at HC
  clear hd h
  go_enter Tryz.func377, Tryz.ntmps377
  go_wp2_with (first
    | (go_at_call 380; refine HC.mono ?_; rintro e w2 ⟨rfl, hb2⟩)
    | (go_at_call 391; refine (given_any _ _ _).mono ?_; rintro e w3 ⟨rfl, rfl⟩))
  go_ret
  exact ⟨by rw [HR.out]; rfl, (below_box w _).trans (hb2.mono (by simp [World.size_alloc]))⟩
set_option maxHeartbeats 800000 in
set_option maxRecDepth 100000 in
theorem typeOf_over (w : World) (v : Value) (ks : List Int) (h : IntsIn w v ks) :
    Calls Tryz.prog 377 #[.string ⟨#[47]⟩, v] w fun e w' => e = .returned (.int .i64 (litT [1, 1] 1 ks)) ∧ Below w.heap.size w w' := by
  have HC := sliEqual_any _ v (.slice (some ⟨w.heap.size, 0, none⟩) 2 2) ks [1, 1] (h.keep (below_box w _)) (intsIn_lit2 w 1 1)
  obtain ⟨ao, cap, rfl⟩ := h.form
  obtain ⟨d, hd⟩ : ∃ d, d = decide (ks = [1, 1]) := ⟨_, rfl⟩
  have HR : Hid (litT [1, 1] 1 ks = gvS d 1) := by rw [Hid, hd, litT, gvS]; simp
  rw [← hd] at HC
  clear hd h
  go_enter Tryz.func377, Tryz.ntmps377
  go_wp2_with (first
    | (go_at_call 380; refine HC.mono ?_; rintro e w2 ⟨rfl, hb2⟩)
    | (go_at_call 391; refine (given_any _ _ _).mono ?_; rintro e w3 ⟨rfl, rfl⟩))
  go_ret
  exact ⟨by rw [HR.out]; rfl, (below_box w _).trans (hb2.mono (by simp [World.size_alloc]))⟩
set_option maxHeartbeats 800000 in
set_option maxRecDepth 100000 in
theorem typeOf_eq (w : World) (v : Value) (ks : List Int) (h : IntsIn w v ks) :
    Calls Tryz.prog 377 #[.string ⟨#[61]⟩, v] w fun e w' => e = .returned (.int .i64 (cmpT ks)) ∧ Below w.heap.size w w' := by
  by_cases hl : ks.length = 2
  · obtain ⟨a, b, rfl⟩ : ∃ a b, ks = [a, b] := by
      match ks, hl with
      | [a, b], _ => exact ⟨a, b, rfl⟩
    obtain ⟨p, off, cap, rfl, hb, hc⟩ := h.at (by simp)
    have q0 := hc 0 a rfl
    have q1 := hc 1 b rfl
    rw [Nat.add_zero] at q0
    clear h hc hl
    have HR : Hid (cmpT [a, b] = gvS (a == b) 3) := by rw [Hid, gvS]; simp [cmpT]
    go_enter Tryz.func377, Tryz.ntmps377
    go_wp2_with fail
    go_quiet ((go_at_call 391; exact Calls.quiet_of_same (given_any _ _ _)))
    go_wp2_with fail
    go_ret
    exact ⟨by rw [HR.out]; rfl, below_drewN _ _⟩
  · have HR : Hid (cmpT ks = gvS false 3) := by
      rw [Hid]
      match ks, hl with
      | [], _ => rfl
      | [_], _ => rfl
      | _ :: _ :: _ :: _, _ => rfl
    have hne : ((ks.length : Int) == 2) = false := by simp; omega
    obtain ⟨ao, cap, rfl⟩ := h.form
    clear h hl
    go_enter Tryz.func377, Tryz.ntmps377
    go_wp2_with fail
    go_quiet ((go_at_call 391; exact Calls.quiet_of_same (given_any _ _ _)))
    go_wp2_with fail
    go_ret
    exact ⟨by rw [HR.out]; rfl, below_drewN _ _⟩
set_option maxHeartbeats 800000 in
set_option maxRecDepth 100000 in
theorem typeOf_lt (w : World) (v : Value) (ks : List Int) (h : IntsIn w v ks) :
    Calls Tryz.prog 377 #[.string ⟨#[60]⟩, v] w fun e w' => e = .returned (.int .i64 (cmpT ks)) ∧ Below w.heap.size w w' := by
  by_cases hl : ks.length = 2
  · obtain ⟨a, b, rfl⟩ : ∃ a b, ks = [a, b] := by
      match ks, hl with
      | [a, b], _ => exact ⟨a, b, rfl⟩
    obtain ⟨p, off, cap, rfl, hb, hc⟩ := h.at (by simp)
    have q0 := hc 0 a rfl
    have q1 := hc 1 b rfl
    rw [Nat.add_zero] at q0
    clear h hc hl
    have HR : Hid (cmpT [a, b] = gvS (a == b) 3) := by rw [Hid, gvS]; simp [cmpT]
    go_enter Tryz.func377, Tryz.ntmps377
    go_wp2_with fail
    go_quiet ((go_at_call 391; exact Calls.quiet_of_same (given_any _ _ _)))
    go_wp2_with fail
    go_ret
    exact ⟨by rw [HR.out]; rfl, below_drewN _ _⟩
  · have HR : Hid (cmpT ks = gvS false 3) := by
      rw [Hid]
      match ks, hl with
      | [], _ => rfl
      | [_], _ => rfl
      | _ :: _ :: _ :: _, _ => rfl
    have hne : ((ks.length : Int) == 2) = false := by simp; omega
    obtain ⟨ao, cap, rfl⟩ := h.form
    clear h hl
    go_enter Tryz.func377, Tryz.ntmps377
    go_wp2_with fail
    go_quiet ((go_at_call 391; exact Calls.quiet_of_same (given_any _ _ _)))
    go_wp2_with fail
    go_ret
    exact ⟨by rw [HR.out]; rfl, below_drewN _ _⟩
set_option maxHeartbeats 800000 in
set_option maxRecDepth 100000 in
theorem typeOf_le (w : World) (v : Value) (ks : List Int) (h : IntsIn w v ks) :
    Calls Tryz.prog 377 #[.string ⟨#[60, 61]⟩, v] w fun e w' => e = .returned (.int .i64 (cmpT ks)) ∧ Below w.heap.size w w' := by
  by_cases hl : ks.length = 2
  · obtain ⟨a, b, rfl⟩ : ∃ a b, ks = [a, b] := by
      match ks, hl with
      | [a, b], _ => exact ⟨a, b, rfl⟩
    obtain ⟨p, off, cap, rfl, hb, hc⟩ := h.at (by simp)
    have q0 := hc 0 a rfl
    have q1 := hc 1 b rfl
    rw [Nat.add_zero] at q0
    clear h hc hl
    have HR : Hid (cmpT [a, b] = gvS (a == b) 3) := by rw [Hid, gvS]; simp [cmpT]
    go_enter Tryz.func377, Tryz.ntmps377
    go_wp2_with fail
    go_quiet ((go_at_call 391; exact Calls.quiet_of_same (given_any _ _ _)))
    go_wp2_with fail
    go_ret
    exact ⟨by rw [HR.out]; rfl, below_drewN _ _⟩
  · have HR : Hid (cmpT ks = gvS false 3) := by
      rw [Hid]
      match ks, hl with
      | [], _ => rfl
      | [_], _ => rfl
      | _ :: _ :: _ :: _, _ => rfl
    have hne : ((ks.length : Int) == 2) = false := by simp; omega
    obtain ⟨ao, cap, rfl⟩ := h.form
    clear h hl
    go_enter Tryz.func377, Tryz.ntmps377
    go_wp2_with fail
    go_quiet ((go_at_call 391; exact Calls.quiet_of_same (given_any _ _ _)))
    go_wp2_with fail
    go_ret
    exact ⟨by rw [HR.out]; rfl, below_drewN _ _⟩
set_option maxHeartbeats 800000 in
set_option maxRecDepth 100000 in
theorem typeOf_and (w : World) (v : Value) (ks : List Int) (h : IntsIn w v ks) :
    Calls Tryz.prog 377 #[.string ⟨#[97, 110, 100]⟩, v] w fun e w' => e = .returned (.int .i64 (allT 3 ks)) ∧ Below w.heap.size w w' := by
  have HC := someOf_any w v ks 3 h
  obtain ⟨ao, cap, rfl⟩ := h.form
  obtain ⟨d, hd⟩ : ∃ d, d = (decide (0 < ks.length) && ks.all (· == 3)) := ⟨_, rfl⟩
  have HR : Hid (allT 3 ks = gvS d 3) := by rw [Hid, hd, allT, gvS]; simp
  rw [← hd] at HC
  clear hd h
  go_enter Tryz.func377, Tryz.ntmps377
  go_wp2_with (first
    | (go_at_call 392; refine HC.mono ?_; rintro e w2 ⟨rfl, hb2⟩)
    | (go_at_call 391; refine (given_any _ _ _).mono ?_; rintro e w3 ⟨rfl, rfl⟩))
  go_ret
  exact ⟨by rw [HR.out]; rfl, hb2⟩
set_option maxHeartbeats 800000 in
set_option maxRecDepth 100000 in
theorem typeOf_or (w : World) (v : Value) (ks : List Int) (h : IntsIn w v ks) :
    Calls Tryz.prog 377 #[.string ⟨#[111, 114]⟩, v] w fun e w' => e = .returned (.int .i64 (allT 3 ks)) ∧ Below w.heap.size w w' := by
  have HC := someOf_any w v ks 3 h
  obtain ⟨ao, cap, rfl⟩ := h.form
  obtain ⟨d, hd⟩ : ∃ d, d = (decide (0 < ks.length) && ks.all (· == 3)) := ⟨_, rfl⟩
  have HR : Hid (allT 3 ks = gvS d 3) := by rw [Hid, hd, allT, gvS]; simp
  rw [← hd] at HC
  clear hd h
  go_enter Tryz.func377, Tryz.ntmps377
  go_wp2_with (first
    | (go_at_call 392; refine HC.mono ?_; rintro e w2 ⟨rfl, hb2⟩)
    | (go_at_call 391; refine (given_any _ _ _).mono ?_; rintro e w3 ⟨rfl, rfl⟩))
  go_ret
  exact ⟨by rw [HR.out]; rfl, hb2⟩
set_option maxHeartbeats 800000 in
set_option maxRecDepth 100000 in
theorem typeOf_not (w : World) (v : Value) (ks : List Int) (h : IntsIn w v ks) :
    Calls Tryz.prog 377 #[.string ⟨#[110, 111, 116]⟩, v] w fun e w' => e = .returned (.int .i64 (litT [3] 3 ks)) ∧ Below w.heap.size w w' := by
  have HC := sliEqual_any _ v (.slice (some ⟨w.heap.size, 0, none⟩) 1 1) ks [3] (h.keep (below_box w _)) (intsIn_lit1 w 3)
  obtain ⟨ao, cap, rfl⟩ := h.form
  obtain ⟨d, hd⟩ : ∃ d, d = decide (ks = [3]) := ⟨_, rfl⟩
  have HR : Hid (litT [3] 3 ks = gvS d 3) := by rw [Hid, hd, litT, gvS]; simp
  rw [← hd] at HC
  clear hd h
  go_enter Tryz.func377, Tryz.ntmps377
  go_wp2_with (first
    | (go_at_call 380; refine HC.mono ?_; rintro e w2 ⟨rfl, hb2⟩)
    | (go_at_call 391; refine (given_any _ _ _).mono ?_; rintro e w3 ⟨rfl, rfl⟩))
  go_ret
  exact ⟨by rw [HR.out]; rfl, (below_box w _).trans (hb2.mono (by simp [World.size_alloc]))⟩
set_option maxHeartbeats 800000 in
set_option maxRecDepth 100000 in
theorem typeOf_isnull (w : World) (v : Value) (ks : List Int) (h : IntsIn w v ks) :
    Calls Tryz.prog 377 #[.string ⟨#[105, 115, 110, 117, 108, 108]⟩, v] w fun e w' => e = .returned (.int .i64 (oneT ks)) ∧ Below w.heap.size w w' := by
  obtain ⟨ao, cap, rfl⟩ := h.form
  obtain ⟨d, hd⟩ : ∃ d, d = ((ks.length : Int) == 1) := ⟨_, rfl⟩
  have HR : Hid (oneT ks = gvS d 3) := by
    rw [Hid, hd, gvS]
    match ks with
    | [] => rfl
    | [_] => rfl
    | _ :: _ :: l => simp [oneT]; omega
  clear h
  go_enter Tryz.func377, Tryz.ntmps377
  go_wp2_with (go_at_call 391; refine (given_any _ _ _).mono ?_; rintro e w3 ⟨rfl, rfl⟩)
  go_ret
  exact ⟨by rw [HR.out, hd]; rfl, Below.refl _ _⟩
set_option maxHeartbeats 800000 in
set_option maxRecDepth 100000 in
theorem typeOf_if (w : World) (v : Value) (ks : List Int) (h : IntsIn w v ks) :
    Calls Tryz.prog 377 #[.string ⟨#[105, 102]⟩, v] w fun e w' => e = .returned (.int .i64 (ifT ks)) ∧ Below w.heap.size w w' := by
  by_cases hl : ks.length = 3
  · obtain ⟨c, a, b, rfl⟩ : ∃ c a b, ks = [c, a, b] := by
      match ks, hl with
      | [c, a, b], _ => exact ⟨c, a, b, rfl⟩
    obtain ⟨p, off, cap, rfl, hb, hc⟩ := h.at (by simp)
    have q0 := hc 0 c rfl
    have q1 := hc 1 a rfl
    have q2 := hc 2 b rfl
    rw [Nat.add_zero] at q0
    clear h hc hl
    by_cases h3 : c = 3
    · subst h3
      by_cases hab : a = b
      · subst hab
        have HR : Hid (ifT [3, a, a] = a) := by rw [Hid]; simp [ifT]
        go_enter Tryz.func377, Tryz.ntmps377
        go_wp2_with fail
        go_region
        all_goals (try go_wp2_with fail)
        all_goals go_ret
        all_goals exact ⟨by rw [HR.out]; rfl, (Below.refl _ _).drew⟩
      · have HR : Hid (ifT [3, a, b] = 0) := by rw [Hid]; simp [ifT, hab]
        have hne : (a == b) = false := by simpa using hab
        clear hab
        go_enter Tryz.func377, Tryz.ntmps377
        go_wp2_with fail
        go_region
        all_goals (try go_wp2_with fail)
        all_goals go_ret
        all_goals exact ⟨by rw [HR.out]; rfl, (Below.refl _ _).drew⟩
    · have HR : Hid (ifT [c, a, b] = 0) := by rw [Hid]; simp [ifT, h3]
      have hne : (c == 3) = false := by simpa using h3
      clear h3
      go_enter Tryz.func377, Tryz.ntmps377
      go_wp2_with fail
      go_region
      all_goals (try go_wp2_with fail)
      all_goals go_ret
      all_goals exact ⟨by rw [HR.out]; rfl, (Below.refl _ _).drew⟩
  · have HR : Hid (ifT ks = 0) := by
      rw [Hid]
      match ks, hl with
      | [], _ => rfl
      | [_], _ => rfl
      | [_, _], _ => rfl
      | _ :: _ :: _ :: _ :: _, _ => rfl
    have hne : ((ks.length : Int) == 3) = false := by simp; omega
    obtain ⟨ao, cap, rfl⟩ := h.form
    clear h hl
    go_enter Tryz.func377, Tryz.ntmps377
    go_wp2_with fail
    go_region
    all_goals (try go_wp2_with fail)
    all_goals go_ret
    all_goals exact ⟨by rw [HR.out]; rfl, (Below.refl _ _).drew⟩
set_option maxHeartbeats 800000 in
set_option maxRecDepth 100000 in
theorem typeOf_len (w : World) (v : Value) (ks : List Int) (h : IntsIn w v ks) :
    Calls Tryz.prog 377 #[.string ⟨#[108, 101, 110]⟩, v] w fun e w' => e = .returned (.int .i64 (litT [2] 1 ks)) ∧ Below w.heap.size w w' := by
  have HC := sliEqual_any _ v (.slice (some ⟨w.heap.size, 0, none⟩) 1 1) ks [2] (h.keep (below_box w _)) (intsIn_lit1 w 2)
  obtain ⟨ao, cap, rfl⟩ := h.form
  obtain ⟨d, hd⟩ : ∃ d, d = decide (ks = [2]) := ⟨_, rfl⟩
  have HR : Hid (litT [2] 1 ks = gvS d 1) := by rw [Hid, hd, litT, gvS]; simp
  rw [← hd] at HC
  clear hd h
  go_enter Tryz.func377, Tryz.ntmps377
  go_wp2_with (first
    | (go_at_call 380; refine HC.mono ?_; rintro e w2 ⟨rfl, hb2⟩)
    | (go_at_call 391; refine (given_any _ _ _).mono ?_; rintro e w3 ⟨rfl, rfl⟩))
  go_ret
  exact ⟨by rw [HR.out]; rfl, (below_box w _).trans (hb2.mono (by simp [World.size_alloc]))⟩
set_option maxHeartbeats 800000 in
set_option maxRecDepth 100000 in
theorem typeOf_cat (w : World) (v : Value) (ks : List Int) (h : IntsIn w v ks) :
    Calls Tryz.prog 377 #[.string ⟨#[99, 97, 116]⟩, v] w fun e w' => e = .returned (.int .i64 (allT 2 ks)) ∧ Below w.heap.size w w' := by
  have HC := someOf_any w v ks 2 h
  obtain ⟨ao, cap, rfl⟩ := h.form
  obtain ⟨d, hd⟩ : ∃ d, d = (decide (0 < ks.length) && ks.all (· == 2)) := ⟨_, rfl⟩
  have HR : Hid (allT 2 ks = gvS d 2) := by rw [Hid, hd, allT, gvS]; simp
  rw [← hd] at HC
  clear hd h
  go_enter Tryz.func377, Tryz.ntmps377
  go_wp2_with (first
    | (go_at_call 392; refine HC.mono ?_; rintro e w2 ⟨rfl, hb2⟩)
    | (go_at_call 391; refine (given_any _ _ _).mono ?_; rintro e w3 ⟨rfl, rfl⟩))
  go_ret
  exact ⟨by rw [HR.out]; rfl, hb2⟩
set_option maxHeartbeats 800000 in
set_option maxRecDepth 100000 in
theorem typeOf_note (w : World) (v : Value) (ks : List Int) (h : IntsIn w v ks) :
    Calls Tryz.prog 377 #[.string ⟨#[110, 111, 116, 101]⟩, v] w fun e w' => e = .returned (.int .i64 (noteT ks)) ∧ Below w.heap.size w w' := by
  match ks, h with
  | [], h =>
    obtain ⟨ao, cap, rfl⟩ := h.form
    clear h
    go_enter Tryz.func377, Tryz.ntmps377
    go_wp2_with fail
    go_ret
    exact ⟨rfl, Below.refl _ _⟩
  | [a], h =>
    obtain ⟨b, off, cap, rfl, hb, hc⟩ := h.at (by simp)
    have q := hc 0 a rfl
    rw [Nat.add_zero] at q
    clear h hc
    go_enter Tryz.func377, Tryz.ntmps377
    go_wp2_with fail
    go_ret
    exact ⟨rfl, Below.refl _ _⟩
  | a :: b :: l, h =>
    obtain ⟨ao, cap, rfl⟩ := h.form
    have hl := h.choose_spec.choose_spec.2.1
    have hne : (((a :: b :: l).length : Int) == 1) = false := by simp; omega
    clear h
    obtain ⟨n, hn⟩ : ∃ n, n = (a :: b :: l).length := ⟨_, rfl⟩
    rw [← hn] at hne ⊢
    go_enter Tryz.func377, Tryz.ntmps377
    go_wp2_with fail
    go_ret
    exact ⟨rfl, Below.refl _ _⟩
theorem typeOf_any (l : Bs) (hl : builtS l = true) (w : World) (v : Value) (ks : List Int) (h : IntsIn w v ks) :
    Calls Tryz.prog 377 #[.string (ofBs l), v] w fun e w' => e = .returned (.int .i64 (typeS l ks)) ∧ Below w.heap.size w w' := by
  simp only [builtS, builtIns, List.any_cons, List.any_nil, Bool.or_eq_true, beq_iff_eq, Bool.or_false] at hl
  rcases hl with rfl | rfl | rfl | rfl | rfl | rfl | rfl | rfl | rfl | rfl | rfl | rfl | rfl | rfl | rfl
  · rw [show typeS [43] ks = litT [1, 1] 1 ks from rfl, show ofBs [43] = ⟨#[43]⟩ from rfl]; exact typeOf_plus w v ks h
  · rw [show typeS [45] ks = litT [1, 1] 1 ks from rfl, show ofBs [45] = ⟨#[45]⟩ from rfl]; exact typeOf_minus w v ks h
  · rw [show typeS [42] ks = litT [1, 1] 1 ks from rfl, show ofBs [42] = ⟨#[42]⟩ from rfl]; exact typeOf_times w v ks h
  · rw [show typeS [47] ks = litT [1, 1] 1 ks from rfl, show ofBs [47] = ⟨#[47]⟩ from rfl]; exact typeOf_over w v ks h
  · rw [show typeS [61] ks = cmpT ks from rfl, show ofBs [61] = ⟨#[61]⟩ from rfl]; exact typeOf_eq w v ks h
  · rw [show typeS [60] ks = cmpT ks from rfl, show ofBs [60] = ⟨#[60]⟩ from rfl]; exact typeOf_lt w v ks h
  · rw [show typeS [60, 61] ks = cmpT ks from rfl, show ofBs [60, 61] = ⟨#[60, 61]⟩ from rfl]; exact typeOf_le w v ks h
  · rw [show typeS [97, 110, 100] ks = allT 3 ks from rfl, show ofBs [97, 110, 100] = ⟨#[97, 110, 100]⟩ from rfl]; exact typeOf_and w v ks h
  · rw [show typeS [111, 114] ks = allT 3 ks from rfl, show ofBs [111, 114] = ⟨#[111, 114]⟩ from rfl]; exact typeOf_or w v ks h
  · rw [show typeS [110, 111, 116] ks = litT [3] 3 ks from rfl, show ofBs [110, 111, 116] = ⟨#[110, 111, 116]⟩ from rfl]; exact typeOf_not w v ks h
  · rw [show typeS [105, 115, 110, 117, 108, 108] ks = oneT ks from rfl, show ofBs [105, 115, 110, 117, 108, 108] = ⟨#[105, 115, 110, 117, 108, 108]⟩ from rfl]; exact typeOf_isnull w v ks h
  · rw [show typeS [105, 102] ks = ifT ks from rfl, show ofBs [105, 102] = ⟨#[105, 102]⟩ from rfl]; exact typeOf_if w v ks h
  · rw [show typeS [108, 101, 110] ks = litT [2] 1 ks from rfl, show ofBs [108, 101, 110] = ⟨#[108, 101, 110]⟩ from rfl]; exact typeOf_len w v ks h
  · rw [show typeS [99, 97, 116] ks = allT 2 ks from rfl, show ofBs [99, 97, 116] = ⟨#[99, 97, 116]⟩ from rfl]; exact typeOf_cat w v ks h
  · rw [show typeS [110, 111, 116, 101] ks = noteT ks from rfl, show ofBs [110, 111, 116, 101] = ⟨#[110, 111, 116, 101]⟩ from rfl]; exact typeOf_note w v ks h
end Go.Proofs.YtilfjpmeededmaaGreatDoor

namespace Go.Proofs.YtilfjpmeededmaaGreatDoor
open Go.RowKit
inductive Ex where
  | mk (sort ty size : Int) (quiet : Bool) (vk vn : Int) (vs : Bs) (place : Int) (head : Bs) (fi : Option Nat) (ops : List Ex)
def Ex.ty : Ex → Int
  | .mk _ t _ _ _ _ _ _ _ _ _ => t
def Ex.size : Ex → Int
  | .mk _ _ s _ _ _ _ _ _ _ _ => s
def Ex.quiet : Ex → Bool
  | .mk _ _ _ q _ _ _ _ _ _ _ => q
def FpIs (FB : List Nat) (fi : Option Nat) (fp : Option Addr) : Prop := match fi with
  | none => fp = none
  | some i => ∃ b, FB[i]? = some b ∧ fp = some ⟨b, 0, none⟩
mutual
inductive IsEx (w : World) (FB : List Nat) (S : Nat → Prop) : List Value → Ex → Prop
  | mk {sort ty size : Int} {quiet : Bool} {vk vn : Int} {vs : Bs} {place : Int} {head : Bs} {fi : Option Nat} {ops : List Ex} {fp : Option Addr} {v : Value} {cs : List Value} : IsExs w FB S cs ops → w.ownsRow 0 122 11 v ops.length cs → (∀ g, v.ownBlock = some g → S g) → FpIs FB fi fp →
      IsEx w FB S [.int .i64 sort, .int .i64 ty, .int .i64 size, .bool quiet, .int .i64 vk, .int .i64 vn, .string (ofBs vs), .int .i64 place, .string (ofBs head), .pointer fp, v] (.mk sort ty size quiet vk vn vs place head fi ops)
inductive IsExs (w : World) (FB : List Nat) (S : Nat → Prop) : List Value → List Ex → Prop
  | nil : IsExs w FB S [] []
  | cons {c cs : List Value} {t : Ex} {ts : List Ex} : IsEx w FB S c t → IsExs w FB S cs ts → IsExs w FB S (c ++ cs) (t :: ts)
end
mutual
theorem IsEx.move {w x : World} {FB : List Nat} {S S' : Nat → Prop} (hk : ∀ g, S g → x.heap[g]? = w.heap[g]?) (hs : ∀ g, S g → S' g) : ∀ {c : List Value} {t : Ex}, IsEx w FB S c t → IsEx x FB S' c t
  | _, _, .mk a b d f => .mk (IsExs.move hk hs a) (owns_keep b fun g hg => hk g (d g hg)) (fun g hg => hs g (d g hg)) f
theorem IsExs.move {w x : World} {FB : List Nat} {S S' : Nat → Prop} (hk : ∀ g, S g → x.heap[g]? = w.heap[g]?) (hs : ∀ g, S g → S' g) : ∀ {c : List Value} {t : List Ex}, IsExs w FB S c t → IsExs x FB S' c t
  | _, _, .nil => .nil
  | _, _, .cons a b => .cons (IsEx.move hk hs a) (IsExs.move hk hs b)
end
mutual
theorem IsEx.bounded {w : World} {FB : List Nat} {S : Nat → Prop} : ∀ {c : List Value} {t : Ex}, IsEx w FB S c t → IsEx w FB (fun g => S g ∧ g < w.heap.size) c t
  | _, _, .mk a b d f => .mk (IsExs.bounded a) b (fun g hg => ⟨d g hg, (b.lt g hg).2⟩) f
theorem IsExs.bounded {w : World} {FB : List Nat} {S : Nat → Prop} : ∀ {c : List Value} {t : List Ex}, IsExs w FB S c t → IsExs w FB (fun g => S g ∧ g < w.heap.size) c t
  | _, _, .nil => .nil
  | _, _, .cons a b => .cons (IsEx.bounded a) (IsExs.bounded b)
end
theorem IsEx.eleven {w : World} {FB : List Nat} {S : Nat → Prop} {c : List Value} {t : Ex} (h : IsEx w FB S c t) : c.length = 11 := by cases h; rfl
theorem IsExs.snoc {w : World} {FB : List Nat} {S : Nat → Prop} {c d : List Value} {t : List Ex} {u : Ex} (h : IsExs w FB S c t) (k : IsEx w FB S d u) : IsExs w FB S (c ++ d) (t ++ [u]) := by
  induction t generalizing c with
  | nil => cases h; have := IsExs.cons k IsExs.nil; simpa using this
  | cons t ts ih =>
    cases h with
    | cons a b => rw [List.append_assoc]; exact .cons a (ih b)
theorem IsExs.get {w : World} {FB : List Nat} {S : Nat → Prop} {cs : List Value} {ts : List Ex} (h : IsExs w FB S cs ts) (i : Nat) (hi : i < ts.length) : ∃ c, IsEx w FB S c ts[i] ∧ ∀ j, j < 11 → cs[i * 11 + j]? = c[j]? := by
  induction ts generalizing cs i with
  | nil => simp at hi
  | cons t ts ih =>
    cases h with
    | @cons c cs _ _ a b =>
      cases i with
      | zero => exact ⟨c, a, fun j hj => by rw [List.getElem?_append_left (by rw [a.eleven]; omega)]; simp⟩
      | succ i =>
        obtain ⟨d, hd, hj⟩ := ih b i (by simpa using hi)
        refine ⟨d, hd, fun j hj4 => ?_⟩
        rw [← hj j hj4, List.getElem?_append_right (by rw [a.eleven]; omega), a.eleven]
        congr 1; omega
theorem IsEx.inv {w : World} {FB : List Nat} {S : Nat → Prop} {c : List Value} {t : Ex} (h : IsEx w FB S c t) : ∃ sort ty size quiet vk vn vs place head fi ops fp ao n cap cs, t = .mk sort ty size quiet vk vn vs place head fi ops ∧
    c = [.int .i64 sort, .int .i64 ty, .int .i64 size, .bool quiet, .int .i64 vk, .int .i64 vn, .string (ofBs vs), .int .i64 place, .string (ofBs head), .pointer fp, .slice ao n cap] ∧ n = ops.length ∧ IsExs w FB S cs ops ∧
    w.ownsRow 0 122 11 (.slice ao n cap) ops.length cs ∧ (∀ g, (Value.slice ao n cap).ownBlock = some g → S g) ∧ FpIs FB fi fp := by
  cases h with
  | mk a b d f =>
    rcases b.2 with ⟨rfl, h0⟩ | ⟨g, cap, cur, rfl, hr⟩
    · exact ⟨_, _, _, _, _, _, _, _, _, _, _, _, _, _, _, _, rfl, rfl, h0.symm, a, b, d, f⟩
    · exact ⟨_, _, _, _, _, _, _, _, _, _, _, _, _, _, _, _, rfl, rfl, rfl, a, b, d, f⟩
theorem IsEx.keep {w x : World} {FB : List Nat} {S : Nat → Prop} {c : List Value} {t : Ex} (h : IsEx w FB S c t) (hb : Below w.heap.size w x) : IsEx x FB S c t :=
  h.bounded.move (fun g hg => hb.block g hg.2) (fun _ hg => hg.1)
theorem IsExs.keep {w x : World} {FB : List Nat} {S : Nat → Prop} {c : List Value} {t : List Ex} (h : IsExs w FB S c t) (hb : Below w.heap.size w x) : IsExs x FB S c t :=
  h.bounded.move (fun g hg => hb.block g hg.2) (fun _ hg => hg.1)
def ExsIn (w : World) (FB : List Nat) (v : Value) (es : List Ex) : Prop := ∃ cs ao cap, v = .slice ao es.length cap ∧ w.ownsRow 0 122 11 v es.length cs ∧ IsExs w FB (fun _ => True) cs es
theorem ExsIn.keep {w x : World} {FB : List Nat} {v : Value} {es : List Ex} (h : ExsIn w FB v es) (hb : Below w.heap.size w x) : ExsIn x FB v es := by
  obtain ⟨cs, ao, cap, e, a, b⟩ := h
  exact ⟨cs, ao, cap, e, owns_keep a fun g hg => hb.block g (a.lt g hg).2, b.keep hb⟩
def intCells (zs : List Int) : List Value := zs.map fun z => Value.int .i64 z
theorem intsIn_own {w : World} {b : Nat} {v : Value} {zs : List Int} (h : w.ownsRow b 3 1 v zs.length (intCells zs)) (hl : zs.length ≤ 1000) : IntsIn w v zs := by
  rcases h.2 with ⟨rfl, h0⟩ | ⟨g, cap, cur, rfl, hr⟩
  · have : zs = [] := List.length_eq_zero_iff.mp h0
    subst this; exact ⟨_, _, rfl, by simp, .inl rfl⟩
  · refine ⟨_, _, rfl, hl, .inr ⟨g, 0, rfl, (h.lt g rfl).2, fun j u hj => ?_⟩⟩
    have := h.cells (g := g) rfl j (.int .i64 u) (by simp [intCells, hj])
    rw [Addr.add_lit] at this
    simpa using this
theorem infoIntT : (Tryz.prog.info? 3).map (fun i => (i.zero, i.size, i.bytes)) = some (some (.int .i64 0), 1, 8) := by kernel_rfl
set_option maxHeartbeats 4000000 in
set_option maxRecDepth 100000 in
theorem types_any (w : World) (FB : List Nat) (v : Value) (es : List Ex) (h : ExsIn w FB v es) (hl : es.length ≤ 1000) :
    Calls Tryz.prog 378 #[v] w fun e w' => ∃ v', e = .returned v' ∧ IntsIn w' v' (es.map Ex.ty) ∧ Below w.heap.size w w' := by
  obtain ⟨i0, hi, hz0, hz1, hz2⟩ := info_parts infoIntT
  obtain ⟨cs, ao, cap, rfl, hown, hex⟩ := h
  go_enter Tryz.func378, Tryz.ntmps378
  go_wp2_with fail
  go_loopw [3, 8] (fun kv iv wr => ∃ (i kn kc : Nat) (ko : Option Addr), i ≤ es.length ∧ kv = .slice ko kn kc ∧ iv = .int .i64 i ∧ wr.ownsRow w.heap.size 3 1 (.slice ko kn kc) i (intCells ((es.take i).map Ex.ty)) ∧ Below w.heap.size w wr) (fun _ iv _ => es.length - (intOf iv).toNat)
  case atStart => exact ⟨0, 0, 0, none, Nat.zero_le _, rfl, rfl, World.ownsRow_nil _ _ _ _, Below.refl _ _⟩
  case round =>
    obtain ⟨i, kn, kc, ko, hi', rfl, rfl, hko, hB⟩ := hrel
    have hsz := hB.size
    by_cases hlt : i < es.length
    · obtain ⟨g, rfl⟩ : ∃ g, ao = some ⟨g, 0, none⟩ := by
        rcases hown.2 with ⟨h, h0⟩ | ⟨g, cap', cur, h, _⟩
        · omega
        · cases h; exact ⟨g, rfl⟩
      have hg : g < w.heap.size := (hown.lt g rfl).2
      have hgr : g < wr.heap.size := by omega
      obtain ⟨c, hc, hcj⟩ := hex.get i hlt
      have HT : Hid (es.take (i + 1) = es.take i ++ [es[i]]) := List.take_succ_eq_append_getElem hlt
      obtain ⟨sort, ty, size, quiet, vk, vn, vs, place, head, fi, ops, fp, ao1, n1, cap1, cs1, ht, rfl, hn1, _, _, _, _⟩ := hc.inv
      have HTy : Hid ((es.take (i + 1)).map Ex.ty = (es.take i).map Ex.ty ++ [ty]) := by rw [Hid, HT.out, List.map_append, ht]; rfl
      have cell : ∀ j u, j < 11 → [Value.int .i64 sort, .int .i64 ty, .int .i64 size, .bool quiet, .int .i64 vk, .int .i64 vn, .string (ofBs vs), .int .i64 place, .string (ofBs head), .pointer fp, .slice ao1 n1 cap1][j]? = some u → wr.cell? ⟨g, i * 11 + j, none⟩ = some u := by
        intro j u hj hu
        have := hown.cells (g := g) rfl (i * 11 + j) u (by rw [hcj j hj]; exact hu)
        rw [Addr.add_lit] at this
        exact (hB.cell (p := ⟨g, i * 11 + j, none⟩) hg).trans (by simpa using this)
      have q0 := cell 0 _ (by omega) rfl
      have q1 := cell 1 _ (by omega) rfl
      have q2 := cell 2 _ (by omega) rfl
      have q3 := cell 3 _ (by omega) rfl
      have q4 := cell 4 _ (by omega) rfl
      have q5 := cell 5 _ (by omega) rfl
      have q6 := cell 6 _ (by omega) rfl
      have q7 := cell 7 _ (by omega) rfl
      have q8 := cell 8 _ (by omega) rfl
      have q9 := cell 9 _ (by omega) rfl
      have q10 := cell 10 _ (by omega) rfl
      rw [Nat.add_zero] at q0
      clear cell hc hcj HT ht hn1
      have W1 : wr.heap.size ≤ wr.heap.size := Nat.le_refl _
      go_wp2_with (at_builtin; refine wpList_append_own _ rfl (.tmp 12) (.tmp 15) 30 rfl w.heap.size 3 i0 (.int .i64 0) 1 8 Tryz.underlying30 hi hz0 hz1 hz2 rfl (by decide) _ _ _ rfl ((hko.alloc _).alloc _) ⟨wr.heap.size + 1, 0, none⟩ 1 1 [.int .i64 ty] rfl rfl ?c1 ?c2 ?c3 ?c4 ?c5 ?_)
      case c1 =>
        intro j u hj
        match j, hj with
        | 0, hj => simp at hj; subst hj; simp [Addr.add]
      case c2 => intro u hu; simp at hu; subst hu; rfl
      case c3 => unfold maxLen; omega
      case c4 => omega
      case c5 => simp; omega
      · intro v' w3 hown' hgrow _
        obtain ⟨ao', n', cap', rfl⟩ : ∃ ao' n' cap', v' = .slice ao' n' cap' := by
          rcases hown'.2 with ⟨e, _⟩ | ⟨q, cap', cur, e, _⟩ <;> exact ⟨_, _, _, e⟩
        have R : w3.ownsRow w.heap.size 3 1 (.slice ao' n' cap') (i + 1) (intCells ((es.take (i + 1)).map Ex.ty)) := by
          rw [HTy.out]; simp only [intCells, List.map_append, List.map_take, List.map_cons, List.map_nil] at hown' ⊢; exact hown'
        have RB : Below w.heap.size w w3 := ((hB.alloc hsz _).alloc (by simp; omega) _).grown hgrow (by simp; omega) (fun k hk => (hko.lt k hk).1)
        clear hown' hgrow hko HTy q0 q1 q2 q3 q4 q5 q6 q7 q8 q9 q10
        go_wp2
        go_roundw
        case rel => exact ⟨i + 1, _, _, _, by omega, rfl, by go_num, R, RB⟩
        case measure => simp [intOf]; omega
    · have hie : es.take i = es := List.take_of_length_le (by omega)
      have hil : i = es.length := by omega
      have HI : Hid (IntsIn wr (.slice ko kn kc) (es.map Ex.ty)) := by
        rw [hie] at hko
        refine intsIn_own (b := w.heap.size) ?_ (by simpa using hl)
        rw [List.length_map, ← hil]; exact hko
      clear hko hie hil
      go_wp2_with fail
      go_ret
      exact ⟨_, rfl, HI.out, hB⟩
end Go.Proofs.YtilfjpmeededmaaGreatDoor

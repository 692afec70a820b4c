/- What typeOf of package typed answers. -/
import Derived.Test.YtilfjpmeededmaaGreatDoorSliZ
import Derived.Test.YtilfjpmeededmaaGreatDoorTidyZ
namespace Go.Proofs.YtilfjpmeededmaaGreatDoor
open Go.RowKit

def cmpT (ks : List Int) : Int := match ks with | [a, b] => if a = b then 3 else 0 | _ => 0
def ifT (ks : List Int) : Int := match ks with | [c, a, b] => if c = 3 ∧ a = b then a else 0 | _ => 0
def oneT (ks : List Int) : Int := match ks with | [_] => 3 | _ => 0
def noteT (ks : List Int) : Int := match ks with | [a] => a | _ => 0
def litT (ls : List Int) (n : Int) (ks : List Int) : Int := if ks = ls then n else 0
def allT (n : Int) (ks : List Int) : Int := if 0 < ks.length ∧ ks.all (· == n) = true then n else 0
/-- The type of a built-in head with operands of these types; 0: they do not fit. -/
def typeS (l : Bs) (ks : List Int) : Int :=
  if l = [43] ∨ l = [45] ∨ l = [42] ∨ l = [47] then litT [1, 1] 1 ks
  else if l = [61] ∨ l = [60] ∨ l = [60, 61] then cmpT ks
  else if l = [97, 110, 100] ∨ l = [111, 114] then allT 3 ks
  else if l = [110, 111, 116] then litT [3] 3 ks
  else if l = [105, 115, 110, 117, 108, 108] then oneT ks
  else if l = [105, 102] then ifT ks
  else if l = [108, 101, 110] then litT [2] 1 ks
  else if l = [99, 97, 116] then allT 2 ks
  else if l = [110, 111, 116, 101] then noteT ks else 0

theorem intsIn_lit1 (w : World) (a : Int) : IntsIn (w.alloc (.cells #[.int .i64 a] 3)) (.slice (some ⟨w.heap.size, 0, none⟩) 1 1) [a] := by
  refine ⟨_, _, rfl, by simp, .inr ⟨_, _, rfl, by simp [World.size_alloc], fun j u hj => ?_⟩⟩
  rw [Nat.zero_add, blk_at (heap_alloc_new w _)]
  match j, hj with
  | 0, hj => simp at hj; subst hj; rfl
theorem intsIn_lit2 (w : World) (a b : Int) : IntsIn (w.alloc (.cells #[.int .i64 a, .int .i64 b] 3)) (.slice (some ⟨w.heap.size, 0, none⟩) 2 2) [a, b] := by
  refine ⟨_, _, rfl, by simp, .inr ⟨_, _, rfl, by simp [World.size_alloc], fun j u hj => ?_⟩⟩
  rw [Nat.zero_add, blk_at (heap_alloc_new w _)]
  match j, hj with
  | 0, hj => simp at hj; subst hj; rfl
  | 1, hj => simp at hj; subst hj; rfl
theorem below_drewN (w : World) (n : Nat) : Below w.heap.size w (w.drewN n) := ⟨rfl, rfl, rfl, Nat.le_refl _, fun _ _ => rfl⟩
theorem below_box (w : World) (o : Obj) : Below w.heap.size w (w.alloc o) := (Below.refl _ _).alloc (Nat.le_refl _) _
theorem IntsIn.form {w : World} {v : Value} {zs : List Int} (h : IntsIn w v zs) : ∃ ao cap, v = .slice ao zs.length cap := by obtain ⟨ao, cap, h, _⟩ := h; exact ⟨ao, cap, h⟩
theorem IntsIn.at {w : World} {v : Value} {zs : List Int} (h : IntsIn w v zs) (hz : zs ≠ []) : ∃ b off cap, v = .slice (some ⟨b, off, none⟩) zs.length cap ∧ b < w.heap.size ∧ ∀ j u, zs[j]? = some u → w.cell? ⟨b, off + j, none⟩ = some (.int .i64 u) := by
  obtain ⟨ao, cap, rfl, _, h | ⟨b, off, rfl, h1, h2⟩⟩ := h
  · exact absurd h hz
  · exact ⟨b, off, cap, rfl, h1, h2⟩

set_option maxHeartbeats 800000 in
set_option maxRecDepth 100000 in
theorem typeOf_plus (w : World) (v : Value) (ks : List Int) (h : IntsIn w v ks) :
    Calls Tryz.prog 377 #[.string ⟨#[43]⟩, v] w fun e w' => e = .returned (.int .i64 (litT [1, 1] 1 ks)) ∧ Below w.heap.size w w' := by
  have HC := sliEqual_any _ v (.slice (some ⟨w.heap.size, 0, none⟩) 2 2) ks [1, 1] (h.keep (below_box w _)) (intsIn_lit2 w 1 1)
  obtain ⟨ao, cap, rfl⟩ := h.form
  obtain ⟨d, hd⟩ : ∃ d, d = decide (ks = [1, 1]) := ⟨_, rfl⟩
  have HR : Hid (litT [1, 1] 1 ks = gvS d 1) := by rw [Hid, hd, litT, gvS]; simp
  rw [← hd] at HC
  clear hd h
  go_enter Tryz.func377, Tryz.ntmps377
  go_wp2_with (first
    | (go_at_call 380; refine HC.mono ?_; rintro e w2 ⟨rfl, hb2⟩)
    | (go_at_call 391; refine (given_any _ _ _).mono ?_; rintro e w3 ⟨rfl, rfl⟩))
  go_ret
  exact ⟨by rw [HR.out]; rfl, (below_box w _).trans (hb2.mono (by simp [World.size_alloc]))⟩

set_option maxHeartbeats 800000 in
set_option maxRecDepth 100000 in
theorem typeOf_minus (w : World) (v : Value) (ks : List Int) (h : IntsIn w v ks) :
    Calls Tryz.prog 377 #[.string ⟨#[45]⟩, v] w fun e w' => e = .returned (.int .i64 (litT [1, 1] 1 ks)) ∧ Below w.heap.size w w' := by
  have HC := sliEqual_any _ v (.slice (some ⟨w.heap.size, 0, none⟩) 2 2) ks [1, 1] (h.keep (below_box w _)) (intsIn_lit2 w 1 1)
  obtain ⟨ao, cap, rfl⟩ := h.form
  obtain ⟨d, hd⟩ : ∃ d, d = decide (ks = [1, 1]) := ⟨_, rfl⟩
  have HR : Hid (litT [1, 1] 1 ks = gvS d 1) := by rw [Hid, hd, litT, gvS]; simp
  rw [← hd] at HC
  clear hd h
  go_enter Tryz.func377, Tryz.ntmps377
  go_wp2_with (first
    | (go_at_call 380; refine HC.mono ?_; rintro e w2 ⟨rfl, hb2⟩)
    | (go_at_call 391; refine (given_any _ _ _).mono ?_; rintro e w3 ⟨rfl, rfl⟩))
  go_ret
  exact ⟨by rw [HR.out]; rfl, (below_box w _).trans (hb2.mono (by simp [World.size_alloc]))⟩

set_option maxHeartbeats 800000 in
set_option maxRecDepth 100000 in
theorem typeOf_times (w : World) (v : Value) (ks : List Int) (h : IntsIn w v ks) :
    Calls Tryz.prog 377 #[.string ⟨#[42]⟩, v] w fun e w' => e = .returned (.int .i64 (litT [1, 1] 1 ks)) ∧ Below w.heap.size w w' := by
  have HC := sliEqual_any _ v (.slice (some ⟨w.heap.size, 0, none⟩) 2 2) ks [1, 1] (h.keep (below_box w _)) (intsIn_lit2 w 1 1)
  obtain ⟨ao, cap, rfl⟩ := h.form
  obtain ⟨d, hd⟩ : ∃ d, d = decide (ks = [1, 1]) := ⟨_, rfl⟩
  have HR : Hid (litT [1, 1] 1 ks = gvS d 1) := by rw [Hid, hd, litT, gvS]; simp
  rw [← hd] at HC
  clear hd h
  go_enter Tryz.func377, Tryz.ntmps377
  go_wp2_with (first
    | (go_at_call 380; refine HC.mono ?_; rintro e w2 ⟨rfl, hb2⟩)
    | (go_at_call 391; refine (given_any _ _ _).mono ?_; rintro e w3 ⟨rfl, rfl⟩))
  go_ret
  exact ⟨by rw [HR.out]; rfl, (below_box w _).trans (hb2.mono (by simp [World.size_alloc]))⟩

set_option maxHeartbeats 800000 in
set_option maxRecDepth 100000 in
theorem typeOf_over (w : World) (v : Value) (ks : List Int) (h : IntsIn w v ks) :
    Calls Tryz.prog 377 #[.string ⟨#[47]⟩, v] w fun e w' => e = .returned (.int .i64 (litT [1, 1] 1 ks)) ∧ Below w.heap.size w w' := by
  have HC := sliEqual_any _ v (.slice (some ⟨w.heap.size, 0, none⟩) 2 2) ks [1, 1] (h.keep (below_box w _)) (intsIn_lit2 w 1 1)
  obtain ⟨ao, cap, rfl⟩ := h.form
  obtain ⟨d, hd⟩ : ∃ d, d = decide (ks = [1, 1]) := ⟨_, rfl⟩
  have HR : Hid (litT [1, 1] 1 ks = gvS d 1) := by rw [Hid, hd, litT, gvS]; simp
  rw [← hd] at HC
  clear hd h
  go_enter Tryz.func377, Tryz.ntmps377
  go_wp2_with (first
    | (go_at_call 380; refine HC.mono ?_; rintro e w2 ⟨rfl, hb2⟩)
    | (go_at_call 391; refine (given_any _ _ _).mono ?_; rintro e w3 ⟨rfl, rfl⟩))
  go_ret
  exact ⟨by rw [HR.out]; rfl, (below_box w _).trans (hb2.mono (by simp [World.size_alloc]))⟩

set_option maxHeartbeats 800000 in
set_option maxRecDepth 100000 in
theorem typeOf_eq (w : World) (v : Value) (ks : List Int) (h : IntsIn w v ks) :
    Calls Tryz.prog 377 #[.string ⟨#[61]⟩, v] w fun e w' => e = .returned (.int .i64 (cmpT ks)) ∧ Below w.heap.size w w' := by
  by_cases hl : ks.length = 2
  · obtain ⟨a, b, rfl⟩ : ∃ a b, ks = [a, b] := by
      match ks, hl with
      | [a, b], _ => exact ⟨a, b, rfl⟩
    obtain ⟨p, off, cap, rfl, hb, hc⟩ := h.at (by simp)
    have q0 := hc 0 a rfl
    have q1 := hc 1 b rfl
    rw [Nat.add_zero] at q0
    clear h hc hl
    have HR : Hid (cmpT [a, b] = gvS (a == b) 3) := by rw [Hid, gvS]; simp [cmpT]
    go_enter Tryz.func377, Tryz.ntmps377
    go_wp2_with fail
    go_quiet ((go_at_call 391; exact Calls.quiet_of_same (given_any _ _ _)))
    go_wp2_with fail
    go_ret
    exact ⟨by rw [HR.out]; rfl, below_drewN _ _⟩
  · have HR : Hid (cmpT ks = gvS false 3) := by
      rw [Hid]
      match ks, hl with
      | [], _ => rfl
      | [_], _ => rfl
      | _ :: _ :: _ :: _, _ => rfl
    have hne : ((ks.length : Int) == 2) = false := by simp; omega
    obtain ⟨ao, cap, rfl⟩ := h.form
    clear h hl
    go_enter Tryz.func377, Tryz.ntmps377
    go_wp2_with fail
    go_quiet ((go_at_call 391; exact Calls.quiet_of_same (given_any _ _ _)))
    go_wp2_with fail
    go_ret
    exact ⟨by rw [HR.out]; rfl, below_drewN _ _⟩

set_option maxHeartbeats 800000 in
set_option maxRecDepth 100000 in
theorem typeOf_lt (w : World) (v : Value) (ks : List Int) (h : IntsIn w v ks) :
    Calls Tryz.prog 377 #[.string ⟨#[60]⟩, v] w fun e w' => e = .returned (.int .i64 (cmpT ks)) ∧ Below w.heap.size w w' := by
  by_cases hl : ks.length = 2
  · obtain ⟨a, b, rfl⟩ : ∃ a b, ks = [a, b] := by
      match ks, hl with
      | [a, b], _ => exact ⟨a, b, rfl⟩
    obtain ⟨p, off, cap, rfl, hb, hc⟩ := h.at (by simp)
    have q0 := hc 0 a rfl
    have q1 := hc 1 b rfl
    rw [Nat.add_zero] at q0
    clear h hc hl
    have HR : Hid (cmpT [a, b] = gvS (a == b) 3) := by rw [Hid, gvS]; simp [cmpT]
    go_enter Tryz.func377, Tryz.ntmps377
    go_wp2_with fail
    go_quiet ((go_at_call 391; exact Calls.quiet_of_same (given_any _ _ _)))
    go_wp2_with fail
    go_ret
    exact ⟨by rw [HR.out]; rfl, below_drewN _ _⟩
  · have HR : Hid (cmpT ks = gvS false 3) := by
      rw [Hid]
      match ks, hl with
      | [], _ => rfl
      | [_], _ => rfl
      | _ :: _ :: _ :: _, _ => rfl
    have hne : ((ks.length : Int) == 2) = false := by simp; omega
    obtain ⟨ao, cap, rfl⟩ := h.form
    clear h hl
    go_enter Tryz.func377, Tryz.ntmps377
    go_wp2_with fail
    go_quiet ((go_at_call 391; exact Calls.quiet_of_same (given_any _ _ _)))
    go_wp2_with fail
    go_ret
    exact ⟨by rw [HR.out]; rfl, below_drewN _ _⟩

set_option maxHeartbeats 800000 in
set_option maxRecDepth 100000 in
theorem typeOf_le (w : World) (v : Value) (ks : List Int) (h : IntsIn w v ks) :
    Calls Tryz.prog 377 #[.string ⟨#[60, 61]⟩, v] w fun e w' => e = .returned (.int .i64 (cmpT ks)) ∧ Below w.heap.size w w' := by
  by_cases hl : ks.length = 2
  · obtain ⟨a, b, rfl⟩ : ∃ a b, ks = [a, b] := by
      match ks, hl with
      | [a, b], _ => exact ⟨a, b, rfl⟩
    obtain ⟨p, off, cap, rfl, hb, hc⟩ := h.at (by simp)
    have q0 := hc 0 a rfl
    have q1 := hc 1 b rfl
    rw [Nat.add_zero] at q0
    clear h hc hl
    have HR : Hid (cmpT [a, b] = gvS (a == b) 3) := by rw [Hid, gvS]; simp [cmpT]
    go_enter Tryz.func377, Tryz.ntmps377
    go_wp2_with fail
    go_quiet ((go_at_call 391; exact Calls.quiet_of_same (given_any _ _ _)))
    go_wp2_with fail
    go_ret
    exact ⟨by rw [HR.out]; rfl, below_drewN _ _⟩
  · have HR : Hid (cmpT ks = gvS false 3) := by
      rw [Hid]
      match ks, hl with
      | [], _ => rfl
      | [_], _ => rfl
      | _ :: _ :: _ :: _, _ => rfl
    have hne : ((ks.length : Int) == 2) = false := by simp; omega
    obtain ⟨ao, cap, rfl⟩ := h.form
    clear h hl
    go_enter Tryz.func377, Tryz.ntmps377
    go_wp2_with fail
    go_quiet ((go_at_call 391; exact Calls.quiet_of_same (given_any _ _ _)))
    go_wp2_with fail
    go_ret
    exact ⟨by rw [HR.out]; rfl, below_drewN _ _⟩

set_option maxHeartbeats 800000 in
set_option maxRecDepth 100000 in
theorem typeOf_and (w : World) (v : Value) (ks : List Int) (h : IntsIn w v ks) :
    Calls Tryz.prog 377 #[.string ⟨#[97, 110, 100]⟩, v] w fun e w' => e = .returned (.int .i64 (allT 3 ks)) ∧ Below w.heap.size w w' := by
  have HC := someOf_any w v ks 3 h
  obtain ⟨ao, cap, rfl⟩ := h.form
  obtain ⟨d, hd⟩ : ∃ d, d = (decide (0 < ks.length) && ks.all (· == 3)) := ⟨_, rfl⟩
  have HR : Hid (allT 3 ks = gvS d 3) := by rw [Hid, hd, allT, gvS]; simp
  rw [← hd] at HC
  clear hd h
  go_enter Tryz.func377, Tryz.ntmps377
  go_wp2_with (first
    | (go_at_call 392; refine HC.mono ?_; rintro e w2 ⟨rfl, hb2⟩)
    | (go_at_call 391; refine (given_any _ _ _).mono ?_; rintro e w3 ⟨rfl, rfl⟩))
  go_ret
  exact ⟨by rw [HR.out]; rfl, hb2⟩

set_option maxHeartbeats 800000 in
set_option maxRecDepth 100000 in
theorem typeOf_or (w : World) (v : Value) (ks : List Int) (h : IntsIn w v ks) :
    Calls Tryz.prog 377 #[.string ⟨#[111, 114]⟩, v] w fun e w' => e = .returned (.int .i64 (allT 3 ks)) ∧ Below w.heap.size w w' := by
  have HC := someOf_any w v ks 3 h
  obtain ⟨ao, cap, rfl⟩ := h.form
  obtain ⟨d, hd⟩ : ∃ d, d = (decide (0 < ks.length) && ks.all (· == 3)) := ⟨_, rfl⟩
  have HR : Hid (allT 3 ks = gvS d 3) := by rw [Hid, hd, allT, gvS]; simp
  rw [← hd] at HC
  clear hd h
  go_enter Tryz.func377, Tryz.ntmps377
  go_wp2_with (first
    | (go_at_call 392; refine HC.mono ?_; rintro e w2 ⟨rfl, hb2⟩)
    | (go_at_call 391; refine (given_any _ _ _).mono ?_; rintro e w3 ⟨rfl, rfl⟩))
  go_ret
  exact ⟨by rw [HR.out]; rfl, hb2⟩

set_option maxHeartbeats 800000 in
set_option maxRecDepth 100000 in
theorem typeOf_not (w : World) (v : Value) (ks : List Int) (h : IntsIn w v ks) :
    Calls Tryz.prog 377 #[.string ⟨#[110, 111, 116]⟩, v] w fun e w' => e = .returned (.int .i64 (litT [3] 3 ks)) ∧ Below w.heap.size w w' := by
  have HC := sliEqual_any _ v (.slice (some ⟨w.heap.size, 0, none⟩) 1 1) ks [3] (h.keep (below_box w _)) (intsIn_lit1 w 3)
  obtain ⟨ao, cap, rfl⟩ := h.form
  obtain ⟨d, hd⟩ : ∃ d, d = decide (ks = [3]) := ⟨_, rfl⟩
  have HR : Hid (litT [3] 3 ks = gvS d 3) := by rw [Hid, hd, litT, gvS]; simp
  rw [← hd] at HC
  clear hd h
  go_enter Tryz.func377, Tryz.ntmps377
  go_wp2_with (first
    | (go_at_call 380; refine HC.mono ?_; rintro e w2 ⟨rfl, hb2⟩)
    | (go_at_call 391; refine (given_any _ _ _).mono ?_; rintro e w3 ⟨rfl, rfl⟩))
  go_ret
  exact ⟨by rw [HR.out]; rfl, (below_box w _).trans (hb2.mono (by simp [World.size_alloc]))⟩

set_option maxHeartbeats 800000 in
set_option maxRecDepth 100000 in
theorem typeOf_isnull (w : World) (v : Value) (ks : List Int) (h : IntsIn w v ks) :
    Calls Tryz.prog 377 #[.string ⟨#[105, 115, 110, 117, 108, 108]⟩, v] w fun e w' => e = .returned (.int .i64 (oneT ks)) ∧ Below w.heap.size w w' := by
  obtain ⟨ao, cap, rfl⟩ := h.form
  obtain ⟨d, hd⟩ : ∃ d, d = ((ks.length : Int) == 1) := ⟨_, rfl⟩
  have HR : Hid (oneT ks = gvS d 3) := by
    rw [Hid, hd, gvS]
    match ks with
    | [] => rfl
    | [_] => rfl
    | _ :: _ :: l => simp [oneT]; omega
  clear h
  go_enter Tryz.func377, Tryz.ntmps377
  go_wp2_with (go_at_call 391; refine (given_any _ _ _).mono ?_; rintro e w3 ⟨rfl, rfl⟩)
  go_ret
  exact ⟨by rw [HR.out, hd]; rfl, Below.refl _ _⟩

set_option maxHeartbeats 800000 in
set_option maxRecDepth 100000 in
theorem typeOf_if (w : World) (v : Value) (ks : List Int) (h : IntsIn w v ks) :
    Calls Tryz.prog 377 #[.string ⟨#[105, 102]⟩, v] w fun e w' => e = .returned (.int .i64 (ifT ks)) ∧ Below w.heap.size w w' := by
  by_cases hl : ks.length = 3
  · obtain ⟨c, a, b, rfl⟩ : ∃ c a b, ks = [c, a, b] := by
      match ks, hl with
      | [c, a, b], _ => exact ⟨c, a, b, rfl⟩
    obtain ⟨p, off, cap, rfl, hb, hc⟩ := h.at (by simp)
    have q0 := hc 0 c rfl
    have q1 := hc 1 a rfl
    have q2 := hc 2 b rfl
    rw [Nat.add_zero] at q0
    clear h hc hl
    by_cases h3 : c = 3
    · subst h3
      by_cases hab : a = b
      · subst hab
        have HR : Hid (ifT [3, a, a] = a) := by rw [Hid]; simp [ifT]
        go_enter Tryz.func377, Tryz.ntmps377
        go_wp2_with fail
        go_region
        all_goals (try go_wp2_with fail)
        all_goals go_ret
        all_goals exact ⟨by rw [HR.out]; rfl, (Below.refl _ _).drew⟩
      · have HR : Hid (ifT [3, a, b] = 0) := by rw [Hid]; simp [ifT, hab]
        have hne : (a == b) = false := by simpa using hab
        clear hab
        go_enter Tryz.func377, Tryz.ntmps377
        go_wp2_with fail
        go_region
        all_goals (try go_wp2_with fail)
        all_goals go_ret
        all_goals exact ⟨by rw [HR.out]; rfl, (Below.refl _ _).drew⟩
    · have HR : Hid (ifT [c, a, b] = 0) := by rw [Hid]; simp [ifT, h3]
      have hne : (c == 3) = false := by simpa using h3
      clear h3
      go_enter Tryz.func377, Tryz.ntmps377
      go_wp2_with fail
      go_region
      all_goals (try go_wp2_with fail)
      all_goals go_ret
      all_goals exact ⟨by rw [HR.out]; rfl, (Below.refl _ _).drew⟩
  · have HR : Hid (ifT ks = 0) := by
      rw [Hid]
      match ks, hl with
      | [], _ => rfl
      | [_], _ => rfl
      | [_, _], _ => rfl
      | _ :: _ :: _ :: _ :: _, _ => rfl
    have hne : ((ks.length : Int) == 3) = false := by simp; omega
    obtain ⟨ao, cap, rfl⟩ := h.form
    clear h hl
    go_enter Tryz.func377, Tryz.ntmps377
    go_wp2_with fail
    go_region
    all_goals (try go_wp2_with fail)
    all_goals go_ret
    all_goals exact ⟨by rw [HR.out]; rfl, (Below.refl _ _).drew⟩

set_option maxHeartbeats 800000 in
set_option maxRecDepth 100000 in
theorem typeOf_len (w : World) (v : Value) (ks : List Int) (h : IntsIn w v ks) :
    Calls Tryz.prog 377 #[.string ⟨#[108, 101, 110]⟩, v] w fun e w' => e = .returned (.int .i64 (litT [2] 1 ks)) ∧ Below w.heap.size w w' := by
  have HC := sliEqual_any _ v (.slice (some ⟨w.heap.size, 0, none⟩) 1 1) ks [2] (h.keep (below_box w _)) (intsIn_lit1 w 2)
  obtain ⟨ao, cap, rfl⟩ := h.form
  obtain ⟨d, hd⟩ : ∃ d, d = decide (ks = [2]) := ⟨_, rfl⟩
  have HR : Hid (litT [2] 1 ks = gvS d 1) := by rw [Hid, hd, litT, gvS]; simp
  rw [← hd] at HC
  clear hd h
  go_enter Tryz.func377, Tryz.ntmps377
  go_wp2_with (first
    | (go_at_call 380; refine HC.mono ?_; rintro e w2 ⟨rfl, hb2⟩)
    | (go_at_call 391; refine (given_any _ _ _).mono ?_; rintro e w3 ⟨rfl, rfl⟩))
  go_ret
  exact ⟨by rw [HR.out]; rfl, (below_box w _).trans (hb2.mono (by simp [World.size_alloc]))⟩

set_option maxHeartbeats 800000 in
set_option maxRecDepth 100000 in
theorem typeOf_cat (w : World) (v : Value) (ks : List Int) (h : IntsIn w v ks) :
    Calls Tryz.prog 377 #[.string ⟨#[99, 97, 116]⟩, v] w fun e w' => e = .returned (.int .i64 (allT 2 ks)) ∧ Below w.heap.size w w' := by
  have HC := someOf_any w v ks 2 h
  obtain ⟨ao, cap, rfl⟩ := h.form
  obtain ⟨d, hd⟩ : ∃ d, d = (decide (0 < ks.length) && ks.all (· == 2)) := ⟨_, rfl⟩
  have HR : Hid (allT 2 ks = gvS d 2) := by rw [Hid, hd, allT, gvS]; simp
  rw [← hd] at HC
  clear hd h
  go_enter Tryz.func377, Tryz.ntmps377
  go_wp2_with (first
    | (go_at_call 392; refine HC.mono ?_; rintro e w2 ⟨rfl, hb2⟩)
    | (go_at_call 391; refine (given_any _ _ _).mono ?_; rintro e w3 ⟨rfl, rfl⟩))
  go_ret
  exact ⟨by rw [HR.out]; rfl, hb2⟩

set_option maxHeartbeats 800000 in
set_option maxRecDepth 100000 in
theorem typeOf_note (w : World) (v : Value) (ks : List Int) (h : IntsIn w v ks) :
    Calls Tryz.prog 377 #[.string ⟨#[110, 111, 116, 101]⟩, v] w fun e w' => e = .returned (.int .i64 (noteT ks)) ∧ Below w.heap.size w w' := by
  match ks, h with
  | [], h =>
    obtain ⟨ao, cap, rfl⟩ := h.form
    clear h
    go_enter Tryz.func377, Tryz.ntmps377
    go_wp2_with fail
    go_ret
    exact ⟨rfl, Below.refl _ _⟩
  | [a], h =>
    obtain ⟨b, off, cap, rfl, hb, hc⟩ := h.at (by simp)
    have q := hc 0 a rfl
    rw [Nat.add_zero] at q
    clear h hc
    go_enter Tryz.func377, Tryz.ntmps377
    go_wp2_with fail
    go_ret
    exact ⟨rfl, Below.refl _ _⟩
  | a :: b :: l, h =>
    obtain ⟨ao, cap, rfl⟩ := h.form
    have hl := h.choose_spec.choose_spec.2.1
    have hne : (((a :: b :: l).length : Int) == 1) = false := by simp; omega
    clear h
    obtain ⟨n, hn⟩ : ∃ n, n = (a :: b :: l).length := ⟨_, rfl⟩
    rw [← hn] at hne ⊢
    go_enter Tryz.func377, Tryz.ntmps377
    go_wp2_with fail
    go_ret
    exact ⟨rfl, Below.refl _ _⟩

theorem typeOf_any (l : Bs) (hl : builtS l = true) (w : World) (v : Value) (ks : List Int) (h : IntsIn w v ks) :
    Calls Tryz.prog 377 #[.string (ofBs l), v] w fun e w' => e = .returned (.int .i64 (typeS l ks)) ∧ Below w.heap.size w w' := by
  simp only [builtS, builtIns, List.any_cons, List.any_nil, Bool.or_eq_true, beq_iff_eq, Bool.or_false] at hl
  rcases hl with rfl | rfl | rfl | rfl | rfl | rfl | rfl | rfl | rfl | rfl | rfl | rfl | rfl | rfl | rfl
  · rw [show typeS [43] ks = litT [1, 1] 1 ks from rfl, show ofBs [43] = ⟨#[43]⟩ from rfl]; exact typeOf_plus w v ks h
  · rw [show typeS [45] ks = litT [1, 1] 1 ks from rfl, show ofBs [45] = ⟨#[45]⟩ from rfl]; exact typeOf_minus w v ks h
  · rw [show typeS [42] ks = litT [1, 1] 1 ks from rfl, show ofBs [42] = ⟨#[42]⟩ from rfl]; exact typeOf_times w v ks h
  · rw [show typeS [47] ks = litT [1, 1] 1 ks from rfl, show ofBs [47] = ⟨#[47]⟩ from rfl]; exact typeOf_over w v ks h
  · rw [show typeS [61] ks = cmpT ks from rfl, show ofBs [61] = ⟨#[61]⟩ from rfl]; exact typeOf_eq w v ks h
  · rw [show typeS [60] ks = cmpT ks from rfl, show ofBs [60] = ⟨#[60]⟩ from rfl]; exact typeOf_lt w v ks h
  · rw [show typeS [60, 61] ks = cmpT ks from rfl, show ofBs [60, 61] = ⟨#[60, 61]⟩ from rfl]; exact typeOf_le w v ks h
  · rw [show typeS [97, 110, 100] ks = allT 3 ks from rfl, show ofBs [97, 110, 100] = ⟨#[97, 110, 100]⟩ from rfl]; exact typeOf_and w v ks h
  · rw [show typeS [111, 114] ks = allT 3 ks from rfl, show ofBs [111, 114] = ⟨#[111, 114]⟩ from rfl]; exact typeOf_or w v ks h
  · rw [show typeS [110, 111, 116] ks = litT [3] 3 ks from rfl, show ofBs [110, 111, 116] = ⟨#[110, 111, 116]⟩ from rfl]; exact typeOf_not w v ks h
  · rw [show typeS [105, 115, 110, 117, 108, 108] ks = oneT ks from rfl, show ofBs [105, 115, 110, 117, 108, 108] = ⟨#[105, 115, 110, 117, 108, 108]⟩ from rfl]; exact typeOf_isnull w v ks h
  · rw [show typeS [105, 102] ks = ifT ks from rfl, show ofBs [105, 102] = ⟨#[105, 102]⟩ from rfl]; exact typeOf_if w v ks h
  · rw [show typeS [108, 101, 110] ks = litT [2] 1 ks from rfl, show ofBs [108, 101, 110] = ⟨#[108, 101, 110]⟩ from rfl]; exact typeOf_len w v ks h
  · rw [show typeS [99, 97, 116] ks = allT 2 ks from rfl, show ofBs [99, 97, 116] = ⟨#[99, 97, 116]⟩ from rfl]; exact typeOf_cat w v ks h
  · rw [show typeS [110, 111, 116, 101] ks = noteT ks from rfl, show ofBs [110, 111, 116, 101] = ⟨#[110, 111, 116, 101]⟩ from rfl]; exact typeOf_note w v ks h
end Go.Proofs.YtilfjpmeededmaaGreatDoor

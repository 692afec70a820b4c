/- What Tidy answers, of any text: the expression's one right way, or ErrText. -/
import Derived.Test.YtilfjpmeededmaaGreatDoorWrite
namespace Go.Proofs.YtilfjpmeededmaaGreatDoor
open Go.RowKit

theorem fresh_builder (w : World) : Lib.IsBuilderF 353 5 w.heap.size w.heap.size (Lib.byteCells []) (w.alloc (.cells #[.pointer none, .slice none 0 0] 353)) :=
  Lib.IsBuilderF.of (.inl ⟨Nat.le_refl _, .slice none 0 0, blk_new w _, World.ownsRow_nil _ _ _ _, by simp [Value.ownBlock]⟩)

set_option maxHeartbeats 1600000 in
set_option maxRecDepth 100000 in
theorem string_any {t : Tr} {k : Int} {tx : Bs} {br : Bool} {ao : Option Addr} {n cap : Nat} {w : World} {S : Nat → Prop} (hT : IsTr w S [.int .i64 k, .string (ofBs tx), .bool br, .slice ao n cap] t) (hl : (render t).length ≤ 1000000) :
    Calls Tryz.prog 107 #[.agg #[.int .i64 k, .string (ofBs tx), .bool br, .slice ao n cap]] w fun e w' => e = .returned (.string (ofBs (render t))) ∧ Below w.heap.size w w' := by
  have hT2 : ∀ o1 o2 : Obj, IsTr ((w.alloc o1).alloc o2) (fun g => g < w.heap.size + 1) [.int .i64 k, .string (ofBs tx), .bool br, .slice ao n cap] t := by
    intro o1 o2
    refine hT.bounded.move (fun g hg => ?_) (fun g hg => Nat.lt_succ_of_lt hg.2)
    rw [Below.heap_alloc _ _ _ (by simp; have := hg.2; omega), Below.heap_alloc _ _ _ hg.2]
  have hF : ∀ o1 : Obj, Lib.IsBuilderF 353 5 (w.heap.size + 1) (w.heap.size + 1) (Lib.byteCells []) ((w.alloc o1).alloc (.cells #[.pointer none, .slice none 0 0] 353)) := by
    intro o1; have := fresh_builder (w.alloc o1); simpa using this
  go_enter Tryz.func107, Tryz.ntmps107
  go_wp2_with (go_at_call 179; refine (write_tree (hT2 _ _) (hF _) ?c1 ?c2).mono ?_)
  case c1 => simpa using hl
  case c2 => simp
  rintro e w2 ⟨rfl, h2, hb2, hk2⟩
  have hs2 := hb2.size
  simp only [World.size_alloc] at hs2
  go_wp2_with (go_at_call 180; refine (Tryz.Builder_String_any_k (w.heap.size + 1) (w.heap.size + 1) _ _ h2 ?c1).mono ?_)
  case c1 => omega
  rintro e w3 ⟨rfl, h3, hb3, hk3⟩
  go_wp2
  go_ret
  have B2 : Below w.heap.size w w2 := (((Below.refl w.heap.size w).alloc (Nat.le_refl _) _).alloc (by simp) _).trans (hb2.mono (by omega))
  exact ⟨by simp [ofBs], B2.trans (hb3.mono (by omega))⟩

/-- What a list of tokens weighs: its bytes, and two for each. -/
def wt (ts : List Tk) : Nat := (ts.map fun t => t.2.length + 2).sum
theorem wt_cons (t : Tk) (ts : List Tk) : wt (t :: ts) = t.2.length + 2 + wt ts := by simp [wt]
theorem parse_wt : ∀ f : Nat, (∀ deep ts t r, treeF f deep ts = some (t, r) → (render t).length + 1 + wt r ≤ wt ts) ∧
    (∀ deep ts t r, brF f deep ts = some (t, r) → (render t).length + 1 + wt r ≤ wt ts + 2) ∧
    (∀ deep ts xs r, opsF f deep ts = some (xs, r) → (renders xs).length + 2 + wt r ≤ wt ts) := by
  intro f
  induction f with
  | zero => exact ⟨fun _ _ _ _ h => by simp [treeF] at h, fun _ _ _ _ h => by simp [brF] at h, fun _ _ _ _ h => by simp [opsF] at h⟩
  | succ f ih =>
    obtain ⟨i1, i2, i3⟩ := ih
    refine ⟨fun deep ts t r h => ?_, fun deep ts t r h => ?_, fun deep ts xs r h => ?_⟩
    · cases ts with
      | nil => simp [treeF] at h
      | cons c ts =>
        rw [treeF] at h
        rw [wt_cons]
        by_cases hc : c.1 = 1
        · rw [if_pos hc] at h
          have := i2 _ _ _ _ h
          omega
        · rw [if_neg hc] at h
          cases hA : aloneS c.1 c.2 with
          | false => rw [hA] at h; simp at h
          | true =>
            rw [hA, if_pos rfl] at h
            simp only [Option.some.injEq, Prod.mk.injEq] at h
            obtain ⟨rfl, rfl⟩ := h
            rw [render]; simp
    · cases ts with
      | nil => simp [brF] at h
      | cons c ts =>
        rw [brF] at h
        rw [wt_cons]
        by_cases hd : 20 < deep
        · rw [if_pos hd] at h; simp at h
        · rw [if_neg hd] at h
          cases hA : headS c.1 c.2 with
          | false => rw [hA] at h; simp at h
          | true =>
            rw [hA, if_pos rfl] at h
            obtain ⟨⟨xs, r'⟩, ho, he⟩ := Option.map_eq_some_iff.mp h
            simp only [Prod.mk.injEq] at he
            obtain ⟨rfl, rfl⟩ := he
            have := i3 _ _ _ _ ho
            rw [render]; simp; omega
    · cases ts with
      | nil => simp [opsF] at h
      | cons c ts =>
        rw [opsF] at h
        by_cases hc : c.1 = 2
        · rw [if_pos hc] at h
          simp only [Option.some.injEq, Prod.mk.injEq] at h
          obtain ⟨rfl, rfl⟩ := h
          rw [wt_cons]; simp [renders]
        · rw [if_neg hc] at h
          cases ht : treeF f deep (c :: ts) with
          | none => rw [ht] at h; simp at h
          | some p =>
            obtain ⟨x, r'⟩ := p
            rw [ht] at h
            obtain ⟨⟨xs', r''⟩, ho, he⟩ := Option.map_eq_some_iff.mp h
            simp only [Prod.mk.injEq] at he
            obtain ⟨rfl, rfl⟩ := he
            have h1 := i1 _ _ _ _ ht
            have h3 := i3 _ _ _ _ ho
            simp [renders]; omega
theorem scan_wt : ∀ (n : Nat) (l : Bs) (ts : List Tk), l.length ≤ n → scanS l = some ts → wt ts ≤ 3 * l.length := by
  intro n
  induction n with
  | zero => intro l ts h hs; rw [scanS_nil l (by omega)] at hs; simp only [Option.some.injEq] at hs; subst hs; simp [wt]
  | succ n ih =>
    intro l ts h hs
    by_cases h0 : l.length = 0
    · rw [scanS_nil l h0] at hs; simp only [Option.some.injEq] at hs; subst hs; simp [wt]
    · rw [scanS_eq l (by omega)] at hs
      cases hb : blankB (l.headD 0).toNat with
      | true =>
        rw [hb, if_pos rfl] at hs
        have := ih _ _ (by simp; omega) hs
        simp at this; omega
      | false =>
        have hp := plen_pos l (by omega) hb
        have hp2 := plen_le l (by omega)
        rw [hb, if_neg Bool.false_ne_true] at hs
        by_cases hk : kindS (l.take (plen l)) = 0
        · rw [if_pos hk] at hs; simp at hs
        · rw [if_neg hk] at hs
          obtain ⟨ts', hs', rfl⟩ := Option.map_eq_some_iff.mp hs
          have := ih _ _ (by simp; omega) hs'
          rw [wt_cons]; simp at this ⊢; omega
theorem parseS_len (l : Bs) (t : Tr) (h : parseS l = some t) : (render t).length ≤ 1200 := by
  unfold parseS at h
  by_cases hl : 400 < l.length
  · rw [if_pos hl] at h; simp at h
  · rw [if_neg hl] at h
    obtain ⟨ts, h1, h2⟩ := Option.bind_eq_some_iff.mp h
    have hw := scan_wt _ l ts (Nat.le_refl _) h1
    unfold parseT at h2
    cases ht : treeF (2 * ts.length) 0 ts with
    | none => rw [ht] at h2; simp at h2
    | some p =>
      obtain ⟨x, r⟩ := p
      rw [ht] at h2
      cases r with
      | cons _ _ => simp at h2
      | nil =>
        simp only [Option.some.injEq] at h2
        subst h2
        have := (parse_wt _).1 _ _ _ _ ht
        omega

def tidyS (l : Bs) : Option Bs := (parseS l).map render

set_option maxHeartbeats 1600000 in
set_option maxRecDepth 100000 in
theorem tidy_any (s : ByteArray) (w : World) (hs : s.size ≤ maxLen) :
    Calls Tryz.prog 66 #[.string s] w fun e w' => Below w.heap.size w w' ∧
      ((tidyS s.toList = none ∧ e = .returned (.tuple #[.string ⟨#[]⟩, .int .i64 1])) ∨ (∃ l, tidyS s.toList = some l ∧ l.length ≤ 1200 ∧ e = .returned (.tuple #[.string (ofBs l), .int .i64 0]))) := by
  go_enter Tryz.func66, Tryz.ntmps66
  go_wp2_with (go_at_call 106; refine (parse_any s _ hs).mono ?_)
  rintro e w2 ⟨hb2, hres⟩
  rcases hres with ⟨ho, rfl⟩ | ⟨k, tx, br, ao, n, cap, t, ho, rfl, hT⟩
  · have HO : Hid (tidyS s.toList = none) := by rw [Hid, tidyS, ho]; rfl
    clear ho
    go_wp2_with fail
    go_ret2
    exact ⟨hb2.trans ((Below.refl _ _).alloc (Nat.le_refl _) _ |>.mono hb2.size), .inl ⟨HO.out, rfl⟩⟩
  · have hlen := parseS_len _ _ ho
    have HO : Hid (tidyS s.toList = some (render t)) := by rw [Hid, tidyS, ho]; rfl
    have HT : ∀ o : Obj, IsTr (w2.alloc o) (fun _ => True) [.int .i64 k, .string (ofBs tx), .bool br, .slice ao n cap] t := by
      intro o
      exact hT.bounded.move (fun g hg => Below.heap_alloc _ _ _ hg.2) (fun _ _ => trivial)
    clear ho hT
    go_wp2_with (go_at_call 107; refine (string_any (HT _) (by omega)).mono ?_; rintro e w3 ⟨rfl, hb3⟩)
    go_ret2
    have B3 : Below w2.heap.size w2 w3 := ((Below.refl _ _).alloc (Nat.le_refl _) _).trans (hb3.mono (by simp))
    exact ⟨hb2.trans (B3.mono hb2.size), .inr ⟨_, HO.out, hlen, rfl⟩⟩
end Go.Proofs.YtilfjpmeededmaaGreatDoor

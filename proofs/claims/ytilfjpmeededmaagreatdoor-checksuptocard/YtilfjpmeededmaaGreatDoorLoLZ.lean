import Derived.Test.YtilfjpmeededmaaGreatDoorLoHZ
import Derived.Deep.RegionHeld
import Derived.Deep.LoopGhost
import Derived.Deep.RegionWith
import Derived.Deep.CutBlock
set_option linter.unusedVariables false
set_option linter.unusedSimpArgs false
namespace Go.Proofs.YtilfjpmeededmaaGreatDoor
open Go.RowKit
theorem takeW {P : Program} {ops : Array Oper} {Q : Exit → Act → World → Prop} {md : Region.Mode} {S : World → Prop} (i d : Nat) (v : Value) {oi : Oper} {fuel : Nat} {listed : Array Bool} {a : Act} {w : World} (hi : ops[i]? = some oi) (hd : oi.dst = some d)
    (hs : Region.noSelect ops = true) (hf : Region.free md ops listed i = true) (hr : (Region.ready md ops listed).contains i = true) (hQ : ∀ c a w, Q (.panic c) (a.put (some d) v) w → Q (.panic c) a w) (hw : Region.wanted oi (yielded ops a.tmps) = true) (hy : ∀ x, S x → (execOp a.eval oi).run P x = .ok (.value v) x) (hS : S w)
    (h : wpAnyH P md ops Q S fuel (listed.setIfInBounds i true) (a.put (some d) v) w) : wpAnyH P md ops Q S (fuel + 1) listed a w := by
  rw [← hd] at hQ h
  exact wpAnyH_take hi hs hf hr hQ (Or.inl ⟨hw, hy⟩) hS h
theorem takeU {P : Program} {ops : Array Oper} {Q : Exit → Act → World → Prop} {md : Region.Mode} {S : World → Prop} (i d : Nat) {oi : Oper} {fuel : Nat} {listed : Array Bool} {a : Act} {w : World} (hi : ops[i]? = some oi) (hd : oi.dst = some d)
    (hs : Region.noSelect ops = true) (hf : Region.free md ops listed i = true) (hr : (Region.ready md ops listed).contains i = true) (hQ : ∀ c a w, Q (.panic c) (a.put (some d) undef) w → Q (.panic c) a w) (hw : Region.wanted oi (yielded ops a.tmps) = false) (hS : S w)
    (h : wpAnyH P md ops Q S fuel (listed.setIfInBounds i true) (a.put (some d) undef) w) : wpAnyH P md ops Q S (fuel + 1) listed a w := by
  rw [← hd] at hQ h
  exact wpAnyH_take hi hs hf hr hQ (Or.inr ⟨hw, rfl⟩) hS h
def findBlk (n : Nat) : Code → Option Code
  | .seq a b => match findBlk n a with
    | some c => some c
    | none => findBlk n b
  | .block k c => if k = n then some (.block k c) else findBlk n c
  | .scope c => findBlk n c
  | .loop c => findBlk n c
  | .cond _ a b => match findBlk n a with
    | some c => some c
    | none => findBlk n b
  | _ => none
def OvAt (w : World) (T : TypeId) (z : Nat) (ov : Nat → Value) (l : Ln) : Prop := w.rowIs l.g T ((l.n + 3) * z) (fun j => ov (j % z))
structure OvInv (w wr : World) (mb : Nat) (T : TypeId) (z : Nat) (far ov : Nat → Value) (ls : List Ln) (k : Nat) : Prop where
  done : ∀ (j : Nat) (l : Ln), j < k → ls[j]? = some l → OvAt wr T z ov l
  todo : ∀ (j : Nat) (l : Ln), k ≤ j → ls[j]? = some l → wr.rowIs l.g T ((l.n + 3) * z) (lentF z l.cs far)
  keep : KeepL w wr [T]
  bel : Below mb w wr
structure OvIn (wo wx : World) (mb : Nat) (T : TypeId) (z : Nat) (far ov : Nat → Value) (l : Ln) (i : Nat) : Prop where
  row : wx.rowIs l.g T ((l.n + 3) * z) (ovF z ov (lentF z l.cs far) 0 (i * z))
  oth : ∀ q, q < wo.heap.size → q ≠ l.g → wx.heap[q]? = wo.heap[q]?
  bel : Below mb wo wx
theorem OvInv.start {Wt : Ln → Prop} {w : World} {T TL : TypeId} {z mb : Nat} {far ov : Nat → Value} {v : Value} {ls : List Ln} (h : LnsIn Wt w T TL z far mb v ls) : OvInv w w mb T z far ov ls 0 :=
  ⟨fun j l hj => by omega, fun j l _ hl => (h.each l (List.mem_of_getElem? hl)).row, KeepL.refl _ _, Below.refl _ _⟩
theorem OvInv.more {w wr x : World} {mb : Nat} {T : TypeId} {z : Nat} {far ov : Nat → Value} {ls : List Ln} {k : Nat} (h : OvInv w wr mb T z far ov ls k) (hb : Below wr.heap.size wr x) (hm : mb ≤ wr.heap.size) : OvInv w x mb T z far ov ls k :=
  ⟨fun j l hj hl => (h.done j l hj hl).of_block (hb.block _ (h.done j l hj hl).lt), fun j l hj hl => (h.todo j l hj hl).of_block (hb.block _ (h.todo j l hj hl).lt), h.keep.trans (fun q _ _ _ hq _ => hb.block q (ln_lt hq)), h.bel.trans (hb.mono hm)⟩
theorem OvIn.start {w wo : World} {mb : Nat} {T : TypeId} {z : Nat} {far ov : Nat → Value} {ls : List Ln} {k : Nat} {l : Ln} (h : OvInv w wo mb T z far ov ls k) (hl : ls[k]? = some l) : OvIn wo wo mb T z far ov l 0 :=
  ⟨(h.todo k l (Nat.le_refl _) hl).congr fun j _ => by rw [Nat.zero_mul, ovF_none], fun _ _ _ => rfl, Below.refl _ _⟩
theorem OvIn.more {wo wx x : World} {mb : Nat} {T : TypeId} {z : Nat} {far ov : Nat → Value} {l : Ln} {i : Nat} (h : OvIn wo wx mb T z far ov l i) (hb : Below wx.heap.size wx x) (hm : mb ≤ wx.heap.size) : OvIn wo x mb T z far ov l i :=
  ⟨h.row.of_block (hb.block _ h.row.lt), fun q hq hn => (hb.block q (by have := h.bel.size; omega)).trans (h.oth q hq hn), h.bel.trans (hb.mono hm)⟩
theorem OvIn.put3 {wo wx : World} {mb : Nat} {T : TypeId} {far ov : Nat → Value} {l : Ln} {i : Nat} {a0 a1 a2 : Value} (h : OvIn wo wx mb T 3 far ov l i) (hm : mb ≤ l.g) (h0 : a0 = ov 0) (h1 : a1 = ov 1) (h2 : a2 = ov 2) : OvIn wo (((wx.setCell ⟨l.g, i * 3, none⟩ a0).setCell ⟨l.g, i * 3 + 1, none⟩ a1).setCell ⟨l.g, i * 3 + 2, none⟩ a2) mb T 3 far ov l (i + 1) :=
  ⟨by have := ov_step3 (K0 := 0) (a0 := a0) (a1 := a1) (a2 := a2) (by simpa using h.row) (Nat.zero_le i) h0 h1 h2; simpa using this, fun q hq hn => (Below.heap_setCell _ _ _ _ hn).trans ((Below.heap_setCell _ _ _ _ hn).trans ((Below.heap_setCell _ _ _ _ hn).trans (h.oth q hq hn))), ((h.bel.setCell (p := ⟨l.g, _, none⟩) hm _).setCell (p := ⟨l.g, _, none⟩) hm _).setCell (p := ⟨l.g, _, none⟩) hm _⟩
theorem OvIn.put1 {wo wx : World} {mb : Nat} {T : TypeId} {far ov : Nat → Value} {l : Ln} {i : Nat} {a0 : Value} (h : OvIn wo wx mb T 1 far ov l i) (hm : mb ≤ l.g) (h0 : a0 = ov 0) : OvIn wo (wx.setCell ⟨l.g, i, none⟩ a0) mb T 1 far ov l (i + 1) := by
  subst h0
  have hr := h.row
  rw [Nat.mul_one i] at hr
  exact ⟨by rw [Nat.mul_one (i + 1)]; exact ov_step1 hr (Nat.zero_le i), fun q hq hn => (Below.heap_setCell _ _ _ _ hn).trans (h.oth q hq hn), h.bel.setCell (p := ⟨l.g, _, none⟩) hm _⟩
theorem OvInv.next {w wo wx : World} {mb : Nat} {T : TypeId} {z : Nat} {far ov : Nat → Value} {ls : List Ln} {k : Nat} {l : Ln} (h : OvInv w wo mb T z far ov ls k) (hl : ls[k]? = some l) (hi : OvIn wo wx mb T z far ov l (l.n + 3)) (hap : ls.Pairwise fun a b => a.g < b.g) : OvInv w wx mb T z far ov ls (k + 1) := by
  have hne : ∀ (j : Nat) (x : Ln), ls[j]? = some x → j ≠ k → x.g ≠ l.g := by
    intro j x hx hj
    have hjl := (List.getElem?_eq_some_iff.mp hx)
    have hkl := (List.getElem?_eq_some_iff.mp hl)
    obtain ⟨j1, rfl⟩ := hjl
    obtain ⟨k1, rfl⟩ := hkl
    rcases Nat.lt_or_gt_of_ne hj with h | h
    · have := List.pairwise_iff_getElem.mp hap j k j1 k1 h; omega
    · have := List.pairwise_iff_getElem.mp hap k j k1 j1 h; omega
  refine ⟨fun j x hj hx => ?_, fun j x hj hx => ?_, h.keep.trans fun q cur T' fz hq hT => hi.oth q (ln_lt hq) fun e => ?_, h.bel.trans hi.bel⟩
  · by_cases hjk : j = k
    · subst hjk
      obtain rfl : l = x := by rw [hl] at hx; exact Option.some.inj hx
      exact hi.row.congr fun m hm => by unfold ovF; rw [if_pos ⟨Nat.zero_le _, hm⟩]
    · have hd := h.done j x (by omega) hx
      exact hd.of_block (hi.oth _ hd.lt (hne j x hx hjk))
  · have hd := h.todo j x (by omega) hx
    exact hd.of_block (hi.oth _ hd.lt (hne j x hx (by omega)))
  · subst e
    obtain ⟨c, hc, _⟩ := h.todo k l (Nat.le_refl _) hl
    rw [hc] at hq; cases hq; simp at hT
theorem OvInv.all {w wr : World} {mb : Nat} {T : TypeId} {z : Nat} {far ov : Nat → Value} {ls : List Ln} (h : OvInv w wr mb T z far ov ls ls.length) : ∀ l ∈ ls, OvAt wr T z ov l := by
  intro l hl
  obtain ⟨j, hj, rfl⟩ := List.getElem_of_mem hl
  exact h.done j _ hj (List.getElem?_eq_getElem hj)
theorem loan_read {Wt : Ln → Prop} {w : World} {T TL : TypeId} {z mb : Nat} {far : Nat → Value} {a : Option Addr} {an ac : Nat} {ls : List Ln} (h : LnsIn Wt w T TL z far mb (.slice a an ac) ls) : an = ls.length ∧ (ls.length = 0 ∨ ∃ gb, a = some ⟨gb, 0, none⟩ ∧ gb < w.heap.size ∧ (∃ cur, w.heap[gb]? = some (.cells cur TL (0, 0))) ∧ ∀ (k : Nat) (l : Ln), ls[k]? = some l → w.cell? ⟨gb, k * 2, none⟩ = some (.slice (some ⟨l.g, 0, none⟩) (l.n + 3) (l.n + 3)) ∧ w.cell? ⟨gb, k * 2 + 1, none⟩ = some (.slice l.wo l.n l.wc)) := by
  have hl := h.own.1
  rcases h.own.2 with ⟨e, h0⟩ | ⟨g, cap, cur, e, _, hr, _⟩
  · cases e; exact ⟨h0.symm, .inl h0⟩
  · cases e
    refine ⟨rfl, .inr ⟨g, rfl, ln_lt hr, ⟨cur, hr⟩, fun k l hk => ?_⟩⟩
    have hkl := (List.getElem?_eq_some_iff.mp hk).1
    exact ⟨(h.own.cellAt _ (by omega)).trans (lnCells_get ls k l 0 hk (by omega)), (h.own.cellAt _ (by omega)).trans (lnCells_get ls k l 1 hk (by omega))⟩
theorem lent_at {cs : List Value} {far : Nat → Value} {z j : Nat} {v : Value} (h : cs[j]? = some v) : lentF z cs far j = v := by
  obtain ⟨h1, h2⟩ := List.getElem?_eq_some_iff.mp h
  unfold lentF; rw [dif_pos h1, h2]
theorem lent_far {cs : List Value} {far : Nat → Value} {z j : Nat} (h : cs.length ≤ j) : lentF z cs far j = far (j % z) := by
  unfold lentF; rw [dif_neg (by omega)]
theorem ov_at {z : Nat} {ov f : Nat → Value} {K j : Nat} (h : K ≤ j) : ovF z ov f 0 K j = f j := by
  unfold ovF; rw [if_neg (by omega)]
def ovC (j : Nat) : Value := if j = 0 then .int .i64 8 else if j = 1 then .int .i64 0 else .string ⟨#[]⟩
def ovX (_ : Nat) : Value := .string ⟨#[111, 118, 101, 114]⟩
def ovK (j : Nat) : Value := if j = 0 then .string ⟨#[111, 118, 101, 114]⟩ else if j = 1 then .string ⟨#[]⟩ else .int .i64 0
def ovFn (j : Nat) : Value := if j = 0 then .string ⟨#[111, 118, 101, 114]⟩ else .string ⟨#[]⟩
end Go.Proofs.YtilfjpmeededmaaGreatDoor

namespace Go.Proofs.YtilfjpmeededmaaGreatDoor
open Go.RowKit
def OverSl (w : World) (T : TypeId) (z : Nat) (ov : Nat → Value) (xo : Option Addr) (xn xc : Nat) : Prop := (xo = none ∧ xn = 0 ∧ xc = 0) ∨ ∃ g, xo = some ⟨g, 0, none⟩ ∧ xc = xn + 3 ∧ xn ≤ 1048576 ∧ w.rowIs g T ((xn + 3) * z) (fun j => ov (j % z))
theorem OverSl.keep {w x : World} {T : TypeId} {z : Nat} {ov : Nat → Value} {xo : Option Addr} {xn xc : Nat} (h : OverSl w T z ov xo xn xc) (hb : Below w.heap.size w x) : OverSl x T z ov xo xn xc := by
  rcases h with h | ⟨g, h1, h2, h3, h4⟩
  · exact .inl h
  · exact .inr ⟨g, h1, h2, h3, h4.of_block (hb.block g h4.lt)⟩
def ovR (_ : Nat) : Value := .slice none 0 0
set_option maxHeartbeats 4000000 in
set_option maxRecDepth 100000 in
theorem overCells_any (w : World) (xo : Option Addr) (xn xc : Nat) (h : OverSl w 50 3 ovC xo xn xc) :
    Calls Tryz.prog 280 #[.slice xo xn xc] w fun e w' => e = .returned (.bool true) ∧ Below w.heap.size w w' := by
  have hsm : xn ≤ 1048576 := by rcases h with ⟨_, rfl, _⟩ | ⟨_, _, _, h, _⟩ <;> omega
  have HH : Hid _ := h
  clear h
  go_enter Tryz.func280, Tryz.ntmps280
  go_wp2_with fail
  go_loopg [3] xn (fun gk iv wr => ∃ i : Nat, gk = xn - i ∧ i ≤ xn ∧ iv = .int .i64 (i : Int) ∧ Below w.heap.size w wr)
  case atStart => exact ⟨0, rfl, Nat.zero_le _, rfl, Below.refl _ _⟩
  case round =>
    obtain ⟨i, hgk, hi, rfl, hB⟩ := hrel
    subst hgk
    by_cases hlt : i < xn
    · obtain ⟨g, rfl, hrow⟩ : ∃ g, xo = some ⟨g, 0, none⟩ ∧ w.rowIs g 50 ((xn + 3) * 3) (fun j => ovC (j % 3)) := by
        rcases HH.out with ⟨_, h, _⟩ | ⟨g, h1, _, _, h4⟩
        · omega
        · exact ⟨g, h1, h4⟩
      have hgl := hrow.lt
      have HC : ∀ x : World, Below w.heap.size w x → (x.cell? ⟨g, i * 3, none⟩ = some (.int .i64 8) ∧ x.cell? ⟨g, i * 3 + 1, none⟩ = some (.int .i64 0) ∧ x.cell? ⟨g, i * 3 + 2, none⟩ = some (.string ⟨#[]⟩)) ∧ g < x.heap.size := fun x hx =>
        ⟨⟨(hx.cell (p := ⟨g, i * 3, none⟩) hgl).trans ((hrow.cell (by omega)).trans (by rw [show i * 3 % 3 = 0 by omega]; rfl)), (hx.cell (p := ⟨g, i * 3 + 1, none⟩) hgl).trans ((hrow.cell (by omega)).trans (by rw [show (i * 3 + 1) % 3 = 1 by omega]; rfl)), (hx.cell (p := ⟨g, i * 3 + 2, none⟩) hgl).trans ((hrow.cell (by omega)).trans (by rw [show (i * 3 + 2) % 3 = 2 by omega]; rfl))⟩, Nat.lt_of_lt_of_le hgl hx.size⟩
      obtain ⟨⟨c0, c1, c2⟩, hg⟩ := HC wr hB
      have HO : ∀ x : World, Below w.heap.size w x → Calls Tryz.prog 279 #[] x fun e w' => e = .returned (.agg #[.int .i64 8, .int .i64 0, .string ⟨#[]⟩]) ∧ Below w.heap.size w w' := fun x hx => (overCell_any x).mono fun e w' h => ⟨h.1, hx.trans (h.2.mono hx.size)⟩
      clear hrow hgl
      go_upto_region 4 with fail
      go_cut [15] (fun s15 wx => s15 = .bool false ∧ Below w.heap.size w wx)
      case first =>
        go_region_with (go_at_call 279; refine (HO _ ?_).mono ?_; (first | exact hB | exact hB.drew); rintro e w6 ⟨rfl, hb6⟩; obtain ⟨⟨d0, d1, d2⟩, hg6⟩ := HC w6 hb6)
        all_goals (go_wp2_with fail; go_meet)
        all_goals exact ⟨rfl, by first | exact hb6 | exact hb6.drew⟩
      case rest =>
        obtain ⟨rfl, hB2⟩ := hcut
        clear c0 c1 c2 hg HC HO
        go_wp2_with fail
        go_roundg (xn - (i + 1))
        all_goals first
          | omega
          | exact ⟨i + 1, rfl, by omega, by go_num, hB2⟩
    · go_wp2_with fail
      go_ret
      exact ⟨rfl, hB⟩
set_option maxHeartbeats 4000000 in
set_option maxRecDepth 100000 in
theorem stands_any (w : World) (a0 a4 : ByteArray) (a3 : Int) (ko : Option Addr) (kn kc : Nat) (ro : Option Addr) (rn rc : Nat) (uo : Option Addr) (un uc : Nat) (hk : OverSl w 162 3 ovK ko kn kc) (hr : OverSl w 47 1 ovR ro rn rc) (hu : OverSl w 9 1 ovX uo un uc) :
    Calls Tryz.prog 281 #[.agg #[.string a0, .slice ko kn kc, .slice ro rn rc, .int .i64 a3, .string a4, .slice uo un uc]] w fun e w' => e = .returned (.bool true) ∧ Below w.heap.size w w' := by
  have hsk : kn ≤ 1048576 := by rcases hk with ⟨_, rfl, _⟩ | ⟨_, _, _, h, _⟩ <;> omega
  have hsr : rn ≤ 1048576 := by rcases hr with ⟨_, rfl, _⟩ | ⟨_, _, _, h, _⟩ <;> omega
  have hsu : un ≤ 1048576 := by rcases hu with ⟨_, rfl, _⟩ | ⟨_, _, _, h, _⟩ <;> omega
  have hbx := (Below.refl w.heap.size w).alloc (Nat.le_refl _) (.cells #[.string a0, .slice ko kn kc, .slice ro rn rc, .int .i64 a3, .string a4, .slice uo un uc] 134)
  have hblk := heap_alloc_new w (.cells #[.string a0, .slice ko kn kc, .slice ro rn rc, .int .i64 a3, .string a4, .slice uo un uc] 134)
  have hk1 := hk.keep hbx
  have hr1 := hr.keep hbx
  have hu1 := hu.keep hbx
  clear hk hr hu
  go_enter Tryz.func281, Tryz.ntmps281
  go_wp2_with fail
  generalize hw1 : w.alloc (.cells #[.string a0, .slice ko kn kc, .slice ro rn rc, .int .i64 a3, .string a4, .slice uo un uc] 134) = w1 at *
  clear hw1
  have hbl := ln_lt hblk
  have x1 : w1.cell? ⟨w.heap.size, 1, none⟩ = some (.slice ko kn kc) := (blk_at hblk).trans rfl
  have x2 : w1.cell? ⟨w.heap.size, 2, none⟩ = some (.slice ro rn rc) := (blk_at hblk).trans rfl
  have x5 : w1.cell? ⟨w.heap.size, 5, none⟩ = some (.slice uo un uc) := (blk_at hblk).trans rfl
  have HK : Hid _ := hk1
  have HR : Hid _ := hr1
  have HU : Hid _ := hu1
  clear hk1 hr1 hu1 hblk
  go_loopw [3] (fun iv wr => ∃ i : Nat, i ≤ kn ∧ iv = .int .i64 (i : Int) ∧ wr = w1) (fun iv _ => kn - (intOf iv).toNat)
  case atStart => exact ⟨0, Nat.zero_le _, rfl, rfl⟩
  case round =>
    obtain ⟨i, hi, rfl, hwe⟩ := hrel
    subst hwe
    by_cases hlt : i < kn
    · obtain ⟨g, rfl, hrow⟩ : ∃ g, ko = some ⟨g, 0, none⟩ ∧ wr.rowIs g 162 ((kn + 3) * 3) (fun j => ovK (j % 3)) := by
        rcases HK.out with ⟨_, h, _⟩ | ⟨g, h1, _, _, h4⟩
        · omega
        · exact ⟨g, h1, h4⟩
      have hgl := hrow.lt
      have c0 : wr.cell? ⟨g, i * 3, none⟩ = some (.string ⟨#[111, 118, 101, 114]⟩) := (hrow.cell (by omega)).trans (by rw [show i * 3 % 3 = 0 by omega]; rfl)
      clear hrow
      go_wp2_with fail
      go_roundw
      case rel => exact ⟨i + 1, by omega, by go_num, by trivial⟩
      case measure => simp [intOf]; omega
    · go_wp2_with fail
      go_loopw [4] (fun iv wx => ∃ i : Nat, i ≤ rn ∧ iv = .int .i64 (i : Int) ∧ wx = wr) (fun iv _ => rn - (intOf iv).toNat)
      case atStart => exact ⟨0, Nat.zero_le _, rfl, rfl⟩
      case round =>
        obtain ⟨i2, hi2, rfl, hwe⟩ := hrel
        subst hwe
        by_cases hlt2 : i2 < rn
        · obtain ⟨g, rfl, hrow⟩ : ∃ g, ro = some ⟨g, 0, none⟩ ∧ wr.rowIs g 47 ((rn + 3) * 1) (fun j => ovR (j % 1)) := by
            rcases HR.out with ⟨_, h, _⟩ | ⟨g, h1, _, _, h4⟩
            · omega
            · exact ⟨g, h1, h4⟩
          have hgl := hrow.lt
          have c0 : wr.cell? ⟨g, i2, none⟩ = some (.slice none 0 0) := hrow.cell (by omega)
          clear hrow
          go_wp2_with fail
          go_roundw
          case rel => exact ⟨i2 + 1, by omega, by go_num, by trivial⟩
          case measure => simp [intOf]; omega
        · go_wp2_with fail
          go_loopw [5] (fun iv wx => ∃ i : Nat, i ≤ un ∧ iv = .int .i64 (i : Int) ∧ wx = wr) (fun iv _ => un - (intOf iv).toNat)
          case atStart => exact ⟨0, Nat.zero_le _, rfl, rfl⟩
          case round =>
            obtain ⟨i3, hi3, rfl, hwe⟩ := hrel
            subst hwe
            by_cases hlt3 : i3 < un
            · obtain ⟨g, rfl, hrow⟩ : ∃ g, uo = some ⟨g, 0, none⟩ ∧ wr.rowIs g 9 ((un + 3) * 1) (fun j => ovX (j % 1)) := by
                rcases HU.out with ⟨_, h, _⟩ | ⟨g, h1, _, _, h4⟩
                · omega
                · exact ⟨g, h1, h4⟩
              have hgl := hrow.lt
              have c0 : wr.cell? ⟨g, i3, none⟩ = some (.string ⟨#[111, 118, 101, 114]⟩) := hrow.cell (by omega)
              clear hrow
              go_wp2_with fail
              go_roundw
              case rel => exact ⟨i3 + 1, by omega, by go_num, by trivial⟩
              case measure => simp [intOf]; omega
            · go_wp2_with fail
              go_ret
              exact ⟨rfl, hbx⟩
end Go.Proofs.YtilfjpmeededmaaGreatDoor

namespace Go.Proofs.YtilfjpmeededmaaGreatDoor
open Go.RowKit
theorem OvIn.keepL {wo wx : World} {mb : Nat} {T : TypeId} {z : Nat} {far ov : Nat → Value} {l : Ln} {i : Nat} (h : OvIn wo wx mb T z far ov l i) {N : Nat} {f : Nat → Value} (hr : wo.rowIs l.g T N f) : KeepL wo wx [T] := fun q cur T' fz hq hT => h.oth q (ln_lt hq) fun e => by
  subst e; obtain ⟨c, hc, _⟩ := hr; rw [hc] at hq; cases hq; simp at hT
theorem over_of {w : World} {T : TypeId} {z : Nat} {ov : Nat → Value} {L : List Ln} {r : RowS} {xo : Option Addr} {xn xc : Nat} (h : RowLent L r (.slice xo xn xc)) (hO : ∀ l ∈ L, OvAt w T z ov l) (hs : ∀ l ∈ L, l.n ≤ 1048576) : OverSl w T z ov xo xn xc ∧ xn = r.rn := by
  rcases h with ⟨h0, e⟩ | ⟨g, e, hm⟩
  · cases e; exact ⟨.inl ⟨rfl, rfl, rfl⟩, h0.symm⟩
  · cases e; exact ⟨.inr ⟨g, rfl, rfl, hs _ hm, hO _ hm⟩, rfl⟩
theorem rover_of {w : World} {T : TypeId} {z : Nat} {ov : Nat → Value} {L : List Ln} {ro : Option Addr} {rn rc : Nat} {xo : Option Addr} {xn xc : Nat} (h : RLent L ro rn rc (.slice xo xn xc)) (hO : ∀ l ∈ L, OvAt w T z ov l) (hs : ∀ l ∈ L, l.n ≤ 1048576) : OverSl w T z ov xo xn xc ∧ xn = rn := by
  rcases h with ⟨h0, e⟩ | ⟨g, es, e, hm⟩
  · cases e; exact ⟨.inl ⟨rfl, rfl, rfl⟩, h0.symm⟩
  · cases e; exact ⟨.inr ⟨g, rfl, rfl, hs _ hm, hO _ hm⟩, rfl⟩
theorem OvAt.typedL {w x : World} {T : TypeId} {z : Nat} {ov : Nat → Value} {l : Ln} {S : List TypeId} (h : OvAt w T z ov l) (hk : KeepL w x S) (hT : T ∉ S) : OvAt x T z ov l := rowIs_typedL h hk hT
theorem lent_slice {C : List Ln} {r : RowS} {v : Value} (h : RowLent C r v) : ∃ xo xn xc, v = .slice xo xn xc := by
  rcases h with ⟨_, rfl⟩ | ⟨g, rfl, _⟩ <;> exact ⟨_, _, _, rfl⟩
theorem rlent_slice {R : List Ln} {ro : Option Addr} {rn rc : Nat} {v : Value} (h : RLent R ro rn rc v) : ∃ xo xn xc, v = .slice xo xn xc := by
  rcases h with ⟨_, rfl⟩ | ⟨g, es, rfl, _⟩ <;> exact ⟨_, _, _, rfl⟩
def ovT (j : Nat) : Value := if j = 0 then .string ⟨#[111, 118, 101, 114]⟩ else zeroT j
structure TbInv (w wr : World) (mb : Nat) (ls : List Ln) (k : Nat) : Prop where
  todo : ∀ (j : Nat) (l : Ln), k ≤ j → ls[j]? = some l → wr.rowIs l.g 134 ((l.n + 3) * 6) (lentF 6 l.cs farT)
  keep : KeepL w wr [134]
  bel : Below mb w wr
structure TbIn (wo wx : World) (mb : Nat) (l : Ln) (i : Nat) : Prop where
  row : wx.rowIs l.g 134 ((l.n + 3) * 6) (ovF 6 ovT (lentF 6 l.cs farT) 0 (min i l.n * 6))
  oth : ∀ q, q < wo.heap.size → q ≠ l.g → wx.heap[q]? = wo.heap[q]?
  bel : Below mb wo wx
theorem TbInv.start {Wt : Ln → Prop} {w : World} {TL : TypeId} {mb : Nat} {v : Value} {ls : List Ln} (h : LnsIn Wt w 134 TL 6 farT mb v ls) : TbInv w w mb ls 0 :=
  ⟨fun j l _ hl => (h.each l (List.mem_of_getElem? hl)).row, KeepL.refl _ _, Below.refl _ _⟩
theorem TbInv.more {w wr x : World} {mb : Nat} {ls : List Ln} {k : Nat} (h : TbInv w wr mb ls k) (hb : Below wr.heap.size wr x) (hm : mb ≤ wr.heap.size) : TbInv w x mb ls k :=
  ⟨fun j l hj hl => (h.todo j l hj hl).of_block (hb.block _ (h.todo j l hj hl).lt), h.keep.trans (fun q _ _ _ hq _ => hb.block q (ln_lt hq)), h.bel.trans (hb.mono hm)⟩
theorem TbIn.start {w wo : World} {mb : Nat} {ls : List Ln} {k : Nat} {l : Ln} (h : TbInv w wo mb ls k) (hl : ls[k]? = some l) : TbIn wo wo mb l 0 :=
  ⟨(h.todo k l (Nat.le_refl _) hl).congr fun j _ => by rw [Nat.zero_min, Nat.zero_mul, ovF_none], fun _ _ _ => rfl, Below.refl _ _⟩
theorem TbIn.more {wo wx x : World} {mb : Nat} {l : Ln} {i : Nat} (h : TbIn wo wx mb l i) (hb : Below wx.heap.size wx x) (hm : mb ≤ wx.heap.size) : TbIn wo x mb l i :=
  ⟨h.row.of_block (hb.block _ h.row.lt), fun q hq hn => (hb.block q (by have := h.bel.size; omega)).trans (h.oth q hq hn), h.bel.trans (hb.mono hm)⟩
theorem TbIn.far {wo wx : World} {mb : Nat} {l : Ln} {i : Nat} (h : TbIn wo wx mb l i) (hi : l.n ≤ i) : TbIn wo wx mb l (i + 1) :=
  ⟨by rw [Nat.min_eq_right (by omega)]; have := h.row; rwa [Nat.min_eq_right hi] at this, h.oth, h.bel⟩
theorem TbIn.put {wo wx : World} {mb : Nat} {l : Ln} {i : Nat} (h : TbIn wo wx mb l i) (hi : i < l.n) (hm : mb ≤ l.g) : TbIn wo ((((((wx.setCell ⟨l.g, i * 6, none⟩ (.string ⟨#[111, 118, 101, 114]⟩)).setCell ⟨l.g, i * 6 + 1, none⟩ (.slice none 0 0)).setCell ⟨l.g, i * 6 + 2, none⟩ (.slice none 0 0)).setCell ⟨l.g, i * 6 + 3, none⟩ (.int .i64 0)).setCell ⟨l.g, i * 6 + 4, none⟩ (.string ⟨#[]⟩)).setCell ⟨l.g, i * 6 + 5, none⟩ (.slice none 0 0)) mb l (i + 1) := by
  have hr := h.row
  rw [Nat.min_eq_left (by omega)] at hr
  refine ⟨?_, fun q hq hn => ?_, ?_⟩
  · rw [Nat.min_eq_left (by omega)]
    have := ov_step6 (K0 := 0) (ov := ovT) (by simpa using hr) (Nat.zero_le i) (a0 := .string ⟨#[111, 118, 101, 114]⟩) (a1 := .slice none 0 0) (a2 := .slice none 0 0) (a3 := .int .i64 0) (a4 := .string ⟨#[]⟩) (a5 := .slice none 0 0) rfl rfl rfl rfl rfl rfl
    simpa using this
  · rw [Below.heap_setCell _ _ _ _ hn, Below.heap_setCell _ _ _ _ hn, Below.heap_setCell _ _ _ _ hn, Below.heap_setCell _ _ _ _ hn, Below.heap_setCell _ _ _ _ hn, Below.heap_setCell _ _ _ _ hn]
    exact h.oth q hq hn
  · exact (((((h.bel.setCell (p := ⟨l.g, _, none⟩) hm _).setCell (p := ⟨l.g, _, none⟩) hm _).setCell (p := ⟨l.g, _, none⟩) hm _).setCell (p := ⟨l.g, _, none⟩) hm _).setCell (p := ⟨l.g, _, none⟩) hm _).setCell (p := ⟨l.g, _, none⟩) hm _
theorem TbIn.keepL {wo wx : World} {mb : Nat} {l : Ln} {i : Nat} (h : TbIn wo wx mb l i) {N : Nat} {f : Nat → Value} (hr : wo.rowIs l.g 134 N f) : KeepL wo wx [134] := fun q cur T' fz hq hT => h.oth q (ln_lt hq) fun e => by
  subst e; obtain ⟨c, hc, _⟩ := hr; rw [hc] at hq; cases hq; simp at hT
theorem TbInv.next {w wo wx : World} {mb : Nat} {ls : List Ln} {k i : Nat} {l : Ln} (h : TbInv w wo mb ls k) (hl : ls[k]? = some l) (hi : TbIn wo wx mb l i) (hap : ls.Pairwise fun a b => a.g < b.g) : TbInv w wx mb ls (k + 1) := by
  refine ⟨fun j x hj hx => ?_, h.keep.trans (hi.keepL (h.todo k l (Nat.le_refl _) hl)), h.bel.trans hi.bel⟩
  have hd := h.todo j x (by omega) hx
  refine hd.of_block (hi.oth _ hd.lt fun e => ?_)
  obtain ⟨j1, rfl⟩ := List.getElem?_eq_some_iff.mp hx
  obtain ⟨k1, rfl⟩ := List.getElem?_eq_some_iff.mp hl
  have := List.pairwise_iff_getElem.mp hap k j k1 j1 (by omega)
  omega
end Go.Proofs.YtilfjpmeededmaaGreatDoor

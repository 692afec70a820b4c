/- Package work: upTo, and, or. -/
import Derived.Test.YtilfjpmeededmaaGreatDoorWvA
namespace Go.Proofs.YtilfjpmeededmaaGreatDoor
open Go.RowKit

theorem box_at (w : World) (o : Obj) (g : Nat) : (w.alloc o).heap[g]? = if g = w.heap.size then some o else w.heap[g]? := by
  by_cases h : g = w.heap.size
  · subst h; rw [if_pos rfl]; exact heap_alloc_new w o
  · rw [if_neg h]
    rcases Nat.lt_or_ge g w.heap.size with h1 | h1
    · exact Below.heap_alloc _ _ _ h1
    · rw [Array.getElem?_eq_none (by rw [World.size_alloc]; omega), Array.getElem?_eq_none (by omega)]
theorem below5 (w : World) (a b c d e : Obj) : Below w.heap.size w (((((w.alloc a).alloc b).alloc c).alloc d).alloc e) :=
  (((((Below.refl _ w).alloc (Nat.le_refl _) _).alloc (by simp [World.size_alloc]) _).alloc (by simp [World.size_alloc]; omega) _).alloc (by simp [World.size_alloc]; omega) _).alloc (by simp [World.size_alloc]; omega) _
theorem box5 (w : World) (a b c d e : Obj) : (((((w.alloc a).alloc b).alloc c).alloc d).alloc e).heap[w.heap.size]? = some a ∧ (((((w.alloc a).alloc b).alloc c).alloc d).alloc e).heap[w.heap.size + 1]? = some b ∧ (((((w.alloc a).alloc b).alloc c).alloc d).alloc e).heap[w.heap.size + 2]? = some c ∧ (((((w.alloc a).alloc b).alloc c).alloc d).alloc e).heap[w.heap.size + 3]? = some d ∧ (((((w.alloc a).alloc b).alloc c).alloc d).alloc e).heap[w.heap.size + 4]? = some e := by
  simp only [box_at, World.size_alloc]
  refine ⟨?_, ?_, ?_, ?_, ?_⟩
  · rw [if_neg (by omega), if_neg (by omega), if_neg (by omega), if_neg (by omega), if_pos trivial]
  · rw [if_neg (by omega), if_neg (by omega), if_neg (by omega), if_pos trivial]
  · rw [if_neg (by omega), if_neg (by omega), if_pos trivial]
  · rw [if_neg (by omega), if_pos trivial]
  · rw [if_pos trivial]
abbrev cellO (k n : Int) (s : ByteArray) : Obj := .cells #[.int .i64 k, .int .i64 n, .string s] 50
set_option maxHeartbeats 400000 in
set_option maxRecDepth 100000 in
theorem isNothingX (k n : Int) (s : ByteArray) (w : World) : Calls Tryz.prog 144 #[.agg #[.int .i64 k, .int .i64 n, .string s]] w fun e w' => e = .returned (.bool (k == 0)) ∧ w' = w.alloc (.cells #[.int .i64 k, .int .i64 n, .string s] 50) := by
  go_enter Tryz.func144, Tryz.ntmps144
  go_wp2_with fail
  go_ret
  exact ⟨rfl, rfl⟩
set_option maxHeartbeats 400000 in
set_option maxRecDepth 100000 in
theorem cellTruthX (b : Bool) (w : World) : Calls Tryz.prog 105 #[.bool b] w fun e w' => e = .returned (.agg #[.int .i64 3, .int .i64 (truN b), .string ⟨#[]⟩]) ∧ w' = w.alloc (.cells #[.int .i64 3, .int .i64 (truN b), .string ⟨#[]⟩] 50) := by
  cases b
  · go_enter Tryz.func105, Tryz.ntmps105
    go_wp2_with fail
    exact bodyPost_ret (v := .agg #[.int .i64 3, .int .i64 0, .string ⟨#[]⟩]) (by simp [results, Tryz.results105, go_sem]) rfl ⟨rfl, rfl⟩
  · go_enter Tryz.func105, Tryz.ntmps105
    go_wp2_with fail
    exact bodyPost_ret (v := .agg #[.int .i64 3, .int .i64 1, .string ⟨#[]⟩]) (by simp [results, Tryz.results105, go_sem]) rfl ⟨rfl, rfl⟩
theorem set3_block {x : World} {b : Nat} {b0 b1 b2 : Value} {T : TypeId} {fz : Nat × Nat} (h : x.heap[b]? = some (.cells #[b0, b1, b2] T fz)) (a0 a1 a2 : Value) : (((x.setCell ⟨b, 0, none⟩ a0).setCell ⟨b, 1, none⟩ a1).setCell ⟨b, 2, none⟩ a2).heap[b]? = some (.cells #[a0, a1, a2] T fz) := by
  simp [World.setCell, Array.getElem?_modify, h]
theorem set3_below {B b : Nat} {w x : World} (h : Below B w x) (hb : B ≤ b) (a0 a1 a2 : Value) : Below B w (((x.setCell ⟨b, 0, none⟩ a0).setCell ⟨b, 1, none⟩ a1).setCell ⟨b, 2, none⟩ a2) :=
  ((h.setCell (p := ⟨b, 0, none⟩) hb _).setCell (p := ⟨b, 1, none⟩) hb _).setCell (p := ⟨b, 2, none⟩) hb _

theorem keep2 (w : World) (a b : Obj) (g : Nat) (h : g < w.heap.size) : ((w.alloc a).alloc b).heap[g]? = w.heap[g]? :=
  (Below.heap_alloc _ _ _ (by rw [World.size_alloc]; omega)).trans (Below.heap_alloc _ _ _ h)
set_option maxHeartbeats 8000000 in
set_option maxRecDepth 100000 in
theorem upTo_any (fns : List Fn) (user : Bs) (N : Nat) (HV : ValSpec fns user N) (w : World) (FB : List Nat) (wb : Nat) (cols args : List CellT) (co : Option Addr) (cn cc : Nat) (ao : Option Addr) (an ac : Nat)
    (hF : FrIn w FB fns user wb (.slice co cn cc) (.slice ao an ac) cols args) (oo : Option Addr) (on oc : Nat) (es : List Ex) (hE : ExsIn w FB (.slice oo on oc) es) (hl : es.length ≤ 1000) (sn : Int) (other : CellT) (r : CellT) (hv : upQ (evQ fns user N cols args) (3, sn, []) other es = some r) :
    Calls Tryz.prog 297 #[.agg #[.pointer (some ⟨wb, 0, none⟩), .slice co cn cc, .slice ao an ac], .agg #[.int .i64 3, .int .i64 sn, .string ⟨#[]⟩], .agg #[.int .i64 other.1, .int .i64 other.2.1, .string (ofBs other.2.2)], .slice oo on oc] w fun e w' => Vald w r e w' := by
  have hon : on = es.length := by obtain ⟨_, _, _, e, _⟩ := hE; cases e; rfl
  subst hon
  have hW0 := below5 w (.cells #[.pointer (some ⟨wb, 0, none⟩), .slice co cn cc, .slice ao an ac] 193) (cellO 3 sn ⟨#[]⟩) (cellO other.1 other.2.1 (ofBs other.2.2)) (cellO 0 0 ⟨#[]⟩) (cellO other.1 other.2.1 (ofBs other.2.2))
  obtain ⟨k0, k1, _, k3, k4⟩ := box5 w (.cells #[.pointer (some ⟨wb, 0, none⟩), .slice co cn cc, .slice ao an ac] 193) (cellO 3 sn ⟨#[]⟩) (cellO other.1 other.2.1 (ofBs other.2.2)) (cellO 0 0 ⟨#[]⟩) (cellO other.1 other.2.1 (ofBs other.2.2))
  have hwl := hF.lt
  go_enter Tryz.func297, Tryz.ntmps297
  go_wp2_with fail
  obtain ⟨W0, hWe⟩ : ∃ W0, W0 = ((((w.alloc (.cells #[.pointer (some ⟨wb, 0, none⟩), .slice co cn cc, .slice ao an ac] 193)).alloc (cellO 3 sn ⟨#[]⟩)).alloc (cellO other.1 other.2.1 (ofBs other.2.2))).alloc (cellO 0 0 ⟨#[]⟩)).alloc (cellO other.1 other.2.1 (ofBs other.2.2)) := ⟨_, rfl⟩
  have hWs : W0.heap.size = w.heap.size + 5 := by rw [hWe]; simp [World.size_alloc]
  go_loopw [18] (fun iv wr => ∃ (i : Nat) (last : CellT), i ≤ es.length ∧ iv = .int .i64 i ∧ wr.heap[w.heap.size + 4]? = some (cellO last.1 last.2.1 (ofBs last.2.2)) ∧ Hid (upQ (evQ fns user N cols args) (3, sn, []) last (es.drop i) = some r) ∧ Below (w.heap.size + 4) W0 wr) (fun iv _ => es.length - (intOf iv).toNat)
  case atStart => exact ⟨0, other, Nat.zero_le _, rfl, k4, hv, by rw [hWe]; exact Below.refl _ _⟩
  case round =>
    obtain ⟨i, last, hi', rfl, hL, HU, hB⟩ := hrel
    have hsz := hB.size
    rw [← hWe] at k0 k1 k3 hW0
    have hW : Below w.heap.size w wr := hW0.trans (hB.mono (by omega))
    have hR := (hB.block _ (by omega)).trans k3
    have hS := (hB.block (w.heap.size + 1) (by omega)).trans k1
    obtain ⟨⟨f0, f1, f2⟩, _⟩ := cells3 ((hB.block w.heap.size (by omega)).trans k0)
    have b0 : w.heap.size < wr.heap.size := by omega
    have b1 : w.heap.size + 1 < wr.heap.size := by omega
    have b3 : w.heap.size + 3 < wr.heap.size := by omega
    have b4 : w.heap.size + 4 < wr.heap.size := by omega
    clear hWe k0 k1 k3 k4
    by_cases hlt : i < es.length
    · obtain ⟨g, sort, ty, size, quiet, vk, vn, vs, place, head, fp, xo, xn, xc, rfl, hg, hx, hcell⟩ := exs_cell hE i hlt
      obtain ⟨q0, q1, q2, q3, q4, q5, q6, q7, q8, q9, q10⟩ := hcell wr fun p hp => hW.cell (by rw [hp]; exact hg)
      have hgr : g < wr.heap.size := by omega
      rw [List.drop_eq_getElem_cons hlt] at HU
      obtain ⟨cv, hev⟩ : ∃ cv, evQ fns user N cols args es[i] = some cv := by
        cases h : evQ fns user N cols args es[i] with
        | some cv => exact ⟨cv, rfl⟩
        | none => have := HU.out; rw [upQ, h] at this; cases this
      have HC := HV es[i] cv (wr.alloc (.cells #[.int .i64 sort, .int .i64 ty, .int .i64 size, .bool quiet, .int .i64 vk, .int .i64 vn, .string (ofBs vs), .int .i64 place, .string (ofBs head), .pointer fp, .slice xo xn xc] 122)) FB wb cols args co cn cc ao an ac #[.int .i64 sort, .int .i64 ty, .int .i64 size, .bool quiet, .int .i64 vk, .int .i64 vn, .string (ofBs vs), .int .i64 place, .string (ofBs head), .pointer fp, .slice xo xn xc] hev ((hF.keep hW).keep (below_box wr _)) ((hx.keep hW).keep (below_box wr _))
      have HU2 : Hid ((if cv = (3, sn, []) then some cv else upQ (evQ fns user N cols args) (3, sn, []) (if cv.1 = 0 then cv else last) (es.drop (i + 1))) = some r) := by
        have := HU.out; rw [upQ, hev] at this; exact this
      clear hcell hev hx hE hF hv HU
      obtain ⟨ck, cn', cs⟩ := cv
      by_cases hst : (ck, cn', cs) = ((3, sn, []) : CellT)
      · have HR : Hid (r = (3, sn, [])) := by have := HU2.out; rw [if_pos hst] at this; rw [Hid, ← hst]; exact (Option.some.inj this).symm
        cases hst
        have hT : (ofBs ([] : Bs)).toList = [] := ofBs_toList []
        clear HU2
        go_wp2_with (go_at_call 82; refine HC.mono ?_; rintro e w2 ⟨rfl, hb2⟩; have hB2 : Below wr.heap.size wr w2 := (below_box wr _).trans (hb2.mono (by simp [World.size_alloc])); have hs2 := hB2.size; have p0 := Nat.lt_of_lt_of_le b0 hs2; have p1 := Nat.lt_of_lt_of_le b1 hs2; have p3 := Nat.lt_of_lt_of_le b3 hs2; have p4 := Nat.lt_of_lt_of_le b4 hs2; obtain ⟨⟨r0, r1, r2⟩, rf0, rf1, rf2⟩ := cells3 ((hB2.block _ b3).trans hR); obtain ⟨⟨l0, l1, l2⟩, lf0, lf1, lf2⟩ := cells3 ((hB2.block _ b4).trans hL); obtain ⟨⟨s0, s1, s2⟩, _⟩ := cells3 ((hB2.block _ b1).trans hS))
        have B2 : Below w.heap.size w w2 := hW.trans (hB2.mono hW.size)
        refine bodyPost_ret (v := .tuple #[.agg #[.int .i64 3, .int .i64 sn, .string (ofBs [])], .int .i64 0]) (by simp [results, Tryz.results297, go_sem, r0, r1, r2, p3]) rfl ⟨by rw [HR.out], ?_⟩
        exact (set3_below B2 (by omega) _ _ _).alloc (by simp only [World.size_setCell]; exact B2.size) _
      · rw [if_neg hst] at HU2
        by_cases h0 : ck = 0
        · have HN : Hid (upQ (evQ fns user N cols args) (3, sn, []) (ck, cn', cs) (es.drop (i + 1)) = some r) := by have := HU2.out; rw [if_pos h0] at this; exact this
          subst h0
          clear HU2
          go_wp2_with (first
            | (go_at_call 82; refine HC.mono ?_; rintro e w2 ⟨rfl, hb2⟩; have hB2 : Below wr.heap.size wr w2 := (below_box wr _).trans (hb2.mono (by simp [World.size_alloc])); have hs2 := hB2.size; have p0 := Nat.lt_of_lt_of_le b0 hs2; have p1 := Nat.lt_of_lt_of_le b1 hs2; have p3 := Nat.lt_of_lt_of_le b3 hs2; have p4 := Nat.lt_of_lt_of_le b4 hs2; obtain ⟨⟨r0, r1, r2⟩, rf0, rf1, rf2⟩ := cells3 ((hB2.block _ b3).trans hR); obtain ⟨⟨l0, l1, l2⟩, lf0, lf1, lf2⟩ := cells3 ((hB2.block _ b4).trans hL); obtain ⟨⟨s0, s1, s2⟩, _⟩ := cells3 ((hB2.block _ b1).trans hS))
            | (go_at_call 144; refine (isNothingX _ _ _ _).mono ?_; rintro e w3 ⟨rfl, rfl⟩))
          go_roundw
          case rel => exact ⟨i + 1, (0, cn', cs), by omega, by go_num, (keep2 _ _ _ _ (by simp only [World.size_setCell]; exact p4)).trans (set3_block ((hB2.block _ b4).trans hL) _ _ _), HN, ((set3_below (hB.trans (hB2.mono (by omega))) (Nat.le_refl _) _ _ _).alloc (by simp only [World.size_setCell]; omega) _).alloc (by simp only [World.size_alloc, World.size_setCell]; omega) _⟩
          case measure => simp [intOf]; omega
        · have HN : Hid (upQ (evQ fns user N cols args) (3, sn, []) last (es.drop (i + 1)) = some r) := by have := HU2.out; rw [if_neg h0] at this; exact this
          clear HU2
          by_cases h3 : ck = 3
          · subst h3
            by_cases hn : cn' = sn
            · subst hn
              have hcs : ¬ (ofBs cs).toList = [] := fun e => hst (by rw [ofBs_toList] at e; rw [e])
              clear hst
              go_wp2_with (first
                | (go_at_call 82; refine HC.mono ?_; rintro e w2 ⟨rfl, hb2⟩; have hB2 : Below wr.heap.size wr w2 := (below_box wr _).trans (hb2.mono (by simp [World.size_alloc])); have hs2 := hB2.size; have p0 := Nat.lt_of_lt_of_le b0 hs2; have p1 := Nat.lt_of_lt_of_le b1 hs2; have p3 := Nat.lt_of_lt_of_le b3 hs2; have p4 := Nat.lt_of_lt_of_le b4 hs2; obtain ⟨⟨r0, r1, r2⟩, rf0, rf1, rf2⟩ := cells3 ((hB2.block _ b3).trans hR); obtain ⟨⟨l0, l1, l2⟩, lf0, lf1, lf2⟩ := cells3 ((hB2.block _ b4).trans hL); obtain ⟨⟨s0, s1, s2⟩, _⟩ := cells3 ((hB2.block _ b1).trans hS))
                | (go_at_call 144; refine (isNothingX _ _ _ _).mono ?_; rintro e w3 ⟨rfl, rfl⟩))
              go_roundw
              case rel => exact ⟨i + 1, last, by omega, by go_num, (keep2 w2 _ _ _ p4).trans ((hB2.block _ b4).trans hL), HN, ((hB.trans (hB2.mono (by omega))).alloc (by omega) _).alloc (by simp [World.size_alloc]; omega) _⟩
              case measure => simp [intOf]; omega
            · clear hst
              go_wp2_with (first
                | (go_at_call 82; refine HC.mono ?_; rintro e w2 ⟨rfl, hb2⟩; have hB2 : Below wr.heap.size wr w2 := (below_box wr _).trans (hb2.mono (by simp [World.size_alloc])); have hs2 := hB2.size; have p0 := Nat.lt_of_lt_of_le b0 hs2; have p1 := Nat.lt_of_lt_of_le b1 hs2; have p3 := Nat.lt_of_lt_of_le b3 hs2; have p4 := Nat.lt_of_lt_of_le b4 hs2; obtain ⟨⟨r0, r1, r2⟩, rf0, rf1, rf2⟩ := cells3 ((hB2.block _ b3).trans hR); obtain ⟨⟨l0, l1, l2⟩, lf0, lf1, lf2⟩ := cells3 ((hB2.block _ b4).trans hL); obtain ⟨⟨s0, s1, s2⟩, _⟩ := cells3 ((hB2.block _ b1).trans hS))
                | (go_at_call 144; refine (isNothingX _ _ _ _).mono ?_; rintro e w3 ⟨rfl, rfl⟩))
              go_roundw
              case rel => exact ⟨i + 1, last, by omega, by go_num, (keep2 w2 _ _ _ p4).trans ((hB2.block _ b4).trans hL), HN, ((hB.trans (hB2.mono (by omega))).alloc (by omega) _).alloc (by simp [World.size_alloc]; omega) _⟩
              case measure => simp [intOf]; omega
          · have h0' : (ck == 0) = false := by simpa using h0
            clear hst
            go_wp2_with (first
              | (go_at_call 82; refine HC.mono ?_; rintro e w2 ⟨rfl, hb2⟩; have hB2 : Below wr.heap.size wr w2 := (below_box wr _).trans (hb2.mono (by simp [World.size_alloc])); have hs2 := hB2.size; have p0 := Nat.lt_of_lt_of_le b0 hs2; have p1 := Nat.lt_of_lt_of_le b1 hs2; have p3 := Nat.lt_of_lt_of_le b3 hs2; have p4 := Nat.lt_of_lt_of_le b4 hs2; obtain ⟨⟨r0, r1, r2⟩, rf0, rf1, rf2⟩ := cells3 ((hB2.block _ b3).trans hR); obtain ⟨⟨l0, l1, l2⟩, lf0, lf1, lf2⟩ := cells3 ((hB2.block _ b4).trans hL); obtain ⟨⟨s0, s1, s2⟩, _⟩ := cells3 ((hB2.block _ b1).trans hS))
              | (go_at_call 144; refine (isNothingX _ _ _ _).mono ?_; rw [h0']; rintro e w3 ⟨rfl, rfl⟩))
            go_roundw
            case rel => exact ⟨i + 1, last, by omega, by go_num, (keep2 w2 _ _ _ p4).trans ((hB2.block _ b4).trans hL), HN, ((hB.trans (hB2.mono (by omega))).alloc (by omega) _).alloc (by simp [World.size_alloc]; omega) _⟩
            case measure => simp [intOf]; omega
    · have HR : Hid (r = last) := by
        have := HU.out; rw [List.drop_of_length_le (by omega), upQ] at this; exact (Option.some.inj this).symm
      obtain ⟨⟨l0, l1, l2⟩, _⟩ := cells3 hL
      obtain ⟨⟨r0, r1, r2⟩, rf0, rf1, rf2⟩ := cells3 hR
      clear HU hL hR hS HV hE hF hv
      go_wp2_with fail
      refine bodyPost_ret (v := .tuple #[.agg #[.int .i64 last.1, .int .i64 last.2.1, .string (ofBs last.2.2)], .int .i64 0]) (by simp [results, Tryz.results297, go_sem, r0, r1, r2]) rfl ⟨by rw [HR.out], ?_⟩
      exact set3_below hW (by omega) _ _ _

theorem below4 (w : World) (a b c d : Obj) : Below w.heap.size w ((((w.alloc a).alloc b).alloc c).alloc d) :=
  ((((Below.refl _ w).alloc (Nat.le_refl _) _).alloc (by simp [World.size_alloc]) _).alloc (by simp [World.size_alloc]; omega) _).alloc (by simp [World.size_alloc]; omega) _
theorem and_box {w w2 : World} {a c d : Obj} {b : Obj} (h : Below ((((w.alloc a).alloc b).alloc c).alloc d).heap.size ((((w.alloc a).alloc b).alloc c).alloc d) w2) : Below w.heap.size w w2 ∧ w2.heap[w.heap.size + 1]? = some b ∧ w.heap.size + 1 < w2.heap.size := by
  have hs := h.size
  simp only [World.size_alloc] at hs
  refine ⟨(below4 w a b c d).trans (h.mono (by simp only [World.size_alloc]; omega)), (h.block _ (by simp only [World.size_alloc]; omega)).trans ?_, by omega⟩
  have := heap_alloc_new (w.alloc a) b
  rw [World.size_alloc] at this
  exact (keep2 _ _ _ _ (by simp only [World.size_alloc]; omega)).trans this
set_option maxHeartbeats 4000000 in
set_option maxRecDepth 100000 in
theorem and_any (fns : List Fn) (user : Bs) (N : Nat) (HV : ValSpec fns user N) (w : World) (FB : List Nat) (wb : Nat) (cols args : List CellT) (co : Option Addr) (cn cc : Nat) (ao : Option Addr) (an ac : Nat)
    (hF : FrIn w FB fns user wb (.slice co cn cc) (.slice ao an ac) cols args) (oo : Option Addr) (on oc : Nat) (es : List Ex) (hE : ExsIn w FB (.slice oo on oc) es) (hl : es.length ≤ 1000) (r : CellT) (hv : upQ (evQ fns user N cols args) (truC false) (truC true) es = some r) :
    Calls Tryz.prog 216 #[.agg #[.pointer (some ⟨wb, 0, none⟩), .slice co cn cc, .slice ao an ac], .slice oo on oc] w fun e w' => Vald w r e w' := by
  have hb0 := below_box2 w (.cells #[.pointer (some ⟨wb, 0, none⟩), .slice co cn cc, .slice ao an ac] 193) (cellO 0 0 ⟨#[]⟩)
  have HU : ∀ x : World, Below w.heap.size w x → Calls Tryz.prog 297 #[.agg #[.pointer (some ⟨wb, 0, none⟩), .slice co cn cc, .slice ao an ac], .agg #[.int .i64 3, .int .i64 0, .string ⟨#[]⟩], .agg #[.int .i64 3, .int .i64 1, .string ⟨#[]⟩], .slice oo on oc] x fun e w' => Vald x r e w' :=
    fun x hx => upTo_any fns user N HV x FB wb cols args co cn cc ao an ac (hF.keep hx) oo on oc es (hE.keep hx) hl 0 (truC true) r hv
  have HT := fun x : World => cellTruthX true x
  have HFa := fun x : World => cellTruthX false x
  clear hF hE HV hv
  go_enter Tryz.func216, Tryz.ntmps216
  go_upto_region 1 with fail
  go_region_with (first
    | (go_at_call 105; first
        | (refine (HT _).mono ?_; rintro e w2 ⟨rfl, rfl⟩)
        | (refine (HFa _).mono ?_; rintro e w2 ⟨rfl, rfl⟩))
    | (go_at_call 297; refine (HU _ ?_).mono ?_; exact (below4 w _ _ _ _).drew; rintro e w2 ⟨rfl, hb2⟩; replace hb2 := undrewB hb2; obtain ⟨B2, hR2, hlt2⟩ := and_box hb2; obtain ⟨⟨r0, r1, r2⟩, rf0, rf1, rf2⟩ := cells3 hR2))
  all_goals (go_wp2_with fail)
  all_goals
    refine bodyPost_ret (v := .tuple #[.agg #[.int .i64 r.1, .int .i64 r.2.1, .string (ofBs r.2.2)], .int .i64 0]) (by simp [results, Tryz.results216, go_sem, r0, r1, r2]) rfl ⟨rfl, ?_⟩
    exact set3_below B2 (by omega) _ _ _
set_option maxHeartbeats 4000000 in
set_option maxRecDepth 100000 in
theorem or_any (fns : List Fn) (user : Bs) (N : Nat) (HV : ValSpec fns user N) (w : World) (FB : List Nat) (wb : Nat) (cols args : List CellT) (co : Option Addr) (cn cc : Nat) (ao : Option Addr) (an ac : Nat)
    (hF : FrIn w FB fns user wb (.slice co cn cc) (.slice ao an ac) cols args) (oo : Option Addr) (on oc : Nat) (es : List Ex) (hE : ExsIn w FB (.slice oo on oc) es) (hl : es.length ≤ 1000) (r : CellT) (hv : upQ (evQ fns user N cols args) (truC true) (truC false) es = some r) :
    Calls Tryz.prog 217 #[.agg #[.pointer (some ⟨wb, 0, none⟩), .slice co cn cc, .slice ao an ac], .slice oo on oc] w fun e w' => Vald w r e w' := by
  have hb0 := below_box2 w (.cells #[.pointer (some ⟨wb, 0, none⟩), .slice co cn cc, .slice ao an ac] 193) (cellO 0 0 ⟨#[]⟩)
  have HU : ∀ x : World, Below w.heap.size w x → Calls Tryz.prog 297 #[.agg #[.pointer (some ⟨wb, 0, none⟩), .slice co cn cc, .slice ao an ac], .agg #[.int .i64 3, .int .i64 1, .string ⟨#[]⟩], .agg #[.int .i64 3, .int .i64 0, .string ⟨#[]⟩], .slice oo on oc] x fun e w' => Vald x r e w' :=
    fun x hx => upTo_any fns user N HV x FB wb cols args co cn cc ao an ac (hF.keep hx) oo on oc es (hE.keep hx) hl 1 (truC false) r hv
  have HT := fun x : World => cellTruthX true x
  have HFa := fun x : World => cellTruthX false x
  clear hF hE HV hv
  go_enter Tryz.func217, Tryz.ntmps217
  go_upto_region 1 with fail
  go_region_with (first
    | (go_at_call 105; first
        | (refine (HT _).mono ?_; rintro e w2 ⟨rfl, rfl⟩)
        | (refine (HFa _).mono ?_; rintro e w2 ⟨rfl, rfl⟩))
    | (go_at_call 297; refine (HU _ ?_).mono ?_; exact (below4 w _ _ _ _).drew; rintro e w2 ⟨rfl, hb2⟩; replace hb2 := undrewB hb2; obtain ⟨B2, hR2, hlt2⟩ := and_box hb2; obtain ⟨⟨r0, r1, r2⟩, rf0, rf1, rf2⟩ := cells3 hR2))
  all_goals (go_wp2_with fail)
  all_goals
    refine bodyPost_ret (v := .tuple #[.agg #[.int .i64 r.1, .int .i64 r.2.1, .string (ofBs r.2.2)], .int .i64 0]) (by simp [results, Tryz.results217, go_sem, r0, r1, r2]) rfl ⟨rfl, ?_⟩
    exact set3_below B2 (by omega) _ _ _
end Go.Proofs.YtilfjpmeededmaaGreatDoor

/- Cells: which ones are right, which ones fit. -/
/- Whether arguments fit a function. -/
/- Cells: which one is below which; a cell of one's own. -/
import Derived.Test.YtilfjpmeededmaaGreatDoorTyF
import Derived.Test.YtilfjpmeededmaaGreatDoorShelfN
namespace Go.Proofs.YtilfjpmeededmaaGreatDoor
open Go.RowKit

def inRangeS (n : Int) : Bool := decide (-1000000000 ≤ n) && decide (n ≤ 1000000000)
set_option maxHeartbeats 400000 in
set_option maxRecDepth 100000 in
theorem inRange_any (n : Int) (w : World) : Calls Tryz.prog 215 #[.int .i64 n] w fun e w' => e = .returned (.bool (inRangeS n)) ∧ w' = w := by
  by_cases h : -1000000000 ≤ n
  · have hd : decide (-1000000000 ≤ n) = true := by simpa using h
    have HR : Hid (inRangeS n = decide (n ≤ 1000000000)) := by rw [Hid, inRangeS, hd, Bool.true_and]
    go_enter Tryz.func215, Tryz.ntmps215
    go_wp2_with fail
    go_ret
    exact ⟨by rw [HR.out]; rfl, rfl⟩
  · have hd : decide (-1000000000 ≤ n) = false := by simpa using h
    have HR : Hid (inRangeS n = false) := by rw [Hid, inRangeS, hd, Bool.false_and]
    go_enter Tryz.func215, Tryz.ntmps215
    go_wp2_with fail
    go_ret
    exact ⟨by rw [HR.out]; rfl, rfl⟩

def isCellS (k n : Int) (l : Bs) : Bool :=
  if k = 0 then (n == 0) && l.isEmpty else if k = 1 then inRangeS n && l.isEmpty else if k = 2 then (n == 0) && decide (l.length ≤ 30) else if k = 3 then ((n == 0) || (n == 1)) && l.isEmpty else false
set_option maxHeartbeats 4000000 in
set_option maxRecDepth 100000 in
theorem isCell_any (k n : Int) (s : ByteArray) (w : World) : Calls Tryz.prog 143 #[.agg #[.int .i64 k, .int .i64 n, .string s]] w fun e w' => e = .returned (.bool (isCellS k n s.toList)) ∧ Below w.heap.size w w' := by
  have hbx := below_box w (.cells #[.int .i64 k, .int .i64 n, .string s] 50)
  by_cases h0 : k = 0
  · subst h0
    have HR : Hid (isCellS 0 n s.toList = ((n == 0) && s.toList.isEmpty)) := by rw [Hid, isCellS, if_pos rfl]
    cases hn : (n == 0) <;> rw [hn] at HR <;>
    · go_enter Tryz.func143, Tryz.ntmps143
      go_wp2_with fail
      go_ret
      exact ⟨by rw [HR.out]; rfl, hbx⟩
  · by_cases h1 : k = 1
    · subst h1
      have HR : Hid (isCellS 1 n s.toList = (inRangeS n && s.toList.isEmpty)) := by rw [Hid, isCellS, if_neg (by omega), if_pos rfl]
      have HI : ∀ x : World, Calls Tryz.prog 215 #[.int .i64 n] x fun e w' => e = .returned (.bool (inRangeS n)) ∧ w' = x := fun x => inRange_any n x
      obtain ⟨d, hd⟩ : ∃ d, d = inRangeS n := ⟨_, rfl⟩
      rw [← hd] at HR HI
      clear hd
      cases d <;>
      · go_enter Tryz.func143, Tryz.ntmps143
        go_wp2_with (go_at_call 215; refine (HI _).mono ?_; rintro e w2 ⟨rfl, rfl⟩)
        go_ret
        exact ⟨by rw [HR.out]; rfl, hbx⟩
    · by_cases h2 : k = 2
      · subst h2
        have HR : Hid (isCellS 2 n s.toList = ((n == 0) && decide ((s.size : Int) ≤ 30))) := by
          rw [Hid, isCellS, if_neg (by omega), if_neg (by omega), if_pos rfl, toList_length]
          congr 1; simp; omega
        cases hn : (n == 0) <;> rw [hn] at HR <;>
        · go_enter Tryz.func143, Tryz.ntmps143
          go_wp2_with fail
          go_ret
          exact ⟨by rw [HR.out]; rfl, hbx⟩
      · by_cases h3 : k = 3
        · subst h3
          have HR : Hid (isCellS 3 n s.toList = (((n == 0) || (n == 1)) && s.toList.isEmpty)) := by rw [Hid, isCellS, if_neg (by omega), if_neg (by omega), if_neg (by omega), if_pos rfl]
          cases hn : (n == 0) <;> cases hm : (n == 1) <;> rw [hn, hm] at HR <;>
          · go_enter Tryz.func143, Tryz.ntmps143
            go_wp2_with fail
            go_ret
            exact ⟨by rw [HR.out]; rfl, hbx⟩
        · have HR : Hid (isCellS k n s.toList = false) := by rw [Hid, isCellS, if_neg h0, if_neg h1, if_neg h2, if_neg h3]
          have e0 : (k == 0) = false := by simpa using h0
          have e1 : (k == 1) = false := by simpa using h1
          have e2 : (k == 2) = false := by simpa using h2
          have e3 : (k == 3) = false := by simpa using h3
          go_enter Tryz.func143, Tryz.ntmps143
          go_wp2_with fail
          go_ret
          exact ⟨by rw [HR.out]; rfl, hbx⟩
end Go.Proofs.YtilfjpmeededmaaGreatDoor

namespace Go.Proofs.YtilfjpmeededmaaGreatDoor
open Go.RowKit

abbrev CellT := Int × Int × Bs
def fitsS (c : CellT) (t : Int) : Bool := isCellS c.1 c.2.1 c.2.2 && ((c.1 == 0) || (c.1 == t))
set_option maxHeartbeats 1600000 in
set_option maxRecDepth 100000 in
theorem fits_any (k n : Int) (l : Bs) (t : Int) (w : World) : Calls Tryz.prog 81 #[.agg #[.int .i64 k, .int .i64 n, .string (ofBs l)], .int .i64 t] w fun e w' => e = .returned (.bool (fitsS (k, n, l) t)) ∧ Below w.heap.size w w' := by
  have hbx := below_box w (.cells #[.int .i64 k, .int .i64 n, .string (ofBs l)] 50)
  have HI : ∀ x : World, Calls Tryz.prog 143 #[.agg #[.int .i64 k, .int .i64 n, .string (ofBs l)]] x fun e w' => e = .returned (.bool (isCellS k n l)) ∧ Below x.heap.size x w' := by
    intro x; have := isCell_any k n (ofBs l) x; rw [ofBs_toList] at this; exact this
  have HR : Hid (fitsS (k, n, l) t = (isCellS k n l && ((k == 0) || (k == t)))) := rfl
  obtain ⟨d, hd⟩ : ∃ d, d = isCellS k n l := ⟨_, rfl⟩
  rw [← hd] at HI HR
  clear hd
  have key : ∀ w2 : World, Below (w.alloc (.cells #[.int .i64 k, .int .i64 n, .string (ofBs l)] 50)).heap.size (w.alloc (.cells #[.int .i64 k, .int .i64 n, .string (ofBs l)] 50)) w2 → w2.cell? ⟨w.heap.size, 0, none⟩ = some (.int .i64 k) ∧ w2.cell? ⟨w.heap.size, 1, none⟩ = some (.int .i64 n) ∧ w2.cell? ⟨w.heap.size, 2, none⟩ = some (.string (ofBs l)) := by
    intro w2 h
    have hb := (h.block w.heap.size (by simp [World.size_alloc])).trans (heap_alloc_new w _)
    exact ⟨(blk_at hb).trans rfl, (blk_at hb).trans rfl, (blk_at hb).trans rfl⟩
  cases d
  · go_enter Tryz.func81, Tryz.ntmps81
    go_wp2_with (go_at_call 143; refine (HI _).mono ?_; rintro e w2 ⟨rfl, hb2⟩)
    go_ret
    exact ⟨by rw [HR.out]; rfl, hbx.trans (hb2.mono hbx.size)⟩
  · cases h0 : (k == 0)
    · rw [h0] at HR
      go_enter Tryz.func81, Tryz.ntmps81
      go_wp2_with (first
        | (go_at_call 143; refine (HI _).mono ?_; rintro e w2 ⟨rfl, hb2⟩; obtain ⟨a0, a1, a2⟩ := key w2 hb2)
        | (go_at_call 144; refine (isNothing_any _ _ _ _).mono ?_; rw [h0]; rintro e w3 ⟨rfl, hb3⟩; obtain ⟨b0, b1, b2⟩ := key w3 (hb2.trans (hb3.mono hb2.size))))
      go_ret
      exact ⟨by rw [HR.out]; rfl, (hbx.trans (hb2.mono hbx.size)).trans (hb3.mono (Nat.le_trans hbx.size hb2.size))⟩
    · rw [h0] at HR
      go_enter Tryz.func81, Tryz.ntmps81
      go_wp2_with (first
        | (go_at_call 143; refine (HI _).mono ?_; rintro e w2 ⟨rfl, hb2⟩; obtain ⟨a0, a1, a2⟩ := key w2 hb2)
        | (go_at_call 144; refine (isNothing_any _ _ _ _).mono ?_; rw [h0]; rintro e w3 ⟨rfl, hb3⟩; obtain ⟨b0, b1, b2⟩ := key w3 (hb2.trans (hb3.mono hb2.size))))
      go_ret
      exact ⟨by rw [HR.out]; rfl, (hbx.trans (hb2.mono hbx.size)).trans (hb3.mono (Nat.le_trans hbx.size hb2.size))⟩
/-- The list v holds these cells. -/
def CellsIn (w : World) (v : Value) (cs : List CellT) : Prop := ∃ ao cap, v = .slice ao cs.length cap ∧ cs.length ≤ maxLen ∧ (cs = [] ∨ ∃ b off, ao = some ⟨b, off, none⟩ ∧ b < w.heap.size ∧ ∀ (i : Nat) (c : CellT), cs[i]? = some c →
  w.cell? ⟨b, off + i * 3, none⟩ = some (.int .i64 c.1) ∧ w.cell? ⟨b, off + i * 3 + 1, none⟩ = some (.int .i64 c.2.1) ∧ w.cell? ⟨b, off + i * 3 + 2, none⟩ = some (.string (ofBs c.2.2)))
theorem CellsIn.keep {w x : World} {v : Value} {cs : List CellT} (h : CellsIn w v cs) (hb : Below w.heap.size w x) : CellsIn x v cs := by
  obtain ⟨ao, cap, h1, h2, h3⟩ := h
  refine ⟨ao, cap, h1, h2, ?_⟩
  rcases h3 with h | ⟨b, off, e, hl, hc⟩
  · exact .inl h
  · refine .inr ⟨b, off, e, by have := hb.size; omega, fun i f hf => ?_⟩
    obtain ⟨a, b', c⟩ := hc i f hf
    exact ⟨(hb.cell (p := ⟨b, _, none⟩) hl).trans a, (hb.cell (p := ⟨b, _, none⟩) hl).trans b', (hb.cell (p := ⟨b, _, none⟩) hl).trans c⟩
def takesS : List CellT → List Int → Bool
  | [], [] => true
  | c :: cs, t :: ts => fitsS c t && takesS cs ts
  | _, _ => false
theorem takesS_len : ∀ (cs : List CellT) (ts : List Int), cs.length ≠ ts.length → takesS cs ts = false
  | [], [], h => absurd rfl h
  | [], _ :: _, _ => rfl
  | _ :: _, [], _ => rfl
  | c :: cs, t :: ts, h => by rw [takesS, takesS_len cs ts (by simpa using h)]; simp

set_option maxHeartbeats 4000000 in
set_option maxRecDepth 100000 in
theorem equalFunc_any (w : World) (v1 v2 : Value) (cs : List CellT) (ts : List Int) (h1 : CellsIn w v1 cs) (h2 : IntsIn w v2 ts) :
    Calls Tryz.prog 80 #[v1, v2, .func (Fn.func 81) #[] #[]] w fun e w' => e = .returned (.bool (takesS cs ts)) ∧ Below w.heap.size w w' := by
  obtain ⟨a1, c1, rfl, l1, r1⟩ := h1
  obtain ⟨a2, c2, rfl, l2, r2⟩ := h2
  unfold maxLen at l1
  by_cases hlen : cs.length = ts.length
  · obtain ⟨m, hm⟩ : ∃ m, m = cs.length := ⟨_, rfl⟩
    have HL1 : Hid (cs.length = m) := hm.symm
    have HL2 : Hid (ts.length = m) := by rw [Hid, ← hlen, hm]
    rw [← hlen, ← hm]
    rw [← hm] at l1
    clear hlen hm l2
    go_enter Tryz.func80, Tryz.ntmps80
    go_wp2_with fail
    go_loopw [17] (fun iv wx => ∃ i : Nat, i ≤ m ∧ iv = .int .i64 i ∧ Below w.heap.size w wx ∧ Hid (takesS cs ts = takesS (cs.drop i) (ts.drop i))) (fun iv _ => m - (intOf iv).toNat)
    case atStart => exact ⟨0, Nat.zero_le _, rfl, Below.refl _ _, rfl⟩
    case round =>
      obtain ⟨i, hi, rfl, hB, HE⟩ := hrel
      have hsB := hB.size
      by_cases hltm : i < m
      · have hlt : i < cs.length := by have := HL1.out; omega
        obtain ⟨b1, o1, rfl, hb1, hc1⟩ : ∃ b off, a1 = some ⟨b, off, none⟩ ∧ b < w.heap.size ∧ ∀ (i : Nat) (c : CellT), cs[i]? = some c → w.cell? ⟨b, off + i * 3, none⟩ = some (.int .i64 c.1) ∧ w.cell? ⟨b, off + i * 3 + 1, none⟩ = some (.int .i64 c.2.1) ∧ w.cell? ⟨b, off + i * 3 + 2, none⟩ = some (.string (ofBs c.2.2)) := by
          rcases r1 with h | h
          · subst h; simp at hlt
          · exact h
        obtain ⟨b2, o2, rfl, hb2, hc2⟩ : ∃ b off, a2 = some ⟨b, off, none⟩ ∧ b < w.heap.size ∧ ∀ j u, ts[j]? = some u → w.cell? ⟨b, off + j, none⟩ = some (.int .i64 u) := by
          rcases r2 with h | h
          · subst h; have := HL2.out; simp only [List.length_nil] at this; omega
          · exact h
        have hlt2 : i < ts.length := by have := HL2.out; omega
        obtain ⟨p0, p1, p2⟩ := hc1 i cs[i] (List.getElem?_eq_getElem hlt)
        have q0 := (hB.cell (p := ⟨b1, o1 + i * 3, none⟩) hb1).trans p0
        have q1 := (hB.cell (p := ⟨b1, o1 + i * 3 + 1, none⟩) hb1).trans p1
        have q2 := (hB.cell (p := ⟨b1, o1 + i * 3 + 2, none⟩) hb1).trans p2
        have q3 := (hB.cell (p := ⟨b2, o2 + i, none⟩) hb2).trans (hc2 i ts[i] (List.getElem?_eq_getElem hlt2))
        have HA : Hid (takesS cs ts = (fitsS cs[i] ts[i] && takesS (cs.drop (i + 1)) (ts.drop (i + 1)))) := by
          rw [Hid, HE.out, List.drop_eq_getElem_cons hlt, List.drop_eq_getElem_cons hlt2, takesS]
        obtain ⟨ck, hck⟩ : ∃ c, c = cs[i] := ⟨_, rfl⟩
        obtain ⟨tk, htk⟩ : ∃ t, t = ts[i] := ⟨_, rfl⟩
        rw [← hck] at q0 q1 q2 HA
        rw [← htk] at q3 HA
        obtain ⟨k, n, l⟩ := ck
        simp only at q0 q1 q2
        have HF := fun x : World => fits_any k n l tk x
        obtain ⟨d, hd⟩ : ∃ d, d = fitsS (k, n, l) tk := ⟨_, rfl⟩
        rw [← hd] at HA
        simp only [← hd] at HF
        have hbr1 : b1 < wr.heap.size := by omega
        have hbr2 : b2 < wr.heap.size := by omega
        clear HE hc1 hc2 r1 r2 p0 p1 p2 hck htk hd hlt hlt2
        cases d
        · have HN : Hid (takesS cs ts = false) := by rw [Hid, HA.out]; rfl
          clear HA
          go_wp2_with (go_at_call 81; refine (HF _).mono ?_; rintro e w2 ⟨rfl, hb2'⟩)
          go_ret
          have hb3 : Below wr.heap.size wr w2 := (below_box wr _).trans (hb2'.mono (by simp [World.size_alloc]))
          exact ⟨ret_bool HN.out.symm, hB.trans (hb3.mono hsB)⟩
        · have HN : Hid (takesS cs ts = takesS (cs.drop (i + 1)) (ts.drop (i + 1))) := by rw [Hid, HA.out]; rfl
          clear HA
          go_wp2_with (go_at_call 81; refine (HF _).mono ?_; rintro e w2 ⟨rfl, hb2'⟩)
          have hb3 : Below wr.heap.size wr w2 := (below_box wr _).trans (hb2'.mono (by simp [World.size_alloc]))
          go_roundw
          case rel => exact ⟨i + 1, by omega, by go_num, hB.trans (hb3.mono hsB), HN⟩
          case measure => simp [intOf]; omega
      · have HN : Hid (takesS cs ts = true) := by rw [Hid, HE.out, List.drop_of_length_le (by have := HL1.out; omega), List.drop_of_length_le (by have := HL2.out; omega)]; rfl
        clear HE r1 r2
        go_wp2_with fail
        go_ret
        exact ⟨ret_bool HN.out.symm, hB⟩
  · have hnb : ((cs.length : Int) == (ts.length : Int)) = false := by simp; omega
    have HN : Hid (takesS cs ts = false) := takesS_len cs ts hlen
    clear r1 r2
    go_enter Tryz.func80, Tryz.ntmps80
    go_wp2_with fail
    go_ret
    exact ⟨ret_bool HN.out.symm, Below.refl _ _⟩

set_option maxHeartbeats 400000 in
set_option maxRecDepth 100000 in
theorem takes_any (w : World) (FB : List Nat) (q : Nat) (fn : Fn) (hA : FnAt w FB q fn) (ao : Option Addr) (n cap : Nat) (cs : List CellT) (h : CellsIn w (.slice ao n cap) cs) :
    Calls Tryz.prog 48 #[.pointer (some ⟨q, 0, none⟩), .slice ao n cap] w fun e w' => e = .returned (.bool (takesS cs fn.args)) ∧ Below w.heap.size w w' := by
  obtain ⟨fo, fc, hi, u1, _, _, _⟩ := hA.cells
  have HC := equalFunc_any w _ _ cs fn.args h hi
  clear h hi hA
  go_enter Tryz.func48, Tryz.ntmps48
  go_wp2_with (go_at_call 80; refine HC.mono ?_; rintro e w2 ⟨rfl, hb2⟩)
  go_ret
  exact ⟨rfl, hb2⟩
end Go.Proofs.YtilfjpmeededmaaGreatDoor

namespace Go.Proofs.YtilfjpmeededmaaGreatDoor
open Go.RowKit

set_option maxHeartbeats 800000 in
set_option maxRecDepth 100000 in
theorem cmpOr_any (w : World) (b cap : Nat) (es : List Int) (hn : es.length ≤ 100) (hc : ∀ j u, es[j]? = some u → w.cell? ⟨b, j, none⟩ = some (.int .i64 u)) :
    Calls Tryz.prog 172 #[.slice (some ⟨b, 0, none⟩) es.length cap] w fun e w' => e = .returned (.int .i64 (firstS es)) ∧ w' = w := by
  go_enter Tryz.func172, Tryz.ntmps172
  go_wp2_with fail
  go_loopw [8] (fun iv wx => ∃ i : Nat, i ≤ es.length ∧ iv = .int .i64 i ∧ wx = w ∧ Hid (firstS es = firstS (es.drop i))) (fun iv _ => es.length - (intOf iv).toNat)
  case atStart => exact ⟨0, Nat.zero_le _, rfl, rfl, rfl⟩
  case round =>
    obtain ⟨i, hi, rfl, rfl, HE⟩ := hrel
    by_cases hlt : i < es.length
    · have q := hc i es[i] (List.getElem?_eq_getElem hlt)
      have hd : es.drop i = es[i] :: es.drop (i + 1) := List.drop_eq_getElem_cons hlt
      by_cases h0 : es[i] = 0
      · have HN : Hid (firstS es = firstS (es.drop (i + 1))) := by rw [Hid, HE.out, hd, firstS, if_pos h0]
        rw [h0] at q
        clear HE hc hd
        go_wp2_with fail
        go_roundw
        case rel => exact ⟨i + 1, by omega, by go_num, by trivial, HN⟩
        case measure => simp [intOf]; omega
      · have HN : Hid (firstS es = es[i]) := by rw [Hid, HE.out, hd, firstS, if_neg h0]
        have hne : (es[i] == 0) = false := by simpa using h0
        obtain ⟨u, hu⟩ : ∃ u, u = es[i] := ⟨_, rfl⟩
        rw [← hu] at q HN hne h0
        clear HE hc hd hu
        go_wp2_with fail
        go_ret
        exact ⟨by rw [HN.out]; rfl, rfl⟩
    · have HN : Hid (firstS es = 0) := by rw [Hid, HE.out, List.drop_of_length_le (by omega)]; rfl
      clear HE hc
      go_wp2_with fail
      go_ret
      exact ⟨by rw [HN.out]; rfl, rfl⟩
def cmpS (a b : CellT) : Int := firstS [Lib.compareInt a.1 b.1, Lib.compareInt a.2.1 b.2.1, Lib.compareBytes a.2.2 b.2.2]
end Go.Proofs.YtilfjpmeededmaaGreatDoor

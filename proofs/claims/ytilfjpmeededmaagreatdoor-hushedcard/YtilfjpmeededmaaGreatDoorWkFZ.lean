/- cell.Compare. -/
/- Cells: one of one's own; what is told of one that is noted. -/
import Derived.Test.YtilfjpmeededmaaGreatDoorWkDZ
import Derived.Test.YtilfjpmeededmaaGreatDoorShelfN
import Derived.Deep.RegionWith
import Derived.Deep.RegionHeld2
import Derived.Test.YtilfjpmeededmaaGreatDoorMakeAZ
namespace Go.Proofs.YtilfjpmeededmaaGreatDoor
open Go.RowKit

theorem blk3_drew (w : World) (A B C : Obj) : (((w.alloc A).alloc B).alloc C).drew.heap[w.heap.size + 1 + 1]? = some C := by
  have := heap_alloc_new ((w.alloc A).alloc B) C
  rw [World.size_alloc, World.size_alloc] at this; exact this
theorem cmpOrB (w : World) (A B : Obj) (a b c : Int) :
    Calls Tryz.prog 172 #[.slice (some ⟨w.heap.size + 1 + 1, 0, none⟩) 3 3] (((w.alloc A).alloc B).alloc (.cells #[.int .i64 a, .int .i64 b, .int .i64 c] 3)).drew fun e w' => e = .returned (.int .i64 (firstS [a, b, c])) ∧ w' = (((w.alloc A).alloc B).alloc (.cells #[.int .i64 a, .int .i64 b, .int .i64 c] 3)).drew := by
  refine cmpOr_any _ (w.heap.size + 1 + 1) 3 [a, b, c] (by simp) fun j u hj => ?_
  rw [blk_at (blk3_drew w A B _)]
  match j, hj with
  | 0, hj => simp at hj; subst hj; rfl
  | 1, hj => simp at hj; subst hj; rfl
  | 2, hj => simp at hj; subst hj; rfl
theorem data_ofBs (l : Bs) : (ofBs l).data.toList = l := by simp [ofBs]

def cmpI (x y : Int) : Int := Lib.compareInt x y
def cmpB (x y : Bs) : Int := Lib.compareBytes x y
theorem cmpI_any (x y : Int) (w : World) : Calls Tryz.prog 250 #[.int .i64 x, .int .i64 y] w fun e w' => e = .returned (.int .i64 (cmpI x y)) ∧ w' = w := Tryz.cmp_Compare_int x y w
theorem cmpB_any (x y : Bs) (w : World) : Calls Tryz.prog 322 #[.string (ofBs x), .string (ofBs y)] w fun e w' => e = .returned (.int .i64 (cmpB x y)) ∧ w' = w := by
  have := Tryz.strings_Compare (ofBs x) (ofBs y) w
  rw [data_ofBs, data_ofBs] at this; exact this
set_option maxHeartbeats 2000000 in
set_option maxRecDepth 100000 in
theorem cmp_any (a b : CellT) (w : World) :
    Calls Tryz.prog 249 #[.agg #[.int .i64 a.1, .int .i64 a.2.1, .string (ofBs a.2.2)], .agg #[.int .i64 b.1, .int .i64 b.2.1, .string (ofBs b.2.2)]] w fun e w' => e = .returned (.int .i64 (cmpS a b)) ∧ Below w.heap.size w w' := by
  obtain ⟨ak, an, at1⟩ := a
  obtain ⟨bk, bn, bt1⟩ := b
  simp only
  have HS : Hid (cmpS (ak, an, at1) (bk, bn, bt1) = firstS [cmpI ak bk, cmpI an bn, cmpB at1 bt1]) := rfl
  obtain ⟨r, hr⟩ : ∃ r, r = firstS [cmpI ak bk, cmpI an bn, cmpB at1 bt1] := ⟨_, rfl⟩
  have H3 := cmpOrB w (.cells #[.int .i64 ak, .int .i64 an, .string (ofBs at1)] 50) (.cells #[.int .i64 bk, .int .i64 bn, .string (ofBs bt1)] 50) (cmpI ak bk) (cmpI an bn) (cmpB at1 bt1)
  rw [← hr] at H3 HS
  have HB : Hid (Below w.heap.size w (((w.alloc (.cells #[.int .i64 ak, .int .i64 an, .string (ofBs at1)] 50)).alloc (.cells #[.int .i64 bk, .int .i64 bn, .string (ofBs bt1)] 50)).alloc (.cells #[.int .i64 (cmpI ak bk), .int .i64 (cmpI an bn), .int .i64 (cmpB at1 bt1)] 3)).drew) :=
    (((below_box2 w _ _).alloc (by simp [World.size_alloc]; omega) _)).drew
  clear hr
  go_enter Tryz.func249, Tryz.ntmps249
  go_upto_region 1 with fail
  go_region_held2 (fun x => x.cell? ⟨w.heap.size, 0, none⟩ = some (.int .i64 ak) ∧ x.cell? ⟨w.heap.size, 1, none⟩ = some (.int .i64 an) ∧ x.cell? ⟨w.heap.size, 2, none⟩ = some (.string (ofBs at1)) ∧ x.cell? ⟨w.heap.size + 1, 0, none⟩ = some (.int .i64 bk) ∧ x.cell? ⟨w.heap.size + 1, 1, none⟩ = some (.int .i64 bn) ∧ x.cell? ⟨w.heap.size + 1, 2, none⟩ = some (.string (ofBs bt1))) (go_keep) (first
    | (go_at_call 250; refine (cmpI_any _ _ _).mono ?_; rintro e w2 ⟨rfl, rfl⟩)
    | (go_at_call 322; refine (cmpB_any _ _ _).mono ?_; rintro e w2 ⟨rfl, rfl⟩)
    | (go_at_call 172; refine H3.mono ?_; rintro e w2 ⟨rfl, rfl⟩))
  all_goals (go_wp2_with fail; go_ret)
  all_goals exact ⟨by rw [HS.out]; rfl, HB.out⟩
end Go.Proofs.YtilfjpmeededmaaGreatDoor

namespace Go.Proofs.YtilfjpmeededmaaGreatDoor
open Go.RowKit

set_option maxHeartbeats 400000 in
theorem clone_any (s : ByteArray) (w : World) (hs : s.size ≤ 281474976710656) : Calls Tryz.prog 83 #[.string s] w fun e w' => e = .returned (.string s) ∧ Below w.heap.size w w' := by
  go_enter Tryz.func83, Tryz.ntmps83
  go_wp2_with (go_at_call 148; refine (Tryz.stringslite_Clone s _ hs).mono ?_; rintro e w2 ⟨rfl, hb2⟩)
  go_ret
  exact ⟨rfl, hb2⟩
theorem cells3w {x : World} {b : Nat} {a0 a1 a2 : Value} {T : TypeId} (h : x.heap[b]? = some (.cells #[a0, a1, a2] T (0, 0))) :
    (x.cell? ⟨b, 0, none⟩ = some a0 ∧ x.cell? ⟨b, 1, none⟩ = some a1 ∧ x.cell? ⟨b, 2, none⟩ = some a2) ∧ (x.frozen? ⟨b, 0, none⟩ = false ∧ x.frozen? ⟨b, 1, none⟩ = false ∧ x.frozen? ⟨b, 2, none⟩ = false) := by
  simp [World.cell?, World.frozen?, h]
set_option maxHeartbeats 1600000 in
set_option maxRecDepth 100000 in
theorem own_any (k n : Int) (s : ByteArray) (w : World) (hs : s.size ≤ 281474976710656) : Calls Tryz.prog 50 #[.agg #[.int .i64 k, .int .i64 n, .string s]] w fun e w' => e = .returned (.agg #[.int .i64 k, .int .i64 n, .string s]) ∧ Below w.heap.size w w' := by
  have hbx := below_box2 w (.cells #[.int .i64 k, .int .i64 n, .string s] 50) (.cells #[.int .i64 0, .int .i64 0, .string ⟨#[]⟩] 50)
  have h1 : ((w.alloc (.cells #[.int .i64 k, .int .i64 n, .string s] 50)).alloc (.cells #[.int .i64 0, .int .i64 0, .string ⟨#[]⟩] 50)).heap[w.heap.size]? = some (.cells #[.int .i64 k, .int .i64 n, .string s] 50) := (Below.heap_alloc _ _ _ (by simp [World.size_alloc])).trans (heap_alloc_new w _)
  have h2 : ((w.alloc (.cells #[.int .i64 k, .int .i64 n, .string s] 50)).alloc (.cells #[.int .i64 0, .int .i64 0, .string ⟨#[]⟩] 50)).heap[w.heap.size + 1]? = some (.cells #[.int .i64 0, .int .i64 0, .string ⟨#[]⟩] 50) := by
    have := heap_alloc_new (w.alloc (.cells #[.int .i64 k, .int .i64 n, .string s] 50)) (.cells #[.int .i64 0, .int .i64 0, .string ⟨#[]⟩] 50)
    rw [World.size_alloc] at this; exact this
  go_enter Tryz.func50, Tryz.ntmps50
  go_wp2_with (go_at_call 83; refine (clone_any s _ hs).mono ?_; rintro e w2 ⟨rfl, hb2⟩; have hs2 := hb2.size; simp only [World.size_alloc] at hs2; have hl1 : w.heap.size < w2.heap.size := (by omega); have hl2 : w.heap.size + 1 < w2.heap.size := (by omega); obtain ⟨⟨a0, a1, a2⟩, f0, f1, f2⟩ := cells3w ((hb2.block _ (by simp [World.size_alloc]; omega)).trans h1); obtain ⟨⟨b0, b1, b2⟩, g0, g1, g2⟩ := cells3w ((hb2.block _ (by simp [World.size_alloc])).trans h2))
  have B2 : Below w.heap.size w w2 := hbx.trans (hb2.mono (by simp [World.size_alloc]; omega))
  refine bodyPost_ret (v := .agg #[.int .i64 k, .int .i64 n, .string s]) (by simp [results, Tryz.results50, go_sem, b0, b1, b2]) rfl ⟨rfl, ?_⟩
  exact (((B2.setCell (p := ⟨w.heap.size, 2, none⟩) (Nat.le_refl _) _).setCell (p := ⟨w.heap.size + 1, 0, none⟩) (by simp) _).setCell (p := ⟨w.heap.size + 1, 1, none⟩) (by simp) _).setCell (p := ⟨w.heap.size + 1, 2, none⟩) (by simp) _
theorem grow_belowX (w : World) (k : Nat) (os : Array Obj) : Below w.heap.size w («Sort».grow (w.drewN k) os) :=
  ⟨rfl, rfl, rfl, by simp [«Sort».grow, World.drewN], fun g hg => by
    show (w.heap ++ os)[g]? = w.heap[g]?
    exact Array.getElem?_append_left hg⟩
def notedS (c : CellT) : Bs := if c.1 = 1 then Lib.itoa c.2.1 else if c.1 = 2 then 39 :: (c.2.2 ++ [39]) else if c.1 = 3 then Lib.formatBool (c.2.1 == 1) else [45]
abbrev TabP (w : World) : Prop := Lib.TabIs Tryz.prog w "internal/strconv.uint64pow10" .u64 Lib.pow10Tab
theorem tabP_keep {w w' : World} (h : TabP w) (hb : Below w.heap.size w w') : TabP w' := by
  have hg : ∃ g, Tryz.prog.globalNamed "internal/strconv.uint64pow10" = some g := by
    cases e : Tryz.prog.globalNamed "internal/strconv.uint64pow10" with
    | some g => exact ⟨g, rfl⟩
    | none => unfold TabP Lib.TabIs World.var? at h; rw [e] at h; cases h
  obtain ⟨g, hg⟩ := hg
  unfold TabP Lib.TabIs World.var? at h ⊢
  rw [hg] at h ⊢
  simp only [Option.bind_some] at h ⊢
  have hlt : g < w.heap.size := by
    rcases Nat.lt_or_ge g w.heap.size with h' | h'
    · exact h'
    · rw [Array.getElem?_eq_none h'] at h; cases h
  rw [hb.block g hlt]
  exact h
set_option maxHeartbeats 1600000 in
set_option maxRecDepth 100000 in
theorem noted_any (k n : Int) (l : Bs) (w : World) (hT : TabP w) (h0 : -9223372036854775808 ≤ n) (h1 : n ≤ 9223372036854775807) (hl : l.length ≤ 1000) : Calls Tryz.prog 298 #[.agg #[.int .i64 k, .int .i64 n, .string (ofBs l)]] w fun e w' => e = .returned (.string (ofBs (notedS (k, n, l)))) ∧ Below w.heap.size w w' := by
  have hbx := below_box w (.cells #[.int .i64 k, .int .i64 n, .string (ofBs l)] 50)
  have hT2 := tabP_keep hT hbx
  by_cases k1 : k = 1
  · subst k1
    have HI := Tryz.strconv_Itoa n h0 h1 _ hT2
    go_enter Tryz.func298, Tryz.ntmps298
    go_wp2_with (go_at_call 358; refine HI.mono ?_; rintro e w2 ⟨rfl, kk, os, rfl⟩)
    go_ret
    exact ⟨rfl, hbx.trans ((grow_belowX _ kk os).mono (by simp [World.size_alloc]))⟩
  · by_cases k2 : k = 2
    · subst k2
      have hsz : (ofBs l).size ≤ 1000 := by rw [ofBs_size]; exact hl
      have s1 : (ByteArray.mk #[39]).size = 1 := rfl
      have s2 : (ofBs (39 :: l)).size ≤ 1001 := by rw [ofBs_size]; simp; omega
      have e1 : (ByteArray.mk #[39]) ++ ofBs l = ofBs (39 :: l) := by
        have := add_str [39] l; exact this
      have e2 : ofBs (39 :: l) ++ (ByteArray.mk #[39]) = ofBs (39 :: (l ++ [39])) := by
        have := add_str (39 :: l) [39]; exact this
      go_enter Tryz.func298, Tryz.ntmps298
      go_wp2_with fail
      go_ret
      exact ⟨rfl, hbx⟩
    · by_cases k3 : k = 3
      · subst k3
        have HF := fun x : World => Tryz.strconv_FormatBool (n == 1) x
        go_enter Tryz.func298, Tryz.ntmps298
        go_wp2_with (go_at_call 359; refine (HF _).mono ?_; rintro e w2 ⟨rfl, rfl⟩)
        go_ret
        exact ⟨rfl, hbx⟩
      · have b1 : (k == 1) = false := by simpa using k1
        have b2 : (k == 2) = false := by simpa using k2
        have b3 : (k == 3) = false := by simpa using k3
        have HR : Hid (notedS (k, n, l) = [45]) := by rw [Hid, notedS, if_neg k1, if_neg k2, if_neg k3]
        go_enter Tryz.func298, Tryz.ntmps298
        go_wp2_with fail
        go_ret
        exact ⟨by rw [HR.out]; rfl, hbx⟩
end Go.Proofs.YtilfjpmeededmaaGreatDoor

/- Package work: builtIn of if. -/
import Derived.Test.YtilfjpmeededmaaGreatDoorWvC
import Derived.Test.YtilfjpmeededmaaGreatDoorWvF
import Derived.Test.YtilfjpmeededmaaGreatDoorWvH
import Derived.Deep.RegionHeld2
namespace Go.Proofs.YtilfjpmeededmaaGreatDoor
open Go.RowKit

abbrev At11 (x : World) (g o0 o1 o2 o3 o4 o5 o6 o7 o8 o9 o10 : Nat) (sort ty size : Int) (quiet : Bool) (vk vn : Int) (vs : Bs) (place : Int) (head : Bs) (fp xo : Option Addr) (xn xc : Nat) : Prop :=
  x.cell? ⟨g, o0, none⟩ = some (.int .i64 sort) ∧ x.cell? ⟨g, o1, none⟩ = some (.int .i64 ty) ∧ x.cell? ⟨g, o2, none⟩ = some (.int .i64 size) ∧ x.cell? ⟨g, o3, none⟩ = some (.bool quiet) ∧ x.cell? ⟨g, o4, none⟩ = some (.int .i64 vk) ∧ x.cell? ⟨g, o5, none⟩ = some (.int .i64 vn) ∧ x.cell? ⟨g, o6, none⟩ = some (.string (ofBs vs)) ∧ x.cell? ⟨g, o7, none⟩ = some (.int .i64 place) ∧ x.cell? ⟨g, o8, none⟩ = some (.string (ofBs head)) ∧ x.cell? ⟨g, o9, none⟩ = some (.pointer fp) ∧ x.cell? ⟨g, o10, none⟩ = some (.slice xo xn xc)
theorem box3 (w : World) (a b c : Obj) : (((w.alloc a).alloc b).alloc c).heap[w.heap.size]? = some a ∧ (((w.alloc a).alloc b).alloc c).heap[w.heap.size + 1]? = some b ∧ (((w.alloc a).alloc b).alloc c).heap[w.heap.size + 2]? = some c := by
  simp only [box_at, World.size_alloc]
  refine ⟨?_, ?_, ?_⟩
  · rw [if_neg (by omega), if_neg (by omega), if_pos trivial]
  · rw [if_neg (by omega), if_pos trivial]
  · rw [if_pos trivial]

set_option maxHeartbeats 8000000 in
set_option maxRecDepth 100000 in
theorem builtIn_if (q : Bool) (m : Nat) (user : Bs) (w : World) (wb : Nat) (hwb : wb < w.heap.size) (co : Option Addr) (cn cc : Nat) (ao : Option Addr) (an ac : Nat) (r : CellT)
    (sort0 ty0 size0 : Int) (quiet0 : Bool) (vk0 vn0 : Int) (vs0 : Bs) (place0 : Int) (fp0 : Option Addr) (g oc : Nat) (hg : g < w.heap.size) (hgw : g ≠ wb)
    {sort ty size : Int} {quiet : Bool} {vk vn : Int} {vs : Bs} {place : Int} {head : Bs} {fp xo : Option Addr} {xn xc : Nat} {sort' ty' size' : Int} {quiet' : Bool} {vk' vn' : Int} {vs' : Bs} {place' : Int} {head' : Bs} {fp' xo' : Option Addr} {xn' xc' : Nat} {sort2 ty2 size2 : Int} {quiet2 : Bool} {vk2 vn2 : Int} {vs2 : Bs} {place2 : Int} {head2 : Bs} {fp2 xo2 : Option Addr} {xn2 xc2 : Nat}
    (A0 : At11 w g 0 1 2 3 4 5 6 7 8 9 10 sort ty size quiet vk vn vs place head fp xo xn xc) (A1 : At11 w g 11 12 13 14 15 16 17 18 19 20 21 sort' ty' size' quiet' vk' vn' vs' place' head' fp' xo' xn' xc') (A2 : At11 w g 22 23 24 25 26 27 28 29 30 31 32 sort2 ty2 size2 quiet2 vk2 vn2 vs2 place2 head2 fp2 xo2 xn2 xc2)
    (HC : ∀ x : World, Below w.heap.size w x → Calls Tryz.prog 218 #[.agg #[.pointer (some ⟨wb, 0, none⟩), .slice co cn cc, .slice ao an ac], .agg (exO sort ty size quiet vk vn vs place head fp xo xn xc), .agg (exO sort' ty' size' quiet' vk' vn' vs' place' head' fp' xo' xn' xc'), .agg (exO sort2 ty2 size2 quiet2 vk2 vn2 vs2 place2 head2 fp2 xo2 xn2 xc2)] x fun e w' => Noted q wb user m r x e w') :
    Calls Tryz.prog 146 #[.agg #[.pointer (some ⟨wb, 0, none⟩), .slice co cn cc, .slice ao an ac], .agg #[.int .i64 sort0, .int .i64 ty0, .int .i64 size0, .bool quiet0, .int .i64 vk0, .int .i64 vn0, .string (ofBs vs0), .int .i64 place0, .string ⟨#[105, 102]⟩, .pointer fp0, .slice (some ⟨g, 0, none⟩) 3 oc]] w fun e w' => Noted q wb user m r w e w' := by
  have hb0 := below3 w (.cells #[.pointer (some ⟨wb, 0, none⟩), .slice co cn cc, .slice ao an ac] 193) (.cells #[.int .i64 sort0, .int .i64 ty0, .int .i64 size0, .bool quiet0, .int .i64 vk0, .int .i64 vn0, .string (ofBs vs0), .int .i64 place0, .string ⟨#[105, 102]⟩, .pointer fp0, .slice (some ⟨g, 0, none⟩) 3 oc] 122) (cellO 0 0 ⟨#[]⟩)
  obtain ⟨k0, k1, k2⟩ := box3 w (.cells #[.pointer (some ⟨wb, 0, none⟩), .slice co cn cc, .slice ao an ac] 193) (.cells #[.int .i64 sort0, .int .i64 ty0, .int .i64 size0, .bool quiet0, .int .i64 vk0, .int .i64 vn0, .string (ofBs vs0), .int .i64 place0, .string ⟨#[105, 102]⟩, .pointer fp0, .slice (some ⟨g, 0, none⟩) 3 oc] 122) (cellO 0 0 ⟨#[]⟩)
  obtain ⟨W, hW⟩ : ∃ W, W = ((w.alloc (.cells #[.pointer (some ⟨wb, 0, none⟩), .slice co cn cc, .slice ao an ac] 193)).alloc (.cells #[.int .i64 sort0, .int .i64 ty0, .int .i64 size0, .bool quiet0, .int .i64 vk0, .int .i64 vn0, .string (ofBs vs0), .int .i64 place0, .string ⟨#[105, 102]⟩, .pointer fp0, .slice (some ⟨g, 0, none⟩) 3 oc] 122)).alloc (cellO 0 0 ⟨#[]⟩) := ⟨_, rfl⟩
  have hWs : W.heap.size = w.heap.size + 3 := by rw [hW]; simp [World.size_alloc]
  have HC0 := HC W.drew (by rw [hW]; exact hb0.drew)
  go_enter Tryz.func146, Tryz.ntmps146
  go_upto_region 7 with fail
  rw [← hW] at k0 k1 k2 hb0 ⊢
  have HS : Hid (∀ x : World, x.heap[w.heap.size]? = W.heap[w.heap.size]? → x.heap[w.heap.size + 1]? = W.heap[w.heap.size + 1]? → x.heap[g]? = W.heap[g]? → x.cell? ⟨w.heap.size, 0, none⟩ = some (.pointer (some ⟨wb, 0, none⟩)) ∧ x.cell? ⟨w.heap.size, 1, none⟩ = some (.slice co cn cc) ∧ x.cell? ⟨w.heap.size, 2, none⟩ = some (.slice ao an ac) ∧ x.cell? ⟨w.heap.size + 1, 10, none⟩ = some (.slice (some ⟨g, 0, none⟩) 3 oc) ∧ x.cell? ⟨g, 0, none⟩ = some (.int .i64 sort) ∧ x.cell? ⟨g, 1, none⟩ = some (.int .i64 ty) ∧ x.cell? ⟨g, 2, none⟩ = some (.int .i64 size) ∧ x.cell? ⟨g, 3, none⟩ = some (.bool quiet) ∧ x.cell? ⟨g, 4, none⟩ = some (.int .i64 vk) ∧ x.cell? ⟨g, 5, none⟩ = some (.int .i64 vn) ∧ x.cell? ⟨g, 6, none⟩ = some (.string (ofBs vs)) ∧ x.cell? ⟨g, 7, none⟩ = some (.int .i64 place) ∧ x.cell? ⟨g, 8, none⟩ = some (.string (ofBs head)) ∧ x.cell? ⟨g, 9, none⟩ = some (.pointer fp) ∧ x.cell? ⟨g, 10, none⟩ = some (.slice xo xn xc) ∧ x.cell? ⟨g, 11, none⟩ = some (.int .i64 sort') ∧ x.cell? ⟨g, 12, none⟩ = some (.int .i64 ty') ∧ x.cell? ⟨g, 13, none⟩ = some (.int .i64 size') ∧ x.cell? ⟨g, 14, none⟩ = some (.bool quiet') ∧ x.cell? ⟨g, 15, none⟩ = some (.int .i64 vk') ∧ x.cell? ⟨g, 16, none⟩ = some (.int .i64 vn') ∧ x.cell? ⟨g, 17, none⟩ = some (.string (ofBs vs')) ∧ x.cell? ⟨g, 18, none⟩ = some (.int .i64 place') ∧ x.cell? ⟨g, 19, none⟩ = some (.string (ofBs head')) ∧ x.cell? ⟨g, 20, none⟩ = some (.pointer fp') ∧ x.cell? ⟨g, 21, none⟩ = some (.slice xo' xn' xc') ∧ x.cell? ⟨g, 22, none⟩ = some (.int .i64 sort2) ∧ x.cell? ⟨g, 23, none⟩ = some (.int .i64 ty2) ∧ x.cell? ⟨g, 24, none⟩ = some (.int .i64 size2) ∧ x.cell? ⟨g, 25, none⟩ = some (.bool quiet2) ∧ x.cell? ⟨g, 26, none⟩ = some (.int .i64 vk2) ∧ x.cell? ⟨g, 27, none⟩ = some (.int .i64 vn2) ∧ x.cell? ⟨g, 28, none⟩ = some (.string (ofBs vs2)) ∧ x.cell? ⟨g, 29, none⟩ = some (.int .i64 place2) ∧ x.cell? ⟨g, 30, none⟩ = some (.string (ofBs head2)) ∧ x.cell? ⟨g, 31, none⟩ = some (.pointer fp2) ∧ x.cell? ⟨g, 32, none⟩ = some (.slice xo2 xn2 xc2)) := by
    intro x hx0 hx1 hxg
    have c : ∀ o, x.cell? ⟨g, o, none⟩ = w.cell? ⟨g, o, none⟩ := fun o =>
      World.cell?_of_block (w := w) (hxg.trans (hb0.block g hg))
    have kx0 := hx0.trans k0
    have kx1 := hx1.trans k1
    obtain ⟨z0, z1, z2⟩ := (cells3 kx0).1
    obtain ⟨a0, a1, a2, a3, a4, a5, a6, a7, a8, a9, a10⟩ := A0
    obtain ⟨b0, b1, b2, b3, b4, b5, b6, b7, b8, b9, b10⟩ := A1
    obtain ⟨c0, c1, c2, c3, c4, c5, c6, c7, c8, c9, c10⟩ := A2
    simp only [c]
    exact ⟨z0, z1, z2, (blk_at kx1).trans rfl, a0, a1, a2, a3, a4, a5, a6, a7, a8, a9, a10, b0, b1, b2, b3, b4, b5, b6, b7, b8, b9, b10, c0, c1, c2, c3, c4, c5, c6, c7, c8, c9, c10⟩
  clear hW HC A0 A1 A2 k0 k1
  have hne0 : w.heap.size ≠ wb := by omega
  have hne1 : w.heap.size + 1 ≠ wb := by omega
  have hne2 : w.heap.size + 2 ≠ wb := by omega
  have hgW : g < W.heap.size := by omega
  go_region_held2 (fun x => x.cell? ⟨w.heap.size, 0, none⟩ = some (.pointer (some ⟨wb, 0, none⟩)) ∧ x.cell? ⟨w.heap.size, 1, none⟩ = some (.slice co cn cc) ∧ x.cell? ⟨w.heap.size, 2, none⟩ = some (.slice ao an ac) ∧ x.cell? ⟨w.heap.size + 1, 10, none⟩ = some (.slice (some ⟨g, 0, none⟩) 3 oc) ∧ x.cell? ⟨g, 0, none⟩ = some (.int .i64 sort) ∧ x.cell? ⟨g, 1, none⟩ = some (.int .i64 ty) ∧ x.cell? ⟨g, 2, none⟩ = some (.int .i64 size) ∧ x.cell? ⟨g, 3, none⟩ = some (.bool quiet) ∧ x.cell? ⟨g, 4, none⟩ = some (.int .i64 vk) ∧ x.cell? ⟨g, 5, none⟩ = some (.int .i64 vn) ∧ x.cell? ⟨g, 6, none⟩ = some (.string (ofBs vs)) ∧ x.cell? ⟨g, 7, none⟩ = some (.int .i64 place) ∧ x.cell? ⟨g, 8, none⟩ = some (.string (ofBs head)) ∧ x.cell? ⟨g, 9, none⟩ = some (.pointer fp) ∧ x.cell? ⟨g, 10, none⟩ = some (.slice xo xn xc) ∧ x.cell? ⟨g, 11, none⟩ = some (.int .i64 sort') ∧ x.cell? ⟨g, 12, none⟩ = some (.int .i64 ty') ∧ x.cell? ⟨g, 13, none⟩ = some (.int .i64 size') ∧ x.cell? ⟨g, 14, none⟩ = some (.bool quiet') ∧ x.cell? ⟨g, 15, none⟩ = some (.int .i64 vk') ∧ x.cell? ⟨g, 16, none⟩ = some (.int .i64 vn') ∧ x.cell? ⟨g, 17, none⟩ = some (.string (ofBs vs')) ∧ x.cell? ⟨g, 18, none⟩ = some (.int .i64 place') ∧ x.cell? ⟨g, 19, none⟩ = some (.string (ofBs head')) ∧ x.cell? ⟨g, 20, none⟩ = some (.pointer fp') ∧ x.cell? ⟨g, 21, none⟩ = some (.slice xo' xn' xc') ∧ x.cell? ⟨g, 22, none⟩ = some (.int .i64 sort2) ∧ x.cell? ⟨g, 23, none⟩ = some (.int .i64 ty2) ∧ x.cell? ⟨g, 24, none⟩ = some (.int .i64 size2) ∧ x.cell? ⟨g, 25, none⟩ = some (.bool quiet2) ∧ x.cell? ⟨g, 26, none⟩ = some (.int .i64 vk2) ∧ x.cell? ⟨g, 27, none⟩ = some (.int .i64 vn2) ∧ x.cell? ⟨g, 28, none⟩ = some (.string (ofBs vs2)) ∧ x.cell? ⟨g, 29, none⟩ = some (.int .i64 place2) ∧ x.cell? ⟨g, 30, none⟩ = some (.string (ofBs head2)) ∧ x.cell? ⟨g, 31, none⟩ = some (.pointer fp2) ∧ x.cell? ⟨g, 32, none⟩ = some (.slice xo2 xn2 xc2)) (first | exact HS.out _ rfl rfl rfl | exact HS.out _ K0 K1 Kg | exact HS.out _ ((set3_ne _ _ _ _ _ _ (by omega)).trans K0) ((set3_ne _ _ _ _ _ _ (by omega)).trans K1) ((set3_ne _ _ _ _ _ _ (by omega)).trans Kg))
    (first
      | (go_at_call 218; refine HC0.mono ?_; rintro e w3 ⟨rfl, hk3⟩; have K0 := hk3.2.1 w.heap.size (by simp only [World.size_drew]; omega) hne0; have K1 := hk3.2.1 (w.heap.size + 1) (by simp only [World.size_drew]; omega) hne1; have Kg := hk3.2.1 g (by simp only [World.size_drew]; omega) hgw; obtain ⟨⟨r0, r1, r2⟩, rf0, rf1, rf2⟩ := cells3 ((hk3.2.1 (w.heap.size + 2) (by simp only [World.size_drew]; omega) hne2).trans k2); have l3 : w.heap.size + 2 < w3.heap.size := Nat.lt_of_lt_of_le (by simp only [World.size_drew]; omega) hk3.size))
  all_goals go_wp2_with fail
  all_goals
    refine bodyPost_ret (v := .tuple #[.agg #[.int .i64 r.1, .int .i64 r.2.1, .string (ofBs r.2.2)], .int .i64 0]) (by simp [results, Tryz.results146, go_sem, r0, r1, r2]) rfl ⟨rfl, ?_⟩
    exact (Kp.pre hb0.drew hwb hk3).set3 hwb (by omega) _ _ _
end Go.Proofs.YtilfjpmeededmaaGreatDoor

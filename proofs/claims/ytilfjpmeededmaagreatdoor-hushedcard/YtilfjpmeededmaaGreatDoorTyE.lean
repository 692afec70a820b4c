/- A bracket with a built-in head, completed. -/
import Derived.Test.YtilfjpmeededmaaGreatDoorTyDZ
import Derived.Deep.RegionWith
import Derived.Deep.CutRange
import Derived.Deep.DeepCutAuto
namespace Go.Proofs.YtilfjpmeededmaaGreatDoor
open Go.RowKit

/-- What builtIn makes of a bracket of which the operands are read. -/
def BuiltRes (w : World) (l : Bs) (size : Int) (q : Bool) (v : Value) (t : Int) (e : Ending) (w' : World) : Prop := Below w.heap.size w w' ∧
  ((t = 0 ∧ e = .returned (.tuple #[.agg #[.int .i64 0, .int .i64 0, .int .i64 0, .bool false, .int .i64 0, .int .i64 0, .string ⟨#[]⟩, .int .i64 0, .string ⟨#[]⟩, .pointer none, .slice none 0 0], .int .i64 3])) ∨
   (t ≠ 0 ∧ e = .returned (.tuple #[.agg #[.int .i64 4, .int .i64 t, .int .i64 size, .bool (q && !loudS l), .int .i64 0, .int .i64 0, .string ⟨#[]⟩, .int .i64 0, .string (ofBs l), .pointer none, v], .int .i64 0])))

theorem undrewB {w w2 : World} (h : Below w.drew.heap.size w.drew w2) : Below w.heap.size w w2 := ⟨h.os, h.tape, h.output, h.size, h.block⟩
theorem res_box2f {w w2 : World} {o o' : Obj} (h : Below ((w.alloc o).alloc o').heap.size ((w.alloc o).alloc o') w2) : w2.heap[w.heap.size]? = some o :=
  (h.block _ (by simp only [World.size_alloc]; omega)).trans ((Below.heap_alloc _ _ _ (by simp only [World.size_alloc]; omega)).trans (heap_alloc_new w o))

set_option maxHeartbeats 4000000 in
set_option maxRecDepth 100000 in
theorem builtIn_any (w : World) (FB : List Nat) (l : Bs) (hl : builtS l = true) (size : Int) (q : Bool) (ao : Option Addr) (n cap : Nat) (es : List Ex) (h : ExsIn w FB (.slice ao n cap) es) (hle : es.length ≤ 1000) :
    Calls Tryz.prog 349 #[.agg #[.int .i64 0, .int .i64 0, .int .i64 size, .bool q, .int .i64 0, .int .i64 0, .string ⟨#[]⟩, .int .i64 0, .string (ofBs l), .pointer none, .slice ao n cap]] w fun e w' =>
      BuiltRes w l size q (.slice ao n cap) (typeS l (es.map Ex.ty)) e w' := by
  have HT : ∀ x : World, Below w.heap.size w x → Calls Tryz.prog 378 #[.slice ao n cap] x fun e w' => ∃ v', e = .returned v' ∧ IntsIn w' v' (es.map Ex.ty) ∧ Below x.heap.size x w' :=
    fun x hx => types_any x FB _ es (h.keep hx) hle
  have HO : ∀ (x : World) (v' : Value), IntsIn x v' (es.map Ex.ty) → Calls Tryz.prog 377 #[.string (ofBs l), v'] x fun e w' => e = .returned (.int .i64 (typeS l (es.map Ex.ty))) ∧ Below x.heap.size x w' :=
    fun x v' hv => typeOf_any l hl x v' _ hv
  have HQ : ∀ x : World, Calls Tryz.prog 379 #[.string (ofBs l)] x fun e w' => e = .returned (.bool (!loudS l)) ∧ w' = x := by
    intro x; have := isQuiet_any (ofBs l) x; rw [ofBs_toList] at this; exact this
  obtain ⟨t, ht⟩ : ∃ t, t = typeS l (es.map Ex.ty) := ⟨_, rfl⟩
  obtain ⟨ks, hks⟩ : ∃ ks, ks = es.map Ex.ty := ⟨_, rfl⟩
  rw [← ht] at HO ⊢
  rw [← hks] at HT HO
  obtain ⟨u, hu⟩ : ∃ u, u = loudS l := ⟨_, rfl⟩
  rw [← hu] at HQ
  have HU : Hid (loudS l = u) := hu.symm
  clear ht hks hu h hl
  go_enter Tryz.func349, Tryz.ntmps349
  go_upto_region 2 with fail
  go_cut [] (fun wx => Below w.heap.size w wx ∧ wx.heap[w.heap.size]? = some (.cells #[.int .i64 4, .int .i64 t, .int .i64 size, .bool q, .int .i64 0, .int .i64 0, .string ⟨#[]⟩, .int .i64 0, .string (ofBs l), .pointer none, .slice ao n cap] 122 (0, 0)) ∧ wx.heap[w.heap.size + 1]? = some ex0)
  case first =>
    go_region_with (first
      | (go_at_call 378; refine (HT _ ?_).mono ?_; exact (below_box2 w _ _).drew; rintro e w2 ⟨v', rfl, hi2, hb2⟩; replace hb2 := undrewB hb2; obtain ⟨ko, kc, rfl⟩ := hi2.form; have hE2 := res_box2f hb2; obtain ⟨hR2, B2, hs2⟩ := res_box2 hb2; obtain ⟨⟨y0, y1, y2, y3, y4, y5, y6, y7, y8, y9, y10⟩, f0, f1, f2, f3, f4, f5, f6, f7, f8, f9, f10⟩ := cells11 hE2)
      | (go_at_call 377; refine (HO _ _ hi2).mono ?_; rintro e w3 ⟨rfl, hb3⟩; have hE3 := (hb3.block _ (by omega)).trans hE2; obtain ⟨⟨z0, z1, z2, z3, z4, z5, z6, z7, z8, z9, z10⟩, g0, g1, g2, g3, g4, g5, g6, g7, g8, g9, g10⟩ := cells11 hE3))
    all_goals (go_wp2_with fail; go_meet)
    all_goals exact ⟨((B2.trans (hb3.mono B2.size)).setCell (Nat.le_refl _) _), by simp [World.setCell, Array.getElem?_modify, hE3], (Below.heap_setCell _ _ _ _ (by simp)).trans ((hb3.block _ (by omega)).trans hR2)⟩
  case rest =>
    obtain ⟨B2, hE, hR⟩ := hcut
    have hs2 := block_lt hR
    obtain ⟨⟨y0, y1, y2, y3, y4, y5, y6, y7, y8, y9, y10⟩, f0, f1, f2, f3, f4, f5, f6, f7, f8, f9, f10⟩ := cells11 hE
    obtain ⟨⟨z0, z1, z2, z3, z4, z5, z6, z7, z8, z9, z10⟩, g0, g1, g2, g3, g4, g5, g6, g7, g8, g9, g10⟩ := cells11 hR
    clear hE hR HT HO
    by_cases h0 : t = 0
    · subst h0
      cases q
      · go_wp2_with (go_at_call 379; refine (HQ _).mono ?_; rintro e w4 ⟨rfl, rfl⟩)
        refine bodyPost_ret (v := .tuple #[.agg #[.int .i64 0, .int .i64 0, .int .i64 0, .bool false, .int .i64 0, .int .i64 0, .string ⟨#[]⟩, .int .i64 0, .string ⟨#[]⟩, .pointer none, .slice none 0 0], .int .i64 3]) (by simp [results, Tryz.results349, go_sem, z0, z1, z2, z3, z4, z5, z6, z7, z8, z9, z10]) rfl ⟨?_, .inl ⟨rfl, rfl⟩⟩
        repeat (refine Below.setCell ?_ (by simp) _)
        exact B2
      · go_wp2_with (go_at_call 379; refine (HQ _).mono ?_; rintro e w4 ⟨rfl, rfl⟩)
        refine bodyPost_ret (v := .tuple #[.agg #[.int .i64 0, .int .i64 0, .int .i64 0, .bool false, .int .i64 0, .int .i64 0, .string ⟨#[]⟩, .int .i64 0, .string ⟨#[]⟩, .pointer none, .slice none 0 0], .int .i64 3]) (by simp [results, Tryz.results349, go_sem, z0, z1, z2, z3, z4, z5, z6, z7, z8, z9, z10]) rfl ⟨?_, .inl ⟨rfl, rfl⟩⟩
        repeat (refine Below.setCell ?_ (by simp) _)
        exact B2
    · have hne : (t == 0) = false := by simpa using h0
      cases q
      · go_wp2_with (go_at_call 379; refine (HQ _).mono ?_; rintro e w4 ⟨rfl, rfl⟩)
        refine bodyPost_ret (v := .tuple #[.agg #[.int .i64 4, .int .i64 t, .int .i64 size, .bool (false), .int .i64 0, .int .i64 0, .string ⟨#[]⟩, .int .i64 0, .string (ofBs l), .pointer none, .slice ao n cap], .int .i64 0]) (by simp [results, Tryz.results349, go_sem, z0, z1, z2, z3, z4, z5, z6, z7, z8, z9, z10]) rfl ⟨?_, .inr ⟨h0, by rw [HU.out]; rfl⟩⟩
        repeat (refine Below.setCell ?_ (by simp) _)
        exact B2
      · go_wp2_with (go_at_call 379; refine (HQ _).mono ?_; rintro e w4 ⟨rfl, rfl⟩)
        refine bodyPost_ret (v := .tuple #[.agg #[.int .i64 4, .int .i64 t, .int .i64 size, .bool (!u), .int .i64 0, .int .i64 0, .string ⟨#[]⟩, .int .i64 0, .string (ofBs l), .pointer none, .slice ao n cap], .int .i64 0]) (by simp [results, Tryz.results349, go_sem, z0, z1, z2, z3, z4, z5, z6, z7, z8, z9, z10]) rfl ⟨?_, .inr ⟨h0, by rw [HU.out]; rfl⟩⟩
        repeat (refine Below.setCell ?_ (by simp) _)
        exact B2
end Go.Proofs.YtilfjpmeededmaaGreatDoor

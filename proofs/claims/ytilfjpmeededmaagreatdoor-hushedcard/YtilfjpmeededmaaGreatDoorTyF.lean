/- A bracket with a function's name, completed. -/
import Derived.Test.YtilfjpmeededmaaGreatDoorTyE
namespace Go.Proofs.YtilfjpmeededmaaGreatDoor
open Go.RowKit

/-- What call makes of a bracket of which the operands are read. -/
def CallS (fns : List Fn) (l : Bs) (size : Int) (q : Bool) (es : List Ex) : Except Int Ex :=
  match findS fns l with
  | none => .error 2
  | some i => match fns[i]? with
    | none => .error 2
    | some fn => if es.map Ex.ty = fn.args then .ok (.mk 5 fn.body.ty (size + fn.body.size) (q && fn.body.quiet) 0 0 [] 0 l (some i) es) else .error 3
def CallRes (w : World) (FB : List Nat) (fns : List Fn) (l : Bs) (size : Int) (q : Bool) (v : Value) (ks : List Int) (e : Ending) (w' : World) : Prop := Below w.heap.size w w' ∧
  ((findS fns l = none ∧ e = .returned (.tuple #[.agg #[.int .i64 0, .int .i64 0, .int .i64 0, .bool false, .int .i64 0, .int .i64 0, .string ⟨#[]⟩, .int .i64 0, .string ⟨#[]⟩, .pointer none, .slice none 0 0], .int .i64 2])) ∨
   (∃ (i qb : Nat) (fn : Fn), findS fns l = some i ∧ fns[i]? = some fn ∧ FB[i]? = some qb ∧
     ((ks ≠ fn.args ∧ e = .returned (.tuple #[.agg #[.int .i64 0, .int .i64 0, .int .i64 0, .bool false, .int .i64 0, .int .i64 0, .string ⟨#[]⟩, .int .i64 0, .string ⟨#[]⟩, .pointer none, .slice none 0 0], .int .i64 3])) ∨
      (ks = fn.args ∧ e = .returned (.tuple #[.agg #[.int .i64 5, .int .i64 fn.body.ty, .int .i64 (size + fn.body.size), .bool (q && fn.body.quiet), .int .i64 0, .int .i64 0, .string ⟨#[]⟩, .int .i64 0, .string (ofBs l), .pointer (some ⟨qb, 0, none⟩), v], .int .i64 0])))))
theorem findS_lt {fns : List Fn} {l : Bs} {i : Nat} (h : findS fns l = some i) : i < fns.length := by
  unfold findS at h
  obtain ⟨h, _⟩ := List.findIdx?_eq_some_iff_getElem.mp h
  exact h
theorem FnAt.cells {w : World} {FB : List Nat} {b : Nat} {fn : Fn} (h : FnAt w FB b fn) : ∃ ao cap, IntsIn w (.slice ao fn.args.length cap) fn.args ∧ w.cell? ⟨b, 1, none⟩ = some (.slice ao fn.args.length cap) ∧
    w.cell? ⟨b, 3, none⟩ = some (.int .i64 fn.body.ty) ∧ w.cell? ⟨b, 4, none⟩ = some (.int .i64 fn.body.size) ∧ w.cell? ⟨b, 5, none⟩ = some (.bool fn.body.quiet) := by
  obtain ⟨av, c, h1, h2o, h2', h3⟩ := h
  have h2 := intsIn_own h2o h2'
  obtain ⟨ao, cap, rfl⟩ := h2.form
  obtain ⟨sort, ty, size, quiet, vk, vn, vs, place, head, fi, ops, fp, ao1, n1, cap1, cs1, ht, rfl, _⟩ := h3.inv
  refine ⟨ao, cap, h2, (blk_at h1).trans rfl, ?_, ?_, ?_⟩
  · rw [ht]; exact (blk_at h1).trans rfl
  · rw [ht]; exact (blk_at h1).trans rfl
  · rw [ht]; exact (blk_at h1).trans rfl
theorem res_box3 {w w2 : World} {o o' o2 : Obj} (h : Below (((w.alloc o).alloc o').alloc o2).heap.size (((w.alloc o).alloc o').alloc o2) w2) :
    w2.heap[w.heap.size]? = some o ∧ w2.heap[w.heap.size + 1]? = some o' ∧ w2.heap[w.heap.size + 2]? = some o2 ∧ Below w.heap.size w w2 ∧ w.heap.size + 3 ≤ w2.heap.size := by
  have hs := h.size
  have a1 := heap_alloc_new (w.alloc o) o'
  have a2 := heap_alloc_new ((w.alloc o).alloc o') o2
  simp only [World.size_alloc] at a1 a2 hs
  refine ⟨?_, ?_, ?_, ?_, by omega⟩
  · exact (h.block _ (by simp only [World.size_alloc]; omega)).trans ((Below.heap_alloc _ _ _ (by simp only [World.size_alloc]; omega)).trans ((Below.heap_alloc _ _ _ (by simp only [World.size_alloc]; omega)).trans (heap_alloc_new w o)))
  · exact (h.block _ (by simp only [World.size_alloc]; omega)).trans ((Below.heap_alloc _ _ _ (by simp only [World.size_alloc]; omega)).trans a1)
  · exact (h.block _ (by simp only [World.size_alloc]; omega)).trans a2
  · exact ((below_box2 w o o').alloc (by simp only [World.size_alloc]; omega) _).trans (h.mono (by simp only [World.size_alloc]; omega))

set_option maxHeartbeats 4000000 in
set_option maxRecDepth 100000 in
theorem call_any (w : World) (FB : List Nat) (co : Option Addr) (cn cc : Nat) (pv : Value) (po : Option Addr) (pn pc : Nat) (hpv : pv = .slice po pn pc) (fo : Option Addr) (fnn fc : Nat) (fns : List Fn) (hF : FnsIn w FB (.slice fo fnn fc) fns) (hsz : ∀ fn ∈ fns, 0 ≤ fn.body.size ∧ fn.body.size ≤ 300)
    (l : Bs) (size : Int) (hs0 : 0 ≤ size) (hs1 : size ≤ 1000000) (q : Bool) (ao : Option Addr) (n cap : Nat) (es : List Ex) (h : ExsIn w FB (.slice ao n cap) es) (hle : es.length ≤ 1000) :
    Calls Tryz.prog 350 #[.agg #[.slice co cn cc, pv, .slice fo fnn fc], .agg #[.int .i64 0, .int .i64 0, .int .i64 size, .bool q, .int .i64 0, .int .i64 0, .string ⟨#[]⟩, .int .i64 0, .string (ofBs l), .pointer none, .slice ao n cap]] w fun e w' =>
      CallRes w FB fns l size q (.slice ao n cap) (es.map Ex.ty) e w' := by
  subst hpv
  have HT : ∀ x : World, Below w.heap.size w x → Calls Tryz.prog 378 #[.slice ao n cap] x fun e w' => ∃ v', e = .returned v' ∧ IntsIn w' v' (es.map Ex.ty) ∧ Below x.heap.size x w' :=
    fun x hx => types_any x FB _ es (h.keep hx) hle
  have HFd : ∀ x : World, Below w.heap.size w x → Calls Tryz.prog 78 #[.slice fo fnn fc, .string (ofBs l)] x fun e w' => (∃ p, e = .returned (.pointer p) ∧ FpIs FB (findS fns l) p) ∧ Below x.heap.size x w' :=
    fun x hx => find_any x FB _ fns l (hF.keep hx)
  obtain ⟨ks, hks⟩ : ∃ ks, ks = es.map Ex.ty := ⟨_, rfl⟩
  rw [← hks] at HT ⊢
  clear hks h
  go_enter Tryz.func350, Tryz.ntmps350
  go_wp2_with (go_at_call 78; refine (HFd _ ?c1).mono ?_)
  case c1 => exact (below_box2 w _ _).alloc (by simp only [World.size_alloc]; omega) _
  rintro e w2 ⟨⟨p, rfl, hp⟩, hb2⟩
  obtain ⟨hS2, hE2, hR2, B2, hs2⟩ := res_box3 hb2
  clear hb2 HFd
  cases hfd : findS fns l with
  | none =>
    rw [hfd] at hp
    have hp' : p = none := hp
    subst hp'
    have HF : Hid (findS fns l = none) := hfd
    obtain ⟨⟨z0, z1, z2, z3, z4, z5, z6, z7, z8, z9, z10⟩, g0, g1, g2, g3, g4, g5, g6, g7, g8, g9, g10⟩ := cells11 hR2
    clear hfd hp hS2 hE2 hR2 HT hF
    go_wp2_with fail
    refine bodyPost_ret (v := .tuple #[.agg #[.int .i64 0, .int .i64 0, .int .i64 0, .bool false, .int .i64 0, .int .i64 0, .string ⟨#[]⟩, .int .i64 0, .string ⟨#[]⟩, .pointer none, .slice none 0 0], .int .i64 2]) (by simp [results, Tryz.results350, go_sem, z0, z1, z2, z3, z4, z5, z6, z7, z8, z9, z10]) rfl ⟨?_, .inl ⟨HF.out, rfl⟩⟩
    repeat (refine Below.setCell ?_ (by simp <;> omega) _)
    exact B2
  | some i =>
    rw [hfd] at hp
    obtain ⟨qb, hq, hpe⟩ := hp
    subst hpe
    have hlt := findS_lt hfd
    obtain ⟨fn, hfn⟩ : ∃ fn, fns[i]? = some fn := ⟨_, List.getElem?_eq_getElem hlt⟩
    have hA0 : FnAt w FB qb fn := hF.choose_spec.choose_spec.2.2.2.2 i qb fn hq hfn
    have hqlt : qb < w.heap.size := by obtain ⟨av, c, h1, _⟩ := hA0; exact block_lt h1
    have hA := hA0.keep B2
    obtain ⟨go, gc, hi, u1, u3, u4, u5⟩ := hA.cells
    obtain ⟨hz0, hz1⟩ := hsz fn (List.mem_of_getElem? hfn)
    have HR : ∀ (e : Ending) (w' : World), Below w.heap.size w w' → ((ks ≠ fn.args ∧ e = .returned (.tuple #[.agg #[.int .i64 0, .int .i64 0, .int .i64 0, .bool false, .int .i64 0, .int .i64 0, .string ⟨#[]⟩, .int .i64 0, .string ⟨#[]⟩, .pointer none, .slice none 0 0], .int .i64 3])) ∨
        (ks = fn.args ∧ e = .returned (.tuple #[.agg #[.int .i64 5, .int .i64 fn.body.ty, .int .i64 (size + fn.body.size), .bool (q && fn.body.quiet), .int .i64 0, .int .i64 0, .string ⟨#[]⟩, .int .i64 0, .string (ofBs l), .pointer (some ⟨qb, 0, none⟩), .slice ao n cap], .int .i64 0]))) → Hid (CallRes w FB fns l size q (.slice ao n cap) ks e w') :=
      fun e w' hb h => ⟨hb, .inr ⟨i, qb, fn, hfd, hfn, hq, h⟩⟩
    obtain ⟨bt, hbt⟩ : ∃ x, x = fn.body.ty := ⟨_, rfl⟩
    obtain ⟨bs, hbs⟩ : ∃ x, x = fn.body.size := ⟨_, rfl⟩
    obtain ⟨bq, hbq⟩ : ∃ x, x = fn.body.quiet := ⟨_, rfl⟩
    obtain ⟨ar, has⟩ : ∃ x, x = fn.args := ⟨_, rfl⟩
    rw [← hbt] at u3 HR
    rw [← hbs] at u4 HR hz0 hz1
    rw [← hbq] at u5 HR
    rw [← has] at hi u1 HR
    obtain ⟨⟨y0, y1, y2, y3, y4, y5, y6, y7, y8, y9, y10⟩, f0, f1, f2, f3, f4, f5, f6, f7, f8, f9, f10⟩ := cells11 hE2
    clear hfd hA hA0 hF hsz hfn hq hbt hbs hbq has hS2 hlt
    go_upto_region 4 with fail
    go_cut [23] (fun s23 wx => s23 = .bool (!decide (ks = ar)) ∧ Below w2.heap.size w2 wx)
    case first =>
      go_region_with (first
        | (go_at_call 378; refine (HT _ ?_).mono ?_; exact B2.drew; rintro e w3 ⟨v', rfl, hi3, hb3⟩; replace hb3 := undrewB hb3; obtain ⟨ko, kc, rfl⟩ := hi3.form; have u1' := (hb3.cell (p := ⟨qb, 1, none⟩) (by show qb < w2.heap.size; omega)).trans u1)
        | (go_at_call 380; refine (sliEqual_any _ _ _ ks ar hi3 (hi.keep hb3)).mono ?_; rintro e w4 ⟨rfl, hb4⟩))
      all_goals (go_wp2_with fail; go_meet)
      all_goals exact ⟨rfl, hb3.trans (hb4.mono hb3.size)⟩
    case rest =>
      obtain ⟨rfl, hbx⟩ := hcut
      have hsx := hbx.size
      have BX : Below w.heap.size w wc := B2.trans (hbx.mono B2.size)
      clear y0 y1 y2 y3 y4 y5 y6 y7 y8 y9 y10 f0 f1 f2 f3 f4 f5 f6 f7 f8 f9 f10
      have hEx := (hbx.block _ (by omega)).trans hE2
      have hRx := (hbx.block _ (by omega)).trans hR2
      obtain ⟨⟨y0, y1, y2, y3, y4, y5, y6, y7, y8, y9, y10⟩, f0, f1, f2, f3, f4, f5, f6, f7, f8, f9, f10⟩ := cells11 hEx
      obtain ⟨⟨z0, z1, z2, z3, z4, z5, z6, z7, z8, z9, z10⟩, g0, g1, g2, g3, g4, g5, g6, g7, g8, g9, g10⟩ := cells11 hRx
      have v3 := (hbx.cell (p := ⟨qb, 3, none⟩) (by show qb < w2.heap.size; omega)).trans u3
      have v4 := (hbx.cell (p := ⟨qb, 4, none⟩) (by show qb < w2.heap.size; omega)).trans u4
      have v5 := (hbx.cell (p := ⟨qb, 5, none⟩) (by show qb < w2.heap.size; omega)).trans u5
      have hqne : qb ≠ w.heap.size + 1 := by omega
      clear u1 u3 u4 u5 hi hE2 hR2 HT hbx B2
      by_cases hk : ks = ar
      · have hd : decide (ks = ar) = true := by simpa using hk
        rw [hd]
        clear hd
        go_upto_region 8 with fail
        go_cut [] (fun wx => Below w.heap.size w wx ∧ wx.heap[w.heap.size + 1]? = some (.cells #[.int .i64 5, .int .i64 bt, .int .i64 size, .bool q, .int .i64 0, .int .i64 0, .string ⟨#[]⟩, .int .i64 0, .string (ofBs l), .pointer (some ⟨qb, 0, none⟩), .slice ao n cap] 122 (0, 0)) ∧ wx.heap[w.heap.size + 2]? = some ex0 ∧ wx.cell? ⟨qb, 4, none⟩ = some (.int .i64 bs) ∧ wx.cell? ⟨qb, 5, none⟩ = some (.bool bq))
        case first =>
          go_wp2_with fail
          go_meet
          refine ⟨?_, ?_, ?_, ?_, ?_⟩
          · iterate 3 (refine Below.setCell ?_ (by simp) _)
            exact BX
          · simp [World.setCell, Array.getElem?_modify, hEx]
          · rw [Below.heap_setCell _ _ _ _ (by simp), Below.heap_setCell _ _ _ _ (by simp), Below.heap_setCell _ _ _ _ (by simp)]; exact hRx
          · simpa [World.cell?_setCell_other, hqne] using v4
          · simpa [World.cell?_setCell_other, hqne] using v5
        case rest =>
          clear y0 y1 y2 y3 y4 y5 y6 y7 y8 y9 y10 f0 f1 f2 f3 f4 f5 f6 f7 f8 f9 f10 z0 z1 z2 z3 z4 z5 z6 z7 z8 z9 z10 g0 g1 g2 g3 g4 g5 g6 g7 g8 g9 g10 v3 v4 v5 BX hsx hEx hRx
          obtain ⟨BX, hEx, hRx, v4, v5⟩ := hcut
          have hsx := block_lt hRx
          obtain ⟨⟨y0, y1, y2, y3, y4, y5, y6, y7, y8, y9, y10⟩, f0, f1, f2, f3, f4, f5, f6, f7, f8, f9, f10⟩ := cells11 hEx
          go_upto_region 9 with fail
          go_cut [] (fun wx => Below w.heap.size w wx ∧ wx.heap[w.heap.size + 1]? = some (.cells #[.int .i64 5, .int .i64 bt, .int .i64 (size + bs), .bool q, .int .i64 0, .int .i64 0, .string ⟨#[]⟩, .int .i64 0, .string (ofBs l), .pointer (some ⟨qb, 0, none⟩), .slice ao n cap] 122 (0, 0)) ∧ wx.heap[w.heap.size + 2]? = some ex0 ∧ wx.cell? ⟨qb, 4, none⟩ = some (.int .i64 bs) ∧ wx.cell? ⟨qb, 5, none⟩ = some (.bool bq))
          case first =>
            go_region
            go_wp2_with fail
            go_meet
            refine ⟨(BX.setCell (by simp) _).drew, ?_, (Below.heap_setCell _ _ _ _ (by simp)).trans hRx, ?_, ?_⟩
            · simp [World.setCell, World.drew, Array.getElem?_modify, hEx]
            · simpa [World.cell?_setCell_other, hqne] using v4
            · simpa [World.cell?_setCell_other, hqne] using v5
          case rest =>
            clear y0 y1 y2 y3 y4 y5 y6 y7 y8 y9 y10 f0 f1 f2 f3 f4 f5 f6 f7 f8 f9 f10 v4 v5 BX hsx hEx hRx
            obtain ⟨BX, hEx, hRx, v4, v5⟩ := hcut
            have hsx := block_lt hRx
            obtain ⟨⟨y0, y1, y2, y3, y4, y5, y6, y7, y8, y9, y10⟩, f0, f1, f2, f3, f4, f5, f6, f7, f8, f9, f10⟩ := cells11 hEx
            obtain ⟨⟨z0, z1, z2, z3, z4, z5, z6, z7, z8, z9, z10⟩, g0, g1, g2, g3, g4, g5, g6, g7, g8, g9, g10⟩ := cells11 hRx
            cases q
            · go_wp2_with fail
              refine bodyPost_ret (v := .tuple #[.agg #[.int .i64 5, .int .i64 bt, .int .i64 (size + bs), .bool false, .int .i64 0, .int .i64 0, .string ⟨#[]⟩, .int .i64 0, .string (ofBs l), .pointer (some ⟨qb, 0, none⟩), .slice ao n cap], .int .i64 0]) (by simp [results, Tryz.results350, go_sem, z0, z1, z2, z3, z4, z5, z6, z7, z8, z9, z10]) rfl ((HR _ _ ?_ (.inr ⟨hk, by simp⟩)).out)
              iterate 12 (refine Below.setCell ?_ (by simp <;> omega) _)
              exact BX
            · go_wp2_with fail
              refine bodyPost_ret (v := .tuple #[.agg #[.int .i64 5, .int .i64 bt, .int .i64 (size + bs), .bool bq, .int .i64 0, .int .i64 0, .string ⟨#[]⟩, .int .i64 0, .string (ofBs l), .pointer (some ⟨qb, 0, none⟩), .slice ao n cap], .int .i64 0]) (by simp [results, Tryz.results350, go_sem, z0, z1, z2, z3, z4, z5, z6, z7, z8, z9, z10]) rfl ((HR _ _ ?_ (.inr ⟨hk, by simp⟩)).out)
              iterate 12 (refine Below.setCell ?_ (by simp <;> omega) _)
              exact BX
      · have hd : decide (ks = ar) = false := by simpa using hk
        rw [hd]
        clear hd
        go_wp2_with fail
        refine bodyPost_ret (v := .tuple #[.agg #[.int .i64 0, .int .i64 0, .int .i64 0, .bool false, .int .i64 0, .int .i64 0, .string ⟨#[]⟩, .int .i64 0, .string ⟨#[]⟩, .pointer none, .slice none 0 0], .int .i64 3]) (by simp [results, Tryz.results350, go_sem, z0, z1, z2, z3, z4, z5, z6, z7, z8, z9, z10]) rfl ((HR _ _ ?_ (.inl ⟨hk, rfl⟩)).out)
        repeat (refine Below.setCell ?_ (by simp <;> omega) _)
        exact BX
end Go.Proofs.YtilfjpmeededmaaGreatDoor

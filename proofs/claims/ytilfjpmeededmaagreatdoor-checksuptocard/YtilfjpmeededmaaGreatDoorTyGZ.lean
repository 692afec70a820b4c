import Derived.Test.YtilfjpmeededmaaGreatDoorTyEZ
set_option linter.unusedVariables false
set_option linter.unusedSimpArgs false
namespace Go.Proofs.YtilfjpmeededmaaGreatDoor
open Go.RowKit
def CallS (fns : List Fn) (l : Bs) (size : Int) (q : Bool) (es : List Ex) : Except Int Ex :=
  match findS fns l with
  | none => .error 2
  | some i => match fns[i]? with
    | none => .error 2
    | some fn => if es.map Ex.ty = fn.args then .ok (.mk 5 fn.body.ty (size + fn.body.size) (q && fn.body.quiet) 0 0 [] 0 l (some i) es) else .error 3
def CallRes (w : World) (FB : List Nat) (fns : List Fn) (l : Bs) (size : Int) (q : Bool) (v : Value) (ks : List Int) (e : Ending) (w' : World) : Prop := Below w.heap.size w w' ∧
  ((findS fns l = none ∧ e = .returned (.tuple #[.agg #[.int .i64 0, .int .i64 0, .int .i64 0, .bool false, .int .i64 0, .int .i64 0, .string ⟨#[]⟩, .int .i64 0, .string ⟨#[]⟩, .pointer none, .slice none 0 0], .int .i64 2])) ∨
   (∃ (i qb : Nat) (fn : Fn), findS fns l = some i ∧ fns[i]? = some fn ∧ FB[i]? = some qb ∧
     ((ks ≠ fn.args ∧ e = .returned (.tuple #[.agg #[.int .i64 0, .int .i64 0, .int .i64 0, .bool false, .int .i64 0, .int .i64 0, .string ⟨#[]⟩, .int .i64 0, .string ⟨#[]⟩, .pointer none, .slice none 0 0], .int .i64 3])) ∨
      (ks = fn.args ∧ e = .returned (.tuple #[.agg #[.int .i64 5, .int .i64 fn.body.ty, .int .i64 (size + fn.body.size), .bool (q && fn.body.quiet), .int .i64 0, .int .i64 0, .string ⟨#[]⟩, .int .i64 0, .string (ofBs l), .pointer (some ⟨qb, 0, none⟩), v], .int .i64 0])))))
theorem findS_lt {fns : List Fn} {l : Bs} {i : Nat} (h : findS fns l = some i) : i < fns.length := by
  unfold findS at h
  obtain ⟨h, _⟩ := List.findIdx?_eq_some_iff_getElem.mp h
  exact h
theorem FnAt.cells {w : World} {FB : List Nat} {b : Nat} {fn : Fn} (h : FnAt w FB b fn) : ∃ ao cap, IntsIn w (.slice ao fn.args.length cap) fn.args ∧ w.cell? ⟨b, 1, none⟩ = some (.slice ao fn.args.length cap) ∧
    w.cell? ⟨b, 3, none⟩ = some (.int .i64 fn.body.ty) ∧ w.cell? ⟨b, 4, none⟩ = some (.int .i64 fn.body.size) ∧ w.cell? ⟨b, 5, none⟩ = some (.bool fn.body.quiet) := by
  obtain ⟨av, c, h1, h2o, h2', h3⟩ := h
  have h2 := intsIn_own h2o h2'
  obtain ⟨ao, cap, rfl⟩ := h2.form
  obtain ⟨sort, ty, size, quiet, vk, vn, vs, place, head, fi, ops, fp, ao1, n1, cap1, cs1, ht, rfl, _⟩ := h3.inv
  refine ⟨ao, cap, h2, (blk_at h1).trans rfl, ?_, ?_, ?_⟩
  · rw [ht]; exact (blk_at h1).trans rfl
  · rw [ht]; exact (blk_at h1).trans rfl
  · rw [ht]; exact (blk_at h1).trans rfl
theorem res_box3 {w w2 : World} {o o' o2 : Obj} (h : Below (((w.alloc o).alloc o').alloc o2).heap.size (((w.alloc o).alloc o').alloc o2) w2) :
    w2.heap[w.heap.size]? = some o ∧ w2.heap[w.heap.size + 1]? = some o' ∧ w2.heap[w.heap.size + 2]? = some o2 ∧ Below w.heap.size w w2 ∧ w.heap.size + 3 ≤ w2.heap.size := by
  have hs := h.size
  have a1 := heap_alloc_new (w.alloc o) o'
  have a2 := heap_alloc_new ((w.alloc o).alloc o') o2
  simp only [World.size_alloc] at a1 a2 hs
  refine ⟨?_, ?_, ?_, ?_, by omega⟩
  · exact (h.block _ (by simp only [World.size_alloc]; omega)).trans ((Below.heap_alloc _ _ _ (by simp only [World.size_alloc]; omega)).trans ((Below.heap_alloc _ _ _ (by simp only [World.size_alloc]; omega)).trans (heap_alloc_new w o)))
  · exact (h.block _ (by simp only [World.size_alloc]; omega)).trans ((Below.heap_alloc _ _ _ (by simp only [World.size_alloc]; omega)).trans a1)
  · exact (h.block _ (by simp only [World.size_alloc]; omega)).trans a2
  · exact ((below_box2 w o o').alloc (by simp only [World.size_alloc]; omega) _).trans (h.mono (by simp only [World.size_alloc]; omega))
set_option maxHeartbeats 4000000 in
set_option maxRecDepth 100000 in
theorem call_any (w : World) (FB : List Nat) (co : Option Addr) (cn cc : Nat) (pv : Value) (po : Option Addr) (pn pc : Nat) (hpv : pv = .slice po pn pc) (fo : Option Addr) (fnn fc : Nat) (fns : List Fn) (hF : FnsIn w FB (.slice fo fnn fc) fns) (hsz : ∀ fn ∈ fns, 0 ≤ fn.body.size ∧ fn.body.size ≤ 300)
    (l : Bs) (size : Int) (hs0 : 0 ≤ size) (hs1 : size ≤ 1000000) (q : Bool) (ao : Option Addr) (n cap : Nat) (es : List Ex) (h : ExsIn w FB (.slice ao n cap) es) (hle : es.length ≤ 1000) :
    Calls Tryz.prog 350 #[.agg #[.slice co cn cc, pv, .slice fo fnn fc], .agg #[.int .i64 0, .int .i64 0, .int .i64 size, .bool q, .int .i64 0, .int .i64 0, .string ⟨#[]⟩, .int .i64 0, .string (ofBs l), .pointer none, .slice ao n cap]] w fun e w' =>
      CallRes w FB fns l size q (.slice ao n cap) (es.map Ex.ty) e w' := by
  subst hpv
  have HT : ∀ x : World, Below w.heap.size w x → Calls Tryz.prog 378 #[.slice ao n cap] x fun e w' => ∃ v', e = .returned v' ∧ IntsIn w' v' (es.map Ex.ty) ∧ Below x.heap.size x w' :=
    fun x hx => types_any x FB _ es (h.keep hx) hle
  have HFd : ∀ x : World, Below w.heap.size w x → Calls Tryz.prog 78 #[.slice fo fnn fc, .string (ofBs l)] x fun e w' => (∃ p, e = .returned (.pointer p) ∧ FpIs FB (findS fns l) p) ∧ Below x.heap.size x w' :=
    fun x hx => find_any x FB _ fns l (hF.keep hx)
  obtain ⟨ks, hks⟩ : ∃ ks, ks = es.map Ex.ty := ⟨_, rfl⟩
  rw [← hks] at HT ⊢
  clear hks h
  go_enter Tryz.func350, Tryz.ntmps350
  go_wp2_with (go_at_call 78; refine (HFd _ ?c1).mono ?_)
  case c1 => exact (below_box2 w _ _).alloc (by simp only [World.size_alloc]; omega) _
  rintro e w2 ⟨⟨p, rfl, hp⟩, hb2⟩
  obtain ⟨hS2, hE2, hR2, B2, hs2⟩ := res_box3 hb2
  clear hb2 HFd
  cases hfd : findS fns l with
  | none =>
    rw [hfd] at hp
    have hp' : p = none := hp
    subst hp'
    have HF : Hid (findS fns l = none) := hfd
    obtain ⟨⟨z0, z1, z2, z3, z4, z5, z6, z7, z8, z9, z10⟩, g0, g1, g2, g3, g4, g5, g6, g7, g8, g9, g10⟩ := cells11 hR2
    clear hfd hp hS2 hE2 hR2 HT hF
    go_wp2_with fail
    refine bodyPost_ret (v := .tuple #[.agg #[.int .i64 0, .int .i64 0, .int .i64 0, .bool false, .int .i64 0, .int .i64 0, .string ⟨#[]⟩, .int .i64 0, .string ⟨#[]⟩, .pointer none, .slice none 0 0], .int .i64 2]) (by simp [results, Tryz.results350, go_sem, z0, z1, z2, z3, z4, z5, z6, z7, z8, z9, z10]) rfl ⟨?_, .inl ⟨HF.out, rfl⟩⟩
    repeat (refine Below.setCell ?_ (by simp <;> omega) _)
    exact B2
  | some i =>
    rw [hfd] at hp
    obtain ⟨qb, hq, hpe⟩ := hp
    subst hpe
    have hlt := findS_lt hfd
    obtain ⟨fn, hfn⟩ : ∃ fn, fns[i]? = some fn := ⟨_, List.getElem?_eq_getElem hlt⟩
    have hA0 : FnAt w FB qb fn := hF.choose_spec.choose_spec.2.2.2.2 i qb fn hq hfn
    have hqlt : qb < w.heap.size := by obtain ⟨av, c, h1, _⟩ := hA0; exact block_lt h1
    have hA := hA0.keep B2
    obtain ⟨go, gc, hi, u1, u3, u4, u5⟩ := hA.cells
    obtain ⟨hz0, hz1⟩ := hsz fn (List.mem_of_getElem? hfn)
    have HR : ∀ (e : Ending) (w' : World), Below w.heap.size w w' → ((ks ≠ fn.args ∧ e = .returned (.tuple #[.agg #[.int .i64 0, .int .i64 0, .int .i64 0, .bool false, .int .i64 0, .int .i64 0, .string ⟨#[]⟩, .int .i64 0, .string ⟨#[]⟩, .pointer none, .slice none 0 0], .int .i64 3])) ∨
        (ks = fn.args ∧ e = .returned (.tuple #[.agg #[.int .i64 5, .int .i64 fn.body.ty, .int .i64 (size + fn.body.size), .bool (q && fn.body.quiet), .int .i64 0, .int .i64 0, .string ⟨#[]⟩, .int .i64 0, .string (ofBs l), .pointer (some ⟨qb, 0, none⟩), .slice ao n cap], .int .i64 0]))) → Hid (CallRes w FB fns l size q (.slice ao n cap) ks e w') :=
      fun e w' hb h => ⟨hb, .inr ⟨i, qb, fn, hfd, hfn, hq, h⟩⟩
    obtain ⟨bt, hbt⟩ : ∃ x, x = fn.body.ty := ⟨_, rfl⟩
    obtain ⟨bs, hbs⟩ : ∃ x, x = fn.body.size := ⟨_, rfl⟩
    obtain ⟨bq, hbq⟩ : ∃ x, x = fn.body.quiet := ⟨_, rfl⟩
    obtain ⟨ar, has⟩ : ∃ x, x = fn.args := ⟨_, rfl⟩
    rw [← hbt] at u3 HR
    rw [← hbs] at u4 HR hz0 hz1
    rw [← hbq] at u5 HR
    rw [← has] at hi u1 HR
    obtain ⟨⟨y0, y1, y2, y3, y4, y5, y6, y7, y8, y9, y10⟩, f0, f1, f2, f3, f4, f5, f6, f7, f8, f9, f10⟩ := cells11 hE2
    clear hfd hA hA0 hF hsz hfn hq hbt hbs hbq has hS2 hlt
    go_upto_region 4 with fail
    go_cut [23] (fun s23 wx => s23 = .bool (!decide (ks = ar)) ∧ Below w2.heap.size w2 wx)
    case first =>
      go_region_with (first
        | (go_at_call 378; refine (HT _ ?_).mono ?_; exact B2.drew; rintro e w3 ⟨v', rfl, hi3, hb3⟩; replace hb3 := undrewB hb3; obtain ⟨ko, kc, rfl⟩ := hi3.form; have u1' := (hb3.cell (p := ⟨qb, 1, none⟩) (by show qb < w2.heap.size; omega)).trans u1)
        | (go_at_call 380; refine (sliEqual_any _ _ _ ks ar hi3 (hi.keep hb3)).mono ?_; rintro e w4 ⟨rfl, hb4⟩))
      all_goals (go_wp2_with fail; go_meet)
      all_goals exact ⟨rfl, hb3.trans (hb4.mono hb3.size)⟩
    case rest =>
      obtain ⟨rfl, hbx⟩ := hcut
      have hsx := hbx.size
      have BX : Below w.heap.size w wc := B2.trans (hbx.mono B2.size)
      clear y0 y1 y2 y3 y4 y5 y6 y7 y8 y9 y10 f0 f1 f2 f3 f4 f5 f6 f7 f8 f9 f10
      have hEx := (hbx.block _ (by omega)).trans hE2
      have hRx := (hbx.block _ (by omega)).trans hR2
      obtain ⟨⟨y0, y1, y2, y3, y4, y5, y6, y7, y8, y9, y10⟩, f0, f1, f2, f3, f4, f5, f6, f7, f8, f9, f10⟩ := cells11 hEx
      obtain ⟨⟨z0, z1, z2, z3, z4, z5, z6, z7, z8, z9, z10⟩, g0, g1, g2, g3, g4, g5, g6, g7, g8, g9, g10⟩ := cells11 hRx
      have v3 := (hbx.cell (p := ⟨qb, 3, none⟩) (by show qb < w2.heap.size; omega)).trans u3
      have v4 := (hbx.cell (p := ⟨qb, 4, none⟩) (by show qb < w2.heap.size; omega)).trans u4
      have v5 := (hbx.cell (p := ⟨qb, 5, none⟩) (by show qb < w2.heap.size; omega)).trans u5
      have hqne : qb ≠ w.heap.size + 1 := by omega
      clear u1 u3 u4 u5 hi hE2 hR2 HT hbx B2
      by_cases hk : ks = ar
      · have hd : decide (ks = ar) = true := by simpa using hk
        rw [hd]
        clear hd
        go_upto_region 8 with fail
        go_cut [] (fun wx => Below w.heap.size w wx ∧ wx.heap[w.heap.size + 1]? = some (.cells #[.int .i64 5, .int .i64 bt, .int .i64 size, .bool q, .int .i64 0, .int .i64 0, .string ⟨#[]⟩, .int .i64 0, .string (ofBs l), .pointer (some ⟨qb, 0, none⟩), .slice ao n cap] 122 (0, 0)) ∧ wx.heap[w.heap.size + 2]? = some ex0 ∧ wx.cell? ⟨qb, 4, none⟩ = some (.int .i64 bs) ∧ wx.cell? ⟨qb, 5, none⟩ = some (.bool bq))
        case first =>
          go_wp2_with fail
          go_meet
          refine ⟨?_, ?_, ?_, ?_, ?_⟩
          · iterate 3 (refine Below.setCell ?_ (by simp) _)
            exact BX
          · simp [World.setCell, Array.getElem?_modify, hEx]
          · rw [Below.heap_setCell _ _ _ _ (by simp), Below.heap_setCell _ _ _ _ (by simp), Below.heap_setCell _ _ _ _ (by simp)]; exact hRx
          · simpa [World.cell?_setCell_other, hqne] using v4
          · simpa [World.cell?_setCell_other, hqne] using v5
        case rest =>
          clear y0 y1 y2 y3 y4 y5 y6 y7 y8 y9 y10 f0 f1 f2 f3 f4 f5 f6 f7 f8 f9 f10 z0 z1 z2 z3 z4 z5 z6 z7 z8 z9 z10 g0 g1 g2 g3 g4 g5 g6 g7 g8 g9 g10 v3 v4 v5 BX hsx hEx hRx
          obtain ⟨BX, hEx, hRx, v4, v5⟩ := hcut
          have hsx := block_lt hRx
          obtain ⟨⟨y0, y1, y2, y3, y4, y5, y6, y7, y8, y9, y10⟩, f0, f1, f2, f3, f4, f5, f6, f7, f8, f9, f10⟩ := cells11 hEx
          go_upto_region 9 with fail
          go_cut [] (fun wx => Below w.heap.size w wx ∧ wx.heap[w.heap.size + 1]? = some (.cells #[.int .i64 5, .int .i64 bt, .int .i64 (size + bs), .bool q, .int .i64 0, .int .i64 0, .string ⟨#[]⟩, .int .i64 0, .string (ofBs l), .pointer (some ⟨qb, 0, none⟩), .slice ao n cap] 122 (0, 0)) ∧ wx.heap[w.heap.size + 2]? = some ex0 ∧ wx.cell? ⟨qb, 4, none⟩ = some (.int .i64 bs) ∧ wx.cell? ⟨qb, 5, none⟩ = some (.bool bq))
          case first =>
            go_region
            go_wp2_with fail
            go_meet
            refine ⟨(BX.setCell (by simp) _).drew, ?_, (Below.heap_setCell _ _ _ _ (by simp)).trans hRx, ?_, ?_⟩
            · simp [World.setCell, World.drew, Array.getElem?_modify, hEx]
            · simpa [World.cell?_setCell_other, hqne] using v4
            · simpa [World.cell?_setCell_other, hqne] using v5
          case rest =>
            clear y0 y1 y2 y3 y4 y5 y6 y7 y8 y9 y10 f0 f1 f2 f3 f4 f5 f6 f7 f8 f9 f10 v4 v5 BX hsx hEx hRx
            obtain ⟨BX, hEx, hRx, v4, v5⟩ := hcut
            have hsx := block_lt hRx
            obtain ⟨⟨y0, y1, y2, y3, y4, y5, y6, y7, y8, y9, y10⟩, f0, f1, f2, f3, f4, f5, f6, f7, f8, f9, f10⟩ := cells11 hEx
            obtain ⟨⟨z0, z1, z2, z3, z4, z5, z6, z7, z8, z9, z10⟩, g0, g1, g2, g3, g4, g5, g6, g7, g8, g9, g10⟩ := cells11 hRx
            cases q
            · go_wp2_with fail
              refine bodyPost_ret (v := .tuple #[.agg #[.int .i64 5, .int .i64 bt, .int .i64 (size + bs), .bool false, .int .i64 0, .int .i64 0, .string ⟨#[]⟩, .int .i64 0, .string (ofBs l), .pointer (some ⟨qb, 0, none⟩), .slice ao n cap], .int .i64 0]) (by simp [results, Tryz.results350, go_sem, z0, z1, z2, z3, z4, z5, z6, z7, z8, z9, z10]) rfl ((HR _ _ ?_ (.inr ⟨hk, by simp⟩)).out)
              iterate 12 (refine Below.setCell ?_ (by simp <;> omega) _)
              exact BX
            · go_wp2_with fail
              refine bodyPost_ret (v := .tuple #[.agg #[.int .i64 5, .int .i64 bt, .int .i64 (size + bs), .bool bq, .int .i64 0, .int .i64 0, .string ⟨#[]⟩, .int .i64 0, .string (ofBs l), .pointer (some ⟨qb, 0, none⟩), .slice ao n cap], .int .i64 0]) (by simp [results, Tryz.results350, go_sem, z0, z1, z2, z3, z4, z5, z6, z7, z8, z9, z10]) rfl ((HR _ _ ?_ (.inr ⟨hk, by simp⟩)).out)
              iterate 12 (refine Below.setCell ?_ (by simp <;> omega) _)
              exact BX
      · have hd : decide (ks = ar) = false := by simpa using hk
        rw [hd]
        clear hd
        go_wp2_with fail
        refine bodyPost_ret (v := .tuple #[.agg #[.int .i64 0, .int .i64 0, .int .i64 0, .bool false, .int .i64 0, .int .i64 0, .string ⟨#[]⟩, .int .i64 0, .string ⟨#[]⟩, .pointer none, .slice none 0 0], .int .i64 3]) (by simp [results, Tryz.results350, go_sem, z0, z1, z2, z3, z4, z5, z6, z7, z8, z9, z10]) rfl ((HR _ _ ?_ (.inl ⟨hk, rfl⟩)).out)
        repeat (refine Below.setCell ?_ (by simp <;> omega) _)
        exact BX
end Go.Proofs.YtilfjpmeededmaaGreatDoor

namespace Go.Proofs.YtilfjpmeededmaaGreatDoor
open Go.RowKit
def sumSize : List Ex → Int
  | [] => 0
  | e :: es => e.size + sumSize es
def finS (fns : List Fn) (l : Bs) (es : List Ex) : Except Int Ex :=
  if builtS l then (if typeS l (es.map Ex.ty) = 0 then .error 3 else .ok (.mk 4 (typeS l (es.map Ex.ty)) (1 + sumSize es) (es.all Ex.quiet && !loudS l) 0 0 [] 0 l none es))
  else CallS fns l (1 + sumSize es) (es.all Ex.quiet) es
def parT (ps : List Int) (l : Bs) : Except Int Ex :=
  match ps[(l.getD 1 0).toNat - 49]? with
  | none => .error 2
  | some t => .ok (parEx t ((l.getD 1 0).toNat - 49 : Nat))
abbrev Sc := List (Bs × Int) × List Int
def colEx (t : Int) (p : Nat) : Ex := .mk 2 t 1 true 0 0 [] p [] none []
def colIx (cols : List (Bs × Int)) (l : Bs) : Option Nat := cols.findIdx? (fun c => c.1 == l)
def colT (cols : List (Bs × Int)) (l : Bs) : Except Int Ex := match colIx cols l with
  | none => .error 2
  | some i => match cols[i]? with
    | none => .error 2
    | some c => .ok (colEx c.2 i)
def afterS (fns : List Fn) (l : Bs) (o : Except Int (List Ex)) : Except Int Ex := match o with
  | .error e => .error e
  | .ok es => finS fns l es
mutual
def typS (atoi : Bs → Int) (ps : Sc) (fns : List Fn) : Tr → Except Int Ex
  | .mk k tx br ops => if br then afterS fns tx (typsS atoi ps fns ops) else if k = 6 then colT ps.1 tx else if k = 7 then parT ps.2 tx else .ok (singleS atoi k tx)
def typsS (atoi : Bs → Int) (ps : Sc) (fns : List Fn) : List Tr → Except Int (List Ex)
  | [] => .ok []
  | t :: ts => match typS atoi ps fns t with
    | .error e => .error e
    | .ok x => match typsS atoi ps fns ts with
      | .error e => .error e
      | .ok xs => .ok (x :: xs)
end
def thenS (es : List Ex) (o : Except Int (List Ex)) : Except Int (List Ex) := match o with
  | .error e => .error e
  | .ok xs => .ok (es ++ xs)
theorem thenS_ok (atoi : Bs → Int) (ps : Sc) (fns : List Fn) (es : List Ex) (t : Tr) (ts : List Tr) (x : Ex) (h : typS atoi ps fns t = .ok x) : thenS es (typsS atoi ps fns (t :: ts)) = thenS (es ++ [x]) (typsS atoi ps fns ts) := by
  rw [typsS, h]
  cases typsS atoi ps fns ts <;> simp [thenS]
theorem thenS_err (atoi : Bs → Int) (ps : Sc) (fns : List Fn) (es : List Ex) (t : Tr) (ts : List Tr) (n : Int) (h : typS atoi ps fns t = .error n) : thenS es (typsS atoi ps fns (t :: ts)) = .error n := by
  rw [typsS, h]; rfl
theorem sumSize_append (a b : List Ex) : sumSize (a ++ b) = sumSize a + sumSize b := by
  induction a with
  | nil => simp [sumSize]
  | cons x xs ih => simp [sumSize, ih]; omega
theorem infoEx : (Tryz.prog.info? 122).map (fun i => (i.zero, i.size, i.bytes)) = some (some (.agg #[.int .i64 0, .int .i64 0, .int .i64 0, .bool false, .int .i64 0, .int .i64 0, .string ⟨#[]⟩, .int .i64 0, .string ⟨#[]⟩, .pointer none, .slice none 0 0]), 11, 120) := by kernel_rfl
theorem exs_step {wr w5 W w6 : World} {FB : List Nat} {Eb : Nat} {v v' : Value} {cs news : List Value} {xs : List Ex} {x : Ex}
    (hE : Eb < wr.heap.size) (hown : wr.ownsRow (Eb + 1) 122 11 v xs.length cs) (hxs : IsExs wr FB (fun g => Eb < g ∧ v.ownBlock ≠ some g) cs xs)
    (hb5 : Below wr.heap.size wr w5) (hx : IsEx w5 FB (fun g => wr.heap.size ≤ g) news x)
    (hW : w5.heap.size ≤ W.heap.size ∧ ∀ g, g < w5.heap.size → W.heap[g]? = w5.heap[g]?)
    (hg6 : W.grownBy w6 v.ownBlock) (hat : v'.ownBlock = v.ownBlock ∨ v'.ownBlock = some W.heap.size) :
    IsExs w6 FB (fun g => Eb < g ∧ v'.ownBlock ≠ some g) (cs ++ news) (xs ++ [x]) ∧ (∀ g, g < wr.heap.size → v.ownBlock ≠ some g → w6.heap[g]? = wr.heap[g]?) := by
  have s5 := hb5.size
  have keep : ∀ g, g < w5.heap.size → v.ownBlock ≠ some g → w6.heap[g]? = w5.heap[g]? := by
    intro g h1 h2
    rw [hg6.block g (by omega) (fun e => h2 e.symm), hW.2 g h1]
  have keep5 : ∀ g, g < wr.heap.size → v.ownBlock ≠ some g → w6.heap[g]? = wr.heap[g]? := by
    intro g h1 h3
    rw [keep g (by omega) h3, hb5.block g h1]
  have vlt : ∀ g, v.ownBlock = some g → g < wr.heap.size := fun g hg => (hown.lt g hg).2
  have hs := hW.1
  refine ⟨IsExs.snoc ?_ ?_, keep5⟩
  · refine hxs.bounded.move (fun g hg => keep5 g hg.2 hg.1.2) (fun g hg => ⟨hg.1.1, ?_⟩)
    rcases hat with e | e
    · rw [e]; exact hg.1.2
    · rw [e]; intro e2; have e3 := Option.some.inj e2; have := hg.2; omega
  · refine hx.bounded.move (fun g hg => keep g hg.2 (fun e => by have := vlt g e; have := hg.1; omega)) (fun g hg => ⟨by have := hg.1; omega, ?_⟩)
    rcases hat with e | e
    · rw [e]; intro e2; have := vlt g e2; have := hg.1; omega
    · rw [e]; intro e2; have e3 := Option.some.inj e2; have := hg.2; omega
mutual
inductive Fit (P : Int → Bs → Prop) : Tr → Prop
  | mk {k : Int} {tx : Bs} {br : Bool} {ops : List Tr} : (br = false → P k tx) → Fits P ops → Fit P (.mk k tx br ops)
inductive Fits (P : Int → Bs → Prop) : List Tr → Prop
  | nil : Fits P []
  | cons {t : Tr} {ts : List Tr} : Fit P t → Fits P ts → Fits P (t :: ts)
end
theorem Fits.get {P : Int → Bs → Prop} {ts : List Tr} (h : Fits P ts) (i : Nat) (hi : i < ts.length) : Fit P ts[i] := by
  induction ts generalizing i with
  | nil => simp at hi
  | cons t ts ih =>
    cases h with
    | cons a b =>
      cases i with
      | zero => exact a
      | succ i => simpa using ih b i (by simpa using hi)
def NamesIn (w : World) (v : Value) (ns : List (Bs × Int)) : Prop := ∃ ao cap, v = .slice ao ns.length cap ∧ ns.length ≤ 1000 ∧ (ns = [] ∨ ∃ b, ao = some ⟨b, 0, none⟩ ∧ b < w.heap.size ∧ ∀ (i : Nat) (n : Bs × Int), ns[i]? = some n → w.cell? ⟨b, i * 2, none⟩ = some (.string (ofBs n.1)) ∧ w.cell? ⟨b, i * 2 + 1, none⟩ = some (.int .i64 n.2))
theorem NamesIn.keep {w x : World} {v : Value} {ns : List (Bs × Int)} (h : NamesIn w v ns) (hb : Below w.heap.size w x) : NamesIn x v ns := by
  obtain ⟨ao, cap, h1, h2, h3⟩ := h
  refine ⟨ao, cap, h1, h2, ?_⟩
  rcases h3 with h | ⟨b, e, hl, hc⟩
  · exact .inl h
  · refine .inr ⟨b, e, by have := hb.size; omega, fun i n hn => ?_⟩
    obtain ⟨a, c⟩ := hc i n hn
    exact ⟨(hb.cell (p := ⟨b, _, none⟩) hl).trans a, (hb.cell (p := ⟨b, _, none⟩) hl).trans c⟩
theorem namesIn_nil (w : World) (cap : Nat) : NamesIn w (.slice none 0 cap) [] := ⟨none, cap, rfl, by simp, .inl rfl⟩
structure ScIn (w : World) (FB : List Nat) (nv pv fv : Value) (ps : Sc) (fns : List Fn) : Prop where
  ns : NamesIn w nv ps.1
  ps : IntsIn w pv ps.2
  fns : FnsIn w FB fv fns
theorem ScIn.keep {w x : World} {FB : List Nat} {nv pv fv : Value} {ps : Sc} {fns : List Fn} (h : ScIn w FB nv pv fv ps fns) (hb : Below w.heap.size w x) : ScIn x FB nv pv fv ps fns := ⟨h.ns.keep hb, h.ps.keep hb, h.fns.keep hb⟩
mutual
def nodT : Tr → Nat
  | .mk _ _ _ ops => 1 + nodTs ops
def nodTs : List Tr → Nat
  | [] => 0
  | t :: ts => nodT t + nodTs ts
end
theorem nodTs_append (a b : List Tr) : nodTs (a ++ b) = nodTs a + nodTs b := by
  induction a with
  | nil => simp [nodTs]
  | cons x xs ih => simp [nodTs, ih]; omega
theorem nodTs_take (ops : List Tr) (i : Nat) (h : i < ops.length) : nodTs (ops.take (i + 1)) = nodTs (ops.take i) + nodT ops[i] ∧ nodTs (ops.take (i + 1)) ≤ nodTs ops := by
  have e : ops.take (i + 1) = ops.take i ++ [ops[i]] := List.take_succ_eq_append_getElem h
  have e2 := congrArg nodTs (List.take_append_drop (i + 1) ops)
  rw [nodTs_append] at e2
  refine ⟨by rw [e, nodTs_append]; simp [nodTs], by omega⟩
theorem singleS_size (atoi : Bs → Int) (k : Int) (l : Bs) : (singleS atoi k l).size = 1 := by
  unfold singleS; split
  · rfl
  · split
    · rfl
    · split <;> rfl
theorem finS_size {fns : List Fn} (hf : ∀ fn ∈ fns, 0 ≤ fn.body.size ∧ fn.body.size ≤ 300) {l : Bs} {es : List Ex} {x : Ex} (h : finS fns l es = .ok x) (h0 : 0 ≤ sumSize es) : 0 ≤ x.size ∧ x.size ≤ 301 + sumSize es := by
  unfold finS at h
  split at h
  · split at h
    · cases h
    · cases h; simp only [Ex.size]; omega
  · unfold CallS at h
    split at h
    · cases h
    · split at h
      · cases h
      · next fn hfn =>
        split at h
        · cases h
          have := hf fn (List.mem_of_getElem? hfn)
          show 0 ≤ 1 + sumSize es + fn.body.size ∧ 1 + sumSize es + fn.body.size ≤ 301 + sumSize es
          omega
        · cases h
theorem typS_size (atoi : Bs → Int) (ps : Sc) {fns : List Fn} (hf : ∀ fn ∈ fns, 0 ≤ fn.body.size ∧ fn.body.size ≤ 300) (N : Nat) : ∀ (t : Tr), SizeOf.sizeOf t ≤ N → ∀ x, typS atoi ps fns t = .ok x → 0 ≤ x.size ∧ x.size ≤ 301 * nodT t := by
  induction N with
  | zero => intro t ht; obtain ⟨k, tx, br, ops⟩ := t; simp at ht
  | succ N ih =>
    have ihs : ∀ (ts : List Tr), (∀ t ∈ ts, SizeOf.sizeOf t ≤ N) → ∀ es, typsS atoi ps fns ts = .ok es → 0 ≤ sumSize es ∧ sumSize es ≤ 301 * nodTs ts := by
      intro ts
      induction ts with
      | nil => intro _ es h; rw [typsS] at h; cases h; simp [sumSize, nodTs]
      | cons t ts iht =>
        intro hts es h
        rw [typsS] at h
        split at h
        · cases h
        · next x hx =>
          split at h
          · cases h
          · next xs hxs =>
            cases h
            have h1 := ih t (hts t (by simp)) x hx
            have h2 := iht (fun t ht => hts t (by simp [ht])) xs hxs
            simp only [sumSize, nodTs]; omega
    intro t ht x hx
    obtain ⟨k, tx, br, ops⟩ := t
    simp only [Tr.mk.sizeOf_spec] at ht
    rw [typS] at hx
    simp only [nodT]
    split at hx
    · unfold afterS at hx
      split at hx
      · cases hx
      · next es hes =>
        have h1 := ihs ops (fun t hto => by have := List.sizeOf_lt_of_mem hto; omega) es hes
        have := finS_size hf hx h1.1
        omega
    · split at hx
      · unfold colT at hx
        split at hx
        · cases hx
        · split at hx
          · cases hx
          · cases hx; simp only [colEx, Ex.size]; omega
      · split at hx
        · unfold parT at hx
          split at hx
          · cases hx
          · cases hx; simp only [parEx, Ex.size]; omega
        · cases hx; rw [singleS_size]; omega
def ExprSpec (atoi : Bs → Int) (P : Int → Bs → Prop) (N : Nat) : Prop := ∀ (t : Tr) (w : World) (FB : List Nat) (ps : Sc) (fns : List Fn) (qo : Option Addr) (qn qc : Nat) (po : Option Addr) (pn pc : Nat) (fo : Option Addr) (fnn fc : Nat) (c : Array Value), SizeOf.sizeOf t ≤ N → nodT t ≤ 1000 → Fit P t → IsTr w (fun _ => True) c.toList t →
  ScIn w FB (.slice qo qn qc) (.slice po pn pc) (.slice fo fnn fc) ps fns → (∀ fn ∈ fns, 0 ≤ fn.body.size ∧ fn.body.size ≤ 300) →
  Calls Tryz.prog 209 #[.agg #[.slice qo qn qc, .slice po pn pc, .slice fo fnn fc], .agg c] w fun e w' => Typd w FB (typS atoi ps fns t) e w'
end Go.Proofs.YtilfjpmeededmaaGreatDoor

import Derived.Test.YtilfjpmeededmaaGreatDoorLoHZ
set_option linter.unusedVariables false
set_option linter.unusedSimpArgs false
namespace Go.Proofs.YtilfjpmeededmaaGreatDoor
open Go.RowKit
theorem box_three (w : World) (a b c : Obj) : ((((w.alloc a).alloc b).alloc c).heap[w.heap.size]? = some a ∧ (((w.alloc a).alloc b).alloc c).heap[w.heap.size + 1]? = some b ∧ (((w.alloc a).alloc b).alloc c).heap[w.heap.size + 2]? = some c) ∧ Below w.heap.size w (((w.alloc a).alloc b).alloc c) ∧ (((w.alloc a).alloc b).alloc c).heap.size = w.heap.size + 3 := by
  have s1 : (w.alloc a).heap.size = w.heap.size + 1 := by simp [World.size_alloc]
  have s2 : ((w.alloc a).alloc b).heap.size = w.heap.size + 2 := by simp [World.size_alloc]
  refine ⟨⟨?_, ?_, ?_⟩, (((Below.refl _ w).alloc (Nat.le_refl _) _).alloc (by rw [s1]; omega) _).alloc (by rw [s2]; omega) _, by simp [World.size_alloc]⟩
  · rw [Below.heap_alloc _ _ _ (by rw [s2]; omega), Below.heap_alloc _ _ _ (by rw [s1]; omega)]; exact heap_alloc_new w _
  · rw [Below.heap_alloc _ _ _ (by rw [s2]; omega), ← s1]; exact heap_alloc_new _ _
  · rw [← s2]; exact heap_alloc_new _ _
def FunLent (w0 w : World) (mb : Nat) (fu : RowS) (tv : Value) (wx : World) : Prop := ∃ (fv : Value) (F : List Ln), (wx.heap[w.heap.size]? = some (.cells #[.slice fu.ro fu.rn fu.rc, tv] 43 (0, 0)) ∧ wx.heap[w.heap.size + 1]? = some (.cells #[.slice none 0 0, .slice none 0 0] 43 (0, 0)) ∧ wx.heap[w.heap.size + 2]? = some (.cells #[fv, .slice none 0 0] 43 (0, 0))) ∧
  IsSl fv ∧ Loaned w0 wx mb [] [] [] [] [] F ∧ RowLent F fu fv ∧ F.length ≤ 1 ∧ Below mb w wx
def AllLent (w0 w : World) (mb : Nat) (fu : RowS) (to' : Option Addr) (tn tc : Nat) (wx : World) : Prop := ∃ (fo : Option Addr) (fn fc : Nat) (bo : Option Addr) (bn bc : Nat) (C R X K B F : List Ln), (wx.heap[w.heap.size + 1]? = some (.cells #[.slice none 0 0, .slice none 0 0] 43 (0, 0)) ∧ wx.heap[w.heap.size + 2]? = some (.cells #[.slice fo fn fc, .slice bo bn bc] 43 (0, 0))) ∧
  (Lens C R X K B F ∧ Loaned w0 wx mb C R X K B F) ∧ RowLent F fu (.slice fo fn fc) ∧ RLent B to' tn tc (.slice bo bn bc) ∧ Below mb w wx
def BaseLent (w0 w : World) (mb : Nat) (fu : RowS) (to' : Option Addr) (tn tc : Nat) (e : Ending) (w' : World) : Prop :=
  ∃ (fo : Option Addr) (fn fc : Nat) (bo : Option Addr) (bn bc : Nat) (C R X K B F : List Ln), e = .returned (.agg #[.slice fo fn fc, .slice bo bn bc]) ∧ (Lens C R X K B F ∧ Loaned w0 w' mb C R X K B F) ∧ RowLent F fu (.slice fo fn fc) ∧ RLent B to' tn tc (.slice bo bn bc) ∧ Below mb w w'
def zT (i j : Nat) : Value := if j < i * 6 ∧ j % 6 = 0 then .string ⟨#[98, 101, 121, 111, 110, 100]⟩ else zeroT (j % 6)
theorem zT_zero (j : Nat) : zT 0 j = zeroT (j % 6) := by unfold zT; rw [if_neg (by omega)]
theorem zT_name {w : World} {g N i : Nat} {T : TypeId} {es : List Value} (h : w.rowIs g T N (cpF es (zT i))) (hi : es.length ≤ i * 6) : (w.setCell ⟨g, i * 6, none⟩ (.string ⟨#[98, 101, 121, 111, 110, 100]⟩)).rowIs g T N (cpF es (zT (i + 1))) := by
  refine (h.set (i * 6) _).congr fun j hj => ?_
  unfold cpF zT
  by_cases e : j = i * 6
  · subst e; rw [if_pos rfl, dif_neg (by omega), if_pos (by omega)]
  · rw [if_neg e]
    by_cases hl : j < es.length
    · rw [dif_pos hl, dif_pos hl]
    · rw [dif_neg hl, dif_neg hl]
      by_cases hh : j < i * 6 ∧ j % 6 = 0
      · rw [if_pos hh, if_pos (by omega)]
      · rw [if_neg hh, if_neg (by omega)]
theorem tab_laid {w : World} {g N i : Nat} {T : TypeId} {es : List Value} {f : Nat → Value} (h : w.rowIs g T N (cpF es f)) (hi : es.length = i * 6) (a0 a1 a2 a3 a4 a5 : Value) :
    ((((((w.setCell ⟨g, i * 6, none⟩ a0).setCell ⟨g, i * 6 + 1, none⟩ a1).setCell ⟨g, i * 6 + 2, none⟩ a2).setCell ⟨g, i * 6 + 3, none⟩ a3).setCell ⟨g, i * 6 + 4, none⟩ a4).setCell ⟨g, i * 6 + 5, none⟩ a5).rowIs g T N (cpF (es ++ [a0, a1, a2, a3, a4, a5]) f) := by
  have h1 := cp_snoc h hi a0
  have h2 := cp_snoc h1 (i := i * 6 + 1) (by simp [hi]) a1
  have h3 := cp_snoc h2 (i := i * 6 + 2) (by simp [hi]) a2
  have h4 := cp_snoc h3 (i := i * 6 + 3) (by simp [hi]) a3
  have h5 := cp_snoc h4 (i := i * 6 + 4) (by simp [hi]) a4
  have h6 := cp_snoc h5 (i := i * 6 + 5) (by simp [hi]) a5
  simpa using h6
theorem zT_far {n j : Nat} {es : List Value} (hj : j < (n + 3) * 6) : cpF es (zT (n + 3)) j = lentF 6 es farT j := by
  unfold cpF lentF zT farT
  by_cases h : j < es.length
  · rw [dif_pos h, dif_pos h]
  · rw [dif_neg h, dif_neg h]
    by_cases h6 : j % 6 = 0
    · rw [if_pos ⟨hj, h6⟩, if_pos h6]
    · rw [if_neg (fun hc => h6 hc.2), if_neg h6]
theorem set6_oth (w : World) (g o : Nat) (a0 a1 a2 a3 a4 a5 : Value) (q : Nat) (hq : q ≠ g) : ((((((w.setCell ⟨g, o, none⟩ a0).setCell ⟨g, o + 1, none⟩ a1).setCell ⟨g, o + 2, none⟩ a2).setCell ⟨g, o + 3, none⟩ a3).setCell ⟨g, o + 4, none⟩ a4).setCell ⟨g, o + 5, none⟩ a5).heap[q]? = w.heap[q]? := by
  rw [Below.heap_setCell _ _ _ _ hq, Below.heap_setCell _ _ _ _ hq, Below.heap_setCell _ _ _ _ hq, Below.heap_setCell _ _ _ _ hq, Below.heap_setCell _ _ _ _ hq, Below.heap_setCell _ _ _ _ hq]
theorem set6_bel {B : Nat} {y w : World} (h : Below B y w) (g o : Nat) (hg : B ≤ g) (a0 a1 a2 a3 a4 a5 : Value) : Below B y ((((((w.setCell ⟨g, o, none⟩ a0).setCell ⟨g, o + 1, none⟩ a1).setCell ⟨g, o + 2, none⟩ a2).setCell ⟨g, o + 3, none⟩ a3).setCell ⟨g, o + 4, none⟩ a4).setCell ⟨g, o + 5, none⟩ a5) :=
  (((((h.setCell (p := ⟨g, _, none⟩) hg _).setCell (p := ⟨g, _, none⟩) hg _).setCell (p := ⟨g, _, none⟩) hg _).setCell (p := ⟨g, _, none⟩) hg _).setCell (p := ⟨g, _, none⟩) hg _).setCell (p := ⟨g, _, none⟩) hg _
structure TabMid (w0 w : World) (mb nb g : Nat) (C R X K F : List Ln) (f : Nat → Value) (N : Nat) (v3 v5 : Value) (fu : Value) (arr : Array Value) (x : World) : Prop where
  bx : x.heap[nb]? = some (.cells arr 134 (0, 0))
  l : Loaned w0 x mb C R X K [] F
  b : Below mb w x
  out : x.rowIs g 134 N f
  b3 : x.heap[w.heap.size]? = some (.cells #[fu, v3] 43 (0, 0))
  b4 : x.heap[w.heap.size + 1]? = some (.cells #[.slice none 0 0, .slice none 0 0] 43 (0, 0))
  b5 : x.heap[w.heap.size + 2]? = some (.cells #[v5, .slice none 0 0] 43 (0, 0))
theorem TabMid.call {w0 w : World} {mb nb g : Nat} {C R X K F C' R' X' K' : List Ln} {f : Nat → Value} {N : Nat} {v3 v5 fu : Value} {arr : Array Value} {x y : World} (h : TabMid w0 w mb nb g C R X K F f N v3 v5 fu arr x) (hl : Loaned w0 y mb C' R' X' K' [] F) (hb : Below mb x y) (hk : KeepL x y lendTs) : TabMid w0 w mb nb g C' R' X' K' F f N v3 v5 fu arr y :=
  ⟨(hk _ _ _ _ h.bx (by decide)).trans h.bx, hl, h.b.trans hb, rowIs_typedL h.out hk (by decide), (hk _ _ _ _ h.b3 (by decide)).trans h.b3, (hk _ _ _ _ h.b4 (by decide)).trans h.b4, (hk _ _ _ _ h.b5 (by decide)).trans h.b5⟩
theorem TabMid.put {w0 w : World} {mb nb g : Nat} {C R X K F : List Ln} {f : Nat → Value} {N : Nat} {v3 v5 fu : Value} {arr : Array Value} {x : World} (h : TabMid w0 w mb nb g C R X K F f N v3 v5 fu arr x) (hm : mb ≤ nb) (hg : g ≠ nb) (hw : w.heap.size + 3 ≤ nb) (k : Nat) (v : Value) : TabMid w0 w mb nb g C R X K F f N v3 v5 fu (arr.setIfInBounds k v) (x.setCell ⟨nb, k, none⟩ v) := by
  have hb := h.bx
  have ho : ∀ q, q ≠ nb → (x.setCell ⟨nb, k, none⟩ v).heap[q]? = x.heap[q]? := fun q hq => Below.heap_setCell _ _ _ _ hq
  exact ⟨by simp [World.setCell, Array.getElem?_modify, hb], h.l.otherT ho ⟨_, hb⟩, h.b.setCell (p := ⟨nb, k, none⟩) hm _, h.out.setOther (a := ⟨nb, k, none⟩) hg _, (ho _ (by omega)).trans h.b3, (ho _ (by omega)).trans h.b4, (ho _ (by omega)).trans h.b5⟩
def TabInv (w0 w : World) (mb g : Nat) (fu : RowS) (bv : Value) (F : List Ln) (fv : Value) (tn : Nat) (tabs : List TabS) (i : Nat) (wr : World) : Prop := ∃ (C R X K : List Ln) (es : List Value), (C.length ≤ i * 1048576 ∧ R.length ≤ i ∧ X.length ≤ i ∧ K.length ≤ i) ∧ es.length = (min i tn) * 6 ∧
  (wr.heap[w.heap.size]? = some (.cells #[.slice fu.ro fu.rn fu.rc, bv] 43 (0, 0)) ∧ wr.heap[w.heap.size + 1]? = some (.cells #[.slice none 0 0, .slice none 0 0] 43 (0, 0)) ∧ wr.heap[w.heap.size + 2]? = some (.cells #[fv, .slice none 0 0] 43 (0, 0))) ∧
  Loaned w0 wr mb C R X K [] F ∧ TabsLent K R X (tabs.take i) es ∧ wr.rowIs g 134 ((tn + 3) * 6) (cpF es (zT i)) ∧ Below mb w wr
set_option maxHeartbeats 8000000 in
set_option maxRecDepth 100000 in
theorem loansBase_any (w0 w : World) (mb : Nat) (hL : Loaned w0 w mb [] [] [] [] [] []) (h0 : Below w0.heap.size w0 w) (h0m : w0.heap.size ≤ mb) (fo : Option Addr) (fn fc : Nat) (fcs : List Value) (hF : SrcOk TyF w0 3 ⟨fo, fn, fc, fcs⟩) (to' : Option Addr) (tn tc : Nat) (tabs : List TabS) (htn : tn ≤ 1048576) (hnilT : to' = none → tn = 0 ∧ tc = 0) (hTs : TabsSrc w0 to' tn tabs) (hTok : ∀ s ∈ tabs, TabOk w0 s) :
    Calls Tryz.prog 111 #[.pointer (some ⟨mb, 0, none⟩), .agg #[.slice fo fn fc, .slice to' tn tc]] w fun e w' => BaseLent w0 w mb ⟨fo, fn, fc, fcs⟩ to' tn tc e w' := by
  obtain ⟨i0, hi, hz0, hz1, hz2⟩ := info_parts infoFuncL
  obtain ⟨i1, hj, hj0, hj1, hj2⟩ := info_parts infoFuncLoan
  have hml : mb < w.heap.size := by obtain ⟨_, _, _, _, _, _, _, h1, _⟩ := hL; exact ln_lt h1
  have hs3 : (Tryz.prog.info? 39).map (·.size) = some 3 := by rw [hi]; simp [hz1]
  obtain ⟨W, hW⟩ : ∃ W, W = ((w.alloc (.cells #[.slice fo fn fc, .slice to' tn tc] 43)).alloc (.cells #[.slice none 0 0, .slice none 0 0] 43)).alloc (.cells #[.slice none 0 0, .slice none 0 0] 43) := ⟨_, rfl⟩
  obtain ⟨⟨hb3, hb4, hb5⟩, hBW, hsW⟩ := box_three w (.cells #[.slice fo fn fc, .slice to' tn tc] 43) (.cells #[.slice none 0 0, .slice none 0 0] 43) (.cells #[.slice none 0 0, .slice none 0 0] 43)
  rw [← hW] at hb3 hb4 hb5 hBW hsW
  have HATW : Hid (((w.alloc (.cells #[.slice fo fn fc, .slice to' tn tc] 43)).alloc (.cells #[.slice none 0 0, .slice none 0 0] 43)).alloc (.cells #[.slice none 0 0, .slice none 0 0] 43) = W) := hW.symm
  have hLW := hL.keep hBW
  have h0W : Below w0.heap.size w0 W := h0.trans (hBW.mono h0.size)
  have hnilF := hF.nil
  have hFs := hF.small
  have hFw := hF.want
  have hF1 := hF.one
  have HFT : Hid _ := hF.ty
  dsimp only at hnilF hFs hFw hF1
  have HNT : Hid _ := hnilT
  have HTS : Hid _ := hTs
  have HTK : Hid _ := hTok
  clear hW hF hnilT hTs hTok
  go_enter Tryz.func111, Tryz.ntmps111
  go_upto_if 15 with fail
  rw [HATW.out]
  clear HATW
  go_cut [] (fun wx => FunLent w0 w mb ⟨fo, fn, fc, fcs⟩ (.slice to' tn tc) wx)
  case first =>
    clear HNT HTS HTK htn
    cases fo with
    | none =>
      obtain ⟨rfl, rfl⟩ := hnilF rfl
      go_wp2_with fail
      go_meet
      exact ⟨.slice none 0 0, [], ⟨hb3, hb4, hb5⟩, ⟨_, _, _, rfl⟩, hLW, .inl ⟨rfl, rfl⟩, by simp, hBW.mono (by omega)⟩
    | some so =>
      have HWT : Hid _ := hFw
      have hsw := hFw.keep h0W
      have x3 : W.cell? ⟨w.heap.size, 0, none⟩ = some (.slice (some so) fn fc) := (blk_at hb3).trans rfl
      have hxl : w.heap.size < W.heap.size := by omega
      have HSW : Hid _ := hsW
      have hx5 : w.heap.size + 2 < W.heap.size := by omega
      clear hnilF hFw hsW
      go_wp2_with (first
        | (at_make; refine wpList_make_z _ rfl _ _ 40 rfl 39 i0 _ Tryz.underlying40 hi hz0 .i64 .i64 (fn + 3) _ rfl rfl (by omega) (by rw [hz2]; omega) (by omega) 3 hz1 ?_; intro w2 f2 hs2 hb2 hr2 HF2; have x3 := (hb2.cell (p := ⟨w.heap.size, 0, none⟩) hxl).trans x3; have hxl2 : w.heap.size < w2.heap.size := by omega)
        | (refine wpList_copy_z rfl (.tmp 22) (.tmp 24) 40 40 rfl 39 3 Tryz.underlying40 hs3 W.heap.size (fn + 3) (fn + 3) (some so) fn fc rfl rfl ((fn + 3) * 3) f2 39 hr2 fcs (by omega) hsw.1 (hsw.keep hb2).src (by have := hsw.1; omega) hF1 ?_; intro w3 hs3' hr3 hb3' ho3))
      have B3 : Below W.heap.size W w3 := hb3' _ _ (Nat.le_refl _) hb2
      have hg3 : w3.rowIs W.heap.size 39 ((fn + 3) * 3) (ovF 3 farF (cpF fcs f2) (fn * 3) ((fn + 0) * 3)) := hr3.congr fun j _ => (ovF_none _ _ _ _ _).symm
      clear hr2 hr3 hb3' ho3 hb2 hs2 hs3' x3 hxl2
      go_loopw [8] (fun iv wr => ∃ m : Nat, m ≤ 3 ∧ iv = .int .i64 ((fn + m : Nat) : Int) ∧ wr.rowIs W.heap.size 39 ((fn + 3) * 3) (ovF 3 farF (cpF fcs f2) (fn * 3) ((fn + m) * 3)) ∧ Below W.heap.size W wr) (fun iv _ => (fn + 3) - (intOf iv).toNat)
      case atStart => exact ⟨0, by omega, by go_num, hg3, B3⟩
      case round =>
        obtain ⟨m, hm, rfl, hg, hB⟩ := hrel
        clear hg3 B3
        by_cases hlt : m < 3
        · have hgl := hg.lt
          have c0 := hg.cell (i := (fn + m) * 3) (by omega)
          have c1 := hg.cell (i := (fn + m) * 3 + 1) (by omega)
          have c2 := hg.cell (i := (fn + m) * 3 + 2) (by omega)
          have f0 := hg.frozen ((fn + m) * 3)
          have f1 := hg.frozen ((fn + m) * 3 + 1)
          have f3 := hg.frozen ((fn + m) * 3 + 2)
          go_wp2_with fail
          go_roundw
          case rel => exact ⟨m + 1, by omega, by go_num, ov_step3 hg (by omega) rfl rfl rfl, ((hB.setCell (p := ⟨W.heap.size, _, none⟩) (Nat.le_refl _) _).setCell (p := ⟨W.heap.size, _, none⟩) (Nat.le_refl _) _).setCell (p := ⟨W.heap.size, _, none⟩) (Nat.le_refl _) _⟩
          case measure => simp [intOf]; omega
        · obtain rfl : m = 3 := by omega
          have hrow : wr.rowIs W.heap.size 39 ((fn + 3) * 3) (lentF 3 fcs farF) := hg.congr fun j hj => ov_lent HWT.out.1 j hj
          obtain ⟨vc, vr, vx, vk, vb, vf, ⟨s1, s2, s3, s4, s5, s6⟩, hO, hC, hR, hX, hK, hBt, hFn⟩ := hLW.keep hB
          obtain ⟨a, an, ac, rfl⟩ := s6
          have hmr := ln_lt hO
          have a0 : wr.cell? ⟨mb, 6, none⟩ = some (.slice a an ac) := (blk_at hO).trans rfl
          have hgl := hrow.lt
          have hb3r := (hB.block _ (by omega)).trans hb3
          have hb4r := (hB.block _ (by have := HSW.out; omega)).trans hb4
          have hb5r := (hB.block _ (by have := HSW.out; omega)).trans hb5
          have x3 : wr.cell? ⟨w.heap.size, 0, none⟩ = some (.slice (some so) fn fc) := (blk_at hb3r).trans rfl
          have hxr : w.heap.size < wr.heap.size := ln_lt hb3r
          have hnew : LnIn (WtL TyF w0 3) wr 39 3 farF (mb + 1) ⟨W.heap.size, fn, some so, fc, fcs⟩ := ⟨hrow, HWT.out.1, by show mb + 1 ≤ W.heap.size; omega, hFs, HWT.out, HFT.out⟩
          have hgs : ∀ x ∈ ([] : List Ln), x.g < W.heap.size := fun x hx => by simp at hx
          have HOR : Hid _ := hO
          have HLR : Hid _ := hFn
          have HNW : Hid _ := hnew
          have HRS : Hid _ := (⟨hC, hR, hX, hK, hBt⟩ : _ ∧ _ ∧ _ ∧ _ ∧ _)
          have H345 : Hid _ := (⟨hb3r, hb4r, hb5r⟩ : _ ∧ _ ∧ _)
          have HOWN : ∀ o : Obj, (wr.alloc o).drew.ownsRow (mb + 1) 361 2 (.slice a an ac) 0 [] := fun o => World.ownsRow.drew (World.ownsRow.alloc hFn.own o)
          clear hg hsw hO hFn hnew hC hR hX hK hBt hrow hb3r hb4r hb5r hLW hL hb3 hb4 hb5
          go_upto_region 10 with fail
          have hmn : mb ≠ w.heap.size + 2 := by omega
          have hmn1 : mb ≠ w.heap.size + 1 + 1 := by omega
          go_region_law (refine step_append_lies _ rfl (.tmp 41) (.tmp 46) 252 rfl (mb + 1) 361 i1 _ 2 48 Tryz.underlying252 hj hj0 hj1 hj2 rfl (by decide) (.slice a an ac) 0 [] (by simp [Act.eval]) (HOWN _) ⟨wr.heap.size, 0, none⟩ 1 1 [.slice (some ⟨W.heap.size, 0, none⟩) (fn + 3) (fn + 3), .slice (some so) fn fc] (by simp [Act.eval]) rfl (World.news_of_block (heap_alloc_new wr _)) (by intro u hu; simp at hu; rcases hu with rfl | rfl <;> rfl) (by decide) (by unfold maxLen; omega) (by omega) (by simp [World.size_alloc]; omega) (wr.heap.size + 1) (by simp [World.size_alloc]) ?_; intro g7 cap7 w7 hown7 hgrow7 hat7 hlt7; have kO := grown_typed HLR.out.own (((Below.refl _ wr).alloc (Nat.le_refl _) _).drew) hgrow7 HOR.out (by decide); have k5 := grown_typed HLR.out.own (((Below.refl _ wr).alloc (Nat.le_refl _) _).drew) hgrow7 H345.out.2.2 (by decide); have hb7 := ln_lt kO; have h57 := ln_lt k5; have r0 : w7.cell? ⟨mb, 6, none⟩ = some (.slice a an ac) := (blk_at kO).trans rfl; have r0f : w7.frozen? ⟨mb, 6, none⟩ = false := (by simp [World.frozen?, kO]); have r5 : w7.cell? ⟨w.heap.size + 2, 0, none⟩ = some (.slice none 0 0) := (blk_at k5).trans rfl; have r5f : w7.frozen? ⟨w.heap.size + 2, 0, none⟩ = false := (by simp [World.frozen?, k5]))
          all_goals go_wp2_with fail
          all_goals go_meet
          all_goals
            obtain ⟨_, A1, A2, A3, A4⟩ := lend_fin (w := wr) (k := 6) (l := ⟨W.heap.size, fn, some so, fc, fcs⟩) HOR.out HLR.out HNW.out hgs (by decide) (by decide) (Below.refl _ _) (KeepT.refl _ _ _) (((Below.refl _ wr).alloc (Nat.le_refl _) _).drew) hgrow7 hown7 (.slice (some ⟨g7, 0, none⟩) (0 + 1) cap7)
            obtain ⟨hC, hR, hX, hK, hBt⟩ := HRS.out
            obtain ⟨hb3r, hb4r, hb5r⟩ := H345.out
            have k3 := (A4 _ _ _ _ hb3r (by decide) (by decide)).trans hb3r
            have k4 := (A4 _ _ _ _ hb4r (by decide) (by decide)).trans hb4r
            have k5 := (A4 _ _ _ _ hb5r (by decide) (by decide)).trans hb5r
            have LF : Loaned w0 (w7.setCell ⟨mb, 6, none⟩ (.slice (some ⟨g7, 0, none⟩) (0 + 1) cap7)) mb [] [] [] [] [] [⟨W.heap.size, fn, some so, fc, fcs⟩] :=
              ⟨vc, vr, vx, vk, vb, .slice (some ⟨g7, 0, none⟩) (0 + 1) cap7, ⟨s1, s2, s3, s4, s5, ⟨_, _, _, rfl⟩⟩, A1, hC.typed A4 (by decide) (by decide) (by decide) (by decide), hR.typed A4 (by decide) (by decide) (by decide) (by decide), hX.typed A4 (by decide) (by decide) (by decide) (by decide), hK.typed A4 (by decide) (by decide) (by decide) (by decide), hBt.typed A4 (by decide) (by decide) (by decide) (by decide), A2⟩
            refine ⟨.slice (some ⟨W.heap.size, 0, none⟩) fn (fn + 3), [⟨W.heap.size, fn, some so, fc, fcs⟩], ⟨(Below.heap_setCell _ _ _ _ (by show w.heap.size ≠ w.heap.size + 2; omega)).trans k3, (Below.heap_setCell _ _ _ _ (by show w.heap.size + 1 ≠ w.heap.size + 2; omega)).trans k4, by simp [World.setCell, Array.getElem?_modify] at k5 ⊢; simp [k5]⟩, ⟨_, _, _, rfl⟩, LF.other (g := w.heap.size + 2) (T' := 43) (fun q hq => Below.heap_setCell _ _ _ _ hq) ⟨_, k5⟩ (by decide), .inr ⟨W.heap.size, rfl, by simp⟩, by simp, ?_⟩
            exact (((hBW.mono (by omega)).trans (hB.mono (by omega))).trans A3).setCell (p := ⟨w.heap.size + 2, 0, none⟩) (by show mb ≤ w.heap.size + 2; omega) _
  case rest =>
    obtain ⟨fv, F, ⟨hb3', hb4', hb5'⟩, ⟨fo', fn', fc', rfl⟩, hLF, hfl, hF1', hBc⟩ := hcut
    clear hb3 hb4 hb5 hLW hL hnilF hFs hFw hF1 h0W hs3 hi hz0 hz1 hz2 hj hj0 hj1 hj2 hBW hsW
    obtain ⟨i0, hi, hz0, hz1, hz2⟩ := info_parts infoTabL
    obtain ⟨i1, hj, hj0, hj1, hj2⟩ := info_parts infoTabLoan
    generalize hwx : wc = wx at *
    clear hwx
    have y1 : wx.cell? ⟨w.heap.size, 1, none⟩ = some (.slice to' tn tc) := (blk_at hb3').trans rfl
    have hyl := ln_lt hb3'
    have hyl2 := ln_lt hb5'
    go_upto_if 56 with fail
    go_cut [] (fun wy => AllLent w0 w mb ⟨fo, fn, fc, fcs⟩ to' tn tc wy)
    case first =>
      cases to' with
      | none =>
        obtain ⟨rfl, rfl⟩ := HNT.out rfl
        go_wp2_with fail
        go_meet
        exact ⟨fo', fn', fc', none, 0, 0, [], [], [], [], [], F, ⟨hb4', hb5'⟩, ⟨⟨by simp, by simp, by simp, by simp, by simp, by omega⟩, hLF⟩, hfl, .inl ⟨rfl, rfl⟩, hBc⟩
      | some so =>
        go_wp2_with (at_make; refine wpList_make_z _ rfl _ _ 41 rfl 134 i0 _ Tryz.underlying41 hi hz0 .i64 .i64 (tn + 3) _ rfl rfl (by omega) (by rw [hz2]; omega) (by omega) 6 hz1 ?_; intro w2 f2 hs2 hb2 hr2 HF2)
        have I0 : TabInv w0 w mb wx.heap.size ⟨fo, fn, fc, fcs⟩ (.slice (some so) tn tc) F (.slice fo' fn' fc') tn tabs 0 w2 := ⟨[], [], [], [], [], ⟨by simp, by simp, by simp, by simp⟩, by simp, ⟨(hb2.block _ hyl).trans hb3', (hb2.block _ (ln_lt hb4')).trans hb4', (hb2.block _ hyl2).trans hb5'⟩, hLF.keep hb2, ⟨by simp, fun i s h => by simp at h⟩, hr2.congr fun j hj => by
          rw [HF2.out]
          simp only [cpF, List.length_nil, Nat.not_lt_zero, dite_false, zT_zero]
          have h6 : j % 6 < 6 := Nat.mod_lt _ (by omega)
          show #[Value.string ⟨#[]⟩, .slice none 0 0, .slice none 0 0, .int .i64 0, .string ⟨#[]⟩, .slice none 0 0][j % 6]! = _
          generalize j % 6 = m at h6
          match m, h6 with
          | 0, _ | 1, _ | 2, _ | 3, _ | 4, _ | 5, _ => rfl, hBc.trans (hb2.mono (by omega))⟩
        have hxg : w.heap.size + 3 ≤ wx.heap.size := by omega
        clear hr2 hb2 hs2 y1 hLF hb3' hb4' hb5'
        go_loopw [11] (fun iv wr => ∃ i : Nat, i ≤ tn + 3 ∧ iv = .int .i64 (i : Int) ∧ TabInv w0 w mb wx.heap.size ⟨fo, fn, fc, fcs⟩ (.slice (some so) tn tc) F (.slice fo' fn' fc') tn tabs i wr) (fun iv _ => (tn + 3) - (intOf iv).toNat)
        case atStart => exact ⟨0, Nat.zero_le _, rfl, I0⟩
        case round =>
          clear I0
          obtain ⟨i, hin, rfl, C, R, X, K, es, ⟨hlC, hlR, hlX, hlK⟩, hes, ⟨hb3, hb4, hb5⟩, hLr, hTL, hout, hB⟩ := hrel
          by_cases hlt : i < tn + 3
          · by_cases hltn : i < tn
            · obtain ⟨bb, off, rfl, hbb, hcell⟩ : ∃ bb off, so = ⟨bb, off, none⟩ ∧ bb < w0.heap.size ∧ ∀ (i : Nat) (s : TabS), tabs[i]? = some s → w0.cell? ⟨bb, off + i * 6, none⟩ = some (.string s.name) ∧ w0.cell? ⟨bb, off + i * 6 + 1, none⟩ = some (.slice s.k.ro s.k.rn s.k.rc) ∧ w0.cell? ⟨bb, off + i * 6 + 2, none⟩ = some (.slice s.ro s.rn s.rc) ∧ w0.cell? ⟨bb, off + i * 6 + 3, none⟩ = some (.int .i64 s.count) ∧
                  w0.cell? ⟨bb, off + i * 6 + 4, none⟩ = some (.string s.policy) ∧ w0.cell? ⟨bb, off + i * 6 + 5, none⟩ = some (.slice s.u.ro s.u.rn s.u.rc) := by
                rcases HTS.out.2 with h | ⟨x, y, h1, h2, h3⟩
                · omega
                · exact ⟨x, y, Option.some.inj h1, h2, h3⟩
              have hil : i < tabs.length := by rw [HTS.out.1]; exact hltn
              obtain ⟨⟨tname, tk, tro, trn, trc, trows, tcount, tpol, tu⟩, hse⟩ : ∃ s : TabS, tabs[i]? = some s := ⟨_, List.getElem?_eq_getElem hil⟩
              have hsok := HTK.out _ (List.mem_of_getElem? hse)
              obtain ⟨p0, p1, p2, p3, p4, p5⟩ := hcell i _ hse
              dsimp only at p0 p1 p2 p3 p4 p5
              have cl : ∀ o, wr.cell? ⟨bb, o, none⟩ = w0.cell? ⟨bb, o, none⟩ := fun o => (hB.cell (p := ⟨bb, o, none⟩) (by show bb < mb; omega)).trans (h0.cell (p := ⟨bb, o, none⟩) hbb)
              have q0 := (cl _).trans p0
              have q1 := (cl _).trans p1
              have q2 := (cl _).trans p2
              have q3 := (cl _).trans p3
              have q4 := (cl _).trans p4
              have q5 := (cl _).trans p5
              have hgl := hout.lt
              have hbr : bb < wr.heap.size := by have := hB.size; omega
              have hbg : bb ≠ wx.heap.size := by have := h0.size; omega
              have y1 : wr.cell? ⟨w.heap.size, 1, none⟩ = some (.slice (some ⟨bb, off, none⟩) tn tc) := (blk_at hb3).trans rfl
              have hyl3 := ln_lt hb3
              have hwg : w.heap.size ≠ wx.heap.size := by omega
              have c0 := hout.cell (i := i * 6) (by omega)
              have f0 := hout.frozen (i * 6)
              have HTK1 : Hid (tabs.take (i + 1) = tabs.take i ++ [⟨tname, tk, tro, trn, trc, trows, tcount, tpol, tu⟩]) := by
                rw [Hid, List.take_add_one, hse]; rfl
              clear cl p0 p1 p2 p3 p4 p5 hcell hse
              go_upto_region 21 with fail
              have hes1 : es.length = i * 6 := by rw [hes, Nat.min_eq_left (by omega)]
              have houtb : ∃ cc, wr.heap[wx.heap.size]? = some (.cells cc 134 (0, 0)) := by obtain ⟨cc, h, _⟩ := hout; exact ⟨cc, h⟩
              have hO1 : ∀ q, q ≠ wx.heap.size → (wr.setCell ⟨wx.heap.size, i * 6, none⟩ (.string ⟨#[98, 101, 121, 111, 110, 100]⟩)).heap[q]? = wr.heap[q]? := fun q hq => Below.heap_setCell _ _ _ _ hq
              have hO2 : ∀ o : Obj, Below wr.heap.size (wr.setCell ⟨wx.heap.size, i * 6, none⟩ (.string ⟨#[98, 101, 121, 111, 110, 100]⟩)) ((wr.setCell ⟨wx.heap.size, i * 6, none⟩ (.string ⟨#[98, 101, 121, 111, 110, 100]⟩)).alloc o) := fun o => (Below.refl _ _).alloc (by simp [World.setCell]) _
              have hO3 : ∀ (o : Obj) (q : Nat), q < wr.heap.size → q ≠ wx.heap.size → ((wr.setCell ⟨wx.heap.size, i * 6, none⟩ (.string ⟨#[98, 101, 121, 111, 110, 100]⟩)).alloc o).heap[q]? = wr.heap[q]? := fun o q h1 h2 => ((hO2 o).block q h1).trans (hO1 q h2)
              have hout4 : ((wr.setCell ⟨wx.heap.size, i * 6, none⟩ (.string ⟨#[98, 101, 121, 111, 110, 100]⟩)).alloc (.cells #[.string tname, .slice tk.ro tk.rn tk.rc, .slice tro trn trc, .int .i64 tcount, .string tpol, .slice tu.ro tu.rn tu.rc] 134)).rowIs wx.heap.size 134 ((tn + 3) * 6) (cpF es (zT (i + 1))) := (zT_name hout (by omega)).alloc _
              have hL4 : Loaned w0 ((wr.setCell ⟨wx.heap.size, i * 6, none⟩ (.string ⟨#[98, 101, 121, 111, 110, 100]⟩)).alloc (.cells #[.string tname, .slice tk.ro tk.rn tk.rc, .slice tro trn trc, .int .i64 tcount, .string tpol, .slice tu.ro tu.rn tu.rc] 134)) mb C R X K [] F := (hLr.otherT hO1 houtb).keep (by rw [show (wr.setCell ⟨wx.heap.size, i * 6, none⟩ (.string ⟨#[98, 101, 121, 111, 110, 100]⟩)).heap.size = wr.heap.size by simp [World.setCell]]; exact hO2 _)
              have hB4 : Below mb w ((wr.setCell ⟨wx.heap.size, i * 6, none⟩ (.string ⟨#[98, 101, 121, 111, 110, 100]⟩)).alloc (.cells #[.string tname, .slice tk.ro tk.rn tk.rc, .slice tro trn trc, .int .i64 tcount, .string tpol, .slice tu.ro tu.rn tu.rc] 134)) := (hB.setCell (p := ⟨wx.heap.size, i * 6, none⟩) (by show mb ≤ wx.heap.size; omega) _).trans ((hO2 _).mono (by omega))
              have hbx4 : ((wr.setCell ⟨wx.heap.size, i * 6, none⟩ (.string ⟨#[98, 101, 121, 111, 110, 100]⟩)).alloc (.cells #[.string tname, .slice tk.ro tk.rn tk.rc, .slice tro trn trc, .int .i64 tcount, .string tpol, .slice tu.ro tu.rn tu.rc] 134)).heap[wr.heap.size]? = some (.cells #[.string tname, .slice tk.ro tk.rn tk.rc, .slice tro trn trc, .int .i64 tcount, .string tpol, .slice tu.ro tu.rn tu.rc] 134 (0, 0)) := by
                have := heap_alloc_new (wr.setCell ⟨wx.heap.size, i * 6, none⟩ (.string ⟨#[98, 101, 121, 111, 110, 100]⟩)) (.cells #[.string tname, .slice tk.ro tk.rn tk.rc, .slice tro trn trc, .int .i64 tcount, .string tpol, .slice tu.ro tu.rn tu.rc] 134)
                rwa [show (wr.setCell ⟨wx.heap.size, i * 6, none⟩ (.string ⟨#[98, 101, 121, 111, 110, 100]⟩)).heap.size = wr.heap.size by simp [World.setCell]] at this
              have b34 := (hO3 (.cells #[.string tname, .slice tk.ro tk.rn tk.rc, .slice tro trn trc, .int .i64 tcount, .string tpol, .slice tu.ro tu.rn tu.rc] 134) _ (ln_lt hb3) hwg).trans hb3
              have b44 := (hO3 (.cells #[.string tname, .slice tk.ro tk.rn tk.rc, .slice tro trn trc, .int .i64 tcount, .string tpol, .slice tu.ro tu.rn tu.rc] 134) _ (ln_lt hb4) (by omega)).trans hb4
              have b54 := (hO3 (.cells #[.string tname, .slice tk.ro tk.rn tk.rc, .slice tro trn trc, .int .i64 tcount, .string tpol, .slice tu.ro tu.rn tu.rc] 134) _ (ln_lt hb5) (by omega)).trans hb5
              generalize hw4 : (wr.setCell ⟨wx.heap.size, i * 6, none⟩ (.string ⟨#[98, 101, 121, 111, 110, 100]⟩)).alloc (.cells #[.string tname, .slice tk.ro tk.rn tk.rc, .slice tro trn trc, .int .i64 tcount, .string tpol, .slice tu.ro tu.rn tu.rc] 134) = w4 at *
              clear hw4 hO1 hO2 hO3 houtb hLr hout q0 q1 q2 q3 q4 q5 c0 f0 y1 hb3 hb4 hb5 hyl3
              have hgn : wx.heap.size ≠ wr.heap.size := by omega
              have hnm : mb ≤ wr.heap.size := by have := hB.size; omega
              have hnw : w.heap.size + 3 ≤ wr.heap.size := by omega
              generalize hnb : wr.heap.size = nb at *
              clear hnb hB hgl hbr
              have M4 : TabMid w0 w mb nb wx.heap.size C R X K F (cpF es (zT (i + 1))) ((tn + 3) * 6) (.slice (some ⟨bb, off, none⟩) tn tc) (.slice fo' fn' fc') (.slice fo fn fc) #[.string tname, .slice tk.ro tk.rn tk.rc, .slice tro trn trc, .int .i64 tcount, .string tpol, .slice tu.ro tu.rn tu.rc] w4 := ⟨hbx4, hL4, hB4, hout4, b34, b44, b54⟩
              clear hbx4 hL4 hB4 hout4 b34 b44 b54
              have H0 : ∀ x : World, Below mb w x → Below w0.heap.size w0 x := fun x hx => h0.trans (hx.mono h0m)
              have x1 : w4.cell? ⟨nb, 1, none⟩ = some (.slice tk.ro tk.rn tk.rc) := (blk_at M4.bx).trans rfl
              have hnl := ln_lt M4.bx
              have HC5 := lendCols w0 w4 mb C R X K [] F M4.l (H0 _ M4.b) tk hsok.k (by omega)
              have hkT : (.slice tk.ro tk.rn tk.rc : Value) = .slice tk.ro tk.rn tk.rc := rfl
              go_upto_region 22 with (go_at_call 182; refine HC5.mono ?_; rintro e w5 ⟨ko, kn, kc, K2, rfl, hK2, hL5, hkl, hB5, hKp5⟩; have hbx5 := (hKp5 _ _ _ _ M4.bx (by decide)).trans M4.bx; have hnl5 := ln_lt hbx5; have x1' := (blk_at (j := 1) hbx5).trans rfl; have x1f : w5.frozen? ⟨nb, 1, none⟩ = false := (by simp [World.frozen?, hbx5]))
              have M5 := (M4.call hL5 hB5 hKp5).put hnm hgn hnw 1 (.slice ko kn kc)
              generalize hw5 : w5.setCell ⟨nb, 1, none⟩ (.slice ko kn kc) = w5' at *
              clear hw5 M4 HC5 x1 hnl hL5 hB5 hKp5 hbx5 hnl5 x1' x1f
              have x2 : w5'.cell? ⟨nb, 2, none⟩ = some (.slice tro trn trc) := (blk_at M5.bx).trans rfl
              have hnl := ln_lt M5.bx
              have HC6 := lendRows w0 w5' mb C R X (K ++ K2) [] F M5.l (H0 _ M5.b) h0m tro trn trc trows hsok.small hsok.nil hsok.rows hsok.each (by have := hsok.small; dsimp only at this; omega) (by omega)
              go_upto_region 23 with (go_at_call 183; refine HC6.mono ?_; rintro e w6 ⟨yo, yn, yc, C2, R2, rfl, hC2, hR2, hL6, hrl, hB6, hKp6⟩; have hbx6 := (hKp6 _ _ _ _ M5.bx (by decide)).trans M5.bx; have hnl6 := ln_lt hbx6; have x2' := (blk_at (j := 2) hbx6).trans rfl; have x2f : w6.frozen? ⟨nb, 2, none⟩ = false := (by simp [World.frozen?, hbx6]))
              have M6 := (M5.call hL6 hB6 hKp6).put hnm hgn hnw 2 (.slice yo yn yc)
              generalize hw6 : w6.setCell ⟨nb, 2, none⟩ (.slice yo yn yc) = w6' at *
              clear hw6 M5 HC6 x2 hnl hL6 hB6 hKp6 hbx6 hnl6 x2' x2f
              have x3 : w6'.cell? ⟨nb, 5, none⟩ = some (.slice tu.ro tu.rn tu.rc) := (blk_at M6.bx).trans rfl
              have hnl := ln_lt M6.bx
              have HC7 := lendTexts w0 w6' mb (C ++ C2) (R ++ R2) X (K ++ K2) [] F M6.l (H0 _ M6.b) tu hsok.u (by omega)
              go_upto_region 24 with (go_at_call 184; refine HC7.mono ?_; rintro e w7 ⟨zo, zn, zc, X2, rfl, hX2, hL7, hul, hB7, hKp7⟩; have hbx7 := (hKp7 _ _ _ _ M6.bx (by decide)).trans M6.bx; have hnl7 := ln_lt hbx7; have x3' := (blk_at (j := 5) hbx7).trans rfl; have x3f : w7.frozen? ⟨nb, 5, none⟩ = false := (by simp [World.frozen?, hbx7]))
              have M7 := (M6.call hL7 hB7 hKp7).put hnm hgn hnw 5 (.slice zo zn zc)
              generalize hw7 : w7.setCell ⟨nb, 5, none⟩ (.slice zo zn zc) = w7' at *
              clear hw7 M6 HC7 x3 hnl hL7 hB7 hKp7 hbx7 hnl7 x3' x3f
              have hbx : w7'.heap[nb]? = some (.cells #[.string tname, .slice ko kn kc, .slice yo yn yc, .int .i64 tcount, .string tpol, .slice zo zn zc] 134 (0, 0)) := M7.bx
              have e0 : w7'.cell? ⟨nb, 0, none⟩ = some (.string tname) := (blk_at hbx).trans rfl
              have e1 : w7'.cell? ⟨nb, 1, none⟩ = some (.slice ko kn kc) := (blk_at hbx).trans rfl
              have e2 : w7'.cell? ⟨nb, 2, none⟩ = some (.slice yo yn yc) := (blk_at hbx).trans rfl
              have e3 : w7'.cell? ⟨nb, 3, none⟩ = some (.int .i64 tcount) := (blk_at hbx).trans rfl
              have e4 : w7'.cell? ⟨nb, 4, none⟩ = some (.string tpol) := (blk_at hbx).trans rfl
              have e5 : w7'.cell? ⟨nb, 5, none⟩ = some (.slice zo zn zc) := (blk_at hbx).trans rfl
              have hnl := ln_lt hbx
              have hgl := M7.out.lt
              have c0 := M7.out.cell (i := i * 6) (by omega)
              have c1 := M7.out.cell (i := i * 6 + 1) (by omega)
              have c2 := M7.out.cell (i := i * 6 + 2) (by omega)
              have c3 := M7.out.cell (i := i * 6 + 3) (by omega)
              have c4 := M7.out.cell (i := i * 6 + 4) (by omega)
              have c5 := M7.out.cell (i := i * 6 + 5) (by omega)
              have f0 := M7.out.frozen (i * 6)
              have f1 := M7.out.frozen (i * 6 + 1)
              have f2' := M7.out.frozen (i * 6 + 2)
              have f3 := M7.out.frozen (i * 6 + 3)
              have f4 := M7.out.frozen (i * 6 + 4)
              have f5 := M7.out.frozen (i * 6 + 5)
              clear hbx
              go_wp2_with fail
              go_roundw
              case rel =>
                have ho := set6_oth w7' wx.heap.size (i * 6) (.string tname) (.slice ko kn kc) (.slice yo yn yc) (.int .i64 tcount) (.string tpol) (.slice zo zn zc)
                have hob : ∃ cc, w7'.heap[wx.heap.size]? = some (.cells cc 134 (0, 0)) := by obtain ⟨cc, h, _⟩ := M7.out; exact ⟨cc, h⟩
                refine ⟨i + 1, by omega, by go_num, C ++ C2, R ++ R2, X ++ X2, K ++ K2, es ++ [.string tname, .slice ko kn kc, .slice yo yn yc, .int .i64 tcount, .string tpol, .slice zo zn zc], ⟨by rw [List.length_append]; have := hsok.small; dsimp only at this; omega, by rw [List.length_append]; omega, by rw [List.length_append]; omega, by rw [List.length_append]; omega⟩, by rw [List.length_append, hes1, Nat.min_eq_left (by omega)]; simp; omega, ⟨(ho _ (by omega)).trans M7.b3, (ho _ (by omega)).trans M7.b4, (ho _ (by omega)).trans M7.b5⟩, M7.l.otherT ho hob, ?_, tab_laid M7.out hes1 _ _ _ _ _ _, set6_bel M7.b _ _ (by omega) _ _ _ _ _ _⟩
                rw [HTK1.out]
                exact (hTL.mono (fun x hx => List.mem_append_left _ hx) (fun x hx => List.mem_append_left _ hx) (fun x hx => List.mem_append_left _ hx)).snoc (s := ⟨tname, tk, tro, trn, trc, trows, tcount, tpol, tu⟩) hkl hrl hul
              case measure => simp [intOf]; omega
            · have hes1 : es.length = tn * 6 := by rw [hes, Nat.min_eq_right (by omega)]
              have hlC' : C.length ≤ (i + 1) * 1048576 := Nat.le_trans hlC (Nat.mul_le_mul_right _ (Nat.le_succ i))
              have hgl := hout.lt
              have c0 := hout.cell (i := i * 6) (by omega)
              have f0 := hout.frozen (i * 6)
              go_wp2_with fail
              go_roundw
              case rel =>
                have ho : ∀ q, q ≠ wx.heap.size → (wr.setCell ⟨wx.heap.size, i * 6, none⟩ (.string ⟨#[98, 101, 121, 111, 110, 100]⟩)).heap[q]? = wr.heap[q]? := fun q hq => Below.heap_setCell _ _ _ _ hq
                have hob : ∃ cc, wr.heap[wx.heap.size]? = some (.cells cc 134 (0, 0)) := by obtain ⟨cc, h, _⟩ := hout; exact ⟨cc, h⟩
                refine ⟨i + 1, by omega, by go_num, C, R, X, K, es, ⟨hlC', by omega, by omega, by omega⟩, by rw [hes1, Nat.min_eq_right (by omega)], ⟨(ho _ (by omega)).trans hb3, (ho _ (by omega)).trans hb4, (ho _ (by omega)).trans hb5⟩, hLr.otherT ho hob, ?_, zT_name hout (by omega), hB.setCell (p := ⟨wx.heap.size, i * 6, none⟩) (by show mb ≤ wx.heap.size; omega) _⟩
                have hl := HTS.out.1
                rw [List.take_of_length_le (by omega)] at hTL ⊢
                exact hTL
              case measure => simp [intOf]; omega
          · obtain rfl : i = tn + 3 := by omega
            have hes1 : es.length = tn * 6 := by rw [hes, Nat.min_eq_right (by omega)]
            have hrow : wr.rowIs wx.heap.size 134 ((tn + 3) * 6) (lentF 6 es farT) := hout.congr fun j hj => zT_far hj
            rw [List.take_of_length_le (by have := HTS.out.1; omega)] at hTL
            obtain ⟨vc, vr, vx, vk, vb, vf, ⟨s1, s2, s3, s4, s5, s6⟩, hO, hC, hR, hX, hK, hBt, hFn⟩ := hLr
            obtain ⟨a, an, ac, rfl⟩ := s5
            have hmr := ln_lt hO
            have a0 : wr.cell? ⟨mb, 5, none⟩ = some (.slice a an ac) := (blk_at hO).trans rfl
            have hgl := hrow.lt
            have x3 : wr.cell? ⟨w.heap.size, 1, none⟩ = some (.slice (some so) tn tc) := (blk_at hb3).trans rfl
            have hxr : w.heap.size < wr.heap.size := ln_lt hb3
            have hnew : LnIn (WtT w0 K R X) wr 134 6 farT (mb + 1) ⟨wx.heap.size, tn, some so, tc, es⟩ := ⟨hrow, hes1, by show mb + 1 ≤ wx.heap.size; omega, htn, tabs, HTS.out, hTL⟩
            have hgs : ∀ x ∈ ([] : List Ln), x.g < wx.heap.size := fun x hx => by simp at hx
            have HOR : Hid _ := hO
            have HLR : Hid _ := hBt
            have HNW : Hid _ := hnew
            have HRS : Hid _ := (⟨hC, hR, hX, hK, hFn⟩ : _ ∧ _ ∧ _ ∧ _ ∧ _)
            have H45 : Hid _ := (⟨hb4, hb5⟩ : _ ∧ _)
            have HOWN : ∀ o : Obj, (wr.alloc o).drew.ownsRow (mb + 1) 366 2 (.slice a an ac) 0 [] := fun o => World.ownsRow.drew (World.ownsRow.alloc hBt.own o)
            have hmn : mb ≠ w.heap.size + 2 := by omega
            have hmn1 : mb ≠ w.heap.size + 1 + 1 := by omega
            clear hO hBt hnew hC hR hX hK hFn hrow hb3 hb4 hb5 hout hTL
            go_upto_region 25 with fail
            go_region_law (refine step_append_lies _ rfl (.tmp 104) (.tmp 109) 251 rfl (mb + 1) 366 i1 _ 2 48 Tryz.underlying251 hj hj0 hj1 hj2 rfl (by decide) (.slice a an ac) 0 [] (by simp [Act.eval]) (HOWN _) ⟨wr.heap.size, 0, none⟩ 1 1 [.slice (some ⟨wx.heap.size, 0, none⟩) (tn + 3) (tn + 3), .slice (some so) tn tc] (by simp [Act.eval]) rfl (World.news_of_block (heap_alloc_new wr _)) (by intro u hu; simp at hu; rcases hu with rfl | rfl <;> rfl) (by decide) (by unfold maxLen; omega) (by omega) (by simp [World.size_alloc]; omega) (wr.heap.size + 1) (by simp [World.size_alloc]) ?_; intro g7 cap7 w7 hown7 hgrow7 hat7 hlt7; have kO := grown_typed HLR.out.own (((Below.refl _ wr).alloc (Nat.le_refl _) _).drew) hgrow7 HOR.out (by decide); have k5 := grown_typed HLR.out.own (((Below.refl _ wr).alloc (Nat.le_refl _) _).drew) hgrow7 H45.out.2 (by decide); have hb7 := ln_lt kO; have h57 := ln_lt k5; have r0 : w7.cell? ⟨mb, 5, none⟩ = some (.slice a an ac) := (blk_at kO).trans rfl; have r0f : w7.frozen? ⟨mb, 5, none⟩ = false := (by simp [World.frozen?, kO]); have r5 : w7.cell? ⟨w.heap.size + 2, 1, none⟩ = some (.slice none 0 0) := (blk_at k5).trans rfl; have r5f : w7.frozen? ⟨w.heap.size + 2, 1, none⟩ = false := (by simp [World.frozen?, k5]))
            all_goals go_wp2_with fail
            all_goals go_meet
            all_goals
              obtain ⟨_, A1, A2, A3, A4⟩ := lend_fin (w := wr) (k := 5) (l := ⟨wx.heap.size, tn, some so, tc, es⟩) HOR.out HLR.out HNW.out hgs (by decide) (by decide) (Below.refl _ _) (KeepT.refl _ _ _) (((Below.refl _ wr).alloc (Nat.le_refl _) _).drew) hgrow7 hown7 (.slice (some ⟨g7, 0, none⟩) (0 + 1) cap7)
              obtain ⟨hC, hR, hX, hK, hFn⟩ := HRS.out
              obtain ⟨hb4r, hb5r⟩ := H45.out
              have k4 := (A4 _ _ _ _ hb4r (by decide) (by decide)).trans hb4r
              have k5 := (A4 _ _ _ _ hb5r (by decide) (by decide)).trans hb5r
              have LF : Loaned w0 (w7.setCell ⟨mb, 5, none⟩ (.slice (some ⟨g7, 0, none⟩) (0 + 1) cap7)) mb C R X K [⟨wx.heap.size, tn, some so, tc, es⟩] F :=
                ⟨vc, vr, vx, vk, .slice (some ⟨g7, 0, none⟩) (0 + 1) cap7, vf, ⟨s1, s2, s3, s4, ⟨_, _, _, rfl⟩, s6⟩, A1, hC.typed A4 (by decide) (by decide) (by decide) (by decide), hR.typed A4 (by decide) (by decide) (by decide) (by decide), hX.typed A4 (by decide) (by decide) (by decide) (by decide), hK.typed A4 (by decide) (by decide) (by decide) (by decide), A2, hFn.typed A4 (by decide) (by decide) (by decide) (by decide)⟩
              refine ⟨fo', fn', fc', some ⟨wx.heap.size, 0, none⟩, tn, tn + 3, C, R, X, K, [⟨wx.heap.size, tn, some so, tc, es⟩], F, ⟨(Below.heap_setCell _ _ _ _ (by show w.heap.size + 1 ≠ w.heap.size + 2; omega)).trans k4, by simp [World.setCell, Array.getElem?_modify] at k5 ⊢; simp [k5]⟩, ⟨⟨by omega, by omega, by omega, by omega, by simp, by omega⟩, LF.other (g := w.heap.size + 2) (T' := 43) (fun q hq => Below.heap_setCell _ _ _ _ hq) ⟨_, k5⟩ (by decide)⟩, hfl, .inr ⟨wx.heap.size, es, rfl, by simp⟩, ?_⟩
              exact (hB.trans A3).setCell (p := ⟨w.heap.size + 2, 1, none⟩) (by show mb ≤ w.heap.size + 2; omega) _
    case rest =>
      obtain ⟨fo2, fn2, fc2, bo, bn, bc, C, R, X, K, B, F', ⟨hb4, hb5⟩, ⟨hlens, hLf⟩, hfl2, hbl, hBf⟩ := hcut
      clear hb3' hb4' hb5' y1 hLF
      generalize hwz : wc = wz at *
      clear hwz
      have x5 : wz.cell? ⟨w.heap.size + 2, 0, none⟩ = some (.slice fo2 fn2 fc2) := (blk_at hb5).trans rfl
      have x6 : wz.cell? ⟨w.heap.size + 2, 1, none⟩ = some (.slice bo bn bc) := (blk_at hb5).trans rfl
      have h5l := ln_lt hb5
      have h4l := ln_lt hb4
      have x4 : wz.cell? ⟨w.heap.size + 1, 0, none⟩ = some (.slice none 0 0) := (blk_at hb4).trans rfl
      have x4' : wz.cell? ⟨w.heap.size + 1, 1, none⟩ = some (.slice none 0 0) := (blk_at hb4).trans rfl
      have x4f : wz.frozen? ⟨w.heap.size + 1, 0, none⟩ = false := by simp [World.frozen?, hb4]
      have x4g : wz.frozen? ⟨w.heap.size + 1, 1, none⟩ = false := by simp [World.frozen?, hb4]
      have HL : Hid _ := hLf
      have HLE : Hid _ := hlens
      have HB : Hid _ := hBf
      have H4 : Hid _ := hb4
      clear hLf hBf hb4 hb5 hlens
      go_wp2_with fail
      refine bodyPost_ret (v := .agg #[.slice fo2 fn2 fc2, .slice bo bn bc]) (by simp [results, Tryz.results111, go_sem, x4, x4']) rfl ⟨fo2, fn2, fc2, bo, bn, bc, C, R, X, K, B, F', rfl, ⟨HLE.out, ?_⟩, hfl2, hbl, ?_⟩
      · exact Loaned.other (show Loaned w0 wz mb C R X K B F' from HL.out) (g := w.heap.size + 1) (T' := 43) (fun q hq => (Below.heap_setCell _ _ _ _ hq).trans (Below.heap_setCell _ _ _ _ hq)) ⟨_, H4.out⟩ (by decide)
      · exact (HB.out.setCell (p := ⟨w.heap.size + 1, 0, none⟩) (by show mb ≤ w.heap.size + 1; omega) _).setCell (p := ⟨w.heap.size + 1, 1, none⟩) (by show mb ≤ w.heap.size + 1; omega) _
end Go.Proofs.YtilfjpmeededmaaGreatDoor

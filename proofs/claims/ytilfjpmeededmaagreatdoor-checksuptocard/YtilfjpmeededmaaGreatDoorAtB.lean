import Derived.Test.YtilfjpmeededmaaGreatDoorAtDZ
set_option linter.unusedVariables false
set_option linter.unusedSimpArgs false
namespace Go.Proofs.YtilfjpmeededmaaGreatDoor
open Go.RowKit
theorem first_two {n : Int} {pb : Bool} (h : firstS [n, gvS pb 5] = 0) : n = 0 ∧ pb = false := by
  simp only [firstS] at h
  by_cases h0 : n = 0
  · subst h0; cases pb
    · exact ⟨rfl, rfl⟩
    · revert h; simp [gvS]
  · exfalso; revert h; simp [h0]
theorem first_ne {n m : Int} (h : n ≠ 0) : firstS [n, m] = n := by simp [firstS, h]
theorem first_zero {n1 : Int} {pb : Bool} (h : n1 = firstS [0, gvS pb 5]) (h1 : n1 ≠ 0) : pb = true ∧ n1 = 5 := by
  cases pb
  · exfalso; apply h1; rw [h]; rfl
  · exact ⟨rfl, by rw [h]; rfl⟩
theorem isEx_tq {w : World} {FB : List Nat} {S : Nat → Prop} {sort ty size : Int} {quiet : Bool} {vk vn : Int} {vs : Bs} {place : Int} {head : Bs} {fp xo : Option Addr} {xn xc : Nat} {y : Ex} (h : IsEx w FB S [.int .i64 sort, .int .i64 ty, .int .i64 size, .bool quiet, .int .i64 vk, .int .i64 vn, .string (ofBs vs), .int .i64 place, .string (ofBs head), .pointer fp, .slice xo xn xc] y) : y.ty = ty ∧ y.quiet = quiet := by
  obtain ⟨sort', ty', size', quiet', vk', vn', vs', place', head', fi, xops, fp', xo', xn', xc', xcs, rfl, hc, _⟩ := h.inv
  simp only [List.cons.injEq, Value.int.injEq, Value.bool.injEq, true_and] at hc
  exact ⟨hc.2.1.symm, hc.2.2.2.1.symm⟩
theorem cells6 {x : World} {b : Nat} {a0 a1 a2 a3 a4 a5 : Value} {T : TypeId} (h : x.heap[b]? = some (.cells #[a0, a1, a2, a3, a4, a5] T (0, 0))) :
    (x.cell? ⟨b, 0, none⟩ = some a0 ∧ x.cell? ⟨b, 1, none⟩ = some a1 ∧ x.cell? ⟨b, 2, none⟩ = some a2 ∧ x.cell? ⟨b, 3, none⟩ = some a3 ∧ x.cell? ⟨b, 4, none⟩ = some a4 ∧ x.cell? ⟨b, 5, none⟩ = some a5) ∧ x.frozen? ⟨b, 0, none⟩ = false := by
  simp [World.cell?, World.frozen?, h]
set_option maxHeartbeats 16000000 in
set_option maxRecDepth 100000 in
theorem addTable_any (w0 w : World) (bb : Nat) (FB : List Nat) (fns : List Fn) (ts : List (TabT × Ex)) (hB : BaseTs w0 w bb FB fns ts) (h3 : ts.length ≤ 3) (hf : ∀ fn ∈ fns, 0 ≤ fn.body.size ∧ fn.body.size ≤ 300) (t : TabT) (co : Option Addr) (cn cc : Nat) (ro : Option Addr) (rn rc : Nat) (uo : Option Addr) (un uc : Nat)
    (hC0 : ColsIn w0 (.slice co cn cc) t.cols) (hR0 : RowsIn w0 (.slice ro rn rc) t.rows) (hU0 : StrsIn w0 (.slice uo un uc) t.users) (hnl : t.name.length ≤ maxLen) (hpl : t.policy.length ≤ maxLen) :
    Calls Tryz.prog 77 #[.pointer (some ⟨bb, 0, none⟩), .agg #[.string (ofBs t.name), .slice co cn cc, .slice ro rn rc, .int .i64 t.count, .string (ofBs t.policy), .slice uo un uc]] w fun e w' => AddTRes w0 w bb FB fns ts t (addTabS fns ts t) e w' := by
  obtain ⟨fo, fnn, fc, to', tn, tc, raws, h0b, hb0, hbb, hF, htown, hrl, h4, hnil, hrr⟩ := hB
  have hT := tabs_of hb0 htown hrl h4 hrr
  have hC := hC0.keep hb0
  have hR := hR0.keep hb0
  obtain ⟨wd, hwd⟩ : ∃ b, b = wordS t.name := ⟨_, rfl⟩
  obtain ⟨it, hit⟩ : ∃ b, b = isTabS t := ⟨_, rfl⟩
  have hbl := block_lt hbb
  have hcn : 0 = firstS [gvS (!wd || (tabN ts t.name == 0)) 2, gvS (!it) 6] → t.cols.length ≤ 1000 ∧ ∀ c ∈ t.cols, c.1.length ≤ 1000 := by
    intro h
    have h2 : it = true := by
      cases it
      · exfalso; revert h; cases wd <;> cases (tabN ts t.name == 0) <;> decide
      · rfl
    rw [h2] at hit
    exact cols_small (isTab_cols hit.symm)
  have HW : ∀ x : World, Calls Tryz.prog 138 #[.string (ofBs t.name)] x fun e w' => e = .returned (.bool wd) ∧ w' = x := by
    intro x; have := isWord_any (ofBs t.name) x (by rw [ofBs_size]; exact hnl); rw [ofBs_toList] at this; rw [hwd]; exact this
  obtain ⟨n6, hn6⟩ : ∃ n, n = tabN ts t.name := ⟨_, rfl⟩
  rw [← hn6] at hcn
  obtain ⟨W, hW⟩ : ∃ W, W = w.alloc (tab0 t co cn cc ro rn rc uo un uc) := ⟨_, rfl⟩
  have hbW : W.heap[bb]? = some (.cells #[.slice fo fnn fc, .slice to' tn tc] 112 (0, 0)) := by rw [hW, Below.heap_alloc _ _ _ hbl]; exact hbb
  have hBW : Below w.heap.size w W := by rw [hW]; exact below_box w _
  have hbox : W.heap[w.heap.size]? = some (tab0 t co cn cc ro rn rc uo un uc) := by rw [hW]; exact heap_alloc_new w _
  obtain ⟨b0, _, b1, _⟩ := cellsB hbW
  have d0 : W.cell? ⟨w.heap.size, 0, none⟩ = some (.string (ofBs t.name)) := (blk_at hbox).trans rfl
  have hbl' : bb < W.heap.size := by have := hBW.size; omega
  have hsW : W.heap.size = w.heap.size + 1 := by rw [hW]; simp [World.size_alloc]
  have HATW : w.alloc (tab0 t co cn cc ro rn rc uo un uc) = W := hW.symm
  have HT : ∀ x : World, Below W.heap.size W x → Calls Tryz.prog 62 #[.agg #[.slice fo fnn fc, .slice to' tn tc], .string (ofBs t.name)] x fun e w' => Below W.heap.size W w' ∧ Below x.heap.size x w' ∧ ∃ a0 a1 a2 a3 a4 a5 a6 a7 a8 a9 a10 a11 a12 a13 a14 a15 a16, One17 a0 a1 a2 a3 a4 a5 a6 a7 a8 a9 a10 a11 a12 a13 a14 a15 a16 ∧ e = .returned (.tuple #[.agg #[a0, a1, a2, a3, a4, a5, a6, a7, a8, a9, a10, a11, a12, a13, a14, a15, a16], .int .i64 n6]) := by
    intro x hx
    refine (baseTable_lt x FB ts fo fnn fc to' tn tc (hT.keep (hBW.trans (hx.mono hBW.size))) t.name).mono fun e w' h => ⟨hx.trans (h.1.mono hx.size), h.1, by rw [hn6]; exact h.2⟩
  have hwl : w.heap.size < W.heap.size := by omega
  have HN6 : Hid _ := hn6
  have HWD : Hid _ := hwd
  have HIT : Hid _ := hit
  have HRR : Hid _ := hrr
  have HTOWN : Hid _ := htown
  have HFF : Hid _ := hF
  clear hW hT hn6 hwd hrr htown
  go_enter Tryz.func77, Tryz.ntmps77
  go_upto_region 1 with fail
  try rw [HATW]
  clear HATW
  go_cut [6] (fun s6 wx => s6 = .int .i64 n6 ∧ Below W.heap.size W wx)
  case first =>
    refine addTable_r1 bb w W t co cn cc ro rn rc uo un uc fo fnn fc to' tn tc n6 hbl' hwl hsW b0 b1 d0 HT _ _ _ _ _ _ _ _ _ _ _ _ _ _ _ _ _ _ _ _ _ _ _ _ _ _ _ _ _ _ _ _ _ _ _ _ _ _ _ _ _ _ _ _ _ _ _ _ _ _ _ _ _ _ _ _ _ _ _ _ _ _ _ _ _ _ _ _ _ _ _ _ _ _ _ _ ?_
    intro v5 v9 v10 v11 v12 v13 v14 v15 v16 v17 wx hBx
    dsimp only
    go_wp2_with fail
    go_meet
    exact ⟨rfl, hBx⟩
  case rest =>
    obtain ⟨rfl, hBc⟩ := hcut
    have kb := (hBc.block w.heap.size hwl).trans hbox
    have c0 : wc.cell? ⟨w.heap.size, 0, none⟩ = some (.string (ofBs t.name)) := (blk_at kb).trans rfl
    have c1 : wc.cell? ⟨w.heap.size, 1, none⟩ = some (.slice co cn cc) := (blk_at kb).trans rfl
    have c2 : wc.cell? ⟨w.heap.size, 2, none⟩ = some (.slice ro rn rc) := (blk_at kb).trans rfl
    have c3 : wc.cell? ⟨w.heap.size, 3, none⟩ = some (.int .i64 t.count) := (blk_at kb).trans rfl
    have c4 : wc.cell? ⟨w.heap.size, 4, none⟩ = some (.string (ofBs t.policy)) := (blk_at kb).trans rfl
    have c5 : wc.cell? ⟨w.heap.size, 5, none⟩ = some (.slice uo un uc) := (blk_at kb).trans rfl
    have hwc : w.heap.size < wc.heap.size := by have := hBc.size; omega
    have HIs : ∀ x : World, Below wc.heap.size wc x → Calls Tryz.prog 139 #[.agg #[.string (ofBs t.name), .slice co cn cc, .slice ro rn rc, .int .i64 t.count, .string (ofBs t.policy), .slice uo un uc]] x fun e w' => Below wc.heap.size wc w' ∧ e = .returned (.bool it) := by
      intro x hx
      have B : Below w.heap.size w x := hBW.trans ((hBc.trans (hx.mono hBc.size)).mono hBW.size)
      exact (isTable_any x t co cn cc ro rn rc uo un uc (hC.keep B) (hR.keep B)).mono fun e w' h => ⟨hx.trans (h.2.mono hx.size), by rw [hit]; exact h.1⟩
    clear hit
    have HKEEP : ∀ x : World, Below wc.heap.size wc x → x.cell? ⟨w.heap.size, 0, none⟩ = some (.string (ofBs t.name)) ∧ x.cell? ⟨w.heap.size, 1, none⟩ = some (.slice co cn cc) ∧ x.cell? ⟨w.heap.size, 2, none⟩ = some (.slice ro rn rc) ∧ x.cell? ⟨w.heap.size, 3, none⟩ = some (.int .i64 t.count) ∧ x.cell? ⟨w.heap.size, 4, none⟩ = some (.string (ofBs t.policy)) ∧ x.cell? ⟨w.heap.size, 5, none⟩ = some (.slice uo un uc) := fun x hx =>
      ⟨(hx.cell (p := ⟨w.heap.size, 0, none⟩) hwc).trans c0, (hx.cell (p := ⟨w.heap.size, 1, none⟩) hwc).trans c1, (hx.cell (p := ⟨w.heap.size, 2, none⟩) hwc).trans c2, (hx.cell (p := ⟨w.heap.size, 3, none⟩) hwc).trans c3, (hx.cell (p := ⟨w.heap.size, 4, none⟩) hwc).trans c4, (hx.cell (p := ⟨w.heap.size, 5, none⟩) hwc).trans c5⟩
    go_upto_region 2 with fail
    go_cut [7] (fun s7 wx => s7 = .int .i64 (firstS [gvS (!wd || (n6 == 0)) 2, gvS (!it) 6]) ∧ Below wc.heap.size wc wx)
    case first =>
      cases wd with
      | true =>
        refine addTable_r2t bb w t co cn cc ro rn rc uo un uc wc n6 it hwc c0 c1 c2 c3 c4 c5 HW HIs _ _ _ _ _ _ _ _ _ _ _ _ _ _ _ _ _ _ _ _ _ _ _ _ _ _ _ _ _ _ _ _ _ _ _ _ _ _ _ _ _ _ _ _ _ _ _ _ _ _ _ _ _ _ _ _ _ _ _ _ _ _ _ _ _ _ _ _ _ _ _ _ _ _ _ ?_
        intro v18 v19 v20 v21 v22 v23 v24 v25 v26 v27 v28 v29 v30 v31 v32 wx hBx
        dsimp only
        go_wp2_with fail
        go_meet
        exact ⟨rfl, hBx⟩
      | false =>
        refine addTable_r2f bb w t co cn cc ro rn rc uo un uc wc n6 it hwc c0 c1 c2 c3 c4 c5 HW HIs _ _ _ _ _ _ _ _ _ _ _ _ _ _ _ _ _ _ _ _ _ _ _ _ _ _ _ _ _ _ _ _ _ _ _ _ _ _ _ _ _ _ _ _ _ _ _ _ _ _ _ _ _ _ _ _ _ _ _ _ _ _ _ _ _ _ _ _ _ _ _ _ _ _ _ ?_
        intro v18 v19 v20 v21 v22 v23 v24 v25 v26 v27 v28 v29 v30 v31 v32 wx hBx
        dsimp only
        go_wp2_with fail
        go_meet
        exact ⟨rfl, hBx⟩
    case rest =>
      obtain ⟨rfl, hB2⟩ := hcut
      obtain ⟨n0, hn0⟩ : ∃ n0, n0 = firstS [gvS (!wd || (n6 == 0)) 2, gvS (!it) 6] := ⟨_, rfl⟩
      rw [← hn0]
      have HN0 : Hid _ := hn0
      have B2 : Below W.heap.size W wc := hBc.trans (hB2.mono hBc.size)
      clear hn0 HKEEP HIs HW HT c0 c1 c2 c3 c4 c5 kb
      by_cases h0 : n0 = 0
      · subst h0
        have kb2 := (B2.block w.heap.size hwl).trans hbox
        have c1 : wc.cell? ⟨w.heap.size, 1, none⟩ = some (.slice co cn cc) := (blk_at kb2).trans rfl
        have c4 : wc.cell? ⟨w.heap.size, 4, none⟩ = some (.string (ofBs t.policy)) := (blk_at kb2).trans rfl
        obtain ⟨e0, _⟩ := cellsB ((B2.block bb hbl').trans hbW)
        have hwc2 : w.heap.size < wc.heap.size := by have := B2.size; omega
        have hbc2 : bb < wc.heap.size := by omega
        have Bw : Below w.heap.size w wc := hBW.trans (B2.mono hBW.size)
        generalize hwo : wc = wo at *
        clear hwo
        obtain ⟨ns, hns⟩ : ∃ ns, ns = t.cols.map (nameS [114, 111, 119]) := ⟨_, rfl⟩
        obtain ⟨rd, hrd⟩ : ∃ rd, rd = readS atoiS (ns, []) fns t.policy := ⟨_, rfl⟩
        have HNm : ∀ x : World, Below wo.heap.size wo x → Calls Tryz.prog 140 #[.string ⟨#[114, 111, 119]⟩, .slice co cn cc] x fun e w' => ∃ no nn nc, e = .returned (.slice no nn nc) ∧ NamesIn w' (.slice no nn nc) ns ∧ Below x.heap.size x w' ∧ Below wo.heap.size wo w' := by
          intro x hx
          have hxw : Below w.heap.size w x := Bw.trans (hx.mono Bw.size)
          refine (names_any x [114, 111, 119] (by simp) _ t.cols (hC.keep hxw) (hcn HN0.out).1 (hcn HN0.out).2).mono fun e w' h => ?_
          obtain ⟨no, nn, nc, h1, h2, h3⟩ := h
          exact ⟨no, nn, nc, h1, by rw [hns]; exact h2, h3, hx.trans (h3.mono hx.size)⟩
        have HRd : ∀ (x : World) (no : Option Addr) (nn nc : Nat), NamesIn x (.slice no nn nc) ns → Below wo.heap.size wo x → Calls Tryz.prog 137 #[.agg #[.slice no nn nc, .slice none 0 0, .slice fo fnn fc], .string (ofBs t.policy)] x fun e w' => (Below x.heap.size x w' ∧ Below wo.heap.size wo w') ∧ ∃ a0 a1 a2 a3 a4 a5 a6 a7 a8 a9 a10 n, (a0.oneCell' = true ∧ a1.oneCell' = true ∧ a2.oneCell' = true ∧ a3.oneCell' = true ∧ a4.oneCell' = true ∧ a5.oneCell' = true ∧ a6.oneCell' = true ∧ a7.oneCell' = true ∧ a8.oneCell' = true ∧ a9.oneCell' = true ∧ a10.oneCell' = true) ∧ e = .returned (.tuple #[.agg #[a0, a1, a2, a3, a4, a5, a6, a7, a8, a9, a10], .int .i64 n]) ∧ Hid (∃ sort ty size quiet vk vn vs place head fp xo xn xc, [a0, a1, a2, a3, a4, a5, a6, a7, a8, a9, a10] = [.int .i64 sort, .int .i64 ty, .int .i64 size, .bool quiet, .int .i64 vk, .int .i64 vn, .string (ofBs vs), .int .i64 place, .string (ofBs head), .pointer fp, .slice xo xn xc] ∧ ((rd = .error n ∧ n ≠ 0) ∨ (∃ y, rd = .ok y ∧ n = 0 ∧ IsEx w' FB (fun g => x.heap.size ≤ g) [a0, a1, a2, a3, a4, a5, a6, a7, a8, a9, a10] y))) := by
          intro x no nn nc hnm hx
          have := scopeRead_any atoiS (ns, []) fns hf (ofBs t.policy) (by rw [ofBs_size]; exact hpl) (fun u hu => readFit _ u hu) x FB no nn nc none 0 0 fo fnn fc ⟨hnm, ⟨none, 0, rfl, by simp, .inl rfl⟩, (hF.keep (Bw.trans (hx.mono Bw.size)))⟩
          rw [ofBs_toList, ← hrd] at this
          refine this.mono fun e w' h => ?_
          obtain ⟨hb, sort, ty, size, quiet, vk, vn, vs, place, head, fp, xo, xn, xc, n, rfl, HX⟩ := h.form
          exact ⟨⟨hb, hx.trans (hb.mono hx.size)⟩, _, _, _, _, _, _, _, _, _, _, _, n, ⟨rfl, rfl, rfl, rfl, rfl, rfl, rfl, rfl, rfl, rfl, rfl⟩, rfl, sort, ty, size, quiet, vk, vn, vs, place, head, fp, xo, xn, xc, rfl, HX.out⟩
        have HNS : Hid _ := hns
        have HRD : Hid _ := hrd
        clear hns hrd
        go_upto_region 5 with fail
        go_cut [7, 8] (fun s7 s8 wx => ∃ (k8 : Nat) (c : List Value) (n : Int), s7 = .int .i64 n ∧ s8 = .pointer (some ⟨k8, 0, none⟩) ∧ Below wo.heap.size wo wx ∧ wo.heap.size ≤ k8 ∧ wx.heap[k8]? = some (.cells c.toArray 122 (0, 0)) ∧ Hid (∃ sort ty size quiet vk vn vs place head fp xo xn xc, c = [.int .i64 sort, .int .i64 ty, .int .i64 size, .bool quiet, .int .i64 vk, .int .i64 vn, .string (ofBs vs), .int .i64 place, .string (ofBs head), .pointer fp, .slice xo xn xc] ∧ ((rd = .error n ∧ n ≠ 0) ∨ (∃ y, rd = .ok y ∧ n = 0 ∧ IsEx wx FB (fun g => wo.heap.size ≤ g) c y))))
        case first =>
          have HKP : ∀ x : World, Below wo.heap.size wo x → x.cell? ⟨w.heap.size, 1, none⟩ = some (.slice co cn cc) ∧ x.cell? ⟨w.heap.size, 4, none⟩ = some (.string (ofBs t.policy)) ∧ x.cell? ⟨bb, 0, none⟩ = some (.slice fo fnn fc) := fun x hx => ⟨(hx.cell (p := ⟨w.heap.size, 1, none⟩) hwc2).trans c1, (hx.cell (p := ⟨w.heap.size, 4, none⟩) hwc2).trans c4, (hx.cell (p := ⟨bb, 0, none⟩) hbc2).trans e0⟩
          clear hbW hbb hbox b0 b1 d0 kb2 hcn hF hf HN0 HN6 HWD HIT
          go_region_held2 (fun x => x.cell? ⟨w.heap.size, 1, none⟩ = some (.slice co cn cc) ∧ x.cell? ⟨w.heap.size, 4, none⟩ = some (.string (ofBs t.policy)) ∧ x.cell? ⟨bb, 0, none⟩ = some (.slice fo fnn fc)) (go_keep) (first
            | (go_at_call 140; refine (HNm _ ?_).mono ?_; (first | exact (Below.refl _ wo).drew | exact (below_box wo _).drew); rintro e w2 ⟨no, nn, nc, rfl, hnm, hb2, hB2'⟩; obtain ⟨y0, y1, y2⟩ := HKP w2 hB2')
            | (go_at_call 137; refine (HRd _ _ _ _ ?_ ?_).mono ?_; (first | exact hnm | exact hnm.keep (below_box _ _)); (first | exact hB2' | exact hB2'.alloc hB2'.size _); rintro e w3 ⟨⟨hb3, hB3⟩, a0, a1, a2, a3, a4, a5, a6, a7, a8, a9, a10, n, ⟨o0, o1, o2, o3, o4, o5, o6, o7, o8, o9, o10⟩, rfl, HX⟩;
                (first
                  | (have hv1 := blk_V1 hb2 hb3; have m0 := hv1.1; obtain ⟨x1, x2, x3, x4, x5, x6, x7, x8, x9, x10, x11, r0, r1, r2, r3, r4, r5, r6, r7, r8, r9, r10, hk11, hoth, hb11⟩ := stores_ex11 (P := Tryz.prog) m0 a0 a1 a2 a3 a4 a5 a6 a7 a8 a9 a10 o0 o1 o2 o3 o4 o5 o6 o7 o8 o9 o10; have B11 : Below wo.heap.size wo x11 := hb11 _ _ (Nat.le_refl _) hB3; have HM : Hid (∀ g, w2.heap.size ≤ g → g < w3.heap.size → x11.heap[g]? = w3.heap[g]?) := (fun g h1 _ => hoth g (fun e => by have := hv1.2; omega)); have HLO : Hid (wo.heap.size ≤ wo.heap.size ∧ wo.heap.size ≤ w2.heap.size) := ⟨Nat.le_refl _, hB2'.size⟩)
                  | (have m0 := blk_V2 hb3; obtain ⟨x1, x2, x3, x4, x5, x6, x7, x8, x9, x10, x11, r0, r1, r2, r3, r4, r5, r6, r7, r8, r9, r10, hk11, hoth, hb11⟩ := stores_ex11 (P := Tryz.prog) m0 a0 a1 a2 a3 a4 a5 a6 a7 a8 a9 a10 o0 o1 o2 o3 o4 o5 o6 o7 o8 o9 o10; have B11 : Below wo.heap.size wo x11 := hb11 _ _ hB2'.size hB3; have HM : Hid (∀ g, w2.heap.size + 1 ≤ g → g < w3.heap.size → x11.heap[g]? = w3.heap[g]?) := (fun g h1 _ => hoth g (fun e => by omega)); have HLO : Hid (wo.heap.size ≤ w2.heap.size ∧ wo.heap.size ≤ w2.heap.size + 1) := ⟨hB2'.size, Nat.le_succ_of_le hB2'.size⟩)
                  | (have m0 := heap_alloc_new w3 ex0; obtain ⟨x1, x2, x3, x4, x5, x6, x7, x8, x9, x10, x11, r0, r1, r2, r3, r4, r5, r6, r7, r8, r9, r10, hk11, hoth, hb11⟩ := stores_ex11 (P := Tryz.prog) m0 a0 a1 a2 a3 a4 a5 a6 a7 a8 a9 a10 o0 o1 o2 o3 o4 o5 o6 o7 o8 o9 o10; have B11 : Below wo.heap.size wo x11 := hb11 _ _ hB3.size (hB3.alloc hB3.size _); have HM : Hid (∀ g, w2.heap.size ≤ g → g < w3.heap.size → x11.heap[g]? = w3.heap[g]?) := (fun g _ h2 => (hoth g (fun e => by omega)).trans (Below.heap_alloc _ _ _ h2)); have HLO : Hid (wo.heap.size ≤ w3.heap.size ∧ wo.heap.size ≤ w2.heap.size) := ⟨hB3.size, hB2'.size⟩));
                obtain ⟨t0, t1, t2⟩ := HKP w3 hB3; obtain ⟨v0, v1, v2⟩ := HKP x11 B11))
          all_goals (go_wp2_with fail; go_meet)
          all_goals
            refine ⟨_, [a0, a1, a2, a3, a4, a5, a6, a7, a8, a9, a10], n, rfl, rfl, B11, HLO.out.1, hk11, ?_⟩
            obtain ⟨sort, ty, size, quiet, vk, vn, vs, place, head, fp, xo, xn, xc, hc, h⟩ := HX.out
            refine ⟨sort, ty, size, quiet, vk, vn, vs, place, head, fp, xo, xn, xc, hc, ?_⟩
            rcases h with h | ⟨y, h1, h2, h3⟩
            · exact .inl h
            · exact .inr ⟨y, h1, h2, ex_moved h3 (by first | exact HM.out | (intro g hg; exact HM.out g (by simpa [World.size_alloc] using hg))) (by first | exact HLO.out.2 | simpa [World.size_alloc] using HLO.out.2)⟩
        case rest =>
          obtain ⟨k8, c, n, rfl, rfl, hB5, hk8, hk8b, HX⟩ := hcut
          obtain ⟨sort, ty, size, quiet, vk, vn, vs, place, head, fp, xo, xn, xc, rfl, HX'⟩ := HX.out
          have HX2 : Hid _ := HX'
          clear HX' HX HNm HRd
          generalize hw5 : wc = w5 at *
          clear hw5
          have B5 : Below W.heap.size W w5 := B2.trans (hB5.mono B2.size)
          have Bw5 : Below w.heap.size w w5 := hBW.trans (B5.mono hBW.size)
          obtain ⟨⟨y0, y1, y2, y3, y4, y5, y6, y7, y8, y9, y10⟩, _⟩ := cells11 hk8b
          have hk8l := block_lt hk8b
          obtain ⟨pb, hpb⟩ : ∃ b, b = (!(ty == 3) || !quiet) := ⟨_, rfl⟩
          go_upto_region 6 with fail
          go_cut [7] (fun s7 wx => s7 = .int .i64 (firstS [n, gvS pb 5]) ∧ Below w5.heap.size w5 wx)
          case first =>
            have HF2 : ∀ m : Int, Calls Tryz.prog 46 #[.slice (some ⟨w5.heap.size, 0, none⟩) 2 2] (w5.alloc (.cells #[.int .i64 n, .int .i64 m] 44)) fun e w' => e = .returned (.int .i64 (firstS [n, m])) ∧ w' = w5.alloc (.cells #[.int .i64 n, .int .i64 m] 44) := fun m => first2n_any w5 n m
            clear hk8b c1 c4 e0 hbW hbb hbox b0 b1 d0 kb2
            by_cases h3t : ty = 3
            · subst h3t
              cases quiet with
              | true =>
                obtain rfl : pb = false := by rw [hpb]; rfl
                clear hpb
                go_wp2_with (first
                  | (go_at_call 79; refine (when_any _ _ _).mono ?_; rintro e w4 ⟨rfl, rfl⟩)
                  | (go_at_call 46; refine (HF2 _).mono ?_; rintro e w6 ⟨rfl, rfl⟩))
                go_meet
                exact ⟨rfl, below_box _ _⟩
              | false =>
                obtain rfl : pb = true := by rw [hpb]; rfl
                clear hpb
                go_wp2_with (first
                  | (go_at_call 79; refine (when_any _ _ _).mono ?_; rintro e w4 ⟨rfl, rfl⟩)
                  | (go_at_call 46; refine (HF2 _).mono ?_; rintro e w6 ⟨rfl, rfl⟩))
                go_meet
                exact ⟨rfl, below_box _ _⟩
            · have hne4 : (ty == 3) = false := by simpa using h3t
              obtain rfl : pb = true := by rw [hpb, hne4]; rfl
              have hne3 : (ty != 3) = true := by simpa using h3t
              clear hpb h3t hne4
              go_wp2_with (first
                | (go_at_call 79; refine (when_any _ _ _).mono ?_; rintro e w4 ⟨rfl, rfl⟩)
                | (go_at_call 46; refine (HF2 _).mono ?_; rintro e w6 ⟨rfl, rfl⟩))
              go_meet
              exact ⟨rfl, below_box _ _⟩
          case rest =>
            obtain ⟨rfl, hB6⟩ := hcut
            have HPB : Hid _ := hpb
            clear hpb y0 y1 y2 y3 y4 y5 y6 y7 y8 y9 y10
            generalize hw6 : wc = w6 at *
            clear hw6
            have B6 : Below W.heap.size W w6 := B5.trans (hB6.mono B5.size)
            have Bw6 : Below w.heap.size w w6 := hBW.trans (B6.mono hBW.size)
            have hEq : firstS [gvS (!wordS t.name || (tabN ts t.name == 0)) 2, gvS (!isTabS t) 6] = 0 := by
              rw [← HN6.out, ← HWD.out, ← HIT.out]; exact HN0.out.symm
            have hAS : addTabS fns ts t = polS rd := by
              rw [addTabS, hEq, if_neg (by decide), HRD.out, HNS.out]
            obtain ⟨n1, hn1⟩ : ∃ n1, n1 = firstS [n, gvS pb 5] := ⟨_, rfl⟩
            rw [← hn1]
            by_cases h1 : n1 = 0
            · have hz : n = 0 ∧ pb = false := first_two (hn1.symm.trans h1)
              obtain ⟨rfl, rfl⟩ := hz
              obtain ⟨y, hy, hxy⟩ : ∃ y, rd = .ok y ∧ IsEx w5 FB (fun g => wo.heap.size ≤ g) [.int .i64 sort, .int .i64 ty, .int .i64 size, .bool quiet, .int .i64 vk, .int .i64 vn, .string (ofBs vs), .int .i64 place, .string (ofBs head), .pointer fp, .slice xo xn xc] y := by
                rcases HX2.out with ⟨_, h⟩ | ⟨y, h1, _, h2⟩
                · exact absurd rfl h
                · exact ⟨y, h1, h2⟩
              have hyt : y.ty = ty ∧ y.quiet = quiet := isEx_tq hxy
              have HO : Hid (addTabS fns ts t = .ok y) := by
                rw [Hid, hAS, hy, polS, hyt.1, hyt.2, ← HPB.out]; rfl
              have hx6 : IsEx w6 FB (fun g => wo.heap.size ≤ g) [.int .i64 sort, .int .i64 ty, .int .i64 size, .bool quiet, .int .i64 vk, .int .i64 vn, .string (ofBs vs), .int .i64 place, .string (ofBs head), .pointer fp, .slice xo xn xc] y := hxy.keep hB6
              have kb6 := (B6.block w.heap.size hwl).trans hbox
              obtain ⟨⟨c0, c1, c2, c3, c4, c5⟩, _⟩ := cells6 kb6
              have k86 := (hB6.block k8 hk8l).trans hk8b
              obtain ⟨⟨y0, y1, y2, y3, y4, y5, y6, y7, y8, y9, y10⟩, _⟩ := cells11 k86
              have hbk6 := (B6.block bb hbl').trans hbW
              obtain ⟨f0, f0', f1, f1'⟩ := cellsB hbk6
              have htw : w.ownsRow (bb + 1) 155 17 (.slice to' tn tc) ts.length (rawCells raws) := HTOWN.out
              have own6 : w6.ownsRow (bb + 1) 155 17 (.slice to' tn tc) ts.length (rawCells raws) := owns_keep htw fun g hg => Bw6.block g (htw.lt g hg).2
              have HOWN : ∀ o : Obj, (w6.alloc o).drew.ownsRow (bb + 1) 155 17 (.slice to' tn tc) ts.length (rawCells raws) := fun o => World.ownsRow.drew (World.ownsRow.alloc own6 o)
              have hvb : (Value.slice to' tn tc).ownBlock ≠ some bb := fun e => by have := (own6.lt _ e).1; omega
              have hbl6 : bb < w6.heap.size := by have := Bw6.size; omega
              have hwl6 : w.heap.size < w6.heap.size := by have := B6.size; omega
              have hk86l : k8 < w6.heap.size := by have := hB6.size; omega
              have HXY : Hid _ := hx6
              have HBK : Hid _ := hbk6
              obtain ⟨i0, hi, hz0, hz1, hz2⟩ := info_parts infoTab
              subst h1
              clear htw hn1 hAS hEq hxy hx6 hy hyt hk8b k86 kb6 hbW hbb hbox b0 b1 d0 hcn hF hf HX2 hpl kb2
              obtain ⟨d0, E0⟩ : ∃ a, Hid (a = Value.string (ofBs t.name)) := ⟨_, rfl⟩
              rw [← E0.out] at c0
              have o0 : d0.oneCell' = true := by rw [E0.out]; rfl
              obtain ⟨d1, E1⟩ : ∃ a, Hid (a = Value.slice co cn cc) := ⟨_, rfl⟩
              rw [← E1.out] at c1
              have o1 : d1.oneCell' = true := by rw [E1.out]; rfl
              obtain ⟨d2, E2⟩ : ∃ a, Hid (a = Value.slice ro rn rc) := ⟨_, rfl⟩
              rw [← E2.out] at c2
              have o2 : d2.oneCell' = true := by rw [E2.out]; rfl
              obtain ⟨d3, E3⟩ : ∃ a, Hid (a = Value.int .i64 t.count) := ⟨_, rfl⟩
              rw [← E3.out] at c3
              have o3 : d3.oneCell' = true := by rw [E3.out]; rfl
              obtain ⟨d4, E4⟩ : ∃ a, Hid (a = Value.string (ofBs t.policy)) := ⟨_, rfl⟩
              rw [← E4.out] at c4
              have o4 : d4.oneCell' = true := by rw [E4.out]; rfl
              obtain ⟨d5, E5⟩ : ∃ a, Hid (a = Value.slice uo un uc) := ⟨_, rfl⟩
              rw [← E5.out] at c5
              have o5 : d5.oneCell' = true := by rw [E5.out]; rfl
              obtain ⟨d6, E6⟩ : ∃ a, Hid (a = Value.int .i64 sort) := ⟨_, rfl⟩
              rw [← E6.out] at y0
              have o6 : d6.oneCell' = true := by rw [E6.out]; rfl
              obtain ⟨d7, E7⟩ : ∃ a, Hid (a = Value.int .i64 ty) := ⟨_, rfl⟩
              rw [← E7.out] at y1
              have o7 : d7.oneCell' = true := by rw [E7.out]; rfl
              obtain ⟨d8, E8⟩ : ∃ a, Hid (a = Value.int .i64 size) := ⟨_, rfl⟩
              rw [← E8.out] at y2
              have o8 : d8.oneCell' = true := by rw [E8.out]; rfl
              obtain ⟨d9, E9⟩ : ∃ a, Hid (a = Value.bool quiet) := ⟨_, rfl⟩
              rw [← E9.out] at y3
              have o9 : d9.oneCell' = true := by rw [E9.out]; rfl
              obtain ⟨d10, E10⟩ : ∃ a, Hid (a = Value.int .i64 vk) := ⟨_, rfl⟩
              rw [← E10.out] at y4
              have o10 : d10.oneCell' = true := by rw [E10.out]; rfl
              obtain ⟨d11, E11⟩ : ∃ a, Hid (a = Value.int .i64 vn) := ⟨_, rfl⟩
              rw [← E11.out] at y5
              have o11 : d11.oneCell' = true := by rw [E11.out]; rfl
              obtain ⟨d12, E12⟩ : ∃ a, Hid (a = Value.string (ofBs vs)) := ⟨_, rfl⟩
              rw [← E12.out] at y6
              have o12 : d12.oneCell' = true := by rw [E12.out]; rfl
              obtain ⟨d13, E13⟩ : ∃ a, Hid (a = Value.int .i64 place) := ⟨_, rfl⟩
              rw [← E13.out] at y7
              have o13 : d13.oneCell' = true := by rw [E13.out]; rfl
              obtain ⟨d14, E14⟩ : ∃ a, Hid (a = Value.string (ofBs head)) := ⟨_, rfl⟩
              rw [← E14.out] at y8
              have o14 : d14.oneCell' = true := by rw [E14.out]; rfl
              obtain ⟨d15, E15⟩ : ∃ a, Hid (a = Value.pointer fp) := ⟨_, rfl⟩
              rw [← E15.out] at y9
              have o15 : d15.oneCell' = true := by rw [E15.out]; rfl
              obtain ⟨d16, E16⟩ : ∃ a, Hid (a = Value.slice xo xn xc) := ⟨_, rfl⟩
              rw [← E16.out] at y10
              have o16 : d16.oneCell' = true := by rw [E16.out]; rfl
              go_upto_region 9 with fail
              go_region_law (refine step_append_lies _ rfl (.tmp 69) (.tmp 73) 110 rfl (bb + 1) 155 i0 _ 17 232 Tryz.underlying110 hi hz0 hz1 hz2 rfl (by decide) (.slice to' tn tc) ts.length (rawCells raws) (by simp [Act.eval]) (HOWN _) ⟨w6.heap.size, 0, none⟩ 1 1 [d0, d1, d2, d3, d4, d5, d6, d7, d8, d9, d10, d11, d12, d13, d14, d15, d16] (by simp [Act.eval]) rfl (World.news_of_block (blk_new w6 _)) (by intro u hu; simp only [List.mem_cons, List.not_mem_nil, or_false] at hu; rcases hu with rfl | rfl | rfl | rfl | rfl | rfl | rfl | rfl | rfl | rfl | rfl | rfl | rfl | rfl | rfl | rfl | rfl <;> assumption) (by decide) (by unfold maxLen; omega) (by omega) (by simp; omega) (w6.heap.size + 1) (by simp) ?_; intro g7 cap7 w7 hown7 hgrow7 hat7 hlt7; have kB : w7.heap[bb]? = _ := (hgrow7.block bb (by simp; omega) hvb.symm).trans ((Below.heap_alloc _ _ _ hbl6).trans HBK.out); have hb7 := block_lt kB; obtain ⟨r0, t0, r1, t1⟩ := cellsB kB)
              all_goals (go_wp2_with fail; go_ret)
              all_goals
                have harr : [d0, d1, d2, d3, d4, d5, d6, d7, d8, d9, d10, d11, d12, d13, d14, d15, d16] = (TbRaw.arr ⟨t.name, co, cn, cc, ro, rn, rc, t.count, t.policy, uo, un, uc, sort, ty, size, quiet, vk, vn, vs, place, head, fp, xo, xn, xc⟩).toList := by
                  rw [E0.out, E1.out, E2.out, E3.out, E4.out, E5.out, E6.out, E7.out, E8.out, E9.out, E10.out, E11.out, E12.out, E13.out, E14.out, E15.out, E16.out]
                rw [harr] at hown7
                obtain ⟨A1, A2⟩ := tab_fin (r := ⟨t.name, co, cn, cc, ro, rn, rc, t.count, t.policy, uo, un, uc, sort, ty, size, quiet, vk, vn, vs, place, head, fp, xo, xn, xc⟩) h0b hb0 hbl Bw6 HBK.out HFF.out own6 hrl h3 hnil HRR.out ⟨rfl, rfl, rfl, hC0, hR0, hU0⟩ HXY.out hown7 hgrow7 kB
                exact .inr ⟨y, HO.out, rfl, A1, A2⟩
            · have HE : Hid (addTabS fns ts t = .error n1) := by
                rcases HX2.out with ⟨he, hne0⟩ | ⟨y, hy, rfl, hxy⟩
                · have : n1 = n := by rw [hn1]; exact first_ne hne0
                  rw [Hid, hAS, he, this]; rfl
                · obtain ⟨q1, q2⟩ : y.ty = ty ∧ y.quiet = quiet := isEx_tq hxy
                  have hp : pb = true ∧ n1 = 5 := first_zero hn1 h1
                  rw [Hid, hAS, hy, polS, q1, q2, ← HPB.out, hp.1, hp.2]; rfl
              have hne1 : (n1 == 0) = false := by simpa using h1
              clear hn1 hAS hEq
              go_wp2_with fail
              go_ret
              exact .inl ⟨n1, HE.out, h1, rfl, Bw6⟩
      · have hne : (n0 == 0) = false := by simpa using h0
        have hne2 := True.intro
        have Bw2 : Below w.heap.size w wc := hBW.trans (B2.mono hBW.size)
        have HE : Hid (addTabS fns ts t = .error n0) := by
          have e : firstS [gvS (!wordS t.name || (tabN ts t.name == 0)) 2, gvS (!isTabS t) 6] = n0 := by
            rw [HN0.out, HN6.out, HWD.out, HIT.out]
          rw [Hid, addTabS, e, if_pos h0]
        clear hne2
        go_wp2_with fail
        go_ret
        exact .inl ⟨n0, HE.out, h0, rfl, Bw2⟩
end Go.Proofs.YtilfjpmeededmaaGreatDoor

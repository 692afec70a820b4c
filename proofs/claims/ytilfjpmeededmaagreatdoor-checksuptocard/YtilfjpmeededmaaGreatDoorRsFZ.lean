import Derived.Test.YtilfjpmeededmaaGreatDoorRsCZ
set_option linter.unusedVariables false
set_option linter.unusedSimpArgs false
namespace Go.Proofs.YtilfjpmeededmaaGreatDoor
open Go.RowKit
theorem KnIn.put {w x : World} {co : Option Addr} {cn cc : Nat} {to' : Option Addr} {tn tc : Nat} {fv : Value} {cols : List (Bs × Int)} {rfs : List RF} {b : Nat} (h : KnIn w co cn cc to' tn tc fv cols rfs) (hb : w.cell? ⟨b, 0, none⟩ = some (.slice none 0 0)) (hk : ∀ q, q ≠ b → x.heap[q]? = w.heap[q]?) (hs : w.heap.size ≤ x.heap.size) (hf : RFnsIn x fv rfs) : KnIn x co cn cc to' tn tc fv cols rfs := by
  refine ⟨h.clen, h.tlen, h.small, ?_, ?_, h.ccap, h.tcap, hf⟩
  · rcases h.hcols with e | ⟨g, e, hg, hc⟩
    · exact .inl e
    · by_cases h0 : cols = []
      · exact .inl h0
      · obtain ⟨c, cs, rfl⟩ := List.exists_cons_of_ne_nil h0
        have hgb : g ≠ b := fun e2 => by
          subst e2; have := hc 0 c rfl; rw [hb] at this; cases this
        exact .inr ⟨g, e, by omega, fun i d hd => (World.cell?_of_block (w := w) (a := ⟨g, i, none⟩) (hk g hgb)).trans (hc i d hd)⟩
  · rcases h.htypes with e | ⟨g, e, hg, hc⟩
    · exact .inl e
    · by_cases h0 : cols = []
      · exact .inl h0
      · obtain ⟨c, cs, rfl⟩ := List.exists_cons_of_ne_nil h0
        have hgb : g ≠ b := fun e2 => by
          subst e2; have := hc 0 c rfl; rw [hb] at this; cases this
        exact .inr ⟨g, e, by omega, fun i d hd => (World.cell?_of_block (w := w) (a := ⟨g, i, none⟩) (hk g hgb)).trans (hc i d hd)⟩
theorem set4_oth (w : World) (g : Nat) (a0 a1 a2 a3 : Value) (q : Nat) (hq : q ≠ g) : ((((w.setCell ⟨g, 0, none⟩ a0).setCell ⟨g, 1, none⟩ a1).setCell ⟨g, 2, none⟩ a2).setCell ⟨g, 3, none⟩ a3).heap[q]? = w.heap[q]? := by
  rw [Below.heap_setCell _ _ _ _ hq, Below.heap_setCell _ _ _ _ hq, Below.heap_setCell _ _ _ _ hq, Below.heap_setCell _ _ _ _ hq]
theorem set4_bel {B : Nat} {y w : World} (h : Below B y w) (g : Nat) (hg : B ≤ g) (a0 a1 a2 a3 : Value) : Below B y ((((w.setCell ⟨g, 0, none⟩ a0).setCell ⟨g, 1, none⟩ a1).setCell ⟨g, 2, none⟩ a2).setCell ⟨g, 3, none⟩ a3) :=
  (((h.setCell (p := ⟨g, _, none⟩) hg _).setCell (p := ⟨g, _, none⟩) hg _).setCell (p := ⟨g, _, none⟩) hg _).setCell (p := ⟨g, _, none⟩) hg _
theorem set4_blk {w : World} {g : Nat} {T : TypeId} {b0 b1 b2 b3 : Value} (h : w.heap[g]? = some (.cells #[b0, b1, b2, b3] T (0, 0))) (a0 a1 a2 a3 : Value) : ((((w.setCell ⟨g, 0, none⟩ a0).setCell ⟨g, 1, none⟩ a1).setCell ⟨g, 2, none⟩ a2).setCell ⟨g, 3, none⟩ a3).heap[g]? = some (.cells #[a0, a1, a2, a3] T (0, 0)) := by
  simp [World.setCell, Array.getElem?_modify, h]
theorem kind_b {x : Int} (h : isTyp x) : (ltI x == 98) = (x == 3) := by
  rcases h with rfl | rfl | rfl <;> decide
set_option maxHeartbeats 16000000 in
set_option maxRecDepth 100000 in
theorem refAddTab_any (w0 w : World) (xb : Nat) (l : List RFG) (ts : List RTab) (hB : RBaseT w0 w xb l ts) (h3 : ts.length ≤ 3) (hOK : FnOK (l.map (·.1))) (t : TabT) (co : Option Addr) (cn cc : Nat) (ro : Option Addr) (rn rc : Nat) (uo : Option Addr) (un uc : Nat) (hC : ColsIn w0 (.slice co cn cc) t.cols) (hR : RowsIn w0 (.slice ro rn rc) t.rows) (hU : StrsIn w0 (.slice uo un uc) t.users) (hn : t.name.length ≤ maxLen) :
    Calls Tryz.prog 186 #[.pointer (some ⟨xb, 0, none⟩), .agg #[.string (ofBs t.name), .slice co cn cc, .slice ro rn rc, .int .i64 t.count, .string (ofBs t.policy), .slice uo un uc]] w fun e w' => RTabRes w0 w xb l ts t (addTabS (fnsOf l) (ttsOf ts) t) e w' := by
  obtain ⟨fo, fnn, fc, to', tn, tc, po, pn, pc, ⟨h0x, h0⟩, hbk, ⟨hownF, h8, hbod⟩, hownT, hownP, h4, hts⟩ := hB
  have hxl := block_lt hbk
  obtain ⟨W, hW⟩ : ∃ W, W = w.alloc (tab0 t co cn cc ro rn rc uo un uc) := ⟨_, rfl⟩
  have HATW : Hid (w.alloc (tab0 t co cn cc ro rn rc uo un uc) = W) := hW.symm
  have hBW : Below w.heap.size w W := by rw [hW]; exact below_box w _
  have hbx : W.heap[w.heap.size]? = some (tab0 t co cn cc ro rn rc uo un uc) := by rw [hW]; exact heap_alloc_new w _
  have hsW : W.heap.size = w.heap.size + 1 := by rw [hW]; simp [World.size_alloc]
  have hRF := rfnsIn_own hownF h8 hbod
  have HKEEP : ∀ x : World, Below W.heap.size W x → ((x.cell? ⟨w.heap.size, 0, none⟩ = some (.string (ofBs t.name)) ∧ x.cell? ⟨w.heap.size, 1, none⟩ = some (.slice co cn cc) ∧ x.cell? ⟨w.heap.size, 2, none⟩ = some (.slice ro rn rc)) ∧ x.cell? ⟨w.heap.size, 3, none⟩ = some (.int .i64 t.count) ∧ x.cell? ⟨w.heap.size, 4, none⟩ = some (.string (ofBs t.policy)) ∧ x.cell? ⟨w.heap.size, 5, none⟩ = some (.slice uo un uc)) ∧ x.cell? ⟨xb, 0, none⟩ = some (.slice fo fnn fc) ∧ (w.heap.size < x.heap.size ∧ xb < x.heap.size) := by
    intro x hx
    have b0 := (hx.block w.heap.size (by omega)).trans hbx
    have b1 := (hx.block xb (by omega)).trans ((hBW.block xb hxl).trans hbk)
    have := hx.size
    exact ⟨⟨⟨(blk_at b0).trans rfl, (blk_at b0).trans rfl, (blk_at b0).trans rfl⟩, (blk_at b0).trans rfl, (blk_at b0).trans rfl, (blk_at b0).trans rfl⟩, (blk_at b1).trans rfl, by omega, by omega⟩
  have HWd : ∀ x : World, Calls Tryz.prog 263 #[.string (ofBs t.name)] x fun e w' => e = .returned (.bool (wordS t.name)) ∧ w' = x := by
    intro x; have := refWord_any (ofBs t.name) x (by rw [ofBs_size]; exact hn); rw [ofBs_toList] at this; exact this
  have HTb := refTable_any W xb to' tn tc (ts.map (·.t.name)) ((blk_at ((hBW.block xb hxl).trans hbk)).trans rfl) (names_of (ln_owns hownT fun q hq => hBW.block q (hownT.lt q hq).2) h4) t.name
  rw [← tix_same] at HTb
  have H0W : Below w0.heap.size w0 W := h0.trans (hBW.mono h0.size)
  have HIs : ∀ x : World, Below W.heap.size W x → Calls Tryz.prog 271 #[.agg #[.string (ofBs t.name), .slice co cn cc, .slice ro rn rc, .int .i64 t.count, .string (ofBs t.policy), .slice uo un uc]] x fun e w' => e = .returned (.bool (isTabS t)) ∧ Below x.heap.size x w' := fun x hx =>
    refIsTable_any x t co cn cc ro rn rc uo un uc (hC.keep (H0W.trans (hx.mono H0W.size))) (hR.keep (H0W.trans (hx.mono H0W.size)))
  have HNM : Hid _ := @addTab_name (fnsOf l) (ttsOf ts) t
  have HTA : Hid _ := @addTab_tab (fnsOf l) (ttsOf ts) t
  have HGO : Hid _ := @addTab_go (fnsOf l) (ttsOf ts) t
  obtain ⟨wd, hwd⟩ : ∃ b, b = wordS t.name := ⟨_, rfl⟩
  obtain ⟨fi, hfi⟩ : ∃ b, b = tabIx (ttsOf ts) t.name := ⟨_, rfl⟩
  obtain ⟨it, hit⟩ : ∃ b, b = isTabS t := ⟨_, rfl⟩
  rw [← hwd] at HWd HNM HTA HGO
  rw [← hfi] at HTb HNM HTA HGO
  simp only [← hit] at HIs
  rw [← hit] at HTA HGO
  have HIT : Hid _ := hit
  have HBX : Hid _ := hbx
  have HBK : Hid _ := hbk
  clear hwd hfi hit hW hbx hbk
  obtain ⟨⟨⟨x0, x1, x2⟩, x3, x4, x5⟩, y0, hl0, hl1⟩ := HKEEP W (Below.refl _ _)
  go_enter Tryz.func186, Tryz.ntmps186
  go_upto_region 2 with (go_at_call 263; refine (HWd _).mono ?_; rintro e w2 ⟨rfl, rfl⟩)
  rw [HATW.out]
  clear HATW HWd
  go_upto_region 3 with (go_at_call 192; refine HTb.mono ?_; rintro e w3 ⟨rfl, hb3⟩)
  clear x0 x1 x2 x3 x4 x5 y0 hl0 hl1 HTb
  have Bw3 : Below w.heap.size w w3 := hBW.trans (hb3.mono hBW.size)
  obtain ⟨⟨⟨x0, x1, x2⟩, x3, x4, x5⟩, y0, hl0, hl1⟩ := HKEEP w3 hb3
  cases wd with
  | false =>
    have HE : Hid (addTabS (fnsOf l) (ttsOf ts) t = .error 2) := HNM.out rfl
    go_wp2_with fail
    go_ret
    exact .inl ⟨2, HE.out, by decide, rfl, Bw3⟩
  | true =>
    cases fi with
    | some k' =>
      have hix : ixS (some k') = (k' : Int) := rfl
      have HE : Hid (addTabS (fnsOf l) (ttsOf ts) t = .error 2) := HNM.out rfl
      go_wp2_with fail
      go_ret
      exact .inl ⟨2, HE.out, by decide, rfl, Bw3⟩
    | none =>
      have hix : ixS none = -1 := rfl
      have HI3 := HIs w3 hb3
      cases it with
      | false =>
        have HE : Hid (addTabS (fnsOf l) (ttsOf ts) t = .error 6) := HTA.out rfl rfl
        go_wp2_with (go_at_call 271; refine HI3.mono ?_; rintro e w5 ⟨rfl, hb5⟩)
        go_ret
        exact .inl ⟨6, HE.out, by decide, rfl, Bw3.trans (hb5.mono Bw3.size)⟩
      | true =>
        have HG : Hid _ := HGO.out rfl rfl
        obtain ⟨hkt, hkw⟩ := tab_known HIT.out.symm
        have hTC := isTab_cols HIT.out.symm
        go_upto_region 8 with (go_at_call 271; refine HI3.mono ?_; rintro e w5 ⟨rfl, hb5⟩)
        clear x0 x1 x2 x3 x4 x5 y0 hl0 hl1 HI3 HIs HNM HTA HGO hix
        have hB5 : Below W.heap.size W w5 := hb3.trans (hb5.mono hb3.size)
        clear hb3 hb5 Bw3
        have Bw5 : Below w.heap.size w w5 := hBW.trans (hB5.mono hBW.size)
        have B05 : Below w0.heap.size w0 w5 := H0W.trans (hB5.mono H0W.size)
        obtain ⟨⟨⟨x0, x1, x2⟩, x3, x4, x5⟩, y0, hl0, hl1⟩ := HKEEP w5 hB5
        have HWi : ∀ x : World, Below w5.heap.size w5 x → Calls Tryz.prog 272 #[.agg #[.slice none 0 0, .slice none 0 0, .string ⟨#[]⟩, .slice fo fnn fc], .string ⟨#[114, 111, 119]⟩, .agg #[.string (ofBs t.name), .slice co cn cc, .slice ro rn rc, .int .i64 t.count, .string (ofBs t.policy), .slice uo un uc]] x fun e w' => ∃ co' cn' cc' to' tn' tc', e = .returned (.agg #[.slice co' cn' cc', .slice to' tn' tc', .string ⟨#[]⟩, .slice fo fnn fc]) ∧ KnIn w' co' cn' cc' to' tn' tc' (.slice fo fnn fc) (t.cols.map (nameS rowN)) (l.map (·.1)) ∧ Below x.heap.size x w' ∧ Below w5.heap.size w5 w' := fun x hx =>
          (refWith_any x fo fnn fc (l.map (·.1)) ((hRF.keep Bw5).keep hx) t co cn cc ro rn rc uo un uc ((hC.keep B05).keep hx) hTC).mono fun e w' ⟨a, b, c, d, f, g, h1, h2, h3⟩ => ⟨a, b, c, d, f, g, h1, h2, h3, hx.trans (h3.mono hx.size)⟩
        go_cut [8] (fun s8 wx => ∃ (kb : Nat) (co' : Option Addr) (cn' cc' : Nat) (to2 : Option Addr) (tn2 tc2 : Nat), s8 = .pointer (some ⟨kb, 0, none⟩) ∧ Below w5.heap.size w5 wx ∧ w5.heap.size ≤ kb ∧ wx.heap[kb]? = some (.cells #[.slice co' cn' cc', .slice to2 tn2 tc2, .string ⟨#[]⟩, .slice fo fnn fc] 374 (0, 0)) ∧ KnIn wx co' cn' cc' to2 tn2 tc2 (.slice fo fnn fc) (t.cols.map (nameS rowN)) (l.map (·.1)))
        case first =>
          clear HKEEP hsW
          go_region_with (go_at_call 272; refine (HWi _ ?_).mono ?_; (first | exact Below.refl _ _ | exact (Below.refl _ _).drew | exact (below_box w5 _).drew | exact below_box w5 _); rintro e w6 ⟨co', cn', cc', to2, tn2, tc2, rfl, hkn, hb6, hb6'⟩; first | (have hkb6 : w6.heap[w5.heap.size]? = some (.cells #[.slice none 0 0, .slice none 0 0, .string ⟨#[]⟩, .slice none 0 0] 374 (0, 0)) := (hb6.block w5.heap.size (by simp [World.size_alloc])).trans (heap_alloc_new w5 _); obtain ⟨⟨k0, k1, k2, k3⟩, g0, g1, g2, g3⟩ := cells4 hkb6; have hkl6 := block_lt hkb6) | skip)
          all_goals (go_wp2_with fail; go_meet)
          all_goals first
            | exact ⟨w6.heap.size, co', cn', cc', to2, tn2, tc2, rfl, hb6'.alloc hb6'.size _, hb6'.size, heap_alloc_new w6 _, hkn.keep (below_box w6 _)⟩
            | exact ⟨w5.heap.size, co', cn', cc', to2, tn2, tc2, rfl, set4_bel hb6' _ (Nat.le_refl _) _ _ _ _, Nat.le_refl _, set4_blk hkb6 _ _ _ _, hkn.put k0 (fun q hq => set4_oth _ _ _ _ _ _ _ hq) (by simp [World.setCell]) ((hRF.keep Bw5).keep (set4_bel hb6' _ (Nat.le_refl _) _ _ _ _))⟩
        case rest =>
          obtain ⟨kb, co', cn', cc', to2, tn2, tc2, rfl, hB6, hkb, hkbb, hkn⟩ := hcut
          clear x0 x1 x2 x3 x4 x5 y0 hl0 hl1 HWi
          generalize hw6 : wc = w6 at *
          clear hw6
          have hB6' : Below W.heap.size W w6 := hB5.trans (hB6.mono hB5.size)
          have Bw6 : Below w.heap.size w w6 := hBW.trans (hB6'.mono hBW.size)
          obtain ⟨⟨⟨x0, x1, x2⟩, x3, x4, x5⟩, y0, hl0, hl1⟩ := HKEEP w6 hB6'
          have hkbl := block_lt hkbb
          obtain ⟨⟨k0, k1, k2, k3⟩, _⟩ := cells4 hkbb
          have hKO : KnOK (t.cols.map (nameS rowN), typesL []) [] (l.map (·.1)) := hOK.known rfl hkt hkw
          have HRd := refRead_any w6 co' cn' cc' to2 tn2 tc2 [] fo fnn fc (t.cols.map (nameS rowN), typesL []) (l.map (·.1)) hkn (by simp) hKO t.policy
          have he : ofBs [] = ⟨#[]⟩ := rfl
          rw [he] at HRd
          have HKBB : Hid _ := hkbb
          clear hkbb
          go_wp2_with (go_at_call 268; refine HRd.mono ?_)
          clear HRd
          rintro e w7 ⟨hb7, hres⟩
          have Bw7 : Below w.heap.size w w7 := Bw6.trans (hb7.mono Bw6.size)
          have hB7 : Below W.heap.size W w7 := hB6'.trans (hb7.mono hB6'.size)
          rcases hres with ⟨n, hrd, hnz, rfl⟩ | ⟨x, tr, g, cap, cs, hrd, hps, htyx, hlone, rfl, hgw, hND⟩
          · have HE : Hid (addTabS (fnsOf l) (ttsOf ts) t = .error n) := by
              rw [Hid, HG.out]
              have : readS atoiS (t.cols.map (nameS rowN), []) (fnsOf l) t.policy = .error n := hrd
              rw [this]; rfl
            have hne : (n == 0) = false := by simpa using hnz
            clear hrd
            go_wp2_with fail
            go_ret
            exact .inl ⟨n, HE.out, hnz, rfl, Bw7.alloc Bw7.size _⟩
          · have HPL : Hid (addTabS (fnsOf l) (ttsOf ts) t = polS (.ok x)) := by
              rw [Hid, HG.out]
              have : readS atoiS (t.cols.map (nameS rowN), []) (fnsOf l) t.policy = .ok x := hrd
              rw [this]
            obtain ⟨pm, hpm⟩ : ∃ pm, (post tr).length = pm + 1 := ⟨(post tr).length - 1, by have := post_pos tr; omega⟩
            rw [hpm]
            have hbx8 := below_box w7 (.cells #[.slice (some ⟨g, 0, none⟩) (pm + 1) cap] 242)
            have hkb7 := (hb7.block kb hkbl).trans HKBB.out
            have hqx : quT (l.map (·.1)) tr = x.quiet := (quT_same atoiS hKO tr x hlone htyx).symm
            have hpmi : (post tr)[pm]? = some tr := by have := post_last tr; rw [hpm, Nat.add_sub_cancel] at this; exact this
            have HQu : Calls Tryz.prog 270 #[.agg #[.slice co' cn' cc', .slice to2 tn2 tc2, .string ⟨#[]⟩, .slice fo fnn fc], .agg #[.slice (some ⟨g, 0, none⟩) (pm + 1) cap], .int .i64 (pm : Int)] (w7.alloc (.cells #[.slice (some ⟨g, 0, none⟩) (pm + 1) cap] 242)) fun e w' => e = .returned (.bool x.quiet) ∧ Below (w7.alloc (.cells #[.slice (some ⟨g, 0, none⟩) (pm + 1) cap] 242)).heap.size (w7.alloc (.cells #[.slice (some ⟨g, 0, none⟩) (pm + 1) cap] 242)) w' := by
              have := refQuiet_any (SizeOf.sizeOf tr) tr (w7.alloc (.cells #[.slice (some ⟨g, 0, none⟩) (pm + 1) cap] 242)) co' cn' cc' to2 tn2 tc2 [] fo fnn fc (t.cols.map (nameS rowN), typesL []) (l.map (·.1)) g cap (post tr) _ cs pm (Nat.le_refl _) ((hkn.keep hb7).keep hbx8) hKO (hND.keep hbx8) hpmi
              rw [hqx, hpm, he] at this; exact this
            obtain ⟨⟨j0, j1, j2, j3⟩, _⟩ := cells4 ((hbx8.block kb (block_lt hkb7)).trans hkb7)
            have heb8 := heap_alloc_new w7 (.cells #[.slice (some ⟨g, 0, none⟩) (pm + 1) cap] 242)
            obtain ⟨j4, _⟩ := cells1 heb8
            have hkl8 : kb < (w7.alloc (.cells #[.slice (some ⟨g, 0, none⟩) (pm + 1) cap] 242)).heap.size := by rw [World.size_alloc]; have := block_lt hkb7; omega
            have hel8 : w7.heap.size < (w7.alloc (.cells #[.slice (some ⟨g, 0, none⟩) (pm + 1) cap] 242)).heap.size := by rw [World.size_alloc]; omega
            have B8 : Below W.heap.size W (w7.alloc (.cells #[.slice (some ⟨g, 0, none⟩) (pm + 1) cap] 242)) := hB7.alloc hB7.size _
            have HN8 : Hid _ := hND.keep hbx8
            have HEB : Hid _ := heb8
            have hxty : isTyp x.ty := typ_typed atoiS hKO tr x hlone htyx
            have hkind := kind_b hxty
            have HPM : Hid _ := hpm
            have HTX : Hid _ := htyx
            have hcap1 : pm + 1 ≤ cap := by have := hND.cap; omega
            have hpl1 : pm + 1 ≤ 1000 := by have := hND.small; omega
            clear hpm hqx hpmi hrd hps htyx hlone hND hkb7 hbx8 heb8 x0 x1 x2 x3 x4 x5 y0 hl0 hl1 k0 k1 k2 k3
            generalize hw8 : w7.alloc (.cells #[.slice (some ⟨g, 0, none⟩) (pm + 1) cap] 242) = w8 at *
            obtain ⟨xq, hxq⟩ : ∃ z, z = x.quiet := ⟨_, rfl⟩
            obtain ⟨xk, hxk⟩ : ∃ z, z = ltI x.ty := ⟨_, rfl⟩
            rw [← hxq] at HQu
            rw [← hxk] at hkind
            rw [← hxk]
            have HXQ : Hid _ := hxq
            have HXK : Hid _ := hxk
            clear hxq hxk
            go_upto_region 13 with (go_at_call 270; refine HQu.mono ?_; rintro e w9 ⟨rfl, hb9⟩)
            have B9 : Below W.heap.size W w9 := B8.trans (hb9.mono B8.size)
            have Bw9 : Below w.heap.size w w9 := hBW.trans (B9.mono hBW.size)
            clear HQu j0 j1 j2 j3 j4
            cases hx3 : (x.ty == 3) with
            | false =>
              have HE : Hid (addTabS (fnsOf l) (ttsOf ts) t = .error 5) := by rw [Hid, HPL.out, polS, hx3]; rfl
              rw [hx3] at hkind
              have hne98 : ¬ xk = 98 := by simpa using hkind
              go_wp2_with fail
              go_ret
              exact .inl ⟨5, HE.out, by decide, rfl, Bw9⟩
            | true =>
              rw [hx3] at hkind
              obtain rfl : xk = 98 := by simpa using hkind
              cases xq with
              | false =>
                have HE : Hid (addTabS (fnsOf l) (ttsOf ts) t = .error 5) := by rw [Hid, HPL.out, polS, ← HXQ.out, Bool.not_false, Bool.or_true, if_pos rfl]
                go_wp2_with fail
                go_ret
                exact .inl ⟨5, HE.out, by decide, rfl, Bw9⟩
              | true =>
                have HE : Hid (addTabS (fnsOf l) (ttsOf ts) t = .ok x) := by rw [Hid, HPL.out, polS, ← HXQ.out, hx3]; rfl
                have hbx9 := (B9.block w.heap.size (by omega)).trans HBX.out
                have hbk9 := (Bw9.block xb hxl).trans HBK.out
                have heb9 := (hb9.block w7.heap.size hel8).trans HEB.out
                have ownT9 := ln_owns hownT fun q hq => Bw9.block q (hownT.lt q hq).2
                have ownP9 := ln_owns hownP fun q hq => Bw9.block q (hownP.lt q hq).2
                have ownF9 := ln_owns hownF fun q hq => Bw9.block q (hownF.lt q hq).2
                have HN9 : Hid _ := HN8.out.keep hb9
                clear hw8 HKEEP
                go_upto_region 15 with fail
                refine refAddTab_r15 xb w.heap.size w9 ts.length (rtCells ts) (.slice fo fnn fc) to' tn tc (.slice po pn pc) (ofBs t.name) (ofBs t.policy) t.count co cn cc ro rn rc uo un uc h3 hbx9 ownT9 hbk9 _ _ _ _ _ _ _ _ _ _ _ _ _ _ _ _ _ _ _ _ _ _ _ _ _ _ _ _ _ _ _ _ _ _ _ _ _ _ _ _ _ _ _ _ _ _ _ _ _ _ _ _ _ _ _ _ _ _ _ _ _ _ _ _ _ _ _ _ _ _ _ _ _ _ _ _ _ _ _ _ _ ?_
                intro v61 v62 v63 v64 v65 v66 v67 v68 v69 v70 g7 cap7 w10 L hown7 hgrow7
                obtain ⟨_, A1, A2, A3, A4⟩ := box_fin (B := xb) (k := 1) hbk9 ownT9 (below_box w9 L).drew hgrow7 hown7 (.slice (some ⟨g7, 0, none⟩) (ts.length + 1) cap7) (Nat.le_refl _)
                have heb10 := (A4 _ _ _ _ heb9 (by decide) (by decide)).trans heb9
                have ownP10 := owns_typed ownP9 fun q cur fz hq => A4 q cur _ fz hq (by decide) (by decide)
                have ownF10 := owns_typed ownF9 fun q cur fz hq => A4 q cur _ fz hq (by decide) (by decide)
                dsimp only
                generalize hw11 : w10.setCell ⟨xb, 1, none⟩ (.slice (some ⟨g7, 0, none⟩) (ts.length + 1) cap7) = w11 at *
                clear hw11
                go_upto_region 16 with fail
                refine refAddTab_r16 xb w7.heap.size w11 ts.length (plCells ts) (.slice fo fnn fc) (.slice (some ⟨g7, 0, none⟩) (ts.length + 1) cap7) po pn pc (some ⟨g, 0, none⟩) (pm + 1) cap h3 heb10 ownP10 A1 _ _ _ _ _ _ _ _ _ _ _ _ _ _ _ _ _ _ _ _ _ _ _ _ _ _ _ _ _ _ _ _ _ _ _ _ _ _ _ _ _ _ _ _ _ _ _ _ _ _ _ _ _ _ _ _ _ _ _ _ _ _ _ _ _ _ _ _ _ _ _ _ _ _ _ _ _ _ _ _ _ ?_
                intro v71 v72 v73 v74 v75 v76 v77 v78 v79 v80 g8 cap8 w12 L2 hown8 hgrow8
                obtain ⟨_, C1, C2, C3, C4⟩ := box_fin (B := xb) (k := 2) A1 ownP10 (below_box w11 L2).drew hgrow8 hown8 (.slice (some ⟨g8, 0, none⟩) (ts.length + 1) cap8) (Nat.le_refl _)
                dsimp only
                generalize hw13 : w12.setCell ⟨xb, 2, none⟩ (.slice (some ⟨g8, 0, none⟩) (ts.length + 1) cap8) = w13 at *
                clear hw13
                have hkT : ∀ (q : Nat) (cur : Array Value) (T : TypeId) (fz : Nat × Nat), w9.heap[q]? = some (.cells cur T fz) → T = 359 ∨ T = 3 → w13.heap[q]? = w9.heap[q]? := by
                  intro q cur T fz hq hT
                  have e := A4 q cur T fz hq (by rcases hT with rfl | rfl <;> decide) (by rcases hT with rfl | rfl <;> decide)
                  exact (C4 q cur T fz (e.trans hq) (by rcases hT with rfl | rfl <;> decide) (by rcases hT with rfl | rfl <;> decide)).trans e
                have hcl : plCells ts ++ [.slice (some ⟨g, 0, none⟩) (pm + 1) cap] = plCells (ts ++ [⟨t, x, tr, g, cap, co, cn, cc, ro, rn, rc, uo, un, uc⟩]) := by
                  rw [plCells, plCells, List.map_append]; simp only [List.map_cons, List.map_nil, plCell, HPM.out]
                have hrt : rtCells ts ++ [.string (ofBs t.name), .slice co cn cc, .slice ro rn rc, .int .i64 t.count, .string (ofBs t.policy), .slice uo un uc] = rtCells (ts ++ [⟨t, x, tr, g, cap, co, cn, cc, ro, rn, rc, uo, un, uc⟩]) := by
                  rw [rtCells_app]; simp [rtCells, rtCell]
                have hpol : PolAt w9 ⟨t, x, tr, g, cap, co, cn, cc, ro, rn, rc, uo, un, uc⟩ := by
                  refine ⟨cs, _, HN9.out, ?_⟩
                  show tysTo atoiS (t.cols.map (nameS rowN), typesL []) (RF.list (l.map (·.1))) (post tr) (post tr).length ((post tr).length - 1) = ltI x.ty
                  rw [tysTo, if_pos (by have := post_pos tr; omega), post_last tr]
                  show tyR (typS atoiS (t.cols.map (nameS rowN), typesL []) (RF.list (l.map (·.1))) tr) = ltI x.ty
                  rw [HTX.out]; rfl
                have Bx : Below xb w w13 := ((Bw9.mono (by omega)).trans A3).trans C3
                have HR : Hid (RBaseT w0 w13 xb l (ts ++ [⟨t, x, tr, g, cap, co, cn, cc, ro, rn, rc, uo, un, uc⟩])) := by
                  refine ⟨fo, fnn, fc, some ⟨g7, 0, none⟩, ts.length + 1, cap7, some ⟨g8, 0, none⟩, ts.length + 1, cap8, ⟨h0x, h0.trans (Bx.mono h0x)⟩, C1, ⟨owns_typed ownF10 fun q cur fz hq => C4 q cur _ fz hq (by decide) (by decide), h8, fun e he => ((hbod e he).keep Bw9).move hkT⟩, ?_, ?_, by simp; omega, fun r hr => ?_⟩
                  · rw [List.length_append, ← hrt]; exact owns_typed A2 fun q cur fz hq => C4 q cur _ fz hq (by decide) (by decide)
                  · rw [List.length_append, ← hcl]; exact C2
                  · rcases List.mem_append.mp hr with h | h
                    · exact ⟨(hts r h).1, ((hts r h).2.keep Bw9).move hkT⟩
                    · rw [List.mem_singleton.mp h]; exact ⟨⟨hC, hR, hU⟩, hpol.move hkT⟩
                clear A1 A2 A3 A4 C1 C2 C3 C4 hkT hown7 hgrow7 hown8 hgrow8
                go_wp2_with fail
                go_ret
                exact .inr ⟨⟨t, x, tr, g, cap, co, cn, cc, ro, rn, rc, uo, un, uc⟩, HE.out, rfl, rfl, HR.out, Bx⟩
end Go.Proofs.YtilfjpmeededmaaGreatDoor

namespace Go.Proofs.YtilfjpmeededmaaGreatDoor
open Go.RowKit
def RReadRes (w : World) (o : Except Int (List Fn × List (TabT × Ex))) (e : Ending) (w' : World) : Prop := Below w.heap.size w w' ∧
  ((∃ (n : Int) (xb : Nat), o = .error n ∧ n ≠ 0 ∧ e = .returned (.tuple #[.pointer (some ⟨xb, 0, none⟩), .int .i64 n])) ∨
   (∃ (l : List RFG) (tl : List RTab) (xb : Nat), o = .ok (fnsOf l, ttsOf tl) ∧ e = .returned (.tuple #[.pointer (some ⟨xb, 0, none⟩), .int .i64 0]) ∧ RBaseT w w' xb l tl ∧ FnOK (l.map (·.1))))
theorem fns_snoc (l : List RFG) (fn : Fn) (args : Bs) (t : Tr) (g cap : Nat) : fnsOf (l ++ [(⟨fn, args, t⟩, g, cap)]) = fnsOf l ++ [fn] := by simp [fnsOf, RF.list]
theorem tts_snoc (tl : List RTab) (r : RTab) : ttsOf (tl ++ [r]) = ttsOf tl ++ [(r.t, r.x)] := by simp [ttsOf]
theorem fnOK_nil : FnOK ([] : List RF) := ⟨fun r h => by simp at h, fun r h => by simp at h, fun r h => by simp at h, fun r h => by simp at h⟩
theorem two_boxes (w : World) (a b : Obj) : (((w.alloc a).alloc b).heap[w.heap.size]? = some a ∧ ((w.alloc a).alloc b).heap[w.heap.size + 1]? = some b) ∧ Below w.heap.size w ((w.alloc a).alloc b) ∧ ((w.alloc a).alloc b).heap.size = w.heap.size + 2 := by
  have s1 : (w.alloc a).heap.size = w.heap.size + 1 := by simp [World.size_alloc]
  refine ⟨⟨?_, ?_⟩, ((Below.refl _ w).alloc (Nat.le_refl _) _).alloc (by rw [s1]; omega) _, by simp [World.size_alloc]⟩
  · rw [Below.heap_alloc _ _ _ (by rw [s1]; omega)]; exact heap_alloc_new w _
  · rw [← s1]; exact heap_alloc_new _ _
set_option maxHeartbeats 16000000 in
set_option maxRecDepth 100000 in
theorem refReadB_short (w : World) (fs : List FnT) (h8 : fs.length ≤ 8) (fo : Option Addr) (fl fc : Nat) (hv : TextsIn w (.slice fo fl fc) fs) (hargs : ∀ f ∈ fs, f.2.1.length ≤ maxLen) (ts : List TabT) (h4 : ts.length ≤ 4) (tro : Option Addr) (tl tc : Nat) (hv2 : TblsIn w (.slice tro tl tc) ts) :
    Calls Tryz.prog 113 #[.agg #[.slice fo fl fc, .slice tro tl tc]] w fun e w' => RReadRes w (readB fs ts) e w' := by
  obtain ⟨ao, cap, he1, hml, hz⟩ := hv
  cases he1
  obtain ⟨to2, tcap, he2, hml2, hz2⟩ := hv2
  cases he2
  have hz2' : Hid _ := hz2
  have HZ : Hid _ := hz
  have HAR : Hid _ := hargs
  clear hz2 hz hargs
  have hd8 : decide ((8 : Int) < (fs.length : Int)) = false := by simp; omega
  have hd4 : decide ((4 : Int) < (ts.length : Int)) = false := by simp; omega
  obtain ⟨W, hW⟩ : ∃ W, W = (w.alloc (.cells #[.slice fo fs.length fc, .slice tro ts.length tc] 43)).alloc (.cells #[.slice none 0 0, .slice none 0 0, .slice none 0 0] 370) := ⟨_, rfl⟩
  obtain ⟨⟨hbb, hxx⟩, hBW, hsW⟩ := two_boxes w (.cells #[.slice fo fs.length fc, .slice tro ts.length tc] 43) (.cells #[.slice none 0 0, .slice none 0 0, .slice none 0 0] 370)
  rw [← hW] at hbb hxx hBW hsW
  have HATW : Hid ((w.alloc (.cells #[.slice fo fs.length fc, .slice tro ts.length tc] 43)).alloc (.cells #[.slice none 0 0, .slice none 0 0, .slice none 0 0] 370) = W) := hW.symm
  have I0 : RBaseF W (w.heap.size + 1) [] := ⟨none, 0, 0, hxx, World.ownsRow_nil _ _ _ _, by simp, fun e he => by simp at he⟩
  clear hW
  go_enter Tryz.func113, Tryz.ntmps113
  go_wp2_with fail
  rw [HATW.out]
  clear HATW
  go_loopw [5] (fun iv wr => ∃ (i : Nat) (l : List RFG), i ≤ fs.length ∧ iv = .int .i64 i ∧ l.length = i ∧ RBaseF wr (w.heap.size + 1) l ∧ FnOK (l.map (·.1)) ∧ Hid (readFs [] fs = readFs (fnsOf l) (fs.drop i)) ∧ Below (w.heap.size + 1) W wr) (fun iv _ => fs.length - (intOf iv).toNat)
  case atStart => exact ⟨0, [], Nat.zero_le _, rfl, rfl, I0, fnOK_nil, rfl, Below.refl _ _⟩
  case round =>
    clear I0
    obtain ⟨i, l, hi, rfl, hll, hRB, hok, HI, hB⟩ := hrel
    have hbx : wr.heap[w.heap.size]? = some (.cells #[.slice fo fs.length fc, .slice tro ts.length tc] 43 (0, 0)) := (hB.block _ (by omega)).trans hbb
    have hbl := block_lt hbx
    have b0 : wr.cell? ⟨w.heap.size, 0, none⟩ = some (.slice fo fs.length fc) := (blk_at hbx).trans rfl
    have b1 : wr.cell? ⟨w.heap.size, 1, none⟩ = some (.slice tro ts.length tc) := (blk_at hbx).trans rfl
    have Bwr : Below w.heap.size w wr := hBW.trans (hB.mono (by omega))
    by_cases hlt : i < fs.length
    · obtain ⟨b, off, rfl, hb, hc⟩ : ∃ b off, fo = some ⟨b, off, none⟩ ∧ b < w.heap.size ∧ ∀ (i : Nat) (f : FnT), fs[i]? = some f → (w.cell? ⟨b, off + i * 3, none⟩ = some (.string (ofBs f.1)) ∧ w.cell? ⟨b, off + i * 3 + 1, none⟩ = some (.string (ofBs f.2.1)) ∧ w.cell? ⟨b, off + i * 3 + 2, none⟩ = some (.string (ofBs f.2.2))) ∧ f.1.length ≤ maxLen ∧ f.2.2.length ≤ maxLen := by
        rcases HZ.out with h | h
        · subst h; simp at hlt
        · exact h
      obtain ⟨⟨c0, c1, c2⟩, hl1, hl2⟩ := hc i fs[i] (List.getElem?_eq_getElem hlt)
      have cl : ∀ j, wr.cell? ⟨b, j, none⟩ = w.cell? ⟨b, j, none⟩ := fun j => Bwr.cell (p := ⟨b, j, none⟩) hb
      have q0 := (cl _).trans c0
      have q1 := (cl _).trans c1
      have q2 := (cl _).trans c2
      have hla := HAR.out fs[i] (List.getElem_mem hlt)
      have hd : fs.drop i = (fs[i].1, fs[i].2.1, fs[i].2.2) :: fs.drop (i + 1) := List.drop_eq_getElem_cons hlt
      rw [hd] at HI
      obtain ⟨x1, hx1⟩ : ∃ x, x = fs[i].1 := ⟨_, rfl⟩
      obtain ⟨x2, hx2⟩ : ∃ x, x = fs[i].2.1 := ⟨_, rfl⟩
      obtain ⟨x3, hx3⟩ : ∃ x, x = fs[i].2.2 := ⟨_, rfl⟩
      rw [← hx1] at q0 HI hl1
      rw [← hx2] at q1 HI hla
      rw [← hx3] at q2 HI
      have hbr : b < wr.heap.size := by have := Bwr.size; omega
      have HC := refAddFunc_any wr (w.heap.size + 1) l hRB (by omega) hok x1 x2 x3 hl1 hla
      clear cl c0 c1 c2 hc hd hx1 hx2 hx3 hl1 hl2 hla hRB
      go_wp2_with (go_at_call 185; refine HC.mono ?_)
      rintro e w5 (⟨n, ho, hn, rfl, hb5⟩ | ⟨fn, t, g, cp, ho, rfl, hB5, hok5, hb5⟩)
      · have HE : Hid (readFs [] fs = .error n) := by rw [Hid, HI.out]; exact addS_err ho _
        have BX : Below w.heap.size w w5 := Bwr.trans (hb5.mono Bwr.size)
        have hne : (n == 0) = false := by simpa using hn
        clear HC HI hB hbx b0 b1 hb5 q0 q1 q2
        go_wp2_with fail
        exact bodyPost_ret (v := .tuple #[.pointer (some ⟨w.heap.size + 1, 0, none⟩), .int .i64 n]) (by simp [results, Tryz.results113, go_sem]) rfl ⟨BX, .inl ⟨n, w.heap.size + 1, readB_err h8 h4 HE.out, hn, rfl⟩⟩
      · have HN : Hid (readFs [] fs = readFs (fnsOf (l ++ [(⟨fn, x2, t⟩, g, cp)])) (fs.drop (i + 1))) := by rw [Hid, HI.out, fns_snoc]; exact addS_ok ho _
        have RB : Below (w.heap.size + 1) W w5 := hB.trans hb5
        clear HC HI hB hbx b0 b1 hb5 q0 q1 q2 ho
        go_wp2_with fail
        go_roundw
        case rel => exact ⟨i + 1, l ++ [(⟨fn, x2, t⟩, g, cp)], by omega, by go_num, by simp [hll], hB5, hok5, HN, RB⟩
        case measure => simp [intOf]; omega
    · have HE : Hid (readFs [] fs = .ok (fnsOf l)) := by rw [Hid, HI.out, List.drop_of_length_le (by omega)]; rfl
      have hBT := rbase_start (w0 := w) hRB (by omega) Bwr
      generalize hwa : wr = wa at *
      clear hwa HI hRB
      go_wp2_with fail
      go_loopw [7] (fun iv wx => ∃ (j : Nat) (tls : List RTab), j ≤ ts.length ∧ iv = .int .i64 j ∧ tls.length = j ∧ RBaseT w wx (w.heap.size + 1) l tls ∧ Hid (readTs (fnsOf l) [] ts = readTs (fnsOf l) (ttsOf tls) (ts.drop j)) ∧ Below (w.heap.size + 1) wa wx) (fun iv _ => ts.length - (intOf iv).toNat)
      case atStart => exact ⟨0, [], Nat.zero_le _, rfl, rfl, hBT, rfl, Below.refl _ _⟩
      case round =>
        obtain ⟨j, tls, hj, rfl, hjl, hBT2, HJ, hBj⟩ := hrel
        generalize hwj : wr = wj at *
        clear hwj hBT
        have hbxj : wj.heap[w.heap.size]? = some (.cells #[.slice fo fs.length fc, .slice tro ts.length tc] 43 (0, 0)) := (hBj.block _ (by omega)).trans hbx
        have hblj := block_lt hbxj
        have y1 : wj.cell? ⟨w.heap.size, 1, none⟩ = some (.slice tro ts.length tc) := (blk_at hbxj).trans rfl
        have Bwj : Below w.heap.size w wj := Bwr.trans (hBj.mono (by omega))
        by_cases hlt : j < ts.length
        · obtain ⟨b, off, rfl, hb, hc⟩ : ∃ b off, tro = some ⟨b, off, none⟩ ∧ b < w.heap.size ∧ ∀ (i : Nat) (t : TabT), ts[i]? = some t → TblAt w b (off + i * 6) t := by
            rcases hz2'.out with h | h
            · subst h; simp at hlt
            · exact h
          obtain ⟨co, cn, cc, ro, rn, rc, uo, un, uc, ⟨c0, c1, c2, c3, c4, c5⟩, hC, hR', hU, hnl, hpl⟩ := hc j ts[j] (List.getElem?_eq_getElem hlt)
          have cl : ∀ o, wj.cell? ⟨b, o, none⟩ = w.cell? ⟨b, o, none⟩ := fun o => Bwj.cell (p := ⟨b, o, none⟩) hb
          have q0 := (cl _).trans c0
          have q1 := (cl _).trans c1
          have q2 := (cl _).trans c2
          have q3 := (cl _).trans c3
          have q4 := (cl _).trans c4
          have q5 := (cl _).trans c5
          have hbj : b < wj.heap.size := by have := Bwj.size; omega
          have hd : ts.drop j = ts[j] :: ts.drop (j + 1) := List.drop_eq_getElem_cons hlt
          rw [hd] at HJ
          obtain ⟨t, ht⟩ : ∃ t, t = ts[j] := ⟨_, rfl⟩
          rw [← ht] at q0 q3 q4 HJ hC hR' hU hnl hpl
          have HC := refAddTab_any w wj (w.heap.size + 1) l tls hBT2 (by omega) hok t co cn cc ro rn rc uo un uc hC hR' hU hnl
          clear cl c0 c1 c2 c3 c4 c5 hc hd ht hC hR' hU hBT2 hz2'
          go_wp2_with (go_at_call 186; refine HC.mono ?_)
          rintro e w5 (⟨n, ho, hn, rfl, hb5⟩ | ⟨r, ho, hrt, rfl, hB5, hb5⟩)
          · have HE2 : Hid (readB fs ts = .error n) := by rw [Hid, readB_tabs h8 h4 HE.out, HJ.out, readTs, ho]; rfl
            have BX5 : Below w.heap.size w w5 := Bwj.trans (hb5.mono Bwj.size)
            have hne : (n == 0) = false := by simpa using hn
            clear HC HJ hb5 q0 q1 q2 q3 q4 q5
            go_wp2_with fail
            exact bodyPost_ret (v := .tuple #[.pointer (some ⟨w.heap.size + 1, 0, none⟩), .int .i64 n]) (by simp [results, Tryz.results113, go_sem]) rfl ⟨BX5, .inl ⟨n, w.heap.size + 1, HE2.out, hn, rfl⟩⟩
          · have HN : Hid (readTs (fnsOf l) [] ts = readTs (fnsOf l) (ttsOf (tls ++ [r])) (ts.drop (j + 1))) := by rw [Hid, HJ.out, readTs, ho, tts_snoc, hrt]
            have RB : Below (w.heap.size + 1) wa w5 := hBj.trans hb5
            clear HC HJ hb5 q0 q1 q2 q3 q4 q5 ho
            go_wp2_with fail
            go_roundw
            case rel => exact ⟨j + 1, tls ++ [r], by omega, by go_num, by simp [hjl], hB5, HN, RB⟩
            case measure => simp [intOf]; omega
        · have HE2 : Hid (readB fs ts = .ok (fnsOf l, ttsOf tls)) := by rw [Hid, readB_tabs h8 h4 HE.out, HJ.out, List.drop_of_length_le (by omega)]; rfl
          have HB2 : Hid _ := hBT2
          clear HJ hBT2 hz2'
          go_wp2_with fail
          exact bodyPost_ret (v := .tuple #[.pointer (some ⟨w.heap.size + 1, 0, none⟩), .int .i64 0]) (by simp [results, Tryz.results113, go_sem]) rfl ⟨Bwj, .inr ⟨l, tls, w.heap.size + 1, HE2.out, rfl, HB2.out, hok⟩⟩
set_option maxHeartbeats 1600000 in
set_option maxRecDepth 100000 in
theorem refReadB_any (w : World) (fs : List FnT) (fo : Option Addr) (fl fc : Nat) (hv : TextsIn w (.slice fo fl fc) fs) (hargs : ∀ f ∈ fs, f.2.1.length ≤ maxLen) (ts : List TabT) (tro : Option Addr) (tl tc : Nat) (hv2 : TblsIn w (.slice tro tl tc) ts) :
    Calls Tryz.prog 113 #[.agg #[.slice fo fl fc, .slice tro tl tc]] w fun e w' => RReadRes w (readB fs ts) e w' := by
  by_cases h8 : fs.length ≤ 8
  · by_cases h4 : ts.length ≤ 4
    · exact refReadB_short w fs h8 fo fl fc hv hargs ts h4 tro tl tc hv2
    · obtain ⟨ao, cap, he1, hml, hz⟩ := hv
      cases he1
      obtain ⟨to2, tcap, he2, hml2, hz2⟩ := hv2
      cases he2
      have HE : Hid (readB fs ts = .error 9) := by rw [Hid, readB, if_pos (by omega)]
      have hd8 : decide ((8 : Int) < (fs.length : Int)) = false := by simp; omega
      have hd4 : decide ((4 : Int) < (ts.length : Int)) = true := by simp; omega
      clear hz hz2 hargs
      go_enter Tryz.func113, Tryz.ntmps113
      go_wp2_with fail
      exact bodyPost_ret (v := .tuple #[.pointer (some ⟨w.heap.size + 1, 0, none⟩), .int .i64 9]) (by simp [results, Tryz.results113, go_sem]) rfl ⟨(two_boxes w _ _).2.1, .inl ⟨9, _, HE.out, by decide, rfl⟩⟩
  · obtain ⟨ao, cap, he1, hml, hz⟩ := hv
    cases he1
    obtain ⟨to2, tcap, he2, hml2, hz2⟩ := hv2
    cases he2
    have HE : Hid (readB fs ts = .error 9) := by rw [Hid, readB, if_pos (by omega)]
    have hd8 : decide ((8 : Int) < (fs.length : Int)) = true := by simp; omega
    clear hz hz2 hargs
    go_enter Tryz.func113, Tryz.ntmps113
    go_wp2_with fail
    exact bodyPost_ret (v := .tuple #[.pointer (some ⟨w.heap.size + 1, 0, none⟩), .int .i64 9]) (by simp [results, Tryz.results113, go_sem]) rfl ⟨(two_boxes w _ _).2.1, .inl ⟨9, _, HE.out, by decide, rfl⟩⟩
end Go.Proofs.YtilfjpmeededmaaGreatDoor

namespace Go.Proofs.YtilfjpmeededmaaGreatDoor
open Go.RowKit
set_option maxHeartbeats 4000000 in
set_option maxRecDepth 100000 in
theorem refQuietB_any (w : World) (fs : List FnT) (fo : Option Addr) (fl fc : Nat) (hv : TextsIn w (.slice fo fl fc) fs) (hargs : ∀ f ∈ fs, f.2.1.length ≤ maxLen) (ts : List TabT) (tro : Option Addr) (tl tc : Nat) (hv2 : TblsIn w (.slice tro tl tc) ts) (name : Bs) :
    Calls Tryz.prog 114 #[.agg #[.slice fo fl fc, .slice tro tl tc], .string (ofBs name)] w fun e w' => e = .returned (.tuple #[.bool (quietB fs ts name).1, .int .i64 (quietB fs ts name).2]) ∧ Below w.heap.size w w' := by
  have hbx := below_box w (.cells #[.slice fo fl fc, .slice tro tl tc] 43)
  have HRd := refReadB_any (w.alloc (.cells #[.slice fo fl fc, .slice tro tl tc] 43)) fs fo fl fc (hv.keep hbx) hargs ts tro tl tc (hv2.keep hbx)
  clear hv hv2 hargs
  go_enter Tryz.func114, Tryz.ntmps114
  go_wp2_with (go_at_call 113; refine HRd.mono ?_)
  clear HRd
  rintro e w2 ⟨hb2, ⟨n, xb, ho, hn, rfl⟩ | ⟨l, tls, xb, ho, rfl, hBT, hok⟩⟩
  · have B2 : Below w.heap.size w w2 := hbx.trans (hb2.mono (by simp [World.size_alloc]))
    have HQ : Hid (quietB fs ts name = (false, n)) := by rw [Hid, quietB, ho]
    have hne : (n == 0) = false := by simpa using hn
    clear ho hb2
    go_wp2_with fail
    exact bodyPost_ret (v := .tuple #[.bool false, .int .i64 n]) (by simp [results, Tryz.results114, go_sem]) rfl ⟨by rw [HQ.out], B2⟩
  · have B2 : Below w.heap.size w w2 := hbx.trans (hb2.mono (by simp [World.size_alloc]))
    obtain ⟨go, gn, gc, to', tn', tc', po, pn, pc, _, hbk, ⟨hownF, h8, hbod⟩, _⟩ := hBT
    have hxl := block_lt hbk
    have x0 : w2.cell? ⟨xb, 0, none⟩ = some (.slice go gn gc) := (blk_at hbk).trans rfl
    have hRF := rfnsIn_own hownF h8 hbod
    have HFn := refFunction_any w2 (.slice none 0 0) (.slice none 0 0) ⟨#[]⟩ go gn gc _ hRF name
    have HQ : Hid (quietB fs ts name = match findS (fnsOf l) name with | none => (false, 2) | some i => match (fnsOf l)[i]? with | none => (false, 2) | some fn => (fn.body.quiet, 0)) := by rw [Hid, quietB, ho]; rfl
    have hlist : RF.list (l.map (·.1)) = fnsOf l := rfl
    rw [hlist] at HFn
    obtain ⟨fi, hfi⟩ : ∃ b, b = findS (fnsOf l) name := ⟨_, rfl⟩
    rw [← hfi] at HFn HQ
    have HFI : Hid _ := hfi
    clear ho hb2 hfi hRF
    cases fi with
    | none =>
      have hix : ixS none = -1 := rfl
      go_wp2_with (go_at_call 187; refine HFn.mono ?_; rintro e w3 ⟨rfl, hb3⟩)
      exact bodyPost_ret (v := .tuple #[.bool false, .int .i64 2]) (by simp [results, Tryz.results114, go_sem]) rfl ⟨by rw [HQ.out], B2.trans (hb3.mono B2.size)⟩
    | some i =>
      have hix : ixS (some i) = (i : Int) := rfl
      have hil : i < l.length := by have := findS_lt HFI.out.symm; simpa [fnsOf, RF.list] using this
      obtain ⟨e5, he5⟩ : ∃ e5, l[i]? = some e5 := ⟨_, List.getElem?_eq_getElem hil⟩
      have HV : Hid (quietB fs ts name = (e5.1.fn.body.quiet, 0)) := by
        rw [Hid, HQ.out]
        have : (fnsOf l)[i]? = some e5.1.fn := by simp [fnsOf, RF.list, he5]
        simp only [this]
      obtain ⟨gb, cap, hgo, hgl, hcq⟩ : ∃ gb cap, (.slice go gn gc : Value) = .slice (some ⟨gb, 0, none⟩) l.length cap ∧ gb < w2.heap.size ∧ w2.cell? ⟨gb, i * 5 + 4, none⟩ = some (.bool e5.1.fn.body.quiet) := by
        have hlen := hownF.1
        rcases hownF.2 with ⟨e, h0⟩ | ⟨g, cap, cur, e, _, hr, _⟩
        · omega
        · refine ⟨g, cap, e, block_lt hr, ?_⟩
          have hown' := hownF
          rw [e] at hown'
          exact (hown'.cellAt _ (by omega)).trans (rfCells_get l i e5 4 he5 (by omega))
      cases hgo
      obtain ⟨qv, hqv⟩ : ∃ q, q = e5.1.fn.body.quiet := ⟨_, rfl⟩
      rw [← hqv] at hcq HV
      clear HQ HFI he5 hqv hownF hbod hbk
      go_wp2_with (go_at_call 187; refine HFn.mono ?_; rintro e w3 ⟨rfl, hb3⟩; have x3 := (hb3.cell (p := ⟨xb, 0, none⟩) hxl).trans x0; have q3 := (hb3.cell (p := ⟨gb, i * 5 + 4, none⟩) hgl).trans hcq; have hx3 : xb < w3.heap.size := Nat.lt_of_lt_of_le hxl hb3.size; have hg3 : gb < w3.heap.size := Nat.lt_of_lt_of_le hgl hb3.size)
      exact bodyPost_ret (v := .tuple #[.bool qv, .int .i64 0]) (by simp [results, Tryz.results114, go_sem]) rfl ⟨by rw [HV.out], B2.trans (hb3.mono B2.size)⟩
end Go.Proofs.YtilfjpmeededmaaGreatDoor

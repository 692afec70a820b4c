import Derived.Test.YtilfjpmeededmaaGreatDoorAtB
set_option linter.unusedVariables false
set_option linter.unusedSimpArgs false
namespace Go.Proofs.YtilfjpmeededmaaGreatDoor
open Go.RowKit
def TblAt (w : World) (b o : Nat) (t : TabT) : Prop := ∃ (co : Option Addr) (cn cc : Nat) (ro : Option Addr) (rn rc : Nat) (uo : Option Addr) (un uc : Nat),
  (w.cell? ⟨b, o, none⟩ = some (.string (ofBs t.name)) ∧ w.cell? ⟨b, o + 1, none⟩ = some (.slice co cn cc) ∧ w.cell? ⟨b, o + 2, none⟩ = some (.slice ro rn rc) ∧ w.cell? ⟨b, o + 3, none⟩ = some (.int .i64 t.count) ∧ w.cell? ⟨b, o + 4, none⟩ = some (.string (ofBs t.policy)) ∧ w.cell? ⟨b, o + 5, none⟩ = some (.slice uo un uc)) ∧
  ColsIn w (.slice co cn cc) t.cols ∧ RowsIn w (.slice ro rn rc) t.rows ∧ StrsIn w (.slice uo un uc) t.users ∧ t.name.length ≤ maxLen ∧ t.policy.length ≤ maxLen
def TblsIn (w : World) (v : Value) (ts : List TabT) : Prop := ∃ ao cap, v = .slice ao ts.length cap ∧ ts.length ≤ maxLen ∧ (ts = [] ∨ ∃ b off, ao = some ⟨b, off, none⟩ ∧ b < w.heap.size ∧ ∀ (i : Nat) (t : TabT), ts[i]? = some t → TblAt w b (off + i * 6) t)
theorem TblAt.keep {w x : World} {b o : Nat} {t : TabT} (h : TblAt w b o t) (hl : b < w.heap.size) (hb : Below w.heap.size w x) : TblAt x b o t := by
  obtain ⟨co, cn, cc, ro, rn, rc, uo, un, uc, ⟨c0, c1, c2, c3, c4, c5⟩, hC, hR, hU, h⟩ := h
  have cl : ∀ o, x.cell? ⟨b, o, none⟩ = w.cell? ⟨b, o, none⟩ := fun o => hb.cell (p := ⟨b, o, none⟩) hl
  exact ⟨co, cn, cc, ro, rn, rc, uo, un, uc, ⟨(cl _).trans c0, (cl _).trans c1, (cl _).trans c2, (cl _).trans c3, (cl _).trans c4, (cl _).trans c5⟩, hC.keep hb, hR.keep hb, hU.keep hb, h⟩
theorem TblsIn.keep {w x : World} {v : Value} {ts : List TabT} (h : TblsIn w v ts) (hb : Below w.heap.size w x) : TblsIn x v ts := by
  obtain ⟨ao, cap, h1, h2, h3⟩ := h
  refine ⟨ao, cap, h1, h2, ?_⟩
  rcases h3 with h | ⟨b, off, e, hl, hc⟩
  · exact .inl h
  · exact .inr ⟨b, off, e, by have := hb.size; omega, fun i t hi => (hc i t hi).keep hl hb⟩
def readTs (fns : List Fn) : List (TabT × Ex) → List TabT → Except Int (List (TabT × Ex))
  | acc, [] => .ok acc
  | acc, t :: r => match addTabS fns acc t with
    | .error n => .error n
    | .ok x => readTs fns (acc ++ [(t, x)]) r
def withTs (fns : List Fn) (o : Except Int (List (TabT × Ex))) : Except Int (List Fn × List (TabT × Ex)) := match o with
  | .error n => .error n
  | .ok tt => .ok (fns, tt)
def readB (fs : List FnT) (ts : List TabT) : Except Int (List Fn × List (TabT × Ex)) :=
  if 8 < fs.length ∨ 4 < ts.length then .error 9 else
  match readFs [] fs with
  | .error n => .error n
  | .ok fns => withTs fns (readTs fns [] ts)
theorem readB_err {fs : List FnT} {ts : List TabT} {n : Int} (h8 : fs.length ≤ 8) (h4 : ts.length ≤ 4) (h : readFs [] fs = .error n) : readB fs ts = .error n := by
  rw [readB, if_neg (by omega), h]
theorem readB_tabs {fs : List FnT} {ts : List TabT} {fns : List Fn} (h8 : fs.length ≤ 8) (h4 : ts.length ≤ 4) (h : readFs [] fs = .ok fns) : readB fs ts = withTs fns (readTs fns [] ts) := by
  rw [readB, if_neg (by omega), h]
def ReadRes2 (w : World) (o : Except Int (List Fn × List (TabT × Ex))) (e : Ending) (w' : World) : Prop := Below w.heap.size w w' ∧
  ((∃ n : Int, o = .error n ∧ n ≠ 0 ∧ e = .returned (.tuple #[.agg #[.slice none 0 0, .slice none 0 0], .int .i64 n])) ∨
   (∃ (fns : List Fn) (tt : List (TabT × Ex)) (FB : List Nat) (fo : Option Addr) (fnn fc : Nat) (to' : Option Addr) (tn tc : Nat), o = .ok (fns, tt) ∧ e = .returned (.tuple #[.agg #[.slice fo fnn fc, .slice to' tn tc], .int .i64 0]) ∧ FnsIn w' FB (.slice fo fnn fc) fns ∧ TabsIn w' FB (.slice to' tn tc) tt ∧ ∀ fn ∈ fns, 0 ≤ fn.body.size ∧ fn.body.size ≤ 300))
theorem BaseTs.keep {w0 w x : World} {bb : Nat} {FB : List Nat} {fns : List Fn} {ts : List (TabT × Ex)} (h : BaseTs w0 w bb FB fns ts) (hb : Below w.heap.size w x) : BaseTs w0 x bb FB fns ts := by
  obtain ⟨fo, fnn, fc, to', tn, tc, raws, h0, h1, h2, h3, h4, h5, h6, h7, h8⟩ := h
  exact ⟨fo, fnn, fc, to', tn, tc, raws, h0, h1.trans (hb.mono h1.size), (hb.block bb (block_lt h2)).trans h2, h3.keep hb, owns_keep h4 fun g hg => hb.block g (h4.lt g hg).2, h5, h6, h7, fun i r te a b => ⟨(h8 i r te a b).1, (h8 i r te a b).2.keep hb⟩⟩
theorem base_start {w wr : World} {bb : Nat} {FB : List Nat} {fns : List Fn} (h : BaseIs wr bb FB fns) (hb : w.heap.size ≤ bb) (hB : Below w.heap.size w wr) : BaseTs w wr bb FB fns [] := by
  obtain ⟨fo, fnn, fc, h1, h2, h3, h4, h5⟩ := h
  exact ⟨fo, fnn, fc, none, 0, 0, [], hb, hB, h1, fnsIn_own h2 h3 h4 h5, World.ownsRow_nil _ _ _ _, rfl, by simp, fun _ => rfl, fun i r te a => by simp at a⟩
theorem base_end {w0 w : World} {bb rb : Nat} {FB : List Nat} {fns : List Fn} {ts : List (TabT × Ex)} (h : BaseTs w0 w bb FB fns ts) (hr : w.heap[rb]? = some (.cells #[.slice none 0 0, .slice none 0 0] 112 (0, 0))) (hne : rb < bb) (h0 : w0.heap.size ≤ rb) :
    ∃ (fo : Option Addr) (fnn fc : Nat) (to' : Option Addr) (tn tc : Nat), w.heap[bb]? = some (.cells #[.slice fo fnn fc, .slice to' tn tc] 112 (0, 0)) ∧
      FnsIn ((w.setCell ⟨rb, 0, none⟩ (.slice fo fnn fc)).setCell ⟨rb, 1, none⟩ (.slice to' tn tc)) FB (.slice fo fnn fc) fns ∧ TabsIn ((w.setCell ⟨rb, 0, none⟩ (.slice fo fnn fc)).setCell ⟨rb, 1, none⟩ (.slice to' tn tc)) FB (.slice to' tn tc) ts := by
  obtain ⟨fo, fnn, fc, to', tn, tc, raws, hb0, hb1, h2, h3, h4, h5, h6, h7, h8⟩ := h
  refine ⟨fo, fnn, fc, to', tn, tc, h2, h3.other hr (by simp [World.setCell]) (fun g hg => set2_other _ _ _ _ _ hg), ?_⟩
  refine tabs_of (w0 := w0) (bb := bb) (raws := raws) ((hb1.setCell (p := ⟨rb, 0, none⟩) h0 _).setCell (p := ⟨rb, 1, none⟩) h0 _) ?_ h5 h6 fun i r te a b => ?_
  · exact ownsRow_setCell_below (ownsRow_setCell_below h4 (by show rb < bb + 1; omega) _) (by show rb < bb + 1; omega) _
  · obtain ⟨q1, q2⟩ := h8 i r te a b
    refine ⟨q1, q2.typed.move (fun g hg => ?_) (fun _ _ => trivial)⟩
    obtain ⟨_, cur, fz, he⟩ := hg
    refine set2_other _ _ _ _ _ fun e => ?_
    subst e; rw [hr] at he; cases he
set_option maxHeartbeats 8000000 in
set_option maxRecDepth 100000 in
theorem baseRead2_short (w : World) (fs : List FnT) (h8 : fs.length ≤ 8) (v : Value) (hv : TextsIn w v fs) (ts : List TabT) (h4 : ts.length ≤ 4) (tro : Option Addr) (tl tc : Nat) (hv2 : TblsIn w (.slice tro tl tc) ts) :
    Calls Tryz.prog 44 #[.agg #[v, .slice tro tl tc]] w fun e w' => ReadRes2 w (readB fs ts) e w' := by
  obtain ⟨ao, cap, rfl, hml, hz⟩ := hv
  obtain ⟨to2, tcap, he2, hml2, hz2⟩ := hv2
  cases he2
  have hz2' : Hid _ := hz2
  clear hz2
  have hd8 : decide ((8 : Int) < (fs.length : Int)) = false := by simp; omega
  have hd4 : decide ((4 : Int) < (ts.length : Int)) = false := by simp; omega
  go_enter Tryz.func44, Tryz.ntmps44
  go_wp2_with fail
  go_loopw [25] (fun iv wr => ∃ (i : Nat) (FB : List Nat) (acc : List Fn), i ≤ fs.length ∧ iv = .int .i64 i ∧ acc.length = i ∧ BaseIs wr (w.heap.size + 2) FB acc ∧ (∀ fn ∈ acc, 0 ≤ fn.body.size ∧ fn.body.size ≤ 300) ∧ Hid (readFs [] fs = readFs acc (fs.drop i)) ∧
      Below (w.heap.size + 2) (((w.alloc (.cells #[.slice ao fs.length cap, .slice tro ts.length tc] 43)).alloc (.cells #[.slice none 0 0, .slice none 0 0] 112)).alloc (.cells #[.slice none 0 0, .slice none 0 0] 112)) wr) (fun iv _ => fs.length - (intOf iv).toNat)
  case atStart => exact ⟨0, [], [], Nat.zero_le _, rfl, rfl, ⟨none, 0, 0, (res_box3 (Below.refl _ _)).2.2.1, World.ownsRow_nil _ _ _ _, rfl, by simp, fun i q fn h => by simp at h⟩, fun fn h => by simp at h, rfl, Below.refl _ _⟩
  case round =>
    obtain ⟨i, FB, acc, hi, rfl, hal, hBI, hsz, HI, hB⟩ := hrel
    have hbbl : w.heap.size + 2 < wr.heap.size := by obtain ⟨_, _, _, h1, _⟩ := hBI; exact block_lt h1
    have hW0 := box3_below w (.cells #[.slice ao fs.length cap, .slice tro ts.length tc] 43) (.cells #[.slice none 0 0, .slice none 0 0] 112) (.cells #[.slice none 0 0, .slice none 0 0] 112)
    have hR : wr.heap[w.heap.size + 1]? = some (.cells #[.slice none 0 0, .slice none 0 0] 112 (0, 0)) := (hB.block _ (by omega)).trans (res_box3 (Below.refl _ _)).2.1
    have hBx : wr.heap[w.heap.size]? = some (.cells #[.slice ao fs.length cap, .slice tro ts.length tc] 43 (0, 0)) := (hB.block _ (by omega)).trans (res_box3 (Below.refl _ _)).1
    by_cases hlt : i < fs.length
    · obtain ⟨b, off, rfl, hb, hc⟩ : ∃ b off, ao = some ⟨b, off, none⟩ ∧ b < w.heap.size ∧ ∀ (i : Nat) (f : FnT), fs[i]? = some f → (w.cell? ⟨b, off + i * 3, none⟩ = some (.string (ofBs f.1)) ∧ w.cell? ⟨b, off + i * 3 + 1, none⟩ = some (.string (ofBs f.2.1)) ∧ w.cell? ⟨b, off + i * 3 + 2, none⟩ = some (.string (ofBs f.2.2))) ∧ f.1.length ≤ maxLen ∧ f.2.2.length ≤ maxLen := by
        rcases hz with h | h
        · subst h; simp at hlt
        · exact h
      obtain ⟨⟨c0, c1, c2⟩, hl1, hl2⟩ := hc i fs[i] (List.getElem?_eq_getElem hlt)
      have cl : ∀ j, wr.cell? ⟨b, j, none⟩ = w.cell? ⟨b, j, none⟩ := fun j => (hB.cell (p := ⟨b, j, none⟩) (by show b < w.heap.size + 2; omega)).trans (hW0.cell (p := ⟨b, j, none⟩) hb)
      have q0 := (cl _).trans c0
      have q1 := (cl _).trans c1
      have q2 := (cl _).trans c2
      have hd : fs.drop i = (fs[i].1, fs[i].2.1, fs[i].2.2) :: fs.drop (i + 1) := List.drop_eq_getElem_cons hlt
      rw [hd] at HI
      obtain ⟨x1, hx1⟩ : ∃ x, x = fs[i].1 := ⟨_, rfl⟩
      obtain ⟨x2, hx2⟩ : ∃ x, x = fs[i].2.1 := ⟨_, rfl⟩
      obtain ⟨x3, hx3⟩ : ∃ x, x = fs[i].2.2 := ⟨_, rfl⟩
      rw [← hx1] at q0 HI hl1
      rw [← hx2] at q1 HI
      rw [← hx3] at q2 HI hl2
      have hbr : b < wr.heap.size := by omega
      have HC := addFunc_any _ (w.heap.size + 2) FB acc (hBI.keep (below_box wr (.cells #[.string (ofBs x1), .string (ofBs x2), .string (ofBs x3)] 39))) (by omega) hsz x1 x2 x3 hl1 hl2
      clear cl c0 c1 c2 hc hz hd hx1 hx2 hx3 hl1 hl2 hBI
      go_wp2_with (go_at_call 76; refine HC.mono ?_)
      rintro e w5 (⟨n, ho, hn, rfl, hb5⟩ | ⟨fn, q, ho, rfl, hB5, hb5⟩)
      · have HE : Hid (readFs [] fs = .error n) := by rw [Hid, HI.out]; exact addS_err ho _
        have hB5 : Below wr.heap.size wr w5 := (below_box wr _).trans (hb5.mono (by simp [World.size_alloc]))
        have hs5 := hB5.size
        have BX : Below w.heap.size w w5 := (hW0.trans (hB.mono (by omega))).trans (hB5.mono (by omega))
        obtain ⟨z0, g0, z1, g1⟩ := cellsB ((hB5.block _ (by omega)).trans hR)
        have hRl : w.heap.size + 1 < w5.heap.size := by omega
        have hne : (n == 0) = false := by simpa using hn
        clear HC HI hB hR hBx hb5 hB5 hW0 q0 q1 q2
        go_wp2_with fail
        exact bodyPost_ret (v := .tuple #[.agg #[.slice none 0 0, .slice none 0 0], .int .i64 n]) (by simp [results, Tryz.results44, go_sem, z0, z1]) rfl ⟨(BX.setCell (by simp) _).setCell (by simp) _, .inl ⟨n, by rw [readB_err h8 h4 HE.out], hn, rfl⟩⟩
      · have HN : Hid (readFs [] fs = readFs (acc ++ [fn]) (fs.drop (i + 1))) := by rw [Hid, HI.out]; exact addS_ok ho _
        have hsz' : ∀ f ∈ acc ++ [fn], 0 ≤ f.body.size ∧ f.body.size ≤ 300 := by
          intro f hf
          rcases List.mem_append.mp hf with h | h
          · exact hsz f h
          · rw [List.mem_singleton.mp h]; exact addS_size hsz ho
        have RB : Below (w.heap.size + 2) (((w.alloc (.cells #[.slice (some ⟨b, off, none⟩) fs.length cap, .slice tro ts.length tc] 43)).alloc (.cells #[.slice none 0 0, .slice none 0 0] 112)).alloc (.cells #[.slice none 0 0, .slice none 0 0] 112)) w5 := hB.trans (((below_box wr _).mono (by omega)).trans hb5)
        clear HC HI hB hR hBx hb5 hW0 q0 q1 q2 ho
        go_wp2
        go_roundw
        case rel => exact ⟨i + 1, FB ++ [q], acc ++ [fn], by omega, by go_num, by simp [hal], hB5, hsz', HN, RB⟩
        case measure => simp [intOf]; omega
    · have HE : Hid (readFs [] fs = .ok acc) := by rw [Hid, HI.out, List.drop_of_length_le (by omega)]; rfl
      have BX : Below w.heap.size w wr := hW0.trans (hB.mono (by omega))
      have hBT := base_start hBI (by omega) BX
      have b1 : wr.cell? ⟨w.heap.size, 1, none⟩ = some (.slice tro ts.length tc) := (blk_at hBx).trans rfl
      generalize hwa : wr = wa at *
      clear hwa HI hBI hz
      go_wp2_with fail
      go_loopw [39] (fun iv wx => ∃ (j : Nat) (accT : List (TabT × Ex)), j ≤ ts.length ∧ iv = .int .i64 j ∧ accT.length = j ∧ BaseTs w wx (w.heap.size + 2) FB acc accT ∧ Hid (readTs acc [] ts = readTs acc accT (ts.drop j)) ∧ Below (w.heap.size + 2) wa wx) (fun iv _ => ts.length - (intOf iv).toNat)
      case atStart => exact ⟨0, [], Nat.zero_le _, rfl, rfl, hBT, rfl, Below.refl _ _⟩
      case round =>
        obtain ⟨j, accT, hj, rfl, hjl, hBT2, HJ, hBj⟩ := hrel
        generalize hwj : wr = wj at *
        clear hwj hBT
        have hbbj : w.heap.size + 2 < wj.heap.size := by obtain ⟨_, _, _, _, _, _, _, _, _, h1, _⟩ := hBT2; exact block_lt h1
        have hRj : wj.heap[w.heap.size + 1]? = some (.cells #[.slice none 0 0, .slice none 0 0] 112 (0, 0)) := (hBj.block _ (by omega)).trans hR
        have Bwj : Below w.heap.size w wj := BX.trans (hBj.mono (by omega))
        by_cases hlt : j < ts.length
        · obtain ⟨b, off, rfl, hb, hc⟩ : ∃ b off, tro = some ⟨b, off, none⟩ ∧ b < w.heap.size ∧ ∀ (i : Nat) (t : TabT), ts[i]? = some t → TblAt w b (off + i * 6) t := by
            rcases hz2'.out with h | h
            · subst h; simp at hlt
            · exact h
          obtain ⟨co, cn, cc, ro, rn, rc, uo, un, uc, ⟨c0, c1, c2, c3, c4, c5⟩, hC, hR', hU, hnl, hpl⟩ := hc j ts[j] (List.getElem?_eq_getElem hlt)
          have cl : ∀ o, wj.cell? ⟨b, o, none⟩ = w.cell? ⟨b, o, none⟩ := fun o => Bwj.cell (p := ⟨b, o, none⟩) hb
          have q0 := (cl _).trans c0
          have q1 := (cl _).trans c1
          have q2 := (cl _).trans c2
          have q3 := (cl _).trans c3
          have q4 := (cl _).trans c4
          have q5 := (cl _).trans c5
          have hbj : b < wj.heap.size := by have := Bwj.size; omega
          have hd : ts.drop j = ts[j] :: ts.drop (j + 1) := List.drop_eq_getElem_cons hlt
          rw [hd] at HJ
          obtain ⟨t, ht⟩ : ∃ t, t = ts[j] := ⟨_, rfl⟩
          rw [← ht] at q0 q3 q4 HJ hC hR' hU hnl hpl
          have HC := addTable_any w _ (w.heap.size + 2) FB acc accT (hBT2.keep (below_box wj (.cells #[.string (ofBs t.name), .slice co cn cc, .slice ro rn rc, .int .i64 t.count, .string (ofBs t.policy), .slice uo un uc] 134))) (by omega) hsz t co cn cc ro rn rc uo un uc hC hR' hU hnl hpl
          clear cl c0 c1 c2 c3 c4 c5 hc hd ht hC hR' hU hBT2 hz2'
          go_wp2_with (go_at_call 77; refine HC.mono ?_)
          rintro e w5 (⟨n, ho, hn, rfl, hb5⟩ | ⟨x, ho, rfl, hB5, hb5⟩)
          · have HE2 : Hid (readB fs ts = .error n) := by rw [Hid, readB_tabs h8 h4 HE.out, HJ.out, readTs, ho]; rfl
            have hB5 : Below wj.heap.size wj w5 := (below_box wj _).trans (hb5.mono (by simp [World.size_alloc]))
            have hs5 := hB5.size
            have BX5 : Below w.heap.size w w5 := Bwj.trans (hB5.mono Bwj.size)
            obtain ⟨z0, g0, z1, g1⟩ := cellsB ((hB5.block _ (by omega)).trans hRj)
            have hRl : w.heap.size + 1 < w5.heap.size := by omega
            have hne : (n == 0) = false := by simpa using hn
            clear HC HJ hRj hb5 hB5 q0 q1 q2 q3 q4 q5
            go_wp2_with fail
            exact bodyPost_ret (v := .tuple #[.agg #[.slice none 0 0, .slice none 0 0], .int .i64 n]) (by simp [results, Tryz.results44, go_sem, z0, z1]) rfl ⟨(BX5.setCell (by simp) _).setCell (by simp) _, .inl ⟨n, HE2.out, hn, rfl⟩⟩
          · have HN : Hid (readTs acc [] ts = readTs acc (accT ++ [(t, x)]) (ts.drop (j + 1))) := by rw [Hid, HJ.out, readTs, ho]
            have RB : Below (w.heap.size + 2) wa w5 := hBj.trans (((below_box wj _).mono (by omega)).trans hb5)
            clear HC HJ hRj hb5 q0 q1 q2 q3 q4 q5 ho
            go_wp2
            go_roundw
            case rel => exact ⟨j + 1, accT ++ [(t, x)], by omega, by go_num, by simp [hjl], hB5, HN, RB⟩
            case measure => simp [intOf]; omega
        · have HE2 : Hid (readB fs ts = .ok (acc, accT)) := by rw [Hid, readB_tabs h8 h4 HE.out, HJ.out, List.drop_of_length_le (by omega)]; rfl
          obtain ⟨fo, fnn, fc, to', tn, tcc, HBO⟩ := base_end hBT2 hRj (by omega) (by omega)
          obtain ⟨hbk, HBF⟩ := HBO
          obtain ⟨z0, g0, z1, g1⟩ := cellsB hRj
          obtain ⟨e0, _, e1, _⟩ := cellsB hbk
          have hne1 : w.heap.size + 2 ≠ w.heap.size + 1 := by omega
          have HBF' : Hid _ := HBF
          clear HJ hBT2 hRj hbk HBF hz2'
          go_wp2_with fail
          exact bodyPost_ret (v := .tuple #[.agg #[.slice fo fnn fc, .slice to' tn tcc], .int .i64 0]) (by simp [results, Tryz.results44, go_sem, z0, z1]) rfl ⟨(Bwj.setCell (by simp) _).setCell (by simp) _, .inr ⟨acc, accT, FB, fo, fnn, fc, to', tn, tcc, HE2.out, rfl, HBF'.out.1, HBF'.out.2, hsz⟩⟩
set_option maxHeartbeats 1600000 in
set_option maxRecDepth 100000 in
theorem baseRead2_any (w : World) (fs : List FnT) (v : Value) (hv : TextsIn w v fs) (ts : List TabT) (tro : Option Addr) (tl tc : Nat) (hv2 : TblsIn w (.slice tro tl tc) ts) :
    Calls Tryz.prog 44 #[.agg #[v, .slice tro tl tc]] w fun e w' => ReadRes2 w (readB fs ts) e w' := by
  by_cases h8 : fs.length ≤ 8
  · by_cases h4 : ts.length ≤ 4
    · exact baseRead2_short w fs h8 v hv ts h4 tro tl tc hv2
    · obtain ⟨ao, cap, rfl, hml, hz⟩ := hv
      obtain ⟨to2, tcap, he2, hml2, hz2⟩ := hv2
      cases he2
      have HE : Hid (readB fs ts = .error 9) := by rw [Hid, readB, if_pos (by omega)]
      have hd8 : decide ((8 : Int) < (fs.length : Int)) = false := by simp; omega
      have hd4 : decide ((4 : Int) < (ts.length : Int)) = true := by simp; omega
      clear hz hz2
      go_enter Tryz.func44, Tryz.ntmps44
      go_wp2_with fail
      refine bodyPost_ret (v := .tuple #[.agg #[.slice none 0 0, .slice none 0 0], .int .i64 9]) (by simp [results, Tryz.results44, go_sem]) rfl ⟨?_, .inl ⟨9, HE.out, by decide, rfl⟩⟩
      exact below_box2 w _ _
  · obtain ⟨ao, cap, rfl, hml, hz⟩ := hv
    obtain ⟨to2, tcap, he2, hml2, hz2⟩ := hv2
    cases he2
    have HE : Hid (readB fs ts = .error 9) := by rw [Hid, readB, if_pos (by omega)]
    have hd8 : decide ((8 : Int) < (fs.length : Int)) = true := by simp; omega
    clear hz hz2
    go_enter Tryz.func44, Tryz.ntmps44
    go_wp2_with fail
    refine bodyPost_ret (v := .tuple #[.agg #[.slice none 0 0, .slice none 0 0], .int .i64 9]) (by simp [results, Tryz.results44, go_sem]) rfl ⟨?_, .inl ⟨9, HE.out, by decide, rfl⟩⟩
    exact below_box2 w _ _
end Go.Proofs.YtilfjpmeededmaaGreatDoor

namespace Go.Proofs.YtilfjpmeededmaaGreatDoor
open Go.RowKit
def quietB (fs : List FnT) (ts : List TabT) (name : Bs) : Bool × Int := match readB fs ts with
  | .error n => (false, n)
  | .ok p => match findS p.1 name with
    | none => (false, 2)
    | some i => match p.1[i]? with
      | none => (false, 2)
      | some fn => (fn.body.quiet, 0)
def checkB (fs : List FnT) (ts : List TabT) : Int := match readB fs ts with
  | .error n => n
  | .ok _ => 0
set_option maxHeartbeats 1600000 in
set_option maxRecDepth 100000 in
theorem check2_any (w : World) (fs : List FnT) (ao : Option Addr) (an cap : Nat) (hv : TextsIn w (.slice ao an cap) fs) (ts : List TabT) (tro : Option Addr) (tl tc : Nat) (hv2 : TblsIn w (.slice tro tl tc) ts) :
    Calls Tryz.prog 112 #[.agg #[.slice ao an cap, .slice tro tl tc]] w fun e w' => e = .returned (.int .i64 (checkB fs ts)) ∧ Below w.heap.size w w' := by
  have HC := baseRead2_any _ fs _ (hv.keep (below_box w (.cells #[.slice ao an cap, .slice tro tl tc] 43))) ts tro tl tc (hv2.keep (below_box w (.cells #[.slice ao an cap, .slice tro tl tc] 43)))
  clear hv hv2
  go_enter Tryz.func112, Tryz.ntmps112
  go_wp2_with (go_at_call 44; refine HC.mono ?_)
  clear HC
  rintro e w2 ⟨hb2, ⟨n, ho, hn, rfl⟩ | ⟨fns, tt, FB, fo, fnn, fc, to', tn, tcc, ho, rfl, hF, hTT, hsz⟩⟩
  · have B2 : Below w.heap.size w w2 := (below_box w _).trans (hb2.mono (by simp [World.size_alloc]))
    have HR : Hid (checkB fs ts = n) := by rw [Hid, checkB, ho]
    clear ho hb2
    go_wp2_with fail
    go_ret
    exact ⟨by rw [HR.out]; rfl, B2.alloc B2.size _⟩
  · have B2 : Below w.heap.size w w2 := (below_box w _).trans (hb2.mono (by simp [World.size_alloc]))
    have HR : Hid (checkB fs ts = 0) := by rw [Hid, checkB, ho]
    clear ho hb2 hF hTT hsz
    go_wp2_with fail
    go_ret
    exact ⟨by rw [HR.out]; rfl, B2.alloc B2.size _⟩
set_option maxHeartbeats 1600000 in
set_option maxRecDepth 100000 in
theorem baseFunc2_any (w : World) (FB : List Nat) (fns : List Fn) (fo : Option Addr) (fnn fc : Nat) (to' : Option Addr) (tn tc : Nat) (h : FnsIn w FB (.slice fo fnn fc) fns) (name : Bs) :
    Calls Tryz.prog 45 #[.agg #[.slice fo fnn fc, .slice to' tn tc], .string (ofBs name)] w fun e w' => (∃ p, e = .returned (.tuple #[.pointer p, .int .i64 (noneS (findS fns name))]) ∧ FpIs FB (findS fns name) p) ∧ Below w.heap.size w w' := by
  have HFd := find_any _ FB _ fns name (h.keep (below_box w (.cells #[.slice fo fnn fc, .slice to' tn tc] 112)))
  have hbx := below_box w (.cells #[.slice fo fnn fc, .slice to' tn tc] 112)
  cases hf : findS fns name with
  | none =>
    rw [hf] at HFd
    clear h
    go_enter Tryz.func45, Tryz.ntmps45
    go_wp2_with (first
      | (go_at_call 78; refine HFd.mono ?_; rintro e w2 ⟨⟨p, rfl, hp⟩, hb2⟩; have hp' : p = none := hp; subst hp')
      | (go_at_call 79; refine (when_any _ _ _).mono ?_; rintro e w4 ⟨rfl, rfl⟩))
    go_ret2
    exact ⟨⟨none, rfl, rfl⟩, hbx.trans (hb2.mono hbx.size)⟩
  | some i =>
    rw [hf] at HFd
    clear h
    go_enter Tryz.func45, Tryz.ntmps45
    go_wp2_with (first
      | (go_at_call 78; refine HFd.mono ?_; rintro e w2 ⟨⟨p, rfl, hp⟩, hb2⟩; obtain ⟨q, hq, rfl⟩ : ∃ q, FB[i]? = some q ∧ p = some ⟨q, 0, none⟩ := hp)
      | (go_at_call 79; refine (when_any _ _ _).mono ?_; rintro e w4 ⟨rfl, rfl⟩))
    go_ret2
    exact ⟨⟨_, rfl, q, hq, rfl⟩, hbx.trans (hb2.mono hbx.size)⟩
set_option maxHeartbeats 4000000 in
set_option maxRecDepth 100000 in
theorem quiet2_any (w : World) (fs : List FnT) (ao : Option Addr) (an cap : Nat) (hv : TextsIn w (.slice ao an cap) fs) (ts : List TabT) (tro : Option Addr) (tl tc : Nat) (hv2 : TblsIn w (.slice tro tl tc) ts) (name : Bs) :
    Calls Tryz.prog 17 #[.agg #[.slice ao an cap, .slice tro tl tc], .string (ofBs name)] w fun e w' => e = .returned (.tuple #[.bool (quietB fs ts name).1, .int .i64 (quietB fs ts name).2]) ∧ Below w.heap.size w w' := by
  have HC := baseRead2_any _ fs _ (hv.keep (below_box w (.cells #[.slice ao an cap, .slice tro tl tc] 43))) ts tro tl tc (hv2.keep (below_box w (.cells #[.slice ao an cap, .slice tro tl tc] 43)))
  clear hv hv2
  go_enter Tryz.func17, Tryz.ntmps17
  go_wp2_with (go_at_call 44; refine HC.mono ?_)
  clear HC
  rintro e w2 ⟨hb2, ⟨n, ho, hn, rfl⟩ | ⟨fns, tt, FB, fo, fnn, fc, to', tn, tcc, ho, rfl, hF, hTT, hsz⟩⟩
  · have B2 : Below w.heap.size w w2 := (below_box w _).trans (hb2.mono (by simp [World.size_alloc]))
    have HFd := baseFunc2_any (w2.alloc (.cells #[.slice none 0 0, .slice none 0 0] 112)) [] [] none 0 0 none 0 0 (fnsIn_nil _) name
    have HFi : Hid (firstS [n, 2] = n) := by rw [Hid, firstS, if_neg hn]
    have HR : Hid (quietB fs ts name = (false, n)) := by rw [Hid, quietB, ho]
    have hne : (n == 0) = false := by simpa using hn
    clear ho hb2
    go_wp2_with (go_at_call 45; refine HFd.mono ?_)
    clear HFd
    rintro e w3 ⟨⟨p, rfl, hp⟩, hb3⟩
    have hp' : p = none := hp
    subst hp'
    have HC1 := first2n_any w3 n 2
    rw [HFi.out] at HC1
    have hn2 : noneS (findS [] name) = 2 := rfl
    rw [hn2]
    clear HFi hp hn2
    go_wp2_with (go_at_call 46; refine HC1.mono ?_; rintro e w4 ⟨rfl, rfl⟩)
    go_ret2
    have B3 := B2.trans (((below_box w2 _).trans (hb3.mono (by simp [World.size_alloc]))).mono B2.size)
    exact ⟨by rw [HR.out]; rfl, B3.alloc B3.size _⟩
  · have B2 : Below w.heap.size w w2 := (below_box w _).trans (hb2.mono (by simp [World.size_alloc]))
    have HFd := baseFunc2_any (w2.alloc (.cells #[.slice fo fnn fc, .slice to' tn tcc] 112)) FB fns fo fnn fc to' tn tcc (hF.keep (below_box w2 _)) name
    clear hb2
    cases hfd : findS fns name with
    | none =>
      rw [hfd] at HFd
      have HR : Hid (quietB fs ts name = (false, 2)) := by rw [Hid, quietB, ho]; simp only [hfd]
      have hn2 : noneS none = 2 := rfl
      rw [hn2] at HFd
      clear hfd ho hn2
      go_wp2_with (go_at_call 45; refine HFd.mono ?_)
      clear HFd
      rintro e w3 ⟨⟨p, rfl, hp⟩, hb3⟩
      have hp' : p = none := hp
      subst hp'
      have HC1 := first2n_any w3 0 2
      rw [show firstS [0, 2] = 2 from rfl] at HC1
      clear hp
      go_wp2_with (go_at_call 46; refine HC1.mono ?_; rintro e w4 ⟨rfl, rfl⟩)
      go_ret2
      have B3 := B2.trans (((below_box w2 _).trans (hb3.mono (by simp [World.size_alloc]))).mono B2.size)
      exact ⟨by rw [HR.out]; rfl, B3.alloc B3.size _⟩
    | some i =>
      rw [hfd] at HFd
      have hlt := findS_lt hfd
      have hfn := List.getElem?_eq_getElem hlt
      have HR : Hid (quietB fs ts name = (fns[i].body.quiet, 0)) := by rw [Hid, quietB, ho]; simp only [hfd, hfn]
      have hn2 : noneS (some i) = 0 := rfl
      rw [hn2] at HFd
      clear hfd ho hn2
      go_wp2_with (go_at_call 45; refine HFd.mono ?_)
      clear HFd
      rintro e w3 ⟨⟨p, rfl, hp⟩, hb3⟩
      obtain ⟨q, hq, rfl⟩ : ∃ q, FB[i]? = some q ∧ p = some ⟨q, 0, none⟩ := hp
      have HC1 := first2n_any w3 0 0
      rw [show firstS [0, 0] = 0 from rfl] at HC1
      have hB3 : Below w2.heap.size w2 w3 := (below_box w2 _).trans (hb3.mono (by simp [World.size_alloc]))
      have hA := ((hF.choose_spec.choose_spec.2.2.2.2 i q _ hq hfn).keep hB3).keep (below_box w3 (.cells #[.int .i64 0, .int .i64 0] 44))
      obtain ⟨_, _, _, _, _, _, u5⟩ := hA.cells
      obtain ⟨bq, hbq⟩ : ∃ x, x = fns[i].body.quiet := ⟨_, rfl⟩
      rw [← hbq] at u5 HR
      have hql : q < w3.heap.size := by
        obtain ⟨av, c, h1, _⟩ := (hF.choose_spec.choose_spec.2.2.2.2 i q _ hq hfn).keep hB3
        exact block_lt h1
      clear hA hfn hbq hsz hF hTT
      go_wp2_with (go_at_call 46; refine HC1.mono ?_; rintro e w4 ⟨rfl, rfl⟩)
      go_ret2
      have B3 := B2.trans (hB3.mono B2.size)
      exact ⟨by rw [HR.out]; rfl, B3.alloc B3.size _⟩
end Go.Proofs.YtilfjpmeededmaaGreatDoor

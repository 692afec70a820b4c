import Derived.Test.YtilfjpmeededmaaGreatDoorRtVZ
import Derived.Test.YtilfjpmeededmaaGreatDoorRtOZ
import Derived.Deep.AppendLies
import Derived.Deep.RegionLaw
import Derived.Deep.LoopGhost
import Derived.Deep.DeepCutAuto
set_option linter.unusedVariables false
set_option linter.unusedSimpArgs false
namespace Go.Proofs.YtilfjpmeededmaaGreatDoor
open Go.RowKit
theorem infoStrR : (Tryz.prog.info? 9).map (fun i => (i.zero, i.size, i.bytes)) = some (some (.string ⟨#[]⟩), 1, 16) := by kernel_rfl
theorem infoU8 : (Tryz.prog.info? 5).map (fun i => (i.zero, i.size, i.bytes)) = some (some (.int .u8 0), 1, 1) := by kernel_rfl
theorem with_fin {W4 wo w7 : World} {L : Obj} {O k g7 cap7 n : Nat} {a : Option Addr} {an ac : Nat} {T TB : TypeId} {xs news : List Value} {cs : Array Value} (hO : wo.heap[O]? = some (.cells cs TB (0, 0))) (own : wo.ownsRow (O + 1) T 1 (.slice a an ac) n xs) (hB : Below O W4 wo)
    (hgrow : (wo.alloc L).drew.grownBy w7 (Value.slice a an ac).ownBlock) (hown7 : w7.ownsRow (O + 1) T 1 (.slice (some ⟨g7, 0, none⟩) (n + 1) cap7) (n + 1) (xs ++ news)) (v : Value) :
    w7.heap[O]? = some (.cells cs TB (0, 0)) ∧ (w7.setCell ⟨O, k, none⟩ v).heap[O]? = some (.cells (cs.setIfInBounds k v) TB (0, 0)) ∧
    (w7.setCell ⟨O, k, none⟩ v).ownsRow (O + 1) T 1 (.slice (some ⟨g7, 0, none⟩) (n + 1) cap7) (n + 1) (xs ++ news) ∧ Below O W4 (w7.setCell ⟨O, k, none⟩ v) ∧
    ∀ (T' : TypeId) (v' : Value) (m : Nat) (ys : List Value), T' ≠ T → wo.ownsRow (O + 1) T' 1 v' m ys → (w7.setCell ⟨O, k, none⟩ v).ownsRow (O + 1) T' 1 v' m ys := by
  have hOl := block_lt hO
  have hgs := hgrow.size
  simp only [World.size_drew, World.size_alloc] at hgs
  have hvO : (Value.slice a an ac).ownBlock ≠ some O := fun e => by have := (own.lt _ e).1; omega
  have keep : ∀ g, g < wo.heap.size → (Value.slice a an ac).ownBlock ≠ some g → w7.heap[g]? = wo.heap[g]? := fun g h1 h2 =>
    (hgrow.block g (by simp only [World.size_drew, World.size_alloc]; omega) (fun e => h2 e.symm)).trans (Below.heap_alloc _ _ _ h1)
  have hO7 : w7.heap[O]? = some (.cells cs TB (0, 0)) := (keep O hOl hvO).trans hO
  refine ⟨hO7, by simp [World.setCell, Array.getElem?_modify, hO7], ownsRow_setCell_below hown7 (by show O < O + 1; omega) _, ?_, fun T' v' m ys hT hv' => ?_⟩
  · suffices h : Below O W4 w7 from h.setCell (p := ⟨O, k, none⟩) (Nat.le_refl _) _
    refine ⟨hgrow.os.trans hB.os, hgrow.tape.trans hB.tape, hgrow.output.trans hB.output, by have := hB.size; omega, fun g hg => ?_⟩
    exact (keep g (by omega) (fun e => by have := (own.lt _ e).1; omega)).trans (hB.block g hg)
  · refine ownsRow_setCell_below (owns_keep hv' fun q hq => keep q (hv'.lt q hq).2 fun e => ?_) (by show O < O + 1; omega) _
    rcases own.2 with ⟨h, _⟩ | ⟨g1, c1, cur1, h, _, hr1, _⟩
    · rw [h] at e; cases e
    · rw [h] at e; cases e
      rcases hv'.2 with ⟨h', _⟩ | ⟨g2, c2, cur2, h', _, hr2, _⟩
      · rw [h'] at hq; cases hq
      · rw [h'] at hq; cases hq
        rw [hr1] at hr2; cases hr2; exact hT rfl
end Go.Proofs.YtilfjpmeededmaaGreatDoor

namespace Go.Proofs.YtilfjpmeededmaaGreatDoor
open Go.RowKit
def rowN : Bs := [114, 111, 119]
def nmC (cs : List ColT) : List Value := cs.map fun c => Value.string (ofBs (nameS rowN c).1)
def ltC (cs : List ColT) : List Value := cs.map fun c => Value.int .u8 (ltI (colTyS c))
def WthInv (W4 : World) (O : Nat) (cs : List ColT) (fv : Value) (i : Nat) (wr : World) : Prop := ∃ (a1 : Option Addr) (n1 c1 : Nat) (a2 : Option Addr) (n2 c2 : Nat), wr.heap[O]? = some (.cells #[.slice a1 n1 c1, .slice a2 n2 c2, .string ⟨#[]⟩, fv] 374 (0, 0)) ∧ wr.ownsRow (O + 1) 9 1 (.slice a1 n1 c1) i (nmC (cs.take i)) ∧ wr.ownsRow (O + 1) 5 1 (.slice a2 n2 c2) i (ltC (cs.take i)) ∧ Below O W4 wr
theorem row_dot (l : Bs) : ByteArray.mk #[114, 111, 119, 46] ++ ofBs l = ofBs (rowN ++ [46] ++ l) := add_litA [114, 111, 119, 46] l
theorem row_cells {w : World} {b : Nat} {T : TypeId} {a : Option Addr} {n c len : Nat} {xs : List Value} (own : w.ownsRow b T 1 (.slice a n c) len xs) : n = len ∧ len ≤ c ∧ (len = 0 ∨ ∃ g, a = some ⟨g, 0, none⟩ ∧ b ≤ g ∧ g < w.heap.size ∧ ∀ (i : Nat) (u : Value), xs[i]? = some u → w.cell? ⟨g, i, none⟩ = some u) := by
  have hlen := own.1
  rcases own.2 with ⟨h, h0⟩ | ⟨g, cap, cur, h, hb, hr, hcp, _⟩
  · cases h; exact ⟨h0.symm, by omega, .inl h0⟩
  · cases h
    refine ⟨rfl, hcp, .inr ⟨g, rfl, hb, block_lt hr, fun i u hu => ?_⟩⟩
    have hi := (List.getElem?_eq_some_iff.mp hu).1
    exact (own.cellAt i (by omega)).trans hu
set_option maxHeartbeats 8000000 in
set_option maxRecDepth 100000 in
theorem refWith_any (w : World) (fo : Option Addr) (fnn fc : Nat) (rfs : List RF) (hF : RFnsIn w (.slice fo fnn fc) rfs) (t : TabT) (co : Option Addr) (cn cc : Nat) (ro : Option Addr) (rn rc : Nat) (uo : Option Addr) (un uc : Nat) (hC : ColsIn w (.slice co cn cc) t.cols) (hT : areColsS t.cols = true) :
    Calls Tryz.prog 272 #[.agg #[.slice none 0 0, .slice none 0 0, .string ⟨#[]⟩, .slice fo fnn fc], .string ⟨#[114, 111, 119]⟩, .agg #[.string (ofBs t.name), .slice co cn cc, .slice ro rn rc, .int .i64 t.count, .string (ofBs t.policy), .slice uo un uc]] w fun e w' => ∃ co' cn' cc' to' tn' tc', e = .returned (.agg #[.slice co' cn' cc', .slice to' tn' tc', .string ⟨#[]⟩, .slice fo fnn fc]) ∧ KnIn w' co' cn' cc' to' tn' tc' (.slice fo fnn fc) (t.cols.map (nameS rowN)) rfs ∧ Below w.heap.size w w' := by
  obtain ⟨i1, hi1, ha0, ha1, ha2⟩ := info_parts infoStrR
  obtain ⟨i2, hi2, hb0, hb1, hb2⟩ := info_parts infoU8
  have hword := colsFrom_word t.cols [] (by unfold areColsS at hT; rw [Bool.and_eq_true] at hT; exact hT.2)
  have hsm := (cols_small hT).2
  have hc4 : t.cols.length ≤ 4 := by
    unfold areColsS at hT
    rw [Bool.and_eq_true, Bool.not_eq_true', Bool.or_eq_false_iff, decide_eq_false_iff_not, decide_eq_false_iff_not] at hT
    omega
  obtain ⟨ao, cap, he, hcap, hml, hz⟩ := hC
  cases he
  obtain ⟨W4, hW⟩ : ∃ W, W = ((((w.alloc (.cells #[.slice none 0 0, .slice none 0 0, .string ⟨#[]⟩, .slice fo fnn fc] 374)).alloc (.cells #[.string (ofBs t.name), .slice co t.cols.length cc, .slice ro rn rc, .int .i64 t.count, .string (ofBs t.policy), .slice uo un uc] 134)).alloc (.cells #[.slice none 0 0, .slice none 0 0, .string ⟨#[]⟩, .slice none 0 0] 374)).alloc (.cells #[.slice none 0 0, .slice none 0 0, .string ⟨#[]⟩, .slice fo fnn fc] 374)) := ⟨_, rfl⟩
  have HATW : Hid (((((w.alloc (.cells #[.slice none 0 0, .slice none 0 0, .string ⟨#[]⟩, .slice fo fnn fc] 374)).alloc (.cells #[.string (ofBs t.name), .slice co t.cols.length cc, .slice ro rn rc, .int .i64 t.count, .string (ofBs t.policy), .slice uo un uc] 134)).alloc (.cells #[.slice none 0 0, .slice none 0 0, .string ⟨#[]⟩, .slice none 0 0] 374)).alloc (.cells #[.slice none 0 0, .slice none 0 0, .string ⟨#[]⟩, .slice fo fnn fc] 374)) = W4) := hW.symm
  have h3 := res_box3 (w := w) (o := (.cells #[.slice none 0 0, .slice none 0 0, .string ⟨#[]⟩, .slice fo fnn fc] 374)) (o' := (.cells #[.string (ofBs t.name), .slice co t.cols.length cc, .slice ro rn rc, .int .i64 t.count, .string (ofBs t.policy), .slice uo un uc] 134)) (o2 := (.cells #[.slice none 0 0, .slice none 0 0, .string ⟨#[]⟩, .slice none 0 0] 374)) (below_box _ (.cells #[.slice none 0 0, .slice none 0 0, .string ⟨#[]⟩, .slice fo fnn fc] 374))
  rw [← hW] at h3
  have hO4 : W4.heap[w.heap.size + 3]? = some (.cells #[.slice none 0 0, .slice none 0 0, .string ⟨#[]⟩, .slice fo fnn fc] 374 (0, 0)) := by
    rw [hW]
    have := heap_alloc_new (((w.alloc (.cells #[.slice none 0 0, .slice none 0 0, .string ⟨#[]⟩, .slice fo fnn fc] 374)).alloc (.cells #[.string (ofBs t.name), .slice co t.cols.length cc, .slice ro rn rc, .int .i64 t.count, .string (ofBs t.policy), .slice uo un uc] 134)).alloc (.cells #[.slice none 0 0, .slice none 0 0, .string ⟨#[]⟩, .slice none 0 0] 374)) (.cells #[.slice none 0 0, .slice none 0 0, .string ⟨#[]⟩, .slice fo fnn fc] 374)
    simp only [World.size_alloc] at this
    exact this
  have I0 : WthInv W4 (w.heap.size + 3) t.cols (.slice fo fnn fc) 0 W4 := ⟨none, 0, 0, none, 0, 0, hO4, World.ownsRow_nil _ _ _ _, World.ownsRow_nil _ _ _ _, Below.refl _ _⟩
  have HZ : Hid _ := hz
  have HWO : Hid _ := hword
  clear hW hz hword hml hT
  go_enter Tryz.func272, Tryz.ntmps272
  go_wp2_with fail
  rw [HATW.out]
  clear HATW
  go_loopg [8] t.cols.length (fun gk iv wr => ∃ i : Nat, gk = t.cols.length - i ∧ i ≤ t.cols.length ∧ iv = .int .i64 i ∧ WthInv W4 (w.heap.size + 3) t.cols (.slice fo fnn fc) i wr)
  case atStart => exact ⟨0, rfl, Nat.zero_le _, rfl, I0⟩
  case round =>
    clear I0
    obtain ⟨i, hgk, hi, rfl, a1, n1, c1, a2, n2, c2, hO, own1, own2, hBi⟩ := hrel
    subst hgk
    generalize hwo : wr = wo at *
    clear hwo
    have hOl := block_lt hO
    obtain ⟨⟨o0, o1, o2, o3⟩, f0, f1, _, _⟩ := cells4 hO
    have hTb := (hBi.block (w.heap.size + 1) (by omega)).trans h3.2.1
    have y1 : wo.cell? ⟨w.heap.size + 1, 1, none⟩ = some (.slice co t.cols.length cc) := (blk_at hTb).trans rfl
    have Bwo : Below w.heap.size w wo := h3.2.2.2.1.trans (hBi.mono (by omega))
    have hTl : w.heap.size + 1 < wo.heap.size := by omega
    by_cases hlt : i < t.cols.length
    · obtain ⟨b, off, rfl, hb, hc⟩ : ∃ b off, co = some ⟨b, off, none⟩ ∧ b < w.heap.size ∧ ∀ (i : Nat) (c : ColT), t.cols[i]? = some c → (w.cell? ⟨b, off + i * 3, none⟩ = some (.string (ofBs c.1)) ∧ w.cell? ⟨b, off + i * 3 + 1, none⟩ = some (.string (ofBs c.2.1)) ∧ w.cell? ⟨b, off + i * 3 + 2, none⟩ = some (.int .i64 c.2.2)) ∧ c.1.length ≤ maxLen ∧ c.2.1.length ≤ maxLen := by
        rcases HZ.out with h | h
        · rw [h] at hlt; simp at hlt
        · exact h
      obtain ⟨c, hce⟩ : ∃ c, c = t.cols[i] := ⟨_, rfl⟩
      obtain ⟨⟨p0, p1, _⟩, _⟩ := hc i c (by rw [hce]; exact List.getElem?_eq_getElem hlt)
      have q0 := (Bwo.cell (p := ⟨b, off + i * 3, none⟩) hb).trans p0
      have hbl : b < wo.heap.size := by omega
      have hcl : c.1.length ≤ 1000 := hsm c (by rw [hce]; exact List.getElem_mem hlt)
      have hcz : (ofBs c.1).size ≤ 1000 := by rw [ofBs_size]; exact hcl
      have hdot := row_dot c.1
      have HT1 : Hid (nmC (t.cols.take (i + 1)) = nmC (t.cols.take i) ++ [.string (ofBs (rowN ++ [46] ++ c.1))]) := by
        rw [Hid, List.take_succ_eq_append_getElem hlt, ← hce]; simp [nmC, nameS]
      have HOWN : ∀ o : Obj, (wo.alloc o).drew.ownsRow (w.heap.size + 3 + 1) 9 1 (.slice a1 n1 c1) i (nmC (t.cols.take i)) := fun o => World.ownsRow.drew (World.ownsRow.alloc own1 o)
      have HCE : Hid _ := hce
      clear hc p0 hce
      obtain ⟨nm, hnm⟩ : ∃ x, x = rowN ++ [46] ++ c.1 := ⟨_, rfl⟩
      rw [← hnm] at hdot HT1
      have hdot2 : (ByteArray.mk #[114, 111, 119]) ++ (ByteArray.mk #[46]) = ByteArray.mk #[114, 111, 119, 46] := rfl
      have hg2 : ¬ 9223372036854775807 < 4 + (ofBs c.1).size := by omega
      have hg3 : ¬ 9223372036854775807 < (ByteArray.mk #[114, 111, 119, 46]).size + (ofBs c.1).size := by show ¬ 9223372036854775807 < 4 + (ofBs c.1).size; omega
      have HHO : Hid _ := hO
      have HO1 : Hid _ := own1
      have HO2 : Hid _ := own2
      clear hnm own1 own2 hO hcl
      go_upto_region 7 with fail
      go_cut [7] (fun s7 wx => s7 = .pointer (some ⟨w.heap.size + 3, 0, none⟩) ∧ ∃ (a1' : Option Addr) (n1' c1' : Nat), wx.heap[w.heap.size + 3]? = some (.cells #[.slice a1' n1' c1', .slice a2 n2 c2, .string ⟨#[]⟩, .slice fo fnn fc] 374 (0, 0)) ∧ wx.ownsRow (w.heap.size + 3 + 1) 9 1 (.slice a1' n1' c1') (i + 1) (nmC (t.cols.take (i + 1))) ∧ wx.ownsRow (w.heap.size + 3 + 1) 5 1 (.slice a2 n2 c2) i (ltC (t.cols.take i)) ∧ Below (w.heap.size + 3) W4 wx)
      case first =>
        go_region_law (refine step_append_lies _ rfl (.tmp 34) (.tmp 44) 34 rfl (w.heap.size + 3 + 1) 9 i1 _ 1 16 Tryz.underlying34 hi1 ha0 ha1 ha2 rfl (by decide) (.slice a1 n1 c1) i (nmC (t.cols.take i)) (by simp [Act.eval]) (HOWN _) ⟨wo.heap.size, 0, none⟩ 1 1 [.string (ofBs nm)] (by simp [Act.eval]) rfl (World.news_of_block (blk1_drewN wo _)) (by intro u hu; simp at hu; subst hu; rfl) (by decide) (by unfold maxLen; omega) (by omega) (by simp; omega) (wo.heap.size + 1) (by simp) ?_; intro g7 cap7 w7 hown7 hgrow7 hat7 hlt7; have kO := (with_fin (k := 0) HHO.out HO1.out hBi hgrow7 hown7 (.slice none 0 0)).1; have hb7 := block_lt kO; obtain ⟨⟨r0, r1, r2, r3⟩, rf0, rf1, _, _⟩ := cells4 kO)
        all_goals (go_wp2_with fail; go_meet)
        all_goals
          obtain ⟨_, A1, A2, A3, A4⟩ := with_fin (k := 0) HHO.out HO1.out hBi hgrow7 hown7 (.slice (some ⟨g7, 0, none⟩) (i + 1) cap7)
          exact ⟨rfl, _, _, _, A1, by rw [HT1.out]; exact A2, A4 5 _ _ _ (by decide) HO2.out, A3⟩
      case rest =>
        obtain ⟨rfl, a1', n1', c1', hO', own1', own2', hB'⟩ := hcut
        clear o0 o1 o2 o3 f0 f1 y1 q0 HOWN hTb
        generalize hw8 : wc = w8 at *
        clear hw8
        have hOl8 := block_lt hO'
        obtain ⟨⟨o0, o1, o2, o3⟩, f0, f1, _, _⟩ := cells4 hO'
        have Bw8 : Below w.heap.size w w8 := h3.2.2.2.1.trans (hB'.mono (by omega))
        have y1 : w8.cell? ⟨w.heap.size + 1, 1, none⟩ = some (.slice (some ⟨b, off, none⟩) t.cols.length cc) := (blk_at ((hB'.block (w.heap.size + 1) (by omega)).trans h3.2.1)).trans rfl
        have hTl8 : w.heap.size + 1 < w8.heap.size := by omega
        have hbl8 : b < w8.heap.size := by have := Bw8.size; omega
        have hco := HWO.out c (by rw [HCE.out]; exact List.getElem_mem hlt)
        rw [isCol_parts] at hco
        simp only [Bool.and_eq_true, decide_eq_true_eq] at hco
        obtain ⟨ch, hch⟩ : ∃ ch, c.2.1 = [ch] := by
          have := hco.1.1.2.2
          match c.2.1, this with
          | [ch], _ => exact ⟨ch, rfl⟩
        have htl : tyLet ch = true := by have := hco.1.1.2.1; rw [hch] at this; simpa using this
        have hty : ltI (colTyS c) = (ch.toNat : Int) := by
          have : colTyS c = typeB ch.toNat := by obtain ⟨n, l, d⟩ := c; have : l = [ch] := hch; subst this; rfl
          rw [this]; exact (typeB_let htl).2
        have HT2 : Hid (ltC (t.cols.take (i + 1)) = ltC (t.cols.take i) ++ [.int .u8 (ch.toNat : Int)]) := by
          rw [Hid, List.take_succ_eq_append_getElem hlt, ← HCE.out]; simp [ltC, hty]
        have u1 := (Bw8.cell (p := ⟨b, off + i * 3 + 1, none⟩) hb).trans p1
        rw [hch, show ofBs [ch] = ⟨#[ch]⟩ from rfl] at u1
        have HOWN : ∀ o : Obj, (w8.alloc o).drew.ownsRow (w.heap.size + 3 + 1) 5 1 (.slice a2 n2 c2) i (ltC (t.cols.take i)) := fun o => World.ownsRow.drew (World.ownsRow.alloc own2' o)
        have HHO' : Hid _ := hO'
        have HO1' : Hid _ := own1'
        have HO2' : Hid _ := own2'
        clear hO' own1' own2' hco htl hty hch p1 hBi HHO HO1 HO2 Bwo hTl hbl hcz hdot hdot2 hg2 hg3
        go_upto_region 8 with fail
        go_region_law (refine step_append_lies _ rfl (.tmp 48) (.tmp 56) 351 rfl (w.heap.size + 3 + 1) 5 i2 _ 1 1 Tryz.underlying351 hi2 hb0 hb1 hb2 rfl (by decide) (.slice a2 n2 c2) i (ltC (t.cols.take i)) (by simp [Act.eval]) (HOWN _) ⟨w8.heap.size, 0, none⟩ 1 1 [.int .u8 (ch.toNat : Int)] (by simp [Act.eval]) rfl (World.news_of_block (blk1_drewN w8 _)) (by intro u hu; simp at hu; subst hu; rfl) (by decide) (by unfold maxLen; omega) (by omega) (by simp; omega) (w8.heap.size + 1) (by simp) ?_; intro g7 cap7 w7 hown7 hgrow7 hat7 hlt7; have kO := (with_fin (k := 1) HHO'.out HO2'.out hB' hgrow7 hown7 (.slice none 0 0)).1; have hb7 := block_lt kO; obtain ⟨⟨r0, r1, r2, r3⟩, rf0, rf1, _, _⟩ := cells4 kO)
        all_goals (go_wp2_with fail)
        all_goals go_roundg (t.cols.length - (i + 1))
        all_goals first
          | omega
          | (obtain ⟨_, A1, A2, A3, A4⟩ := with_fin (k := 1) HHO'.out HO2'.out hB' hgrow7 hown7 (.slice (some ⟨g7, 0, none⟩) (i + 1) cap7)
             exact ⟨i + 1, rfl, by omega, by go_num, _, _, _, _, _, _, A1, A4 9 _ _ _ (by decide) HO1'.out, by rw [HT2.out]; exact A2, A3⟩)
    · have hil : i = t.cols.length := by omega
      subst hil
      rw [List.take_length] at own1 own2
      have hRb := (hBi.block (w.heap.size + 2) (by omega)).trans h3.2.2.1
      obtain ⟨⟨r0, r1, r2, r3⟩, rf0, rf1, rf2, rf3⟩ := cells4 hRb
      have hRl : w.heap.size + 2 < wo.heap.size := by omega
      obtain ⟨rfl, hc1, hrow1⟩ := row_cells own1
      obtain ⟨rfl, hc2, hrow2⟩ := row_cells own2
      have hoth : ∀ g, g ≠ w.heap.size + 2 → ((((wo.setCell ⟨w.heap.size + 2, 0, none⟩ (.slice a1 t.cols.length c1)).setCell ⟨w.heap.size + 2, 1, none⟩ (.slice a2 t.cols.length c2)).setCell ⟨w.heap.size + 2, 2, none⟩ (.string ⟨#[]⟩)).setCell ⟨w.heap.size + 2, 3, none⟩ (.slice fo fnn fc)).heap[g]? = wo.heap[g]? := fun g hg => (Below.heap_setCell _ _ _ _ hg).trans ((Below.heap_setCell _ _ _ _ hg).trans ((Below.heap_setCell _ _ _ _ hg).trans (Below.heap_setCell _ _ _ _ hg)))
      have hBF : Below w.heap.size w ((((wo.setCell ⟨w.heap.size + 2, 0, none⟩ (.slice a1 t.cols.length c1)).setCell ⟨w.heap.size + 2, 1, none⟩ (.slice a2 t.cols.length c2)).setCell ⟨w.heap.size + 2, 2, none⟩ (.string ⟨#[]⟩)).setCell ⟨w.heap.size + 2, 3, none⟩ (.slice fo fnn fc)) := (((Bwo.setCell (p := ⟨w.heap.size + 2, 0, none⟩) (by simp) _).setCell (p := ⟨w.heap.size + 2, 1, none⟩) (by simp) _).setCell (p := ⟨w.heap.size + 2, 2, none⟩) (by simp) _).setCell (p := ⟨w.heap.size + 2, 3, none⟩) (by simp) _
      have hcells : ∀ (g j : Nat) (u : Value), w.heap.size + 3 + 1 ≤ g → wo.cell? ⟨g, j, none⟩ = some u → ((((wo.setCell ⟨w.heap.size + 2, 0, none⟩ (.slice a1 t.cols.length c1)).setCell ⟨w.heap.size + 2, 1, none⟩ (.slice a2 t.cols.length c2)).setCell ⟨w.heap.size + 2, 2, none⟩ (.string ⟨#[]⟩)).setCell ⟨w.heap.size + 2, 3, none⟩ (.slice fo fnn fc)).cell? ⟨g, j, none⟩ = some u := fun g j u hg hu => (World.cell?_of_block (w := wo) (hoth g (by omega))).trans hu
      have HKN : Hid (KnIn ((((wo.setCell ⟨w.heap.size + 2, 0, none⟩ (.slice a1 t.cols.length c1)).setCell ⟨w.heap.size + 2, 1, none⟩ (.slice a2 t.cols.length c2)).setCell ⟨w.heap.size + 2, 2, none⟩ (.string ⟨#[]⟩)).setCell ⟨w.heap.size + 2, 3, none⟩ (.slice fo fnn fc)) a1 t.cols.length c1 a2 t.cols.length c2 (.slice fo fnn fc) (t.cols.map (nameS rowN)) rfs) := by
        refine ⟨by simp, by simp, by simp; omega, ?_, ?_, by simpa using hc1, by simpa using hc2, hF.keep hBF⟩
        · rcases hrow1 with h | ⟨g, rfl, hg, hgl, hrc⟩
          · exact .inl (by rw [List.length_eq_zero_iff.mp h]; rfl)
          · refine .inr ⟨g, rfl, by simp [World.setCell]; omega, fun j cc' hj => hcells g j _ hg (hrc j _ ?_)⟩
            rw [List.getElem?_map] at hj
            rw [nmC, List.getElem?_map]
            cases hq : t.cols[j]? with
            | none => rw [hq] at hj; cases hj
            | some q => rw [hq] at hj; have : nameS rowN q = cc' := Option.some.inj hj; subst this; rfl
        · rcases hrow2 with h | ⟨g, rfl, hg, hgl, hrc⟩
          · exact .inl (by rw [List.length_eq_zero_iff.mp h]; rfl)
          · refine .inr ⟨g, rfl, by simp [World.setCell]; omega, fun j cc' hj => hcells g j _ hg (hrc j _ ?_)⟩
            rw [List.getElem?_map] at hj
            rw [ltC, List.getElem?_map]
            cases hq : t.cols[j]? with
            | none => rw [hq] at hj; cases hj
            | some q => rw [hq] at hj; have : nameS rowN q = cc' := Option.some.inj hj; subst this; rfl
      have HBF : Hid _ := hBF
      clear own1 own2 hoth hcells hrow1 hrow2 hBF
      go_wp2_with fail
      exact bodyPost_ret (v := .agg #[.slice a1 t.cols.length c1, .slice a2 t.cols.length c2, .string ⟨#[]⟩, .slice fo fnn fc]) (by simp [results, Tryz.results272, go_sem, r0, r1, r2, r3]) rfl ⟨_, _, _, _, _, _, rfl, HKN.out, HBF.out⟩
end Go.Proofs.YtilfjpmeededmaaGreatDoor

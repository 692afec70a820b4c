import Derived.Test.YtilfjpmeededmaaGreatDoorTyGZ
set_option linter.unusedVariables false
set_option linter.unusedSimpArgs false
namespace Go.Proofs.YtilfjpmeededmaaGreatDoor
open Go.RowKit
theorem set11_other (x : World) (b : Nat) (a0 a1 a2 a3 a4 a5 a6 a7 a8 a9 a10 : Value) (g : Nat) (h : g ≠ b) : (((((((((((x.setCell ⟨b, 0, none⟩ a0).setCell ⟨b, 1, none⟩ a1).setCell ⟨b, 2, none⟩ a2).setCell ⟨b, 3, none⟩ a3).setCell ⟨b, 4, none⟩ a4).setCell ⟨b, 5, none⟩ a5).setCell ⟨b, 6, none⟩ a6).setCell ⟨b, 7, none⟩ a7).setCell ⟨b, 8, none⟩ a8).setCell ⟨b, 9, none⟩ a9).setCell ⟨b, 10, none⟩ a10).heap[g]? = x.heap[g]? := by
  rw [Below.heap_setCell _ _ _ _ h, Below.heap_setCell _ _ _ _ h, Below.heap_setCell _ _ _ _ h, Below.heap_setCell _ _ _ _ h, Below.heap_setCell _ _ _ _ h, Below.heap_setCell _ _ _ _ h, Below.heap_setCell _ _ _ _ h, Below.heap_setCell _ _ _ _ h, Below.heap_setCell _ _ _ _ h, Below.heap_setCell _ _ _ _ h, Below.heap_setCell _ _ _ _ h]
theorem set11_below {B : Nat} {a x : World} (h : Below B a x) {b : Nat} (hb : B ≤ b) (a0 a1 a2 a3 a4 a5 a6 a7 a8 a9 a10 : Value) : Below B a (((((((((((x.setCell ⟨b, 0, none⟩ a0).setCell ⟨b, 1, none⟩ a1).setCell ⟨b, 2, none⟩ a2).setCell ⟨b, 3, none⟩ a3).setCell ⟨b, 4, none⟩ a4).setCell ⟨b, 5, none⟩ a5).setCell ⟨b, 6, none⟩ a6).setCell ⟨b, 7, none⟩ a7).setCell ⟨b, 8, none⟩ a8).setCell ⟨b, 9, none⟩ a9).setCell ⟨b, 10, none⟩ a10) :=
  ((((((((((h.setCell hb _).setCell hb _).setCell hb _).setCell hb _).setCell hb _).setCell hb _).setCell hb _).setCell hb _).setCell hb _).setCell hb _).setCell hb _
theorem block_set_E {x : World} {b : Nat} {a0 a1 a2 a3 a4 a5 a6 a7 a8 a9 a10 : Value} {T : TypeId} {fz : Nat × Nat} (h : x.heap[b]? = some (.cells #[a0, a1, a2, a3, a4, a5, a6, a7, a8, a9, a10] T fz)) (u s q : Value) :
    (((x.setCell ⟨b, 10, none⟩ u).setCell ⟨b, 2, none⟩ s).setCell ⟨b, 3, none⟩ q).heap[b]? = some (.cells #[a0, a1, s, q, a4, a5, a6, a7, a8, a9, u] T fz) := by
  simp [World.setCell, Array.getElem?_modify, h]
theorem set3_other (x : World) (b : Nat) (u s q : Value) (g : Nat) (h : g ≠ b) : (((x.setCell ⟨b, 10, none⟩ u).setCell ⟨b, 2, none⟩ s).setCell ⟨b, 3, none⟩ q).heap[g]? = x.heap[g]? := by
  rw [Below.heap_setCell _ _ _ _ h, Below.heap_setCell _ _ _ _ h, Below.heap_setCell _ _ _ _ h]
theorem brk_fin {B : Nat} {wr W' : World} {FB : List Nat} {Eb : Nat} {v : Value} {cs : List Value} {es : List Ex} (hB : B ≤ Eb) (hk : ∀ g, Eb < g → g < wr.heap.size → W'.heap[g]? = wr.heap[g]?)
    (hown : wr.ownsRow (Eb + 1) 122 11 v es.length cs) (hxs : IsExs wr FB (fun g => Eb < g ∧ v.ownBlock ≠ some g) cs es) (sort ty size : Int) (q : Bool) (l : Bs) {fi : Option Nat} {fp : Option Addr} (hfp : FpIs FB fi fp) :
    IsEx W' FB (fun g => B ≤ g) [.int .i64 sort, .int .i64 ty, .int .i64 size, .bool q, .int .i64 0, .int .i64 0, .string ⟨#[]⟩, .int .i64 0, .string (ofBs l), .pointer fp, v] (.mk sort ty size q 0 0 [] 0 l fi es) := by
  refine .mk (vs := []) (hxs.bounded.move (fun g hg => hk g hg.1.1 hg.2) (fun g hg => by have := hg.1.1; omega)) (owns_base (owns_keep hown fun g hg => ?_) fun _ _ => Nat.zero_le _) (fun g hg => ?_) hfp
  · have := hown.lt g hg; exact hk g (by omega) this.2
  · have := hown.lt g hg; omega
def BrInv (atoi : Bs → Int) (ps : Sc) (fns : List Fn) (FB : List Nat) (w : World) (Eb : Nat) (so : Obj) (tx : Bs) (ops : List Tr) (i : Nat) (wr : World) : Prop :=
  ∃ (es : List Ex) (ao : Option Addr) (n cap : Nat) (cs : List Value), es.length = i ∧ 0 ≤ sumSize es ∧ sumSize es ≤ 301 * nodTs (ops.take i) ∧ Hid (typsS atoi ps fns ops = thenS es (typsS atoi ps fns (ops.drop i))) ∧ Below w.heap.size w wr ∧
    wr.heap[w.heap.size]? = some so ∧ wr.heap[w.heap.size + 2]? = some ex0 ∧ wr.heap[Eb]? = some (.cells #[.int .i64 0, .int .i64 0, .int .i64 (1 + sumSize es), .bool (es.all Ex.quiet), .int .i64 0, .int .i64 0, .string ⟨#[]⟩, .int .i64 0, .string (ofBs tx), .pointer none, .slice ao n cap] 122 (0, 0)) ∧
    wr.ownsRow (Eb + 1) 122 11 (.slice ao n cap) es.length cs ∧ IsExs wr FB (fun g => Eb < g ∧ (Value.slice ao n cap).ownBlock ≠ some g) cs es
set_option maxHeartbeats 20000000 in
set_option maxRecDepth 100000 in
theorem bracketT_any (atoi : Bs → Int) (P : Int → Bs → Prop) (N : Nat) (hN : ExprSpec atoi P N) (k : Int) (tx : Bs) (ops : List Tr) (hsz : ∀ t ∈ ops, SizeOf.sizeOf t ≤ N) (hnod : nodTs ops ≤ 1000) (hfit : Fits P ops) (w : World) (FB : List Nat) (ps : Sc) (fns : List Fn) (qo : Option Addr) (qn qc : Nat) (po : Option Addr) (pn pc : Nat) (fo : Option Addr) (fnn fc : Nat)
    (tro : Option Addr) (tn tc : Nat) (htn : tn = ops.length) (tcs : List Value) (hS : IsTrs w (fun _ => True) tcs ops) (hto : w.ownsRow 0 236 4 (.slice tro tn tc) ops.length tcs) (hsc : ScIn w FB (.slice qo qn qc) (.slice po pn pc) (.slice fo fnn fc) ps fns) (hf : ∀ fn ∈ fns, 0 ≤ fn.body.size ∧ fn.body.size ≤ 300) :
    Calls Tryz.prog 289 #[.agg #[.slice qo qn qc, .slice po pn pc, .slice fo fnn fc], .agg #[.int .i64 k, .string (ofBs tx), .bool true, .slice tro tn tc]] w fun e w' => Typd w FB (typS atoi ps fns (.mk k tx true ops)) e w' := by
  subst htn
  obtain ⟨i0, hi, hz0, hz1, hz2⟩ := info_parts infoEx
  have hlen : ops.length ≤ 1000 := by
    have : ∀ l : List Tr, l.length ≤ nodTs l := by
      intro l
      induction l with
      | nil => simp
      | cons t ts ih => obtain ⟨a, b, c, d⟩ := t; simp [nodTs, nodT]; omega
    have := this ops; omega
  have HT : Hid (typS atoi ps fns (.mk k tx true ops) = afterS fns tx (typsS atoi ps fns ops)) := by rw [Hid, typS, if_pos rfl]
  go_enter Tryz.func289, Tryz.ntmps289
  go_wp2_with fail
  go_loopw [18] (fun iv wr => ∃ i : Nat, i ≤ ops.length ∧ iv = .int .i64 i ∧ BrInv atoi ps fns FB w (w.heap.size + 3) (.cells #[.slice qo qn qc, .slice po pn pc, .slice fo fnn fc] 206 (0, 0)) tx ops i wr) (fun iv _ => ops.length - (intOf iv).toNat)
  case atStart =>
    refine ⟨0, Nat.zero_le _, rfl, [], none, 0, 0, [], rfl, by simp [sumSize], by simp [sumSize, nodTs], ?_, ?_, ?_, ?_, ?_, World.ownsRow_nil _ _ _ _, .nil⟩
    · rw [Hid, List.drop_zero]; cases typsS atoi ps fns ops <;> simp [thenS]
    · iterate 4 (refine Below.alloc ?_ (by simp [World.size_alloc]; try omega) _)
      exact Below.refl _ _
    · exact (res_box3 (below_box _ _)).1
    · exact (res_box3 (below_box _ _)).2.2.1
    · have := heap_alloc_new (((w.alloc (.cells #[.slice qo qn qc, .slice po pn pc, .slice fo fnn fc] 206)).alloc (.cells #[.int .i64 k, .string (ofBs tx), .bool true, .slice tro ops.length tc] 236)).alloc ex0) (.cells #[.int .i64 0, .int .i64 0, .int .i64 1, .bool true, .int .i64 0, .int .i64 0, .string ⟨#[]⟩, .int .i64 0, .string (ofBs tx), .pointer none, .slice none 0 0] 122)
      simp only [World.size_alloc] at this
      exact this
  case round =>
    obtain ⟨i, hi', rfl, es, ao, n, cap, cs, hel, hs0, hs1, HI, hB, hSc, hRx, hEx, hown, hxs⟩ := hrel
    have hsx := block_lt hEx
    by_cases hlt : i < ops.length
    · obtain ⟨tg, rfl⟩ : ∃ g, tro = some ⟨g, 0, none⟩ := by
        rcases hto.2 with ⟨h, h0⟩ | ⟨g, cap', cur, h, _⟩
        · omega
        · cases h; exact ⟨g, rfl⟩
      have htg : tg < w.heap.size := (hto.lt tg rfl).2
      obtain ⟨c, hc, hcj⟩ := hS.get i hlt
      obtain ⟨k1, tx1, br1, ops1, ao1, n1, cap1, cs1, ht1, rfl, hn1, _, _, _⟩ := hc.inv
      have cell : ∀ j u, j < 4 → [Value.int .i64 k1, .string (ofBs tx1), .bool br1, .slice ao1 n1 cap1][j]? = some u → wr.cell? ⟨tg, i * 4 + j, none⟩ = some u := by
        intro j u hj hu
        have := hto.cells (g := tg) rfl (i * 4 + j) u (by rw [hcj j hj]; exact hu)
        rw [Addr.add_lit] at this
        exact (hB.cell (p := ⟨tg, i * 4 + j, none⟩) htg).trans (by simpa using this)
      have q0 := cell 0 _ (by omega) rfl
      have q1 := cell 1 _ (by omega) rfl
      have q2 := cell 2 _ (by omega) rfl
      have q3 := cell 3 _ (by omega) rfl
      rw [Nat.add_zero] at q0
      have htgr : tg < wr.heap.size := by omega
      have x0 : wr.cell? ⟨w.heap.size, 0, none⟩ = some (.slice qo qn qc) := (blk_at hSc).trans rfl
      have x1 : wr.cell? ⟨w.heap.size, 1, none⟩ = some (.slice po pn pc) := (blk_at hSc).trans rfl
      have x2 : wr.cell? ⟨w.heap.size, 2, none⟩ = some (.slice fo fnn fc) := (blk_at hSc).trans rfl
      obtain ⟨hnt, hnl⟩ := nodTs_take ops i hlt
      have hd : ops.drop i = ops[i] :: ops.drop (i + 1) := List.drop_eq_getElem_cons hlt
      have HC : ∀ x : World, Below w.heap.size w x → Calls Tryz.prog 209 #[.agg #[.slice qo qn qc, .slice po pn pc, .slice fo fnn fc], .agg #[.int .i64 k1, .string (ofBs tx1), .bool br1, .slice ao1 n1 cap1]] x fun e w' => Typd x FB (typS atoi ps fns ops[i]) e w' := by
        intro x hx
        refine hN ops[i] x FB ps fns qo qn qc po pn pc fo fnn fc _ (hsz _ (List.getElem_mem hlt)) ?_ (hfit.get i hlt) (hc.bounded.move (fun g hg => hx.block g hg.2) (fun _ _ => trivial)) (hsc.keep hx) hf
        omega
      have hS1 : w.heap.size < wr.heap.size := by omega
      clear cell hcj hc ht1 hn1
      go_wp2_with (go_at_call 209; refine (HC _ ?c1).mono ?_)
      case c1 => exact hB.alloc (by omega) _
      rintro e w5 ⟨hb5, hres⟩
      have hs5 := hb5.size
      simp only [World.size_alloc] at hs5
      have hB5 : Below wr.heap.size wr w5 := (below_box wr _).trans (hb5.mono (by simp [World.size_alloc]))
      have hR6 : w.heap.size + 2 < w5.heap.size := by omega
      have hEB : w.heap.size + 3 < w5.heap.size := by omega
      have hR5 := (hB5.block _ (by omega)).trans hRx
      have hE5 := (hB5.block _ (by omega)).trans hEx
      have hS5 := (hB5.block _ (by omega)).trans hSc
      rcases hres with ⟨n5, ho, hn5, rfl⟩ | ⟨x, c5, ho, rfl, hx⟩
      · have HF : Hid (typS atoi ps fns (.mk k tx true ops) = .error n5) := by
          rw [Hid, HT.out, HI.out, hd, thenS_err atoi ps fns es _ _ n5 ho]; rfl
        have hne : (n5 == 0) = false := by simpa using hn5
        have BX : Below w.heap.size w w5 := hB.trans (hB5.mono hB.size)
        obtain ⟨⟨z0, z1, z2, z3, z4, z5, z6, z7, z8, z9, z10⟩, g0, g1, g2, g3, g4, g5, g6, g7, g8, g9, g10⟩ := cells11 hR5
        clear HT HI ho HC hN hsz hfit hS hto hsc hf hown hxs hSc hRx hEx hE5 hS5 hR5 x0 x1 x2 q0 q1 q2 q3 hd hb5
        go_wp2_with fail
        refine bodyPost_ret (v := .tuple #[.agg #[.int .i64 0, .int .i64 0, .int .i64 0, .bool false, .int .i64 0, .int .i64 0, .string ⟨#[]⟩, .int .i64 0, .string ⟨#[]⟩, .pointer none, .slice none 0 0], .int .i64 n5]) (by simp [results, Tryz.results289, go_sem, hR6, z0, z1, z2, z3, z4, z5, z6, z7, z8, z9, z10]) rfl ?_
        refine ⟨?_, .inl ⟨n5, HF.out, hn5, rfl⟩⟩
        refine Below.alloc ?_ (by simp only [World.size_setCell]; exact BX.size) _
        iterate 11 (refine Below.setCell ?_ (by simp <;> omega) _)
        exact BX
      · obtain ⟨sort, ty, size, quiet, vk, vn, vs, place, head, fi, xops, fp, xo, xn, xc, xcs, hxe, hxc, -, -, -, -, -⟩ := hx.inv
        have hc5 : c5 = #[.int .i64 sort, .int .i64 ty, .int .i64 size, .bool quiet, .int .i64 vk, .int .i64 vn, .string (ofBs vs), .int .i64 place, .string (ofBs head), .pointer fp, .slice xo xn xc] := by
          rw [← Array.toList_inj]; exact hxc
        subst hc5
        have HN : Hid (typsS atoi ps fns ops = thenS (es ++ [x]) (typsS atoi ps fns (ops.drop (i + 1)))) := by
          rw [Hid, HI.out, hd, thenS_ok atoi ps fns es _ _ x ho]
        have hxs0 := typS_size atoi ps hf N _ (hsz _ (List.getElem_mem hlt)) x ho
        have hxz : x.size = size := by rw [hxe]; rfl
        have hxq : x.quiet = quiet := by rw [hxe]; rfl
        rw [hxz] at hxs0
        obtain ⟨⟨y0, y1, y2, y3, y4, y5, y6, y7, y8, y9, y10⟩, f0, f1, f2, f3, f4, f5, f6, f7, f8, f9, f10⟩ := cells11 hE5
        clear HI ho HC hN hsz hfit hS hto hsc hd
        go_wp2_with (at_builtin; refine wpList_append_own_at _ rfl (.tmp 33) (.tmp 35) 120 rfl (w.heap.size + 3 + 1) 122 i0 (.agg #[.int .i64 0, .int .i64 0, .int .i64 0, .bool false, .int .i64 0, .int .i64 0, .string ⟨#[]⟩, .int .i64 0, .string ⟨#[]⟩, .pointer none, .slice none 0 0]) 11 120 Tryz.underlying120 hi hz0 hz1 hz2 rfl (by decide) _ _ _ rfl ((owns_keep hown (x := w5) ?c0).alloc _ |>.alloc _) ⟨w5.heap.size + 1, 0, none⟩ 1 1 [.int .i64 sort, .int .i64 ty, .int .i64 size, .bool quiet, .int .i64 vk, .int .i64 vn, .string (ofBs vs), .int .i64 place, .string (ofBs head), .pointer fp, .slice xo xn xc] rfl rfl ?c1 ?c2 ?c3 ?c4 ?c5 ?_)
        case c0 => intro q hq; exact hB5.block q (hown.lt q hq).2
        case c1 =>
          intro j u hj
          match j, hj with
          | 0, hj | 1, hj | 2, hj | 3, hj | 4, hj | 5, hj | 6, hj | 7, hj | 8, hj | 9, hj | 10, hj => simp at hj; subst hj; simp [Addr.add]
        case c2 => intro u hu; simp at hu; rcases hu with rfl | rfl | rfl | rfl | rfl | rfl | rfl | rfl | rfl | rfl | rfl <;> rfl
        case c3 => unfold maxLen; omega
        case c4 => omega
        case c5 => simp; omega
        · intro v' w6 hown' hgrow _ hat
          obtain ⟨bo, bn, bc, rfl⟩ : ∃ bo bn bc, v' = .slice bo bn bc := by
            rcases hown'.2 with ⟨e, _⟩ | ⟨q, cap', cur, e, _⟩ <;> exact ⟨_, _, _, e⟩
          have hvE : (Value.slice ao n cap).ownBlock ≠ some (w.heap.size + 3) := fun e => by have := (hown.lt _ e).1; omega
          have hvS : (Value.slice ao n cap).ownBlock ≠ some w.heap.size := fun e => by have := (hown.lt _ e).1; omega
          have hvR : (Value.slice ao n cap).ownBlock ≠ some (w.heap.size + 2) := fun e => by have := (hown.lt _ e).1; omega
          have hvO : (Value.slice ao n cap).ownBlock ≠ some w5.heap.size := fun e => by have := (hown.lt _ e).2; omega
          have hx5 := hx.move (x := w5) (S' := fun g => wr.heap.size ≤ g) (fun _ _ => rfl) (fun g hg => by simp only [World.size_alloc] at hg; omega)
          obtain ⟨S1, S2⟩ := exs_step hsx hown hxs hB5 hx5 ⟨by simp only [World.size_alloc]; omega, fun g hg => by rw [Below.heap_alloc _ _ _ (by simp only [World.size_alloc]; omega), Below.heap_alloc _ _ _ hg]⟩ hgrow (by simpa using hat)
          have kE := (S2 _ hsx hvE).trans hEx
          have kR := (S2 _ (by omega) hvR).trans hRx
          have kS := (S2 _ hS1 hvS).trans hSc
          have kO := (hgrow.block w5.heap.size (by simp only [World.size_alloc]; omega) (fun e => hvO e.symm)).trans ((Below.heap_alloc _ _ _ (by simp [World.size_alloc])).trans (heap_alloc_new w5 _))
          have RB : Below w.heap.size w w6 := (((hB.trans (hB5.mono hB.size)).alloc (by omega) _).alloc (by simp; omega) _).grown hgrow (by simp; omega) (fun k hk => by have := (hown.lt k hk).1; omega)
          have hs6 := block_lt kO
          have hne1 : w5.heap.size ≠ w.heap.size + 3 := by omega
          clear y0 y1 y2 y3 y4 y5 y6 y7 y8 y9 y10 f0 f1 f2 f3 f4 f5 f6 f7 f8 f9 f10
          obtain ⟨⟨y0, y1, y2, y3, y4, y5, y6, y7, y8, y9, y10⟩, f0, f1, f2, f3, f4, f5, f6, f7, f8, f9, f10⟩ := cells11 kE
          obtain ⟨⟨o0, o1, o2, o3, o4, o5, o6, o7, o8, o9, o10⟩, p0, p1, p2, p3, p4, p5, p6, p7, p8, p9, p10⟩ := cells11 kO
          have R1 : w6.ownsRow (w.heap.size + 3 + 1) 122 11 (.slice bo bn bc) (es ++ [x]).length (cs ++ [.int .i64 sort, .int .i64 ty, .int .i64 size, .bool quiet, .int .i64 vk, .int .i64 vn, .string (ofBs vs), .int .i64 place, .string (ofBs head), .pointer fp, .slice xo xn xc]) := by rw [List.length_append, hel]; exact hown'
          obtain ⟨qv, hqv⟩ : ∃ qv, qv = es.all Ex.quiet := ⟨_, rfl⟩
          have HQ : Hid ((es ++ [x]).all Ex.quiet = (qv && quiet)) := by rw [Hid, List.all_append, hqv, ← hxq]; simp
          have HZ : Hid (1 + sumSize (es ++ [x]) = 1 + sumSize es + size) := by rw [Hid, sumSize_append, ← hxz]; simp [sumSize]; omega
          have hsA : 0 ≤ sumSize (es ++ [x]) ∧ sumSize (es ++ [x]) ≤ 301 * nodTs (ops.take (i + 1)) := by have := HZ.out; omega
          have hbd : sumSize es ≤ 301000 := by omega
          rw [← hqv] at y3 kE
          clear hown' hgrow hat hown hxs hx hx5 S2 hEx hRx hSc hE5 hR5 hS5 hB5 hb5 hqv hxe hxc x0 x1 x2 q0 q1 q2 q3 hxq hxz HT
          cases qv <;>
          · go_wp2
            go_roundw
            case rel =>
              refine ⟨i + 1, by omega, by go_num, es ++ [x], bo, bn, bc, _, by simp [hel], hsA.1, hsA.2, HN, ?_, ?_, ?_, ?_, ownsRow_setCell_below (ownsRow_setCell_below (ownsRow_setCell_below R1 (by simp) _) (by simp) _) (by simp) _, S1.move (fun g hg => set3_other _ _ _ _ _ _ (by have := hg.1; omega)) (fun g hg => hg)⟩
              · exact ((RB.setCell (by simp <;> omega) _).setCell (by simp <;> omega) _).setCell (by simp <;> omega) _
              · exact (set3_other _ _ _ _ _ _ (by omega)).trans kS
              · exact (set3_other _ _ _ _ _ _ (by omega)).trans kR
              · rw [HQ.out, HZ.out]; exact block_set_E kE _ _ _
            case measure => simp [intOf]; omega
    · have hie : ops.drop i = [] := List.drop_of_length_le (by omega)
      have HF : Hid (typS atoi ps fns (.mk k tx true ops) = finS fns tx es) := by
        rw [Hid, HT.out, HI.out, hie, typsS, thenS, List.append_nil]; rfl
      have hlt2 : ¬ i < ops.length := hlt
      have hle : es.length ≤ 1000 := by omega
      have hIn : ExsIn wr FB (.slice ao n cap) es := by
        refine ⟨cs, ao, cap, ?_, owns_base hown fun _ _ => Nat.zero_le _, hxs.move (fun _ _ => rfl) (fun _ _ => trivial)⟩
        rcases hown.2 with ⟨e, h0⟩ | ⟨g, cap', cur, e, _⟩
        · cases e; rw [h0]
        · cases e; rfl
      have hsr : ScIn wr FB (.slice qo qn qc) (.slice po pn pc) (.slice fo fnn fc) ps fns := hsc.keep hB
      have hsum : sumSize es ≤ 301000 := by
        have : nodTs (ops.take i) ≤ nodTs ops := by
          have e2 := congrArg nodTs (List.take_append_drop i ops)
          rw [nodTs_append] at e2; omega
        omega
      have HBI : ∀ x : World, Calls Tryz.prog 207 #[.string (ofBs tx)] x fun e w' => e = .returned (.bool (builtS tx)) ∧ w' = x := by
        intro x; have := isBuiltIn_any (ofBs tx) x; rw [ofBs_toList] at this; exact this
      have x0 : wr.cell? ⟨w.heap.size, 0, none⟩ = some (.slice qo qn qc) := (blk_at hSc).trans rfl
      have x1 : wr.cell? ⟨w.heap.size, 1, none⟩ = some (.slice po pn pc) := (blk_at hSc).trans rfl
      have x2 : wr.cell? ⟨w.heap.size, 2, none⟩ = some (.slice fo fnn fc) := (blk_at hSc).trans rfl
      obtain ⟨⟨y0, y1, y2, y3, y4, y5, y6, y7, y8, y9, y10⟩, f0, f1, f2, f3, f4, f5, f6, f7, f8, f9, f10⟩ := cells11 hEx
      obtain ⟨qv, hqv⟩ : ∃ qv, qv = es.all Ex.quiet := ⟨_, rfl⟩
      obtain ⟨sz, hszv⟩ : ∃ sz, sz = 1 + sumSize es := ⟨_, rfl⟩
      rw [← hqv] at y3
      rw [← hszv] at y2
      have hsz0 : 0 ≤ sz := by omega
      have hsz1 : sz ≤ 1000000 := by omega
      have HQV : Hid (es.all Ex.quiet = qv) := hqv.symm
      have HSZ : Hid (1 + sumSize es = sz) := hszv.symm
      clear hqv hszv
      cases hb : builtS tx with
      | true =>
        rw [hb] at HBI
        have HC := builtIn_any wr FB tx hb sz qv ao n cap es hIn hle
        have HF2 : Hid (typS atoi ps fns (.mk k tx true ops) = if typeS tx (es.map Ex.ty) = 0 then .error 3 else .ok (.mk 4 (typeS tx (es.map Ex.ty)) sz (qv && !loudS tx) 0 0 [] 0 tx none es)) := by
          rw [Hid, HF.out, finS, if_pos hb, HQV.out, HSZ.out]
        obtain ⟨t, ht⟩ : ∃ t, t = typeS tx (es.map Ex.ty) := ⟨_, rfl⟩
        rw [← ht] at HC HF2
        clear hN hsz hfit hS hto hsc hf HT HI HF hIn hsr ht
        go_wp2_with (first
          | (go_at_call 207; refine (HBI _).mono ?_; rintro e w6 ⟨rfl, rfl⟩)
          | (go_at_call 349; refine HC.mono ?_))
        rintro e w7 ⟨hb7, hres⟩
        have hs7 := hb7.size
        have BX : Below w.heap.size w w7 := hB.trans (hb7.mono hB.size)
        obtain ⟨⟨z0, z1, z2, z3, z4, z5, z6, z7, z8, z9, z10⟩, g0, g1, g2, g3, g4, g5, g6, g7, g8, g9, g10⟩ := cells11 ((hb7.block _ (by omega)).trans hRx)
        clear HC HBI y0 y1 y2 y3 y4 y5 y6 y7 y8 y9 y10 f0 f1 f2 f3 f4 f5 f6 f7 f8 f9 f10 x0 x1 x2
        rcases hres with ⟨h0, rfl⟩ | ⟨h0, rfl⟩
        · have HE : Hid (typS atoi ps fns (.mk k tx true ops) = .error 3) := by rw [Hid, HF2.out, if_pos h0]
          clear HF2
          go_wp2_with fail
          refine bodyPost_ret (v := .tuple #[.agg #[.int .i64 0, .int .i64 0, .int .i64 0, .bool false, .int .i64 0, .int .i64 0, .string ⟨#[]⟩, .int .i64 0, .string ⟨#[]⟩, .pointer none, .slice none 0 0], .int .i64 3]) (by simp [results, Tryz.results289, go_sem, z0, z1, z2, z3, z4, z5, z6, z7, z8, z9, z10]) rfl ⟨?_, .inl ⟨3, HE.out, by decide, rfl⟩⟩
          exact set11_below BX (by omega) _ _ _ _ _ _ _ _ _ _ _
        · have HE : Hid (typS atoi ps fns (.mk k tx true ops) = .ok (.mk 4 t sz (qv && !loudS tx) 0 0 [] 0 tx none es)) := by rw [Hid, HF2.out, if_neg h0]
          clear HF2
          go_wp2_with fail
          refine bodyPost_ret (v := .tuple #[.agg #[.int .i64 4, .int .i64 t, .int .i64 sz, .bool (qv && !loudS tx), .int .i64 0, .int .i64 0, .string ⟨#[]⟩, .int .i64 0, .string (ofBs tx), .pointer none, .slice ao n cap], .int .i64 0]) (by simp [results, Tryz.results289, go_sem, z0, z1, z2, z3, z4, z5, z6, z7, z8, z9, z10]) rfl ⟨?_, .inr ⟨_, _, HE.out, rfl, ?_⟩⟩
          · exact set11_below BX (by omega) _ _ _ _ _ _ _ _ _ _ _
          · exact brk_fin (by omega) (fun g h1 h2 => (set11_other _ _ _ _ _ _ _ _ _ _ _ _ _ _ (by omega)).trans (hb7.block g h2)) hown hxs 4 t sz (qv && !loudS tx) tx rfl
      | false =>
        rw [hb] at HBI
        have HC := call_any wr FB qo qn qc (.slice po pn pc) po pn pc rfl fo fnn fc fns hsr.fns hf tx sz hsz0 hsz1 qv ao n cap es hIn hle
        have HF2 : Hid (typS atoi ps fns (.mk k tx true ops) = CallS fns tx sz qv es) := by
          rw [Hid, HF.out, finS, if_neg (by rw [hb]; exact Bool.false_ne_true), HQV.out, HSZ.out]
        clear hN hsz hfit hS hto hsc hf HT HI HF hIn hsr
        go_wp2_with (first
          | (go_at_call 207; refine (HBI _).mono ?_; rintro e w6 ⟨rfl, rfl⟩)
          | (go_at_call 350; refine HC.mono ?_))
        rintro e w7 ⟨hb7, hres⟩
        have hs7 := hb7.size
        have BX : Below w.heap.size w w7 := hB.trans (hb7.mono hB.size)
        obtain ⟨⟨z0, z1, z2, z3, z4, z5, z6, z7, z8, z9, z10⟩, g0, g1, g2, g3, g4, g5, g6, g7, g8, g9, g10⟩ := cells11 ((hb7.block _ (by omega)).trans hRx)
        clear HC HBI y0 y1 y2 y3 y4 y5 y6 y7 y8 y9 y10 f0 f1 f2 f3 f4 f5 f6 f7 f8 f9 f10 x0 x1 x2
        rcases hres with ⟨h0, rfl⟩ | ⟨fi, qb, fn, h0, hfn, hqb, ⟨hks, rfl⟩ | ⟨hks, rfl⟩⟩
        · have HE : Hid (typS atoi ps fns (.mk k tx true ops) = .error 2) := by rw [Hid, HF2.out, CallS, h0]
          clear HF2 h0
          go_wp2_with fail
          refine bodyPost_ret (v := .tuple #[.agg #[.int .i64 0, .int .i64 0, .int .i64 0, .bool false, .int .i64 0, .int .i64 0, .string ⟨#[]⟩, .int .i64 0, .string ⟨#[]⟩, .pointer none, .slice none 0 0], .int .i64 2]) (by simp [results, Tryz.results289, go_sem, z0, z1, z2, z3, z4, z5, z6, z7, z8, z9, z10]) rfl ⟨?_, .inl ⟨2, HE.out, by decide, rfl⟩⟩
          exact set11_below BX (by omega) _ _ _ _ _ _ _ _ _ _ _
        · have HE : Hid (typS atoi ps fns (.mk k tx true ops) = .error 3) := by rw [Hid, HF2.out, CallS, h0]; simp only [hfn, if_neg hks]
          clear HF2 h0 hfn hks
          go_wp2_with fail
          refine bodyPost_ret (v := .tuple #[.agg #[.int .i64 0, .int .i64 0, .int .i64 0, .bool false, .int .i64 0, .int .i64 0, .string ⟨#[]⟩, .int .i64 0, .string ⟨#[]⟩, .pointer none, .slice none 0 0], .int .i64 3]) (by simp [results, Tryz.results289, go_sem, z0, z1, z2, z3, z4, z5, z6, z7, z8, z9, z10]) rfl ⟨?_, .inl ⟨3, HE.out, by decide, rfl⟩⟩
          exact set11_below BX (by omega) _ _ _ _ _ _ _ _ _ _ _
        · have HE : Hid (typS atoi ps fns (.mk k tx true ops) = .ok (.mk 5 fn.body.ty (sz + fn.body.size) (qv && fn.body.quiet) 0 0 [] 0 tx (some fi) es)) := by rw [Hid, HF2.out, CallS, h0]; simp only [hfn, if_pos hks]
          obtain ⟨bt, hbt⟩ : ∃ x, x = fn.body.ty := ⟨_, rfl⟩
          obtain ⟨bs, hbs⟩ : ∃ x, x = fn.body.size := ⟨_, rfl⟩
          obtain ⟨bq, hbq⟩ : ∃ x, x = fn.body.quiet := ⟨_, rfl⟩
          rw [← hbt, ← hbs, ← hbq] at HE ⊢
          clear HF2 h0 hfn hks hbt hbs hbq
          go_wp2_with fail
          refine bodyPost_ret (v := .tuple #[.agg #[.int .i64 5, .int .i64 bt, .int .i64 (sz + bs), .bool (qv && bq), .int .i64 0, .int .i64 0, .string ⟨#[]⟩, .int .i64 0, .string (ofBs tx), .pointer (some ⟨qb, 0, none⟩), .slice ao n cap], .int .i64 0]) (by simp [results, Tryz.results289, go_sem, z0, z1, z2, z3, z4, z5, z6, z7, z8, z9, z10]) rfl ⟨?_, .inr ⟨_, _, HE.out, rfl, ?_⟩⟩
          · exact set11_below BX (by omega) _ _ _ _ _ _ _ _ _ _ _
          · exact brk_fin (by omega) (fun g h1 h2 => (set11_other _ _ _ _ _ _ _ _ _ _ _ _ _ _ (by omega)).trans (hb7.block g h2)) hown hxs 5 bt (sz + bs) (qv && bq) tx ⟨qb, hqb, rfl⟩
end Go.Proofs.YtilfjpmeededmaaGreatDoor

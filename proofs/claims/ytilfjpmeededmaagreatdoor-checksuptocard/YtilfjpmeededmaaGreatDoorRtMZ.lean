import Derived.Test.YtilfjpmeededmaaGreatDoorRtKZ
set_option linter.unusedVariables false
set_option linter.unusedSimpArgs false
namespace Go.Proofs.YtilfjpmeededmaaGreatDoor
open Go.RowKit
set_option maxHeartbeats 8000000 in
set_option maxRecDepth 100000 in
theorem qu_br1 (N : Nat) (hN : QuSpec N) (T : Tr) (w : World) (co : Option Addr) (cn cc : Nat) (to' : Option Addr) (tn tc : Nat) (args : Bs) (fo : Option Addr) (fnn fc : Nat) (ps : Sc) (rfs : List RF) (g cap : Nat) (l : List Tr) (ty : Nat → Int) (cs : List Value) (i : Nat) (hszo : ∀ y ∈ T.ops, SizeOf.sizeOf y ≤ N)
    (hKN : KnIn w co cn cc to' tn tc (.slice fo fnn fc) ps.1 rfs) (hK : KnOK ps args rfs) (hND : NdIn w g cap l ty cs) (hi : l[i]? = some T) (hbr : T.br = true) (hno : findS (RF.list rfs) T.tx = none) :
    Calls Tryz.prog 270 #[.agg #[.slice co cn cc, .slice to' tn tc, .string (ofBs args), .slice fo fnn fc], .agg #[.slice (some ⟨g, 0, none⟩) l.length cap], .int .i64 i] w fun e w' => e = .returned (.bool (quT rfs T)) ∧ Below w.heap.size w w' := by
  obtain ⟨ao, c2, is, q0, q1, q2, q3, hisl, hiso, hvn⟩ := hND.at hi
  rw [hbr] at q1
  have hil := (List.getElem?_eq_some_iff.mp hi).1
  have hgl := hND.lt
  have hcap := hND.cap
  have hsm := hND.small
  have HQA : Hid (quT rfs T = ((!loudS T.tx && fnQuiet rfs (findS (RF.list rfs) T.tx)) && quTs rfs T.ops)) := by
    obtain ⟨k, tx, br, ops⟩ := T
    have : br = true := hbr
    subst this
    rw [Hid, quT]; rfl
  have hol : T.ops.length ≤ 1000 := by
    have h1 := nodes_ops hND hi
    omega
  have HVN : Hid _ := hvn
  have HISL : Hid _ := hisl
  have HISO : Hid _ := hiso
  have HKN : Hid _ := hKN
  have HND : Hid _ := hND
  obtain ⟨W, hW⟩ : ∃ W, W = ((w.alloc (.cells #[.slice co cn cc, .slice to' tn tc, .string (ofBs args), .slice fo fnn fc] 374)).alloc (.cells #[.slice (some ⟨g, 0, none⟩) l.length cap] 242)).alloc (.cells #[.string (ofBs T.tx), .bool true, .slice ao T.ops.length c2, .int .u8 (ty i)] 359) := ⟨_, rfl⟩
  have HATW : Hid (((w.alloc (.cells #[.slice co cn cc, .slice to' tn tc, .string (ofBs args), .slice fo fnn fc] 374)).alloc (.cells #[.slice (some ⟨g, 0, none⟩) l.length cap] 242)).alloc (.cells #[.string (ofBs T.tx), .bool true, .slice ao T.ops.length c2, .int .u8 (ty i)] 359) = W) := hW.symm
  have hBW : Below w.heap.size w W := by rw [hW]; exact box3_below w _ _ _
  have h3 := res_box3 (w := w) (o := (.cells #[.slice co cn cc, .slice to' tn tc, .string (ofBs args), .slice fo fnn fc] 374)) (o' := (.cells #[.slice (some ⟨g, 0, none⟩) l.length cap] 242)) (o2 := (.cells #[.string (ofBs T.tx), .bool true, .slice ao T.ops.length c2, .int .u8 (ty i)] 359)) (Below.refl _ _)
  rw [← hW] at h3
  have hsW : W.heap.size = w.heap.size + 3 := by rw [hW]; simp [World.size_alloc]
  have HKEEP : ∀ x : World, Below W.heap.size W x → (x.cell? ⟨w.heap.size + 2, 0, none⟩ = some (.string (ofBs T.tx)) ∧ x.cell? ⟨w.heap.size + 2, 2, none⟩ = some (.slice ao T.ops.length c2)) ∧ (x.cell? ⟨w.heap.size, 0, none⟩ = some (.slice co cn cc) ∧ x.cell? ⟨w.heap.size, 1, none⟩ = some (.slice to' tn tc) ∧ x.cell? ⟨w.heap.size, 2, none⟩ = some (.string (ofBs args)) ∧ x.cell? ⟨w.heap.size, 3, none⟩ = some (.slice fo fnn fc)) ∧ x.cell? ⟨w.heap.size + 1, 0, none⟩ = some (.slice (some ⟨g, 0, none⟩) l.length cap) := by
    intro x hx
    have b0 := (hx.block w.heap.size (by omega)).trans h3.1
    have b1 := (hx.block (w.heap.size + 1) (by omega)).trans h3.2.1
    have b2 := (hx.block (w.heap.size + 2) (by omega)).trans h3.2.2.1
    exact ⟨⟨(blk_at b2).trans rfl, (blk_at b2).trans rfl⟩, ⟨(blk_at b0).trans rfl, (blk_at b0).trans rfl, (blk_at b0).trans rfl, (blk_at b0).trans rfl⟩, (blk_at b1).trans rfl⟩
  clear hW h3
  clear hvn hisl hiso hKN hND hi
  obtain ⟨fi, hfi⟩ : ∃ fi, fi = findS (RF.list rfs) T.tx := ⟨_, rfl⟩
  have hfn : fi = none := hfi.trans hno
  have HFn : Calls Tryz.prog 187 #[.agg #[.slice co cn cc, .slice to' tn tc, .string (ofBs args), .slice fo fnn fc], .string (ofBs T.tx)] W fun e w' => e = .returned (.int .i64 (ixS fi)) ∧ Below W.heap.size W w' := by
    rw [hfi]; exact refFunction_any W _ _ _ fo fnn fc rfs (HKN.out.keep hBW).fns T.tx
  obtain ⟨ld, hld⟩ : ∃ b, b = loudS T.tx := ⟨_, rfl⟩
  have HAm : ∀ x : World, Calls Tryz.prog 265 #[.slice (some ⟨x.heap.size, 0, none⟩) 6 6, .string (ofBs T.tx)] (x.alloc (.cells (loudList.map fun t => Value.string (ofBs t)).toArray 9)) fun e w' => e = .returned (.bool ld) ∧ w' = x.alloc (.cells (loudList.map fun t => Value.string (ofBs t)).toArray 9) := by
    intro x
    rw [hld, ← loud_among]
    exact amongOf loudList 6 rfl (by omega) _ _ (heap_alloc_new x _) T.tx
  rw [← hfi, ← hld] at HQA
  have HFI : Hid _ := hfi
  obtain ⟨⟨x0, x2⟩, ⟨y0, y1, y2, y3⟩, y4⟩ := HKEEP W (Below.refl _ _)
  clear hfi hld hno
  subst hfn
  go_enter Tryz.func270, Tryz.ntmps270
  go_upto_region 3 with fail
  rw [HATW.out]
  clear HATW q0 q1 q2 q3
  cases ld with
  | true =>
    have HF : Hid (quT rfs T = false) := by rw [Hid, HQA.out]; rfl
    go_wp2_with (first
      | (go_at_call 187; refine HFn.mono ?_; rintro e w5 ⟨rfl, hb5⟩; obtain ⟨⟨x0', x2'⟩, ⟨y0', y1', y2', y3'⟩, y4'⟩ := HKEEP w5 hb5; have hX5 : w.heap.size + 2 < w5.heap.size := (by have := hb5.size; omega); have hK5 : w.heap.size < w5.heap.size := (by omega))
      | (go_at_call 265; refine (HAm _).mono ?_; rintro e w7 ⟨rfl, rfl⟩))
    go_ret
    exact ⟨ret_bool HF.out.symm, hBW.trans ((hb5.alloc hb5.size _).mono hBW.size)⟩
  | false =>
    have hix : ixS none = -1 := rfl
    have HQT : Hid (quT rfs T = quTs rfs T.ops) := by rw [Hid, HQA.out]; rfl
    go_wp2_with (first
      | (go_at_call 187; refine HFn.mono ?_; rintro e w5 ⟨rfl, hb5⟩; obtain ⟨⟨x0', x2'⟩, ⟨y0', y1', y2', y3'⟩, y4'⟩ := HKEEP w5 hb5; have hX5 : w.heap.size + 2 < w5.heap.size := (by have := hb5.size; omega); have hK5 : w.heap.size < w5.heap.size := (by omega))
      | (go_at_call 265; refine (HAm _).mono ?_; rintro e w7 ⟨rfl, rfl⟩))
    clear x0' x2' y0' y1' y2' y3' y4' x0 x2 y0 y1 y2 y3 y4 HFn HAm
    go_loopg [10] T.ops.length (fun gk jv wx => ∃ j : Nat, gk = T.ops.length - j ∧ j ≤ T.ops.length ∧ jv = .int .i64 j ∧ Below w5.heap.size w5 wx ∧ Hid (quTs rfs T.ops = (T.ops.drop j).all (quT rfs)))
    case atStart => exact ⟨0, rfl, Nat.zero_le _, rfl, below_box w5 _, by rw [Hid, quTs_all]; rfl⟩
    case round =>
      obtain ⟨j, hgk, hj, rfl, hBj, HQ⟩ := hrel
      subst hgk
      generalize hwj : wr = wj at *
      clear hwj
      have hBj' : Below W.heap.size W wj := hb5.trans (hBj.mono hb5.size)
      obtain ⟨⟨x0, x2⟩, ⟨y0, y1, y2, y3⟩, y4⟩ := HKEEP wj hBj'
      have hsj := hBj'.size
      have hKj : w.heap.size < wj.heap.size := by omega
      have hEj : w.heap.size + 1 < wj.heap.size := by omega
      have hXj : w.heap.size + 2 < wj.heap.size := by omega
      by_cases hlt : j < T.ops.length
      · obtain ⟨b, rfl, hbl, hc2, hcell⟩ : ∃ b, ao = some ⟨b, 0, none⟩ ∧ b < w.heap.size ∧ T.ops.length ≤ c2 ∧ ∀ (m q : Nat), is[m]? = some q → w.cell? ⟨b, m, none⟩ = some (.int .i64 (q : Int)) := by
          rcases HVN.out with h | h
          · rw [h] at hlt; simp at hlt
          · exact h
        have hq := List.getElem?_eq_getElem (l := is) (i := j) (by have := HISL.out; omega)
        obtain ⟨hqi, hql⟩ := HISO.out j _ hq
        have a0 : wj.cell? ⟨b, j, none⟩ = some (.int .i64 ((is[j]'(by have := HISL.out; omega) : Nat) : Int)) := ((hBW.trans (hBj'.mono hBW.size)).cell (p := ⟨b, j, none⟩) hbl).trans (hcell j _ hq)
        have hbx : b < wj.heap.size := by have := hBW.size; omega
        have hql2 : l[is[j]'(by have := HISL.out; omega)]? = some T.ops[j] := by rw [hql]; exact List.getElem?_eq_getElem hlt
        have hszj : SizeOf.sizeOf T.ops[j] ≤ N := hszo _ (List.getElem_mem hlt)
        have HC : ∀ x : World, Below wj.heap.size wj x → Calls Tryz.prog 270 #[.agg #[.slice co cn cc, .slice to' tn tc, .string (ofBs args), .slice fo fnn fc], .agg #[.slice (some ⟨g, 0, none⟩) l.length cap], .int .i64 ((is[j]'(by have := HISL.out; omega) : Nat) : Int)] x fun e w' => e = .returned (.bool (quT rfs T.ops[j])) ∧ Below wj.heap.size wj w' := by
          intro x hx
          have hxw : Below w.heap.size w x := (hBW.trans (hBj'.mono hBW.size)).trans (hx.mono (hBW.trans (hBj'.mono hBW.size)).size)
          exact (hN T.ops[j] x co cn cc to' tn tc args fo fnn fc ps rfs g cap l ty cs _ hszj (HKN.out.keep hxw) hK (HND.out.keep hxw) hql2).mono fun e w' h => ⟨h.1, hx.trans (h.2.mono hx.size)⟩
        have HD : Hid ((T.ops.drop j).all (quT rfs) = (quT rfs T.ops[j] && (T.ops.drop (j + 1)).all (quT rfs))) := by rw [Hid, List.drop_eq_getElem_cons hlt, List.all_cons]
        obtain ⟨qv, hqv⟩ : ∃ q, q = quT rfs T.ops[j] := ⟨_, rfl⟩
        rw [← hqv] at HC HD
        obtain ⟨iq, hiq⟩ : ∃ q, q = is[j]'(by have := HISL.out; omega) := ⟨_, rfl⟩
        rw [← hiq] at HC a0
        clear hqv hiq hcell hq hqi hql hql2 hszj
        go_upto_region 10 with fail
        go_cut [11] (fun s11 wx => s11 = .bool qv ∧ Below wj.heap.size wj wx)
        case first =>
          go_region_with (go_at_call 270; refine (HC _ ?_).mono ?_; (first | exact Below.refl _ wj | exact (Below.refl _ wj).drew); rintro e w3 ⟨rfl, hb3⟩)
          all_goals (go_wp2_with fail; go_meet)
          all_goals exact ⟨rfl, by first | exact hb3 | exact hb3.drew⟩
        case rest =>
          obtain ⟨rfl, hBc⟩ := hcut
          have BF : Below w.heap.size w wc := (hBW.trans (hBj'.mono hBW.size)).trans (hBc.mono (hBW.trans (hBj'.mono hBW.size)).size)
          have BN : Below w5.heap.size w5 wc := hBj.trans (hBc.mono hBj.size)
          cases qv with
          | true =>
            have HQ2 : Hid (quTs rfs T.ops = (T.ops.drop (j + 1)).all (quT rfs)) := by rw [Hid, HQ.out, HD.out]; rfl
            go_wp2_with fail
            go_roundg (T.ops.length - (j + 1))
            case measure => omega
            case rel => exact ⟨j + 1, rfl, by omega, by go_num, BN, HQ2⟩
          | false =>
            have HQ2 : Hid (quT rfs T = false) := by rw [Hid, HQT.out, HQ.out, HD.out]; rfl
            go_wp2_with fail
            go_ret
            exact ⟨ret_bool HQ2.out.symm, BF⟩
      · have HQ2 : Hid (quT rfs T = true) := by rw [Hid, HQT.out, HQ.out, List.drop_of_length_le (by omega)]; rfl
        have BF : Below w.heap.size w wj := hBW.trans (hBj'.mono hBW.size)
        go_wp2_with fail
        go_ret
        exact ⟨ret_bool HQ2.out.symm, BF⟩
end Go.Proofs.YtilfjpmeededmaaGreatDoor

namespace Go.Proofs.YtilfjpmeededmaaGreatDoor
open Go.RowKit
set_option maxHeartbeats 8000000 in
set_option maxRecDepth 100000 in
theorem qu_br2 (N : Nat) (hN : QuSpec N) (T : Tr) (w : World) (co : Option Addr) (cn cc : Nat) (to' : Option Addr) (tn tc : Nat) (args : Bs) (fo : Option Addr) (fnn fc : Nat) (ps : Sc) (rfs : List RF) (g cap : Nat) (l : List Tr) (ty : Nat → Int) (cs : List Value) (i : Nat) (hszo : ∀ y ∈ T.ops, SizeOf.sizeOf y ≤ N)
    (hKN : KnIn w co cn cc to' tn tc (.slice fo fnn fc) ps.1 rfs) (hK : KnOK ps args rfs) (hND : NdIn w g cap l ty cs) (hi : l[i]? = some T) (hbr : T.br = true) (k' : Nat) (hno : findS (RF.list rfs) T.tx = some k') :
    Calls Tryz.prog 270 #[.agg #[.slice co cn cc, .slice to' tn tc, .string (ofBs args), .slice fo fnn fc], .agg #[.slice (some ⟨g, 0, none⟩) l.length cap], .int .i64 i] w fun e w' => e = .returned (.bool (quT rfs T)) ∧ Below w.heap.size w w' := by
  obtain ⟨ao, c2, is, q0, q1, q2, q3, hisl, hiso, hvn⟩ := hND.at hi
  rw [hbr] at q1
  have hil := (List.getElem?_eq_some_iff.mp hi).1
  have hgl := hND.lt
  have hcap := hND.cap
  have hsm := hND.small
  have HQA : Hid (quT rfs T = ((!loudS T.tx && fnQuiet rfs (findS (RF.list rfs) T.tx)) && quTs rfs T.ops)) := by
    obtain ⟨k, tx, br, ops⟩ := T
    have : br = true := hbr
    subst this
    rw [Hid, quT]; rfl
  have hol : T.ops.length ≤ 1000 := by
    have h1 := nodes_ops hND hi
    omega
  have HVN : Hid _ := hvn
  have HISL : Hid _ := hisl
  have HISO : Hid _ := hiso
  have HKN : Hid _ := hKN
  have HND : Hid _ := hND
  obtain ⟨W, hW⟩ : ∃ W, W = ((w.alloc (.cells #[.slice co cn cc, .slice to' tn tc, .string (ofBs args), .slice fo fnn fc] 374)).alloc (.cells #[.slice (some ⟨g, 0, none⟩) l.length cap] 242)).alloc (.cells #[.string (ofBs T.tx), .bool true, .slice ao T.ops.length c2, .int .u8 (ty i)] 359) := ⟨_, rfl⟩
  have HATW : Hid (((w.alloc (.cells #[.slice co cn cc, .slice to' tn tc, .string (ofBs args), .slice fo fnn fc] 374)).alloc (.cells #[.slice (some ⟨g, 0, none⟩) l.length cap] 242)).alloc (.cells #[.string (ofBs T.tx), .bool true, .slice ao T.ops.length c2, .int .u8 (ty i)] 359) = W) := hW.symm
  have hBW : Below w.heap.size w W := by rw [hW]; exact box3_below w _ _ _
  have h3 := res_box3 (w := w) (o := (.cells #[.slice co cn cc, .slice to' tn tc, .string (ofBs args), .slice fo fnn fc] 374)) (o' := (.cells #[.slice (some ⟨g, 0, none⟩) l.length cap] 242)) (o2 := (.cells #[.string (ofBs T.tx), .bool true, .slice ao T.ops.length c2, .int .u8 (ty i)] 359)) (Below.refl _ _)
  rw [← hW] at h3
  have hsW : W.heap.size = w.heap.size + 3 := by rw [hW]; simp [World.size_alloc]
  have HKEEP : ∀ x : World, Below W.heap.size W x → (x.cell? ⟨w.heap.size + 2, 0, none⟩ = some (.string (ofBs T.tx)) ∧ x.cell? ⟨w.heap.size + 2, 2, none⟩ = some (.slice ao T.ops.length c2)) ∧ (x.cell? ⟨w.heap.size, 0, none⟩ = some (.slice co cn cc) ∧ x.cell? ⟨w.heap.size, 1, none⟩ = some (.slice to' tn tc) ∧ x.cell? ⟨w.heap.size, 2, none⟩ = some (.string (ofBs args)) ∧ x.cell? ⟨w.heap.size, 3, none⟩ = some (.slice fo fnn fc)) ∧ x.cell? ⟨w.heap.size + 1, 0, none⟩ = some (.slice (some ⟨g, 0, none⟩) l.length cap) := by
    intro x hx
    have b0 := (hx.block w.heap.size (by omega)).trans h3.1
    have b1 := (hx.block (w.heap.size + 1) (by omega)).trans h3.2.1
    have b2 := (hx.block (w.heap.size + 2) (by omega)).trans h3.2.2.1
    exact ⟨⟨(blk_at b2).trans rfl, (blk_at b2).trans rfl⟩, ⟨(blk_at b0).trans rfl, (blk_at b0).trans rfl, (blk_at b0).trans rfl, (blk_at b0).trans rfl⟩, (blk_at b1).trans rfl⟩
  clear hW h3
  clear hvn hisl hiso hKN hND hi
  obtain ⟨fi, hfi⟩ : ∃ fi, fi = findS (RF.list rfs) T.tx := ⟨_, rfl⟩
  have hfn : fi = some k' := hfi.trans hno
  have HFn : Calls Tryz.prog 187 #[.agg #[.slice co cn cc, .slice to' tn tc, .string (ofBs args), .slice fo fnn fc], .string (ofBs T.tx)] W fun e w' => e = .returned (.int .i64 (ixS fi)) ∧ Below W.heap.size W w' := by
    rw [hfi]; exact refFunction_any W _ _ _ fo fnn fc rfs (HKN.out.keep hBW).fns T.tx
  obtain ⟨ld, hld⟩ : ∃ b, b = loudS T.tx := ⟨_, rfl⟩
  have HAm : ∀ x : World, Calls Tryz.prog 265 #[.slice (some ⟨x.heap.size, 0, none⟩) 6 6, .string (ofBs T.tx)] (x.alloc (.cells (loudList.map fun t => Value.string (ofBs t)).toArray 9)) fun e w' => e = .returned (.bool ld) ∧ w' = x.alloc (.cells (loudList.map fun t => Value.string (ofBs t)).toArray 9) := by
    intro x
    rw [hld, ← loud_among]
    exact amongOf loudList 6 rfl (by omega) _ _ (heap_alloc_new x _) T.tx
  rw [← hfi, ← hld] at HQA
  have HFI : Hid _ := hfi
  obtain ⟨⟨x0, x2⟩, ⟨y0, y1, y2, y3⟩, y4⟩ := HKEEP W (Below.refl _ _)
  clear hfi hld hno
  subst hfn
  go_enter Tryz.func270, Tryz.ntmps270
  go_upto_region 3 with fail
  rw [HATW.out]
  clear HATW q0 q1 q2 q3
  cases ld with
  | true =>
    have HF : Hid (quT rfs T = false) := by rw [Hid, HQA.out]; rfl
    go_wp2_with (first
      | (go_at_call 187; refine HFn.mono ?_; rintro e w5 ⟨rfl, hb5⟩; obtain ⟨⟨x0', x2'⟩, ⟨y0', y1', y2', y3'⟩, y4'⟩ := HKEEP w5 hb5; have hX5 : w.heap.size + 2 < w5.heap.size := (by have := hb5.size; omega); have hK5 : w.heap.size < w5.heap.size := (by omega))
      | (go_at_call 265; refine (HAm _).mono ?_; rintro e w7 ⟨rfl, rfl⟩))
    go_ret
    exact ⟨ret_bool HF.out.symm, hBW.trans ((hb5.alloc hb5.size _).mono hBW.size)⟩
  | false =>
    have hix : ixS (some k') = (k' : Int) := rfl
    obtain ⟨f, hf1, _⟩ := find_name HFI.out.symm
    rw [RF.list, List.getElem?_map] at hf1
    obtain ⟨r, hr⟩ : ∃ r, rfs[k']? = some r := by
      cases hq : rfs[k']? with
      | none => rw [hq] at hf1; cases hf1
      | some r => exact ⟨r, rfl⟩
    have hkl : k' < rfs.length := (List.getElem?_eq_some_iff.mp hr).1
    have HFQ : Hid (fnQuiet rfs (some k') = r.fn.body.quiet) := by rw [Hid, fnQuiet, hr]
    obtain ⟨fao, fcap, hfe, hf8, hfz⟩ := HKN.out.fns
    cases hfe
    obtain ⟨fb, rfl, hfb, hfc⟩ : ∃ b, fo = some ⟨b, 0, none⟩ ∧ b < w.heap.size ∧ ∀ (i : Nat) (rf : RF), rfs[i]? = some rf → RFnAt w b i rf := by
      rcases hfz with h' | h'
      · rw [h'] at hkl; simp at hkl
      · exact h'
    obtain ⟨gb, capb, csb, tysb, _, _, _, _, f4, _⟩ := hfc k' r hr
    obtain ⟨qv, hqv⟩ : ∃ q, q = r.fn.body.quiet := ⟨_, rfl⟩
    rw [← hqv] at f4 HFQ
    clear hqv hfc hfz hf1 hr
    cases qv with
    | false =>
      have HF : Hid (quT rfs T = false) := by rw [Hid, HQA.out, HFQ.out]; rfl
      go_wp2_with (first
        | (go_at_call 187; refine HFn.mono ?_; rintro e w5 ⟨rfl, hb5⟩; obtain ⟨⟨x0', x2'⟩, ⟨y0', y1', y2', y3'⟩, y4'⟩ := HKEEP w5 hb5; have hX5 : w.heap.size + 2 < w5.heap.size := (by have := hb5.size; omega); have hK5 : w.heap.size < w5.heap.size := (by omega); have z4 := ((hBW.trans (hb5.mono hBW.size)).cell (p := ⟨fb, k' * 5 + 4, none⟩) hfb).trans f4; have hfb5 : fb < w5.heap.size := (by omega))
        | (go_at_call 265; refine (HAm _).mono ?_; rintro e w7 ⟨rfl, rfl⟩))
      go_ret
      exact ⟨ret_bool HF.out.symm, hBW.trans ((hb5.alloc hb5.size _).mono hBW.size)⟩
    | true =>
      have HQT : Hid (quT rfs T = quTs rfs T.ops) := by rw [Hid, HQA.out, HFQ.out]; rfl
      go_wp2_with (first
        | (go_at_call 187; refine HFn.mono ?_; rintro e w5 ⟨rfl, hb5⟩; obtain ⟨⟨x0', x2'⟩, ⟨y0', y1', y2', y3'⟩, y4'⟩ := HKEEP w5 hb5; have hX5 : w.heap.size + 2 < w5.heap.size := (by have := hb5.size; omega); have hK5 : w.heap.size < w5.heap.size := (by omega); have z4 := ((hBW.trans (hb5.mono hBW.size)).cell (p := ⟨fb, k' * 5 + 4, none⟩) hfb).trans f4; have hfb5 : fb < w5.heap.size := (by omega))
        | (go_at_call 265; refine (HAm _).mono ?_; rintro e w7 ⟨rfl, rfl⟩))
      clear x0' x2' y0' y1' y2' y3' y4' x0 x2 y0 y1 y2 y3 y4 HFn HAm z4 f4
      go_loopg [10] T.ops.length (fun gk jv wx => ∃ j : Nat, gk = T.ops.length - j ∧ j ≤ T.ops.length ∧ jv = .int .i64 j ∧ Below w5.heap.size w5 wx ∧ Hid (quTs rfs T.ops = (T.ops.drop j).all (quT rfs)))
      case atStart => exact ⟨0, rfl, Nat.zero_le _, rfl, below_box w5 _, by rw [Hid, quTs_all]; rfl⟩
      case round =>
        obtain ⟨j, hgk, hj, rfl, hBj, HQ⟩ := hrel
        subst hgk
        generalize hwj : wr = wj at *
        clear hwj
        have hBj' : Below W.heap.size W wj := hb5.trans (hBj.mono hb5.size)
        obtain ⟨⟨x0, x2⟩, ⟨y0, y1, y2, y3⟩, y4⟩ := HKEEP wj hBj'
        have hsj := hBj'.size
        have hKj : w.heap.size < wj.heap.size := by omega
        have hEj : w.heap.size + 1 < wj.heap.size := by omega
        have hXj : w.heap.size + 2 < wj.heap.size := by omega
        by_cases hlt : j < T.ops.length
        · obtain ⟨b, rfl, hbl, hc2, hcell⟩ : ∃ b, ao = some ⟨b, 0, none⟩ ∧ b < w.heap.size ∧ T.ops.length ≤ c2 ∧ ∀ (m q : Nat), is[m]? = some q → w.cell? ⟨b, m, none⟩ = some (.int .i64 (q : Int)) := by
            rcases HVN.out with h | h
            · rw [h] at hlt; simp at hlt
            · exact h
          have hq := List.getElem?_eq_getElem (l := is) (i := j) (by have := HISL.out; omega)
          obtain ⟨hqi, hql⟩ := HISO.out j _ hq
          have a0 : wj.cell? ⟨b, j, none⟩ = some (.int .i64 ((is[j]'(by have := HISL.out; omega) : Nat) : Int)) := ((hBW.trans (hBj'.mono hBW.size)).cell (p := ⟨b, j, none⟩) hbl).trans (hcell j _ hq)
          have hbx : b < wj.heap.size := by have := hBW.size; omega
          have hql2 : l[is[j]'(by have := HISL.out; omega)]? = some T.ops[j] := by rw [hql]; exact List.getElem?_eq_getElem hlt
          have hszj : SizeOf.sizeOf T.ops[j] ≤ N := hszo _ (List.getElem_mem hlt)
          have HC : ∀ x : World, Below wj.heap.size wj x → Calls Tryz.prog 270 #[.agg #[.slice co cn cc, .slice to' tn tc, .string (ofBs args), .slice (some ⟨fb, 0, none⟩) rfs.length fc], .agg #[.slice (some ⟨g, 0, none⟩) l.length cap], .int .i64 ((is[j]'(by have := HISL.out; omega) : Nat) : Int)] x fun e w' => e = .returned (.bool (quT rfs T.ops[j])) ∧ Below wj.heap.size wj w' := by
            intro x hx
            have hxw : Below w.heap.size w x := (hBW.trans (hBj'.mono hBW.size)).trans (hx.mono (hBW.trans (hBj'.mono hBW.size)).size)
            exact (hN T.ops[j] x co cn cc to' tn tc args (some ⟨fb, 0, none⟩) rfs.length fc ps rfs g cap l ty cs _ hszj (HKN.out.keep hxw) hK (HND.out.keep hxw) hql2).mono fun e w' h => ⟨h.1, hx.trans (h.2.mono hx.size)⟩
          have HD : Hid ((T.ops.drop j).all (quT rfs) = (quT rfs T.ops[j] && (T.ops.drop (j + 1)).all (quT rfs))) := by rw [Hid, List.drop_eq_getElem_cons hlt, List.all_cons]
          obtain ⟨qv, hqv⟩ : ∃ q, q = quT rfs T.ops[j] := ⟨_, rfl⟩
          rw [← hqv] at HC HD
          obtain ⟨iq, hiq⟩ : ∃ q, q = is[j]'(by have := HISL.out; omega) := ⟨_, rfl⟩
          rw [← hiq] at HC a0
          clear hqv hiq hcell hq hqi hql hql2 hszj
          go_upto_region 10 with fail
          go_cut [11] (fun s11 wx => s11 = .bool qv ∧ Below wj.heap.size wj wx)
          case first =>
            go_region_with (go_at_call 270; refine (HC _ ?_).mono ?_; (first | exact Below.refl _ wj | exact (Below.refl _ wj).drew); rintro e w3 ⟨rfl, hb3⟩)
            all_goals (go_wp2_with fail; go_meet)
            all_goals exact ⟨rfl, by first | exact hb3 | exact hb3.drew⟩
          case rest =>
            obtain ⟨rfl, hBc⟩ := hcut
            have BF : Below w.heap.size w wc := (hBW.trans (hBj'.mono hBW.size)).trans (hBc.mono (hBW.trans (hBj'.mono hBW.size)).size)
            have BN : Below w5.heap.size w5 wc := hBj.trans (hBc.mono hBj.size)
            cases qv with
            | true =>
              have HQ2 : Hid (quTs rfs T.ops = (T.ops.drop (j + 1)).all (quT rfs)) := by rw [Hid, HQ.out, HD.out]; rfl
              go_wp2_with fail
              go_roundg (T.ops.length - (j + 1))
              case measure => omega
              case rel => exact ⟨j + 1, rfl, by omega, by go_num, BN, HQ2⟩
            | false =>
              have HQ2 : Hid (quT rfs T = false) := by rw [Hid, HQT.out, HQ.out, HD.out]; rfl
              go_wp2_with fail
              go_ret
              exact ⟨ret_bool HQ2.out.symm, BF⟩
        · have HQ2 : Hid (quT rfs T = true) := by rw [Hid, HQT.out, HQ.out, List.drop_of_length_le (by omega)]; rfl
          have BF : Below w.heap.size w wj := hBW.trans (hBj'.mono hBW.size)
          go_wp2_with fail
          go_ret
          exact ⟨ret_bool HQ2.out.symm, BF⟩
theorem refQuiet_any (N : Nat) : QuSpec N := by
  induction N using Nat.strongRecOn with
  | ind N ih =>
    intro t w co cn cc to' tn tc args fo fnn fc ps rfs g cap l ty cs i hsz hKN hK hND hi
    have hin : ∀ y ∈ t.ops, SizeOf.sizeOf y ≤ SizeOf.sizeOf t - 1 := by
      intro y hy
      obtain ⟨k, tx, br, ops⟩ := t
      have := List.sizeOf_lt_of_mem (show y ∈ ops from hy)
      simp only [Tr.mk.sizeOf_spec]; omega
    have hz : 0 < SizeOf.sizeOf t := by obtain ⟨k, tx, br, ops⟩ := t; simp only [Tr.mk.sizeOf_spec]; omega
    cases hbr : t.br with
    | false => exact qu_leaf (SizeOf.sizeOf t - 1) (ih _ (by omega)) t w co cn cc to' tn tc args fo fnn fc ps rfs g cap l ty cs i hin hKN hK hND hi hbr
    | true =>
      cases hf : findS (RF.list rfs) t.tx with
      | none => exact qu_br1 (SizeOf.sizeOf t - 1) (ih _ (by omega)) t w co cn cc to' tn tc args fo fnn fc ps rfs g cap l ty cs i hin hKN hK hND hi hbr hf
      | some k' => exact qu_br2 (SizeOf.sizeOf t - 1) (ih _ (by omega)) t w co cn cc to' tn tc args fo fnn fc ps rfs g cap l ty cs i hin hKN hK hND hi hbr k' hf
end Go.Proofs.YtilfjpmeededmaaGreatDoor

import Derived.Test.YtilfjpmeededmaaGreatDoorRtGZ
import Derived.Laws.IdiomStrings
set_option linter.unusedVariables false
set_option linter.unusedSimpArgs false
namespace Go.Proofs.YtilfjpmeededmaaGreatDoor
open Go.RowKit
mutual
theorem post_sub {y : Tr} : ∀ {t T : Tr}, T ∈ post t → y ∈ posts T.ops → y ∈ post t
  | .mk k tx br ops, T, hT, hy => by
    rw [post] at hT ⊢
    rcases List.mem_append.mp hT with h | h
    · exact List.mem_append_left _ (posts_sub h hy)
    · rw [List.mem_singleton.mp h] at hy; exact List.mem_append_left _ hy
theorem posts_sub {y : Tr} : ∀ {ts : List Tr} {T : Tr}, T ∈ posts ts → y ∈ posts T.ops → y ∈ posts ts
  | [], T, hT, hy => by simp [posts] at hT
  | t :: ts, T, hT, hy => by
    rw [posts] at hT ⊢
    rcases List.mem_append.mp hT with h | h
    · exact List.mem_append_left _ (post_sub h hy)
    · exact List.mem_append_right _ (posts_sub h hy)
end
theorem post_pos (t : Tr) : 0 < (post t).length := List.length_pos_of_mem (List.mem_of_getElem? (post_last t))
theorem posts_len : ∀ ts : List Tr, ts.length ≤ (posts ts).length
  | [] => Nat.le_refl _
  | t :: ts => by
    rw [posts, List.length_append, List.length_cons]
    have := post_pos t
    have := posts_len ts
    omega
mutual
theorem ops_le_post : ∀ {t T : Tr}, T ∈ post t → T.ops.length ≤ (post t).length
  | .mk k tx br ops, T, hT => by
    rw [post] at hT ⊢
    rw [List.length_append]
    rcases List.mem_append.mp hT with h | h
    · have := ops_le_posts h; omega
    · rw [List.mem_singleton.mp h]
      have := posts_len ops
      show ops.length ≤ _; omega
theorem ops_le_posts : ∀ {ts : List Tr} {T : Tr}, T ∈ posts ts → T.ops.length ≤ (posts ts).length
  | [], T, hT => by simp [posts] at hT
  | t :: ts, T, hT => by
    rw [posts] at hT ⊢
    rw [List.length_append]
    rcases List.mem_append.mp hT with h | h
    · have := ops_le_post h; omega
    · have := ops_le_posts h; omega
end
def Wrgd (atoi : Bs → Int) (ps : Sc) (fns : List Fn) (t : Tr) (w : World) (g cap : Nat) (e : Ending) (w' : World) : Prop := w.grownBy w' (some g) ∧
  ((∃ n : Int, typS atoi ps fns t = .error n ∧ n ≠ 0 ∧ e = .returned (.int .i64 n)) ∨
   (∃ (x : Ex) (cs : List Value), typS atoi ps fns t = .ok x ∧ e = .returned (.int .i64 0) ∧ w'.ownsRow 0 359 4 (.slice (some ⟨g, 0, none⟩) (post t).length cap) (post t).length cs ∧ Nodes w' (fun _ => True) cs 0 (post t) (tysTo atoi ps fns (post t) (post t).length)))
def WrInv (atoi : Bs → Int) (ps : Sc) (fns : List Fn) (l : List Tr) (W : World) (g cap : Nat) (i : Nat) (wr : World) : Prop := ∃ cs : List Value,
  i ≤ l.length ∧ W.grownBy wr (some g) ∧ wr.ownsRow 0 359 4 (.slice (some ⟨g, 0, none⟩) l.length cap) l.length cs ∧ Nodes wr (fun _ => True) cs 0 l (tysTo atoi ps fns l i) ∧ (∀ j, j < i → ∀ t, l[j]? = some t → ∃ x, typS atoi ps fns t = .ok x)
set_option maxHeartbeats 8000000 in
set_option maxRecDepth 100000 in
theorem refWrong_any (atoi : Bs → Int) (w0 w : World) (co : Option Addr) (cn cc : Nat) (to' : Option Addr) (tn tc : Nat) (args : Bs) (fo : Option Addr) (fnn fc : Nat) (ps : Sc) (rfs : List RF) (h : KnIn w0 co cn cc to' tn tc (.slice fo fnn fc) ps.1 rfs) (hargs : args.length ≤ maxLen) (hK : KnOK ps args rfs)
    (hb0 : Below w0.heap.size w0 w) (g cap : Nat) (hg : w0.heap.size ≤ g) (t : Tr) (cs : List Value) (hO : w.ownsRow 0 359 4 (.slice (some ⟨g, 0, none⟩) (post t).length cap) (post t).length cs) (hN : Nodes w (fun _ => True) cs 0 (post t) (fun _ => 0)) (htx : ∀ y ∈ post t, y.tx.length ≤ maxLen) (hm : (post t).length ≤ 1000) :
    Calls Tryz.prog 343 #[.agg #[.slice co cn cc, .slice to' tn tc, .string (ofBs args), .slice fo fnn fc], .agg #[.slice (some ⟨g, 0, none⟩) (post t).length cap]] w fun e w' => Wrgd atoi ps (RF.list rfs) t w g cap e w' := by
  obtain ⟨W, hW⟩ : ∃ W, W = (w.alloc (.cells #[.slice co cn cc, .slice to' tn tc, .string (ofBs args), .slice fo fnn fc] 374)).alloc (.cells #[.slice (some ⟨g, 0, none⟩) (post t).length cap] 242) := ⟨_, rfl⟩
  have HATW : (w.alloc (.cells #[.slice co cn cc, .slice to' tn tc, .string (ofBs args), .slice fo fnn fc] 374)).alloc (.cells #[.slice (some ⟨g, 0, none⟩) (post t).length cap] 242) = W := hW.symm
  have hBW : Below w.heap.size w W := by rw [hW]; exact below_box2 w _ _
  have hkb : W.heap[w.heap.size]? = some (.cells #[.slice co cn cc, .slice to' tn tc, .string (ofBs args), .slice fo fnn fc] 374 (0, 0)) := by rw [hW, Below.heap_alloc _ _ _ (by simp [World.size_alloc])]; exact heap_alloc_new w _
  have heb : W.heap[w.heap.size + 1]? = some (.cells #[.slice (some ⟨g, 0, none⟩) (post t).length cap] 242 (0, 0)) := by
    rw [hW]
    have := heap_alloc_new (w.alloc (.cells #[.slice co cn cc, .slice to' tn tc, .string (ofBs args), .slice fo fnn fc] 374)) (.cells #[.slice (some ⟨g, 0, none⟩) (post t).length cap] 242)
    rw [World.size_alloc] at this; exact this
  have hsW : W.heap.size = w.heap.size + 2 := by rw [hW]; simp [World.size_alloc]
  have hgl : g < w.heap.size := (hO.lt g rfl).2
  have hLone : ∀ y ∈ post t, Lone y := by
    intro y hy
    obtain ⟨j, hj⟩ := List.getElem?_of_mem hy
    obtain ⟨_, _, _, _, _, _, _, _, _, h7, _⟩ := hN j y hj
    exact h7
  obtain ⟨l, hl⟩ : ∃ l, l = post t := ⟨_, rfl⟩
  have HTL : Hid (l = post t) := hl
  rw [← hl] at hO hN htx hm hLone heb HATW ⊢
  have I0 : WrInv atoi ps (RF.list rfs) l W g cap 0 W := by
    refine ⟨cs, Nat.zero_le _, ⟨rfl, rfl, rfl, Nat.le_refl _, fun _ _ _ => rfl⟩, owns_keep hO fun q hq => hBW.block q (hO.lt q hq).2, (hN.keep hBW).congr (fun j _ => by rw [tysTo, if_neg (by omega)]), fun j hj => by omega⟩
  have hgW : w.grownBy W (some g) := ⟨hBW.os, hBW.tape, hBW.output, hBW.size, fun q hq _ => hBW.block q hq⟩
  clear hW hl hO hN
  go_enter Tryz.func343, Tryz.ntmps343
  go_wp2_with fail
  try rw [HATW]
  clear HATW
  go_loopg [5] l.length (fun gk iv wr => ∃ i : Nat, gk = l.length - i ∧ iv = .int .i64 i ∧ WrInv atoi ps (RF.list rfs) l W g cap i wr)
  case atStart => exact ⟨0, rfl, rfl, I0⟩
  case round =>
    clear I0
    generalize hwo : wr = wo at *
    clear hwo
    obtain ⟨i, hgk, rfl, cs, hi, hG, hO, hN, hok⟩ := hrel
    subst hgk
    have hKb := (hG.block w.heap.size (by omega) (by simp; omega)).trans hkb
    have hEb := (hG.block (w.heap.size + 1) (by omega) (by simp; omega)).trans heb
    have hsr := hG.size
    have hBr : Below w0.heap.size w0 wo := by
      refine ⟨hG.os.trans (hBW.os.trans hb0.os), hG.tape.trans (hBW.tape.trans hb0.tape), hG.output.trans (hBW.output.trans hb0.output), ?_, fun q hq => ?_⟩
      · have := hb0.size; omega
      · have := hb0.size
        rw [hG.block q (by omega) (by simp; omega), hBW.block q (by omega), hb0.block q hq]
    obtain ⟨⟨k0, k1, k2, k3⟩, _⟩ := cells4 hKb
    obtain ⟨e0, _⟩ := cells1 hEb
    by_cases hlt : i < l.length
    · obtain ⟨T, hT⟩ : ∃ T, T = l[i] := ⟨_, rfl⟩
      have hTi : l[i]? = some T := by rw [hT]; exact List.getElem?_eq_getElem hlt
      obtain ⟨v, is, n0, n1, n2, n3, n4, _, n6, n7, n8⟩ := hN i T hTi
      rw [Nat.zero_add] at n0 n1 n2 n3
      have hKl : w.heap.size < wo.heap.size := by omega
      have hEl : w.heap.size + 1 < wo.heap.size := by omega
      have q0 : wo.cell? ⟨g, i * 4, none⟩ = some (.string (ofBs T.tx)) := (hO.cellAt (i * 4) (by omega)).trans (by rw [Nat.mul_comm]; exact n0)
      have q1 : wo.cell? ⟨g, i * 4 + 1, none⟩ = some (.bool T.br) := (hO.cellAt (i * 4 + 1) (by omega)).trans (by rw [Nat.mul_comm]; exact n1)
      have q2 : wo.cell? ⟨g, i * 4 + 2, none⟩ = some v := (hO.cellAt (i * 4 + 2) (by omega)).trans (by rw [Nat.mul_comm]; exact n2)
      have h30 : tysTo atoi ps (RF.list rfs) l i i = 0 := by rw [tysTo, if_neg (by omega)]
      rw [h30] at n3
      have q3 : wo.cell? ⟨g, i * 4 + 3, none⟩ = some (.int .u8 0) := (hO.cellAt (i * 4 + 3) (by omega)).trans (by rw [Nat.mul_comm]; exact n3)
      have hglr : g < wo.heap.size := by omega
      have hcapl : l.length ≤ cap := by
        rcases hO.2 with ⟨h', _⟩ | ⟨_, _, _, h', _, _, hc, _⟩
        · cases h'
        · cases h'; exact hc
      have hTm : T ∈ post t := by rw [← HTL.out, hT]; exact List.getElem_mem hlt
      have hTl : T.tx.length ≤ maxLen := htx T (by rw [HTL.out]; exact hTm)
      have hLT : Lone T := n7
      -- what is wrong here is what is wrong with the whole
      have HERR : ∀ n : Int, typS atoi ps (RF.list rfs) T = .error n → typS atoi ps (RF.list rfs) t = .error n := by
        intro n hn
        refine post_err atoi ps (RF.list rfs) t (l.take i) T (l.drop (i + 1)) n (fun y hy => hLone y (by rw [HTL.out]; exact hy)) ?_ (fun p hp => ?_) hn
        · rw [← HTL.out, hT, ← List.drop_eq_getElem_cons hlt, List.take_append_drop]
        · obtain ⟨j, hj⟩ := List.getElem?_of_mem hp
          have hji : j < i := by
            have := (List.getElem?_eq_some_iff.mp hj).1; rw [List.length_take] at this; omega
          rw [List.getElem?_take, if_pos hji] at hj
          exact hok j hji p hj
      -- what is typed here
      have HOK : ∀ (x : Ex) (n : Int) (wx : World), typS atoi ps (RF.list rfs) T = .ok x → ltI x.ty = n → Below wo.heap.size wo wx → WrInv atoi ps (RF.list rfs) l W g cap (i + 1) (wx.setCell ⟨g, i * 4 + 3, none⟩ (.int .u8 n)) := by
        intro x n wx hx hn hbx
        have hOx : wx.ownsRow 0 359 4 (.slice (some ⟨g, 0, none⟩) l.length cap) l.length cs := owns_keep hO fun q hq => hbx.block q (hO.lt q hq).2
        obtain ⟨hs1, hs2⟩ := hOx.stored (i * 4 + 3) (.int .u8 n)
        refine ⟨_, by omega, grown_trans (grown_trans hG (grown_below hbx _)) hs2, hs1, ((hN.grown fun q hq => hbx.block q hq).stored hOx hlt).congr (fun j _ => ?_), fun j hj p hp => ?_⟩
        · have := tysTo_step (atoi := atoi) (ps := ps) (fns := RF.list rfs) hlt j
          rw [← this, ← hT, hx]
          show (if j = i then n else _) = (if j = i then ltI x.ty else _)
          rw [hn]
        · rcases Nat.lt_or_ge j i with h | h
          · exact hok j h p hp
          · have : j = i := by omega
            subst this
            rw [hTi] at hp; cases hp; exact ⟨x, hx⟩
      have HFZ : ∀ wx : World, Below wo.heap.size wo wx → wx.frozen? ⟨g, i * 4 + 3, none⟩ = false ∧ wx.cell? ⟨g, i * 4 + 3, none⟩ = some (.int .u8 0) ∧ wx.cell? ⟨w.heap.size + 1, 0, none⟩ = some (.slice (some ⟨g, 0, none⟩) l.length cap) := by
        intro wx hbx
        have hOx : wx.ownsRow 0 359 4 (.slice (some ⟨g, 0, none⟩) l.length cap) l.length cs := owns_keep hO fun q hq => hbx.block q (hO.lt q hq).2
        exact ⟨hOx.frozenAt _, (hbx.cell (p := ⟨g, _, none⟩) hglr).trans q3, (hbx.cell (p := ⟨w.heap.size + 1, 0, none⟩) (by show w.heap.size + 1 < _; omega)).trans e0⟩
      have hvs : ∃ ao n2' c2, v = .slice ao n2' c2 := by
        rcases n4.2 with ⟨rfl, _⟩ | ⟨g', cap', cur, rfl, _⟩ <;> exact ⟨_, _, _, rfl⟩
      have hGw : w.grownBy wo (some g) := grown_trans hgW hG
      have KNr : KnIn wo co cn cc to' tn tc (.slice fo fnn fc) ps.1 rfs := h.keep hBr
      clear n0 n1 n2 n3 h30
      cases hbr : T.br with
      | false =>
        rw [hbr] at q1
        obtain ⟨hs1, hs2⟩ := leaf_same atoi hK (RF.list rfs) hLT hbr
        obtain ⟨ao, n2', c2, rfl⟩ := hvs
        have HC := refAtomType_any _ co cn cc to' tn tc args fo fnn fc ps.1 rfs (KNr.keep (below_box wo (.cells #[.string (ofBs T.tx), .bool false, .slice ao n2' c2, .int .u8 0] 359))) hargs T.tx hTl
        obtain ⟨n, hn⟩ : ∃ n, n = atomR ps.1 args T.tx := ⟨_, rfl⟩
        rw [← hn] at HC hs1
        have HS1 : Hid _ := hs1
        have HS2 : Hid _ := hs2
        have HERR' : Hid _ := HERR
        have HOK' : Hid _ := HOK
        have HGW : Hid _ := hGw
        clear hs1 hs2 hn HERR HOK hO hN hok n4 n6 n7 n8 hTi hT hGw hLone htx KNr hBr hG
        go_wp2_with (go_at_call 374; refine HC.mono ?_; rintro e w6 ⟨rfl, hb6⟩; have B6 := (below_box wo (.cells #[.string (ofBs T.tx), .bool false, .slice ao n2' c2, .int .u8 0] 359)).trans (hb6.mono (by simp)); obtain ⟨z1, z2, z3⟩ := HFZ w6 B6)
        · have h0 : n = 0 := by rename_i hq; simpa using hq
          have hE : typS atoi ps (RF.list rfs) T = .error 2 := by
            rcases HS2.out with ⟨x, hx, hty⟩ | hE
            · have e1 := HS1.out
              rw [hx, h0] at e1
              exact absurd e1 (ltI_ne hty)
            · exact hE
          go_ret
          exact ⟨grown_trans HGW.out (grown_below B6 _), .inl ⟨2, HERR'.out 2 hE, by decide, rfl⟩⟩
        · have h0 : n ≠ 0 := by rename_i hq; simpa using hq
          obtain ⟨x, hx⟩ : ∃ x, typS atoi ps (RF.list rfs) T = .ok x := by
            rcases HS2.out with ⟨x, hx, _⟩ | hE
            · exact ⟨x, hx⟩
            · have e1 := HS1.out
              rw [hE] at e1
              exact absurd e1.symm h0
          have hn : ltI x.ty = n := by have e1 := HS1.out; rw [hx] at e1; exact e1
          go_roundg (l.length - (i + 1))
          case measure => omega
          case rel => exact ⟨i + 1, rfl, by go_num, HOK'.out x n w6 hx hn B6⟩
      | true =>
        rw [hbr] at q1
        obtain ⟨es, hes, hel, heg⟩ := ops_typed (atoi := atoi) (ps := ps) (fns := RF.list rfs) (ops := T.ops) (fun y hy => by
          obtain ⟨m, hm⟩ := List.getElem?_of_mem hy
          have hml := (List.getElem?_eq_some_iff.mp hm).1
          have hq := List.getElem?_eq_getElem (l := is) (i := m) (by omega)
          obtain ⟨q', _, hq', hlq⟩ := n8 m _ hq
          exact hok q' hq' y (by rw [hlq, hm]))
        have hety : ∀ x ∈ es, isTyp x.ty := typs_typed atoi hK T.ops es (fun y hy => hLone y (by
          rw [HTL.out]; exact post_sub hTm hy)) hes
        have hTk : ∃ k, T = .mk k T.tx true T.ops := ⟨T.kd, by obtain ⟨k, tx, br, ops⟩ := T; cases hbr; rfl⟩
        obtain ⟨k, hTk⟩ := hTk
        have hS := br_same atoi hK (k := k) (tx := T.tx) hes hety
        rw [← hTk] at hS
        obtain ⟨_, hS1, hS2⟩ := hS
        -- the operands' letters
        have hcel : ∀ (m : Nat) (hm : m < T.ops.length), ∃ (q : Nat), is[m]? = some q ∧ q < i ∧ wo.cell? ⟨g, q * 4 + 3, none⟩ = some (.int .u8 ((ltB (es[m]'(by omega)).ty).toNat : Int)) := by
          intro m hm
          have hq := List.getElem?_eq_getElem (l := is) (i := m) (by omega)
          obtain ⟨q', hqe, hq', hlq⟩ := n8 m _ hq
          rw [Nat.zero_add] at hqe
          have hop : l[q']? = some T.ops[m] := by rw [hlq]; exact List.getElem?_eq_getElem hm
          obtain ⟨x, hx1, hx2⟩ := heg m _ (List.getElem?_eq_getElem hm)
          obtain ⟨_, _, _, _, _, c3, _⟩ := hN q' _ hop
          rw [Nat.zero_add] at c3
          have hty : tysTo atoi ps (RF.list rfs) l i q' = ((ltB (es[m]'(by omega)).ty).toNat : Int) := by
            have hxe : es[m]'(by omega) = x := by rw [List.getElem?_eq_getElem (by omega)] at hx1; exact Option.some.inj hx1
            rw [tysTo, if_pos hq', hop, hxe]
            show tyR (typS atoi ps (RF.list rfs) T.ops[m]) = _
            rw [hx2]
            exact ((ltB_I (hety x (List.mem_of_getElem? hx1))).1).symm
          exact ⟨is[m]'(by omega), hq, by omega, (hO.cellAt _ (by omega)).trans (by rw [hqe, Nat.mul_comm, c3, hty])⟩
        obtain ⟨ao, n2', c2, rfl⟩ := hvs
        have hvn : n2' = T.ops.length ∧ (T.ops = [] ∨ ∃ b, ao = some ⟨b, 0, none⟩ ∧ b < wo.heap.size ∧ T.ops.length ≤ c2 ∧ ∀ (m q : Nat), is[m]? = some q → wo.cell? ⟨b, m, none⟩ = some (.int .i64 (q : Int))) := by
          rcases n4.2 with ⟨h', h0⟩ | ⟨g', cap', cur, h', _, hblk, hcp, _⟩
          · cases h'; exact ⟨h0.symm, .inl (List.length_eq_zero_iff.mp h0)⟩
          · cases h'
            refine ⟨rfl, .inr ⟨g', rfl, (n4.lt g' rfl).2, hcp, fun m q hq => ?_⟩⟩
            have := n4.cells (g := g') rfl m (.int .i64 (q : Int)) (by simp [hq])
            rw [Addr.add_lit] at this
            simpa using this
        obtain ⟨rfl, hvn⟩ := hvn
        have hol : T.ops.length ≤ 1000 := by
          have h1 := ops_le_post hTm
          rw [← HTL.out] at h1
          omega
        have HOK' : Hid _ := HOK
        have HERR' : Hid _ := HERR
        have HGW : Hid _ := hGw
        have HS1 : Hid _ := hS1
        have HS2 : Hid _ := hS2
        have HCEL : Hid _ := hcel
        have HVN : Hid _ := hvn
        have HETL : Hid (es.length = T.ops.length) := hel
        clear hcel hvn hS1 hS2 HERR HOK hO hN hok n4 n6 n7 n8 hTi hT hGw hLone htx hG hes hety heg hTk hTm
        obtain ⟨W4, hW4⟩ : ∃ W4, W4 = wo.alloc (.cells #[.string (ofBs T.tx), .bool true, .slice ao T.ops.length c2, .int .u8 0] 359) := ⟨_, rfl⟩
        have HATW : Hid (wo.alloc (.cells #[.string (ofBs T.tx), .bool true, .slice ao T.ops.length c2, .int .u8 0] 359) = W4) := hW4.symm
        have hB4 : Below wo.heap.size wo W4 := by rw [hW4]; exact below_box wo _
        have hx4 : W4.heap[wo.heap.size]? = some (.cells #[.string (ofBs T.tx), .bool true, .slice ao T.ops.length c2, .int .u8 0] 359 (0, 0)) := by rw [hW4]; exact heap_alloc_new wo _
        have hs4 : W4.heap.size = wo.heap.size + 1 := by rw [hW4]; simp [World.size_alloc]
        clear hW4
        have hB4s := hB4.size
        have HKEEP : ∀ x : World, Below W4.heap.size W4 x → (x.cell? ⟨wo.heap.size, 0, none⟩ = some (.string (ofBs T.tx)) ∧ x.cell? ⟨wo.heap.size, 2, none⟩ = some (.slice ao T.ops.length c2)) ∧ (x.cell? ⟨w.heap.size, 0, none⟩ = some (.slice co cn cc) ∧ x.cell? ⟨w.heap.size, 1, none⟩ = some (.slice to' tn tc) ∧ x.cell? ⟨w.heap.size, 2, none⟩ = some (.string (ofBs args)) ∧ x.cell? ⟨w.heap.size, 3, none⟩ = some (.slice fo fnn fc)) ∧ x.cell? ⟨w.heap.size + 1, 0, none⟩ = some (.slice (some ⟨g, 0, none⟩) l.length cap) := by
          intro x hx
          have hxb := (hx.block wo.heap.size (by omega)).trans hx4
          have hBx : Below wo.heap.size wo x := hB4.trans (hx.mono hB4.size)
          exact ⟨⟨(blk_at hxb).trans rfl, (blk_at hxb).trans rfl⟩, ⟨(hBx.cell (p := ⟨w.heap.size, 0, none⟩) hKl).trans k0, (hBx.cell (p := ⟨w.heap.size, 1, none⟩) hKl).trans k1, (hBx.cell (p := ⟨w.heap.size, 2, none⟩) hKl).trans k2, (hBx.cell (p := ⟨w.heap.size, 3, none⟩) hKl).trans k3⟩, (hBx.cell (p := ⟨w.heap.size + 1, 0, none⟩) hEl).trans e0⟩
        have hletn : (letsOf es).length = T.ops.length := by rw [letsOf, List.length_map]; exact HETL.out
        go_wp2_with fail
        rw [HATW.out]
        clear HATW
        go_loopw [8, 9] (fun sv jv wx => ∃ j : Nat, j ≤ T.ops.length ∧ jv = .int .i64 j ∧ sv = .string (ofBs ((letsOf es).take j)) ∧ Below W4.heap.size W4 wx) (fun _ jv _ => T.ops.length - (intOf jv).toNat)
        case atStart => exact ⟨0, Nat.zero_le _, rfl, rfl, Below.refl _ _⟩
        case round =>
          obtain ⟨j, hj, rfl, rfl, hBx⟩ := hrel
          obtain ⟨⟨x0, x2⟩, ⟨y0, y1, y2, y3⟩, y4⟩ := HKEEP wr hBx
          have hsx := hBx.size
          by_cases hlt2 : j < T.ops.length
          · obtain ⟨b, rfl, hbl, hc2, hcell⟩ : ∃ b, ao = some ⟨b, 0, none⟩ ∧ b < wo.heap.size ∧ T.ops.length ≤ c2 ∧ ∀ (m q : Nat), is[m]? = some q → wo.cell? ⟨b, m, none⟩ = some (.int .i64 (q : Int)) := by
              rcases HVN.out with h | h
              · rw [h] at hlt2; simp at hlt2
              · exact h
            obtain ⟨q, hq, hqi, hqc⟩ := HCEL.out j hlt2
            have hBwx : Below wo.heap.size wo wr := hB4.trans (hBx.mono hB4.size)
            have a0 : wr.cell? ⟨b, j, none⟩ = some (.int .i64 (q : Int)) := (hBwx.cell (p := ⟨b, j, none⟩) hbl).trans (hcell j q hq)
            have a1 := (hBwx.cell (p := ⟨g, q * 4 + 3, none⟩) hglr).trans hqc
            have hbx : b < wr.heap.size := by omega
            have hgx : g < wr.heap.size := by omega
            have hEx : w.heap.size + 1 < wr.heap.size := by omega
            have hXx : wo.heap.size < wr.heap.size := by omega
            have hql : q < l.length := by omega
            have hje : j < es.length := by have := HETL.out; omega
            obtain ⟨c, hc⟩ : ∃ c, c = ltB (es[j]'hje).ty := ⟨_, rfl⟩
            rw [← hc] at a1
            have HSTR : Hid (ofBs ((letsOf es).take j) ++ ⟨#[c]⟩ = ofBs ((letsOf es).take (j + 1))) := by
              rw [Hid, List.take_succ_eq_append_getElem (by rw [hletn]; exact hlt2)]
              have : (letsOf es)[j]'(by rw [hletn]; exact hlt2) = c := by rw [hc]; simp [letsOf]
              rw [this]
              apply ByteArray.ext; rw [ByteArray.data_append]; simp [ofBs]
            have hss : (ofBs ((letsOf es).take j)).size = j := by rw [ofBs_size, List.length_take, hletn]; omega
            have hcb : (convert 351 9 (.slice (some ⟨wr.heap.size, 0, none⟩) 1 1)).run Tryz.prog (wr.alloc (.cells #[.int .u8 (c.toNat : Int)] 5)).drew = .ok (.string ⟨#[c]⟩) (wr.alloc (.cells #[.int .u8 (c.toNat : Int)] 5)).drew := run_convert_bytes_back (P := Tryz.prog) (wr.alloc (.cells #[.int .u8 (c.toNat : Int)] 5)).drew 351 9 5 ⟨wr.heap.size, 0, none⟩ 1 [c] Tryz.underlying351 Tryz.underlying5 Tryz.underlying9 (by
              intro m hm
              have hm0 : m = 0 := by simp at hm; exact hm
              subst hm0
              exact (blk_at (heap_alloc_new wr _)).trans rfl)
            have hnl : ¬ 9223372036854775807 < (ofBs ((letsOf es).take j)).size + (ByteArray.mk #[c]).size := by
              rw [hss]; show ¬ 9223372036854775807 < j + 1; omega
            clear hcell hqc hq hc
            go_wp2_with fail
            go_region
            all_goals (try go_wp2_with fail)
            go_roundw
            case rel => exact ⟨j + 1, by omega, by go_num, by rw [HSTR.out], (hBx.alloc hBx.size _).drew⟩
            case measure => simp [intOf]; omega
          · have hje : j = T.ops.length := by omega
            subst hje
            have htk : (letsOf es).take T.ops.length = letsOf es := List.take_of_length_le (by omega)
            rw [htk]
            have hKx : w.heap.size < wr.heap.size := by omega
            have hXx : wo.heap.size < wr.heap.size := by omega
            have hBox : Below wo.heap.size wo wr := hB4.trans (hBx.mono hB4.size)
            obtain ⟨fi, hfi⟩ : ∃ fi, fi = findS (RF.list rfs) T.tx := ⟨_, rfl⟩
            have HFn : Calls Tryz.prog 187 #[.agg #[.slice co cn cc, .slice to' tn tc, .string (ofBs args), .slice fo fnn fc], .string (ofBs T.tx)] wr fun e w' => e = .returned (.int .i64 (ixS fi)) ∧ Below wr.heap.size wr w' := by
              rw [hfi]; exact refFunction_any wr _ _ _ fo fnn fc rfs (KNr.keep hBox).fns T.tx
            have HFI : Hid _ := hfi
            obtain ⟨op, hop⟩ : ∃ b, b = amongB operList T.tx := ⟨_, rfl⟩
            obtain ⟨wd, hwd⟩ : ∃ b, b = amongB wordList T.tx := ⟨_, rfl⟩
            have HBU : Hid (builtS T.tx = (op || wd)) := by rw [Hid, built_parts, hop, hwd, oper_contains]
            have HAo : ∀ (x : World) (b : Nat), x.heap[b]? = some (.cells (operList.map fun t => Value.string (ofBs t)).toArray 9 (0, 0)) → Calls Tryz.prog 265 #[.slice (some ⟨b, 0, none⟩) 7 7, .string (ofBs T.tx)] x fun e w' => e = .returned (.bool op) ∧ w' = x := by
              intro x b hb; rw [hop]; exact amongOf operList 7 rfl (by omega) x b hb T.tx
            have HAw : ∀ (x : World) (b : Nat), x.heap[b]? = some (.cells (wordList.map fun t => Value.string (ofBs t)).toArray 9 (0, 0)) → Calls Tryz.prog 265 #[.slice (some ⟨b, 0, none⟩) 8 8, .string (ofBs T.tx)] x fun e w' => e = .returned (.bool wd) ∧ w' = x := by
              intro x b hb; rw [hwd]; exact amongOf wordList 8 rfl (by omega) x b hb T.tx
            have HOp := refOperators_any
            have HWo := refWords_any
            obtain ⟨oo, hoo⟩ : ∃ o, o = Obj.cells (operList.map fun t => Value.string (ofBs t)).toArray 9 := ⟨_, rfl⟩
            obtain ⟨ow, how⟩ : ∃ o, o = Obj.cells (wordList.map fun t => Value.string (ofBs t)).toArray 9 := ⟨_, rfl⟩
            rw [← hoo] at HAo
            rw [← how] at HAw
            simp only [← hoo] at HOp
            simp only [← how] at HWo
            clear hfi hop hwd hoo how htk hlt2
            go_upto_region 16 with (go_at_call 187; refine HFn.mono ?_; rintro e w5 ⟨rfl, hb5⟩)
            have hB5 : Below W4.heap.size W4 w5 := hBx.trans (hb5.mono hBx.size)
            obtain ⟨⟨x0', x2'⟩, ⟨y0', y1', y2', y3'⟩, y4'⟩ := HKEEP w5 hB5
            have hX5 : wo.heap.size < w5.heap.size := by have := hb5.size; omega
            clear HFn x0 x2 y0 y1 y2 y3 y4
            go_cut [11] (fun s11 wx => s11 = .bool op ∧ Below w5.heap.size w5 wx)
            case first =>
              clear HAw HWo HKEEP HFZ
              go_region_with (first
                | (go_at_call 336; refine (HOp _).mono ?_; rintro e w6 ⟨rfl, rfl⟩)
                | (go_at_call 265; refine (HAo _ _ ?_).mono ?_; (first | exact heap_alloc_new _ _ | exact heap_alloc_new w5 oo); rintro e w7 ⟨rfl, rfl⟩))
              all_goals (go_wp2_with fail; go_meet)
              all_goals exact ⟨rfl, by first | exact below_box w5 oo | exact (below_box w5 oo).drew⟩
            case rest =>
              obtain ⟨rfl, hB6⟩ := hcut
              have hB6' : Below W4.heap.size W4 wc := hB5.trans (hB6.mono hB5.size)
              clear x0' x2' y0' y1' y2' y3' y4' HAo HOp
              generalize hw6 : wc = w6 at *
              clear hw6
              obtain ⟨⟨x0, x2⟩, ⟨y0, y1, y2, y3⟩, y4⟩ := HKEEP w6 hB6'
              have hX6 : wo.heap.size < w6.heap.size := by have := hB6'.size; omega
              go_upto_region 17 with fail
              go_cut [12] (fun s12 wx => s12 = .bool wd ∧ Below w6.heap.size w6 wx)
              case first =>
                clear HKEEP HFZ
                go_region_with (first
                  | (go_at_call 266; refine (HWo _).mono ?_; rintro e w7 ⟨rfl, rfl⟩)
                  | (go_at_call 265; refine (HAw _ _ ?_).mono ?_; (first | exact heap_alloc_new _ _ | exact heap_alloc_new w6 ow); rintro e w8 ⟨rfl, rfl⟩))
                all_goals (go_wp2_with fail; go_meet)
                all_goals exact ⟨rfl, by first | exact below_box w6 ow | exact (below_box w6 ow).drew⟩
              case rest =>
                obtain ⟨rfl, hB7⟩ := hcut
                have hB7' : Below W4.heap.size W4 wc := hB6'.trans (hB7.mono hB6'.size)
                clear x0 x2 y0 y1 y2 y3 y4 HAw HWo
                generalize hw7 : wc = w7 at *
                clear hw7
                obtain ⟨⟨x0, x2⟩, ⟨y0, y1, y2, y3⟩, y4⟩ := HKEEP w7 hB7'
                have hBo7 : Below wo.heap.size wo w7 := hB4.trans (hB7'.mono hB4.size)
                obtain ⟨z1, z2, _⟩ := HFZ w7 hBo7
                have hs7 := hB7'.size
                have hX7 : wo.heap.size < w7.heap.size := by omega
                have hK7 : w.heap.size < w7.heap.size := by omega
                have hE7 : w.heap.size + 1 < w7.heap.size := by omega
                have hg7 : g < w7.heap.size := by omega
                have HKN7 : Hid (KnIn w7 co cn cc to' tn tc (.slice fo fnn fc) ps.1 rfs) := KNr.keep hBo7
                have HFZ7 : Hid _ := HFZ
                clear HKEEP HFZ KNr
                cases fi with
                | none =>
                  have hix : ixS none = -1 := rfl
                  cases hbu : (op || wd) with
                  | false =>
                    rw [Bool.or_eq_false_iff] at hbu
                    obtain ⟨rfl, rfl⟩ := hbu
                    have hE : brErr rfs T.tx (letsOf es) = 2 := by rw [brErr, ← HFI.out, HBU.out]; rfl
                    have HE2 : Hid (typS atoi ps (RF.list rfs) T = .error 2) := by rw [Hid, ← hE]; exact HS2.out (by rw [hE]; decide)
                    clear hE
                    go_wp2_with fail
                    go_ret
                    exact ⟨grown_trans HGW.out (grown_below hBo7 _), .inl ⟨2, HERR'.out 2 HE2.out, by decide, rfl⟩⟩
                  | true =>
                    have hbt : builtS T.tx = true := by rw [HBU.out]; exact hbu
                    have HHd : Calls Tryz.prog 375 #[.string (ofBs T.tx), .string (ofBs (letsOf es))] w7 fun e w' => e = .returned (.int .u8 (hdT T.tx (letsOf es))) ∧ Below w7.heap.size w7 w' := by
                      have := refHeadType_any T.tx hbt (ofBs (letsOf es)) w7 (by rw [ofBs_size, hletn]; unfold maxLen; omega)
                      rw [ofBs_toList] at this; exact this
                    have hT : brTy rfs T.tx (letsOf es) = hdT T.tx (letsOf es) := by rw [brTy, ← HFI.out]
                    have hE : brErr rfs T.tx (letsOf es) = if hdT T.tx (letsOf es) = 0 then 3 else 0 := by rw [brErr, ← HFI.out, hbt, hT]; rfl
                    obtain ⟨n, hn⟩ : ∃ n, n = hdT T.tx (letsOf es) := ⟨_, rfl⟩
                    rw [← hn] at HHd hT hE
                    have HT' : Hid _ := hT
                    have HE' : Hid _ := hE
                    have hbu' : op = false → wd = true := by intro e; rw [e] at hbu; simpa using hbu
                    clear hn hT hE hbt hbu
                    cases op with
                    | true =>
                      clear hbu'
                      go_wp2_with (go_at_call 375; refine HHd.mono ?_; rintro e w8 ⟨rfl, hb8⟩; have B8 := hBo7.trans (hb8.mono hBo7.size); obtain ⟨z1, z2, z3⟩ := HFZ7.out w8 B8)
                      · have h0 : n = 0 := by rename_i hq; simpa using hq
                        have hE : brErr rfs T.tx (letsOf es) = 3 := by rw [HE'.out, if_pos h0]
                        go_ret
                        exact ⟨grown_trans HGW.out (grown_below B8 _), .inl ⟨3, HERR'.out 3 (by rw [← hE]; exact HS2.out (by rw [hE]; decide)), by decide, rfl⟩⟩
                      · have h0 : n ≠ 0 := by rename_i hq; simpa using hq
                        obtain ⟨x, hx, hxn⟩ := HS1.out (by rw [HE'.out, if_neg h0])
                        rw [HT'.out] at hxn
                        go_roundg (l.length - (i + 1))
                        case measure => omega
                        case rel => exact ⟨i + 1, rfl, by go_num, HOK'.out x _ _ hx hxn B8⟩
                    | false =>
                      obtain rfl := hbu' rfl
                      go_wp2_with (go_at_call 375; refine HHd.mono ?_; rintro e w8 ⟨rfl, hb8⟩; have B8 := hBo7.trans (hb8.mono hBo7.size); obtain ⟨z1, z2, z3⟩ := HFZ7.out w8 B8)
                      · have h0 : n = 0 := by rename_i hq; simpa using hq
                        have hE : brErr rfs T.tx (letsOf es) = 3 := by rw [HE'.out, if_pos h0]
                        go_ret
                        exact ⟨grown_trans HGW.out (grown_below B8 _), .inl ⟨3, HERR'.out 3 (by rw [← hE]; exact HS2.out (by rw [hE]; decide)), by decide, rfl⟩⟩
                      · have h0 : n ≠ 0 := by rename_i hq; simpa using hq
                        obtain ⟨x, hx, hxn⟩ := HS1.out (by rw [HE'.out, if_neg h0])
                        rw [HT'.out] at hxn
                        go_roundg (l.length - (i + 1))
                        case measure => omega
                        case rel => exact ⟨i + 1, rfl, by go_num, HOK'.out x _ _ hx hxn B8⟩
                | some k' =>
                  obtain ⟨f, hf1, _⟩ := find_name HFI.out.symm
                  have hf2 := hf1
                  rw [RF.list, List.getElem?_map] at hf2
                  obtain ⟨r, hr⟩ : ∃ r, rfs[k']? = some r := by
                    cases hq : rfs[k']? with
                    | none => rw [hq] at hf2; cases hf2
                    | some r => exact ⟨r, rfl⟩
                  have hkl : k' < rfs.length := (List.getElem?_eq_some_iff.mp hr).1
                  have hrm := List.mem_of_getElem? hr
                  have hbf : builtS T.tx = false := by
                    obtain ⟨f', hf', hn'⟩ := find_name HFI.out.symm
                    have hm := List.mem_of_getElem? hf'
                    rw [RF.list, List.mem_map] at hm
                    obtain ⟨r', hr', rfl⟩ := hm
                    rw [← hn']; exact hK.free r' hr'
                  have hT : brTy rfs T.tx (letsOf es) = litL (letsOf es == r.args) (ltI r.fn.body.ty) := by simp only [brTy, ← HFI.out, hr]
                  have hE : brErr rfs T.tx (letsOf es) = if litL (letsOf es == r.args) (ltI r.fn.body.ty) = 0 then 3 else 0 := by rw [brErr, ← HFI.out, hT]; rfl
                  have hne0 : ltI r.fn.body.ty ≠ 0 := ltI_ne (hK.fty r hrm)
                  obtain ⟨fao, fcap, hfe, hf8, hfz⟩ := HKN7.out.fns
                  cases hfe
                  obtain ⟨fb, rfl, hfb, hfc⟩ : ∃ b, fo = some ⟨b, 0, none⟩ ∧ b < w7.heap.size ∧ ∀ (i : Nat) (rf : RF), rfs[i]? = some rf → RFnAt w7 b i rf := by
                    rcases hfz with h' | h'
                    · rw [h'] at hkl; simp at hkl
                    · exact h'
                  obtain ⟨gb, capb, csb, tysb, _, f1, f2, _, _, hpl, fo6, fn7, ft8⟩ := hfc k' r hr
                  have hpp : 0 < (post r.t).length := List.length_pos_of_mem (List.mem_of_getElem? (post_last r.t))
                  have hlast : w7.cell? ⟨gb, ((post r.t).length - 1) * 4 + 3, none⟩ = some (.int .u8 (ltI r.fn.body.ty)) := by
                    obtain ⟨_, _, _, _, _, c3, _⟩ := fn7 _ _ (post_last r.t)
                    rw [Nat.zero_add, ft8] at c3
                    exact (fo6.cellAt _ (by omega)).trans (by rw [Nat.mul_comm]; exact c3)
                  have hgb : gb < w7.heap.size := (fo6.lt gb rfl).2
                  have hcb : (post r.t).length ≤ capb := by
                    rcases fo6.2 with ⟨h', _⟩ | ⟨_, _, _, h', _, _, hc, _⟩
                    · cases h'
                    · cases h'; exact hc
                  obtain ⟨m', hm'⟩ : ∃ m', (post r.t).length = m' + 1 := ⟨(post r.t).length - 1, by omega⟩
                  rw [hm'] at f2 hlast hcb hpl
                  rw [Nat.add_sub_cancel] at hlast
                  obtain ⟨nb, hnb⟩ : ∃ n, n = ltI r.fn.body.ty := ⟨_, rfl⟩
                  rw [← hnb] at hlast hT hE hne0
                  have HT' : Hid _ := hT
                  have HE' : Hid _ := hE
                  have ho1 : (ofBs (letsOf es)).toList = letsOf es := ofBs_toList _
                  have ho2 : (ofBs r.args).toList = r.args := ofBs_toList _
                  have hix : ixS (some k') = (k' : Int) := rfl
                  have hrl : rfs.length ≤ 8 := hf8
                  have HBW : Hid (∀ o : Obj, Below wo.heap.size wo (w7.alloc o)) := fun o => hBo7.alloc hBo7.size o
                  clear hT hE hnb hm' fo6 fn7 ft8 hfc hfz hf1 hf2 hr hrm hbf hpp
                  cases heq : (letsOf es == r.args) with
                  | true =>
                    rw [heq] at HT' HE'
                    have HT2 : Hid (brTy rfs T.tx (letsOf es) = nb) := HT'
                    have HE2 : Hid (brErr rfs T.tx (letsOf es) = 0) := by rw [Hid, HE'.out]; exact if_neg hne0
                    have hz0 : (nb == 0) = false := by simpa using hne0
                    obtain ⟨z1', z2', z3'⟩ := HFZ7.out _ (HBW.out (.cells #[.slice (some ⟨gb, 0, none⟩) (m' + 1) capb] 242))
                    clear HT' HE' hne0
                    go_wp2_with fail
                    obtain ⟨x, hx, hxn⟩ := HS1.out HE2.out
                    rw [HT2.out] at hxn
                    go_roundg (l.length - (i + 1))
                    case measure => omega
                    case rel =>
                      have hfin := HOK'.out x _ _ hx hxn (HBW.out (.cells #[.slice (some ⟨gb, 0, none⟩) (m' + 1) capb] 242))
                      rw [World.setCell_alloc_past _ _ _ _ hg7] at hfin
                      exact ⟨i + 1, rfl, by go_num, hfin⟩
                  | false =>
                    rw [heq] at HE'
                    have HE2 : Hid (brErr rfs T.tx (letsOf es) = 3) := by rw [Hid, HE'.out]; rfl
                    clear HT' HE'
                    go_wp2_with fail
                    go_ret
                    exact ⟨grown_trans HGW.out (grown_below hBo7 _), .inl ⟨3, HERR'.out 3 (by have h3 := HS2.out (by rw [HE2.out]; decide); rw [HE2.out] at h3; exact h3), by decide, rfl⟩⟩
    · have hil : i = l.length := by omega
      subst hil
      have hp := post_last t
      rw [← HTL.out] at hp
      have hpl : 0 < l.length := List.length_pos_of_mem (List.mem_of_getElem? hp)
      obtain ⟨x, hx⟩ := hok (l.length - 1) (by omega) t hp
      have HF : Hid (Wrgd atoi ps (RF.list rfs) t w g cap (.returned (.int .i64 0)) wo) := ⟨grown_trans hgW hG, .inr ⟨x, cs, hx, rfl, by rw [← HTL.out]; exact hO, by rw [← HTL.out]; exact hN⟩⟩
      clear hx hp hok hO hN
      go_wp2_with fail
      go_ret
      exact HF.out
end Go.Proofs.YtilfjpmeededmaaGreatDoor

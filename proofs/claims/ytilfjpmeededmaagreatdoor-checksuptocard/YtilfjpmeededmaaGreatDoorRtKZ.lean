import Derived.Test.YtilfjpmeededmaaGreatDoorRtH
set_option linter.unusedVariables false
set_option linter.unusedSimpArgs false
namespace Go.Proofs.YtilfjpmeededmaaGreatDoor
open Go.RowKit
def fnSize (rfs : List RF) (o : Option Nat) : Int := match o with | none => 0 | some i => match rfs[i]? with | none => 0 | some r => r.fn.body.size
def szR (rfs : List RF) (t : Tr) : Int := if t.br then fnSize rfs (findS (RF.list rfs) t.tx) else 0
theorem find_free {ps : Sc} {args : Bs} {rfs : List RF} (hK : KnOK ps args rfs) {tx : Bs} (h : builtS tx = true) : findS (RF.list rfs) tx = none := by
  cases hf : findS (RF.list rfs) tx with
  | none => rfl
  | some i =>
    obtain ⟨f, h1, h2⟩ := find_name hf
    have hm := List.mem_of_getElem? h1
    rw [RF.list, List.mem_map] at hm
    obtain ⟨r, hr, rfl⟩ := hm
    rw [← h2, hK.free r hr] at h; cases h
theorem szR_same {ps : Sc} {args : Bs} {rfs : List RF} (hK : KnOK ps args rfs) (t : Tr) : szR rfs t = fszS (RF.list rfs) t := by
  unfold szR fszS
  cases hb : t.br with
  | false => rfl
  | true =>
    cases hu : builtS t.tx with
    | true => rw [find_free hK hu]; rfl
    | false =>
      rw [if_pos rfl]
      show _ = (match findS (RF.list rfs) t.tx with | none => (0 : Int) | some i => match (RF.list rfs)[i]? with | none => 0 | some f => f.body.size)
      unfold fnSize
      cases findS (RF.list rfs) t.tx with
      | none => rfl
      | some i =>
        show (match rfs[i]? with | none => (0 : Int) | some r => r.fn.body.size) = (match (RF.list rfs)[i]? with | none => 0 | some f => f.body.size)
        rw [RF.list, List.getElem?_map]
        cases rfs[i]? <;> rfl
theorem szR_le {ps : Sc} {args : Bs} {rfs : List RF} (hK : KnOK ps args rfs) (t : Tr) : 0 ≤ szR rfs t ∧ szR rfs t ≤ 300 := by
  unfold szR fnSize
  split
  · split
    · omega
    · split
      · omega
      · next r hr => exact hK.sizes r (List.mem_of_getElem? hr)
  · omega
theorem sumI_le {ps : Sc} {args : Bs} {rfs : List RF} (hK : KnOK ps args rfs) (l : List Tr) : 0 ≤ sumI (l.map (szR rfs)) ∧ sumI (l.map (szR rfs)) ≤ 300 * l.length := by
  induction l with
  | nil => simp [sumI]
  | cons t ts ih =>
    have := szR_le hK t
    simp only [List.map_cons, sumI, List.length_cons]; omega
def fnQuiet (rfs : List RF) (o : Option Nat) : Bool := match o with | none => true | some i => match rfs[i]? with | none => true | some r => r.fn.body.quiet
mutual
def quT (rfs : List RF) : Tr → Bool
  | .mk _ tx br ops => (!br || (!loudS tx && fnQuiet rfs (findS (RF.list rfs) tx))) && quTs rfs ops
def quTs (rfs : List RF) : List Tr → Bool
  | [] => true
  | t :: ts => quT rfs t && quTs rfs ts
end
theorem quTs_all (rfs : List RF) (ts : List Tr) : quTs rfs ts = ts.all (quT rfs) := by
  induction ts with
  | nil => rfl
  | cons t ts ih => rw [quTs, ih]; rfl
theorem single_quiet (atoi : Bs → Int) (k : Int) (tx : Bs) : (singleS atoi k tx).quiet = true := by
  unfold singleS; repeat' split
  all_goals rfl
theorem loud_built {tx : Bs} (h : loudS tx = true) : builtS tx = true := by
  simp only [loudS, List.any_cons, List.any_nil, Bool.or_eq_true, beq_iff_eq, Bool.or_false] at h
  rcases h with rfl | rfl | rfl | rfl | rfl | rfl <;> decide
mutual
theorem quT_same (atoi : Bs → Int) {ps : Sc} {args : Bs} {rfs : List RF} (hK : KnOK ps args rfs) : ∀ (t : Tr) (x : Ex), (∀ y ∈ post t, Lone y) → typS atoi ps (RF.list rfs) t = .ok x → x.quiet = quT rfs t
  | .mk k tx false ops, x, hL, hx => by
    have h0 := (hL (.mk k tx false ops) (by rw [post]; simp) rfl).1
    rw [show (Tr.mk k tx false ops).ops = ops from rfl] at h0
    subst h0
    rw [typS, if_neg Bool.false_ne_true] at hx
    have hs : x.quiet = true := by
      split at hx
      · unfold colT at hx
        split at hx
        · cases hx
        · split at hx
          · cases hx
          · cases hx; rfl
      · split at hx
        · unfold parT at hx
          split at hx
          · cases hx
          · cases hx; rfl
        · cases hx; exact single_quiet _ _ _
    rw [hs]; simp [quT, quTs]
  | .mk k tx true ops, x, hL, hx => by
    rw [typS, if_pos rfl] at hx
    cases hts : typsS atoi ps (RF.list rfs) ops with
    | error n => rw [hts] at hx; cases hx
    | ok es =>
      rw [hts] at hx
      have hz := quTs_same atoi hK ops es (fun y hy => hL y (by rw [post]; exact List.mem_append_left _ hy)) hts
      have hx' : finS (RF.list rfs) tx es = .ok x := hx
      unfold finS at hx'
      rw [quT, ← hz]
      cases hb : builtS tx with
      | true =>
        rw [hb, if_pos rfl] at hx'
        split at hx'
        · cases hx'
        · cases hx'
          rw [find_free hK hb]
          simp [Ex.quiet, fnQuiet, Bool.and_comm]
      | false =>
        have hld : loudS tx = false := by
          cases hl : loudS tx with
          | false => rfl
          | true => rw [loud_built hl] at hb; cases hb
        rw [hb, if_neg Bool.false_ne_true] at hx'
        unfold CallS at hx'
        split at hx'
        · cases hx'
        · next i hi =>
          split at hx'
          · cases hx'
          · next f hf =>
            have hf2 := hf
            rw [RF.list, List.getElem?_map] at hf2
            split at hx'
            · cases hx'
              cases hr : rfs[i]? with
              | none => rw [hr] at hf2; cases hf2
              | some r =>
                rw [hr] at hf2
                have : r.fn = f := Option.some.inj hf2
                subst this
                simp [Ex.quiet, fnQuiet, hld, hi, hr, Bool.and_comm]
            · cases hx'
theorem quTs_same (atoi : Bs → Int) {ps : Sc} {args : Bs} {rfs : List RF} (hK : KnOK ps args rfs) : ∀ (ts : List Tr) (es : List Ex), (∀ y ∈ posts ts, Lone y) → typsS atoi ps (RF.list rfs) ts = .ok es → es.all Ex.quiet = quTs rfs ts
  | [], es, hL, h => by rw [typsS] at h; cases h; rfl
  | t :: ts, es, hL, h => by
    rw [posts] at hL
    rw [typsS] at h
    split at h
    · cases h
    · next x hx =>
      split at h
      · cases h
      · next xs hxs =>
        cases h
        rw [quTs, List.all_cons, quT_same atoi hK t x (fun y hy => hL y (List.mem_append_left _ hy)) hx, quTs_same atoi hK ts xs (fun y hy => hL y (List.mem_append_right _ hy)) hxs]
end
end Go.Proofs.YtilfjpmeededmaaGreatDoor

namespace Go.Proofs.YtilfjpmeededmaaGreatDoor
open Go.RowKit
structure NdIn (w : World) (g cap : Nat) (l : List Tr) (ty : Nat → Int) (cs : List Value) : Prop where
  own : w.ownsRow 0 359 4 (.slice (some ⟨g, 0, none⟩) l.length cap) l.length cs
  nodes : Nodes w (fun _ => True) cs 0 l ty
  small : l.length ≤ 1000
  few : ∀ t ∈ l, t.ops.length ≤ 1000
theorem NdIn.keep {w x : World} {g cap : Nat} {l : List Tr} {ty : Nat → Int} {cs : List Value} (h : NdIn w g cap l ty cs) (hb : Below w.heap.size w x) : NdIn x g cap l ty cs :=
  ⟨owns_keep h.own fun q hq => hb.block q (h.own.lt q hq).2, h.nodes.keep hb, h.small, h.few⟩
theorem NdIn.lt {w : World} {g cap : Nat} {l : List Tr} {ty : Nat → Int} {cs : List Value} (h : NdIn w g cap l ty cs) : g < w.heap.size := (h.own.lt g rfl).2
theorem NdIn.cap {w : World} {g cap : Nat} {l : List Tr} {ty : Nat → Int} {cs : List Value} (h : NdIn w g cap l ty cs) : l.length ≤ cap := by
  rcases h.own.2 with ⟨h', _⟩ | ⟨_, _, _, h', _, _, hc, _⟩
  · cases h'
  · cases h'; exact hc
theorem NdIn.at {w : World} {g cap : Nat} {l : List Tr} {ty : Nat → Int} {cs : List Value} (h : NdIn w g cap l ty cs) {i : Nat} {t : Tr} (hi : l[i]? = some t) : ∃ (ao : Option Addr) (c2 : Nat) (is : List Nat),
    w.cell? ⟨g, i * 4, none⟩ = some (.string (ofBs t.tx)) ∧ w.cell? ⟨g, i * 4 + 1, none⟩ = some (.bool t.br) ∧ w.cell? ⟨g, i * 4 + 2, none⟩ = some (.slice ao t.ops.length c2) ∧ w.cell? ⟨g, i * 4 + 3, none⟩ = some (.int .u8 (ty i)) ∧
    is.length = t.ops.length ∧ (∀ (m q : Nat), is[m]? = some q → q < i ∧ l[q]? = t.ops[m]?) ∧ (t.ops = [] ∨ ∃ b, ao = some ⟨b, 0, none⟩ ∧ b < w.heap.size ∧ t.ops.length ≤ c2 ∧ ∀ (m q : Nat), is[m]? = some q → w.cell? ⟨b, m, none⟩ = some (.int .i64 (q : Int))) := by
  have hlt := (List.getElem?_eq_some_iff.mp hi).1
  obtain ⟨v, is, n0, n1, n2, n3, n4, _, n6, n7, n8⟩ := h.nodes i t hi
  rw [Nat.zero_add] at n0 n1 n2 n3
  have q0 : w.cell? ⟨g, i * 4, none⟩ = some (.string (ofBs t.tx)) := (h.own.cellAt (i * 4) (by omega)).trans (by rw [Nat.mul_comm]; exact n0)
  have q1 : w.cell? ⟨g, i * 4 + 1, none⟩ = some (.bool t.br) := (h.own.cellAt (i * 4 + 1) (by omega)).trans (by rw [Nat.mul_comm]; exact n1)
  have q2 : w.cell? ⟨g, i * 4 + 2, none⟩ = some v := (h.own.cellAt (i * 4 + 2) (by omega)).trans (by rw [Nat.mul_comm]; exact n2)
  have q3 : w.cell? ⟨g, i * 4 + 3, none⟩ = some (.int .u8 (ty i)) := (h.own.cellAt (i * 4 + 3) (by omega)).trans (by rw [Nat.mul_comm]; exact n3)
  have n8' : ∀ (m q : Nat), is[m]? = some q → q < i ∧ l[q]? = t.ops[m]? := by
    intro m q hq
    obtain ⟨q', e, h1, h2⟩ := n8 m q hq
    rw [Nat.zero_add] at e
    subst e; exact ⟨h1, h2⟩
  rcases n4.2 with ⟨rfl, h0⟩ | ⟨g', cap', cur, rfl, _, hblk, hcp, _⟩
  · exact ⟨none, 0, is, q0, q1, by rw [h0]; exact q2, q3, n6, n8', .inl (List.length_eq_zero_iff.mp h0)⟩
  · refine ⟨_, _, is, q0, q1, q2, q3, n6, n8', .inr ⟨g', rfl, (n4.lt g' rfl).2, hcp, fun m q hq => ?_⟩⟩
    have := n4.cells (g := g') rfl m (.int .i64 (q : Int)) (by simp [hq])
    rw [Addr.add_lit] at this
    simpa using this
set_option maxHeartbeats 4000000 in
set_option maxRecDepth 100000 in
theorem refSize_any (w : World) (co : Option Addr) (cn cc : Nat) (to' : Option Addr) (tn tc : Nat) (args : Bs) (fo : Option Addr) (fnn fc : Nat) (ps : Sc) (rfs : List RF) (h : KnIn w co cn cc to' tn tc (.slice fo fnn fc) ps.1 rfs) (hK : KnOK ps args rfs)
    (g cap : Nat) (l : List Tr) (ty : Nat → Int) (cs : List Value) (hN : NdIn w g cap l ty cs) :
    Calls Tryz.prog 269 #[.agg #[.slice co cn cc, .slice to' tn tc, .string (ofBs args), .slice fo fnn fc], .agg #[.slice (some ⟨g, 0, none⟩) l.length cap]] w fun e w' => e = .returned (.int .i64 ((l.length : Int) + sumI (l.map (szR rfs)))) ∧ Below w.heap.size w w' := by
  obtain ⟨W, hW⟩ : ∃ W, W = (w.alloc (.cells #[.slice co cn cc, .slice to' tn tc, .string (ofBs args), .slice fo fnn fc] 374)).alloc (.cells #[.slice (some ⟨g, 0, none⟩) l.length cap] 242) := ⟨_, rfl⟩
  have HATW : Hid ((w.alloc (.cells #[.slice co cn cc, .slice to' tn tc, .string (ofBs args), .slice fo fnn fc] 374)).alloc (.cells #[.slice (some ⟨g, 0, none⟩) l.length cap] 242) = W) := hW.symm
  have hBW : Below w.heap.size w W := by rw [hW]; exact below_box2 w _ _
  have hkb : W.heap[w.heap.size]? = some (.cells #[.slice co cn cc, .slice to' tn tc, .string (ofBs args), .slice fo fnn fc] 374 (0, 0)) := by rw [hW, Below.heap_alloc _ _ _ (by simp [World.size_alloc])]; exact heap_alloc_new w _
  have heb : W.heap[w.heap.size + 1]? = some (.cells #[.slice (some ⟨g, 0, none⟩) l.length cap] 242 (0, 0)) := by
    rw [hW]
    have := heap_alloc_new (w.alloc (.cells #[.slice co cn cc, .slice to' tn tc, .string (ofBs args), .slice fo fnn fc] 374)) (.cells #[.slice (some ⟨g, 0, none⟩) l.length cap] 242)
    rw [World.size_alloc] at this; exact this
  have hsW : W.heap.size = w.heap.size + 2 := by rw [hW]; simp [World.size_alloc]
  have hgl := hN.lt
  have hcap := hN.cap
  have hsm := hN.small
  have hNW := hN.keep hBW
  have hKW := h.keep hBW
  have HS := sumI_le hK
  clear hW hN h
  go_enter Tryz.func269, Tryz.ntmps269
  go_wp2_with fail
  rw [HATW.out]
  clear HATW
  go_loopg [5, 6] l.length (fun gk nv iv wr => ∃ i : Nat, gk = l.length - i ∧ i ≤ l.length ∧ iv = .int .i64 i ∧ nv = .int .i64 ((l.length : Int) + sumI ((l.take i).map (szR rfs))) ∧ Below W.heap.size W wr)
  case atStart => exact ⟨0, rfl, Nat.zero_le _, rfl, by simp [sumI], Below.refl _ _⟩
  case round =>
    obtain ⟨i, hgk, hi, rfl, rfl, hB⟩ := hrel
    subst hgk
    generalize hwo : wr = wo at *
    clear hwo
    have hs := hB.size
    have hKb := (hB.block w.heap.size (by omega)).trans hkb
    have hEb := (hB.block (w.heap.size + 1) (by omega)).trans heb
    obtain ⟨⟨k0, k1, k2, k3⟩, _⟩ := cells4 hKb
    obtain ⟨e0, _⟩ := cells1 hEb
    by_cases hlt : i < l.length
    · obtain ⟨T, hT⟩ : ∃ T, T = l[i] := ⟨_, rfl⟩
      have hTi : l[i]? = some T := by rw [hT]; exact List.getElem?_eq_getElem hlt
      obtain ⟨ao, c2, is, q0, q1, _, _, _⟩ := (hNW.keep hB).at hTi
      have hgw : g < wo.heap.size := by omega
      have HT : Hid (sumI ((l.take (i + 1)).map (szR rfs)) = sumI ((l.take i).map (szR rfs)) + szR rfs T) := by
        rw [Hid, List.take_succ_eq_append_getElem hlt, List.map_append, sumI_app, ← hT]; simp [sumI]
      have hS1 := HS (l.take i)
      have hS2 := szR_le hK T
      rw [List.length_take] at hS1
      obtain ⟨n, hn⟩ : ∃ n, n = sumI ((l.take i).map (szR rfs)) := ⟨_, rfl⟩
      rw [← hn] at HT hS1 ⊢
      have hKl : w.heap.size < wo.heap.size := by omega
      have hEl : w.heap.size + 1 < wo.heap.size := by omega
      have hno1 : n ≤ 300000 := by omega
      have hno0 : 0 ≤ n := hS1.1
      have hKo := hKW.keep hB
      clear hT hTi hn HS hS1
      cases hbr : T.br with
      | false =>
        rw [hbr] at q1
        have HZ : Hid (szR rfs T = 0) := by rw [Hid, szR, hbr]; rfl
        clear hS2
        go_wp2_with fail
        go_roundg (l.length - (i + 1))
        case measure => omega
        case rel => exact ⟨i + 1, rfl, by omega, by go_num, by rw [HT.out, HZ.out]; simp, hB⟩
      | true =>
        rw [hbr] at q1
        obtain ⟨fi, hfi⟩ : ∃ fi, fi = findS (RF.list rfs) T.tx := ⟨_, rfl⟩
        have hsz : szR rfs T = fnSize rfs fi := by rw [szR, hbr, hfi]; rfl
        have HFn : ∀ x : World, Below wo.heap.size wo x → Calls Tryz.prog 187 #[.agg #[.slice co cn cc, .slice to' tn tc, .string (ofBs args), .slice fo fnn fc], .string (ofBs T.tx)] x fun e w' => e = .returned (.int .i64 (ixS fi)) ∧ Below wo.heap.size wo w' := by
          intro x hx
          rw [hfi]
          exact (refFunction_any x _ _ _ fo fnn fc rfs (hKo.keep hx).fns T.tx).mono fun e w' h => ⟨h.1, hx.trans (h.2.mono hx.size)⟩
        have HFI : Hid _ := hfi
        rw [hsz] at HT hS2
        have HSZ : Hid _ := hsz
        clear hfi hsz
        go_upto_region 7 with fail
        go_cut [7] (fun s7 wx => s7 = .int .i64 (ixS fi) ∧ Below wo.heap.size wo wx)
        case first =>
          go_region_with (go_at_call 187; refine (HFn _ ?_).mono ?_; (first | exact Below.refl _ wo | exact (Below.refl _ wo).drew); rintro e w3 ⟨rfl, hb3⟩)
          all_goals (go_wp2_with fail; go_meet)
          all_goals exact ⟨rfl, by first | exact hb3 | exact hb3.drew⟩
        case rest =>
          obtain ⟨rfl, hBc⟩ := hcut
          have hBW2 : Below W.heap.size W wc := hB.trans (hBc.mono hB.size)
          cases fi with
          | none =>
            have hix : ixS none = -1 := rfl
            have HZ : Hid (fnSize rfs none = 0) := rfl
            clear hS2
            go_wp2_with fail
            go_roundg (l.length - (i + 1))
            case measure => omega
            case rel => exact ⟨i + 1, rfl, by omega, by go_num, by rw [HT.out, HZ.out]; simp, hBW2⟩
          | some k' =>
            have hix : ixS (some k') = (k' : Int) := rfl
            obtain ⟨f, hf1, _⟩ := find_name HFI.out.symm
            rw [RF.list, List.getElem?_map] at hf1
            obtain ⟨r, hr⟩ : ∃ r, rfs[k']? = some r := by
              cases hq : rfs[k']? with
              | none => rw [hq] at hf1; cases hf1
              | some r => exact ⟨r, rfl⟩
            have hkl : k' < rfs.length := (List.getElem?_eq_some_iff.mp hr).1
            have HZ : Hid (fnSize rfs (some k') = r.fn.body.size) := by rw [Hid, fnSize, hr]
            obtain ⟨fao, fcap, hfe, hf8, hfz⟩ := (hKo.keep hBc).fns
            cases hfe
            obtain ⟨fb, rfl, hfb, hfc⟩ : ∃ b, fo = some ⟨b, 0, none⟩ ∧ b < wc.heap.size ∧ ∀ (i : Nat) (rf : RF), rfs[i]? = some rf → RFnAt wc b i rf := by
              rcases hfz with h' | h'
              · rw [h'] at hkl; simp at hkl
              · exact h'
            obtain ⟨gb, capb, csb, tysb, _, _, _, f3, _⟩ := hfc k' r hr
            rw [HZ.out] at hS2
            have kk3 := (hBc.cell (p := ⟨w.heap.size, 3, none⟩) hKl).trans k3
            have hbs0 : 0 ≤ r.fn.body.size := hS2.1
            have hbs1 : r.fn.body.size ≤ 300 := hS2.2
            clear hfc hfz hf1 hr hS2
            go_wp2_with fail
            go_roundg (l.length - (i + 1))
            case measure => omega
            case rel => exact ⟨i + 1, rfl, by omega, by go_num, by rw [HT.out, HZ.out, Int.add_assoc], hBW2⟩
    · have hil : l.take i = l := List.take_of_length_le (by omega)
      rw [hil]
      have BF : Below w.heap.size w wo := hBW.trans (hB.mono hBW.size)
      clear HS
      go_wp2_with fail
      go_ret
      exact ⟨rfl, BF⟩
end Go.Proofs.YtilfjpmeededmaaGreatDoor

namespace Go.Proofs.YtilfjpmeededmaaGreatDoor
open Go.RowKit
def loudList : List Bs := [[43], [45], [42], [47], [99, 97, 116], [110, 111, 116, 101]]
theorem nodes_ops {w : World} {g cap : Nat} {l : List Tr} {ty : Nat → Int} {cs : List Value} (h : NdIn w g cap l ty cs) {i : Nat} {t : Tr} (hi : l[i]? = some t) : t.ops.length ≤ 1000 := h.few t (List.mem_of_getElem? hi)
theorem loud_among (l : Bs) : amongB loudList l = loudS l := by
  unfold amongB loudList loudS
  simp only [List.contains_cons, List.contains_nil, Bool.or_false, List.any_cons, List.any_nil]
def QuSpec (N : Nat) : Prop := ∀ (t : Tr) (w : World) (co : Option Addr) (cn cc : Nat) (to' : Option Addr) (tn tc : Nat) (args : Bs) (fo : Option Addr) (fnn fc : Nat) (ps : Sc) (rfs : List RF) (g cap : Nat) (l : List Tr) (ty : Nat → Int) (cs : List Value) (i : Nat), SizeOf.sizeOf t ≤ N →
  KnIn w co cn cc to' tn tc (.slice fo fnn fc) ps.1 rfs → KnOK ps args rfs → NdIn w g cap l ty cs → l[i]? = some t →
  Calls Tryz.prog 270 #[.agg #[.slice co cn cc, .slice to' tn tc, .string (ofBs args), .slice fo fnn fc], .agg #[.slice (some ⟨g, 0, none⟩) l.length cap], .int .i64 i] w fun e w' => e = .returned (.bool (quT rfs t)) ∧ Below w.heap.size w w'
set_option maxHeartbeats 8000000 in
set_option maxRecDepth 100000 in
theorem qu_leaf (N : Nat) (hN : QuSpec N) (T : Tr) (w : World) (co : Option Addr) (cn cc : Nat) (to' : Option Addr) (tn tc : Nat) (args : Bs) (fo : Option Addr) (fnn fc : Nat) (ps : Sc) (rfs : List RF) (g cap : Nat) (l : List Tr) (ty : Nat → Int) (cs : List Value) (i : Nat) (hszo : ∀ y ∈ T.ops, SizeOf.sizeOf y ≤ N)
    (hKN : KnIn w co cn cc to' tn tc (.slice fo fnn fc) ps.1 rfs) (hK : KnOK ps args rfs) (hND : NdIn w g cap l ty cs) (hi : l[i]? = some T) (hbr : T.br = false) :
    Calls Tryz.prog 270 #[.agg #[.slice co cn cc, .slice to' tn tc, .string (ofBs args), .slice fo fnn fc], .agg #[.slice (some ⟨g, 0, none⟩) l.length cap], .int .i64 i] w fun e w' => e = .returned (.bool (quT rfs T)) ∧ Below w.heap.size w w' := by
  obtain ⟨ao, c2, is, q0, q1, q2, q3, hisl, hiso, hvn⟩ := hND.at hi
  rw [hbr] at q1
  have hil := (List.getElem?_eq_some_iff.mp hi).1
  have hgl := hND.lt
  have hcap := hND.cap
  have hsm := hND.small
  have HQT : Hid (quT rfs T = quTs rfs T.ops) := by
    obtain ⟨k, tx, br, ops⟩ := T
    have : br = false := hbr
    subst this
    rw [Hid, quT]; rfl
  have hol : T.ops.length ≤ 1000 := by
    have h1 := nodes_ops hND hi
    omega
  have HVN : Hid _ := hvn
  have HISL : Hid _ := hisl
  have HISO : Hid _ := hiso
  have HKN : Hid _ := hKN
  have HND : Hid _ := hND
  obtain ⟨W, hW⟩ : ∃ W, W = ((w.alloc (.cells #[.slice co cn cc, .slice to' tn tc, .string (ofBs args), .slice fo fnn fc] 374)).alloc (.cells #[.slice (some ⟨g, 0, none⟩) l.length cap] 242)).alloc (.cells #[.string (ofBs T.tx), .bool false, .slice ao T.ops.length c2, .int .u8 (ty i)] 359) := ⟨_, rfl⟩
  have HATW : Hid (((w.alloc (.cells #[.slice co cn cc, .slice to' tn tc, .string (ofBs args), .slice fo fnn fc] 374)).alloc (.cells #[.slice (some ⟨g, 0, none⟩) l.length cap] 242)).alloc (.cells #[.string (ofBs T.tx), .bool false, .slice ao T.ops.length c2, .int .u8 (ty i)] 359) = W) := hW.symm
  have hBW : Below w.heap.size w W := by rw [hW]; exact box3_below w _ _ _
  have h3 := res_box3 (w := w) (o := (.cells #[.slice co cn cc, .slice to' tn tc, .string (ofBs args), .slice fo fnn fc] 374)) (o' := (.cells #[.slice (some ⟨g, 0, none⟩) l.length cap] 242)) (o2 := (.cells #[.string (ofBs T.tx), .bool false, .slice ao T.ops.length c2, .int .u8 (ty i)] 359)) (Below.refl _ _)
  rw [← hW] at h3
  have hsW : W.heap.size = w.heap.size + 3 := by rw [hW]; simp [World.size_alloc]
  have HKEEP : ∀ x : World, Below W.heap.size W x → (x.cell? ⟨w.heap.size + 2, 0, none⟩ = some (.string (ofBs T.tx)) ∧ x.cell? ⟨w.heap.size + 2, 2, none⟩ = some (.slice ao T.ops.length c2)) ∧ (x.cell? ⟨w.heap.size, 0, none⟩ = some (.slice co cn cc) ∧ x.cell? ⟨w.heap.size, 1, none⟩ = some (.slice to' tn tc) ∧ x.cell? ⟨w.heap.size, 2, none⟩ = some (.string (ofBs args)) ∧ x.cell? ⟨w.heap.size, 3, none⟩ = some (.slice fo fnn fc)) ∧ x.cell? ⟨w.heap.size + 1, 0, none⟩ = some (.slice (some ⟨g, 0, none⟩) l.length cap) := by
    intro x hx
    have b0 := (hx.block w.heap.size (by omega)).trans h3.1
    have b1 := (hx.block (w.heap.size + 1) (by omega)).trans h3.2.1
    have b2 := (hx.block (w.heap.size + 2) (by omega)).trans h3.2.2.1
    exact ⟨⟨(blk_at b2).trans rfl, (blk_at b2).trans rfl⟩, ⟨(blk_at b0).trans rfl, (blk_at b0).trans rfl, (blk_at b0).trans rfl, (blk_at b0).trans rfl⟩, (blk_at b1).trans rfl⟩
  clear hW h3
  clear hvn hisl hiso hKN hND hi
  go_enter Tryz.func270, Tryz.ntmps270
  go_wp2_with fail
  rw [HATW.out]
  clear HATW q0 q1 q2 q3
  go_loopg [10] T.ops.length (fun gk jv wx => ∃ j : Nat, gk = T.ops.length - j ∧ j ≤ T.ops.length ∧ jv = .int .i64 j ∧ Below W.heap.size W wx ∧ Hid (quTs rfs T.ops = (T.ops.drop j).all (quT rfs)))
  case atStart => exact ⟨0, rfl, Nat.zero_le _, rfl, Below.refl _ _, by rw [Hid, quTs_all]; rfl⟩
  case round =>
    obtain ⟨j, hgk, hj, rfl, hBj, HQ⟩ := hrel
    subst hgk
    generalize hwj : wr = wj at *
    clear hwj
    have hBj' : Below W.heap.size W wj := (Below.refl W.heap.size W).trans (hBj.mono (Below.refl W.heap.size W).size)
    obtain ⟨⟨x0, x2⟩, ⟨y0, y1, y2, y3⟩, y4⟩ := HKEEP wj hBj'
    have hsj := hBj'.size
    have hKj : w.heap.size < wj.heap.size := by omega
    have hEj : w.heap.size + 1 < wj.heap.size := by omega
    have hXj : w.heap.size + 2 < wj.heap.size := by omega
    by_cases hlt : j < T.ops.length
    · obtain ⟨b, rfl, hbl, hc2, hcell⟩ : ∃ b, ao = some ⟨b, 0, none⟩ ∧ b < w.heap.size ∧ T.ops.length ≤ c2 ∧ ∀ (m q : Nat), is[m]? = some q → w.cell? ⟨b, m, none⟩ = some (.int .i64 (q : Int)) := by
        rcases HVN.out with h | h
        · rw [h] at hlt; simp at hlt
        · exact h
      have hq := List.getElem?_eq_getElem (l := is) (i := j) (by have := HISL.out; omega)
      obtain ⟨hqi, hql⟩ := HISO.out j _ hq
      have a0 : wj.cell? ⟨b, j, none⟩ = some (.int .i64 ((is[j]'(by have := HISL.out; omega) : Nat) : Int)) := ((hBW.trans (hBj'.mono hBW.size)).cell (p := ⟨b, j, none⟩) hbl).trans (hcell j _ hq)
      have hbx : b < wj.heap.size := by have := hBW.size; omega
      have hql2 : l[is[j]'(by have := HISL.out; omega)]? = some T.ops[j] := by rw [hql]; exact List.getElem?_eq_getElem hlt
      have hszj : SizeOf.sizeOf T.ops[j] ≤ N := hszo _ (List.getElem_mem hlt)
      have HC : ∀ x : World, Below wj.heap.size wj x → Calls Tryz.prog 270 #[.agg #[.slice co cn cc, .slice to' tn tc, .string (ofBs args), .slice fo fnn fc], .agg #[.slice (some ⟨g, 0, none⟩) l.length cap], .int .i64 ((is[j]'(by have := HISL.out; omega) : Nat) : Int)] x fun e w' => e = .returned (.bool (quT rfs T.ops[j])) ∧ Below wj.heap.size wj w' := by
        intro x hx
        have hxw : Below w.heap.size w x := (hBW.trans (hBj'.mono hBW.size)).trans (hx.mono (hBW.trans (hBj'.mono hBW.size)).size)
        exact (hN T.ops[j] x co cn cc to' tn tc args fo fnn fc ps rfs g cap l ty cs _ hszj (HKN.out.keep hxw) hK (HND.out.keep hxw) hql2).mono fun e w' h => ⟨h.1, hx.trans (h.2.mono hx.size)⟩
      have HD : Hid ((T.ops.drop j).all (quT rfs) = (quT rfs T.ops[j] && (T.ops.drop (j + 1)).all (quT rfs))) := by rw [Hid, List.drop_eq_getElem_cons hlt, List.all_cons]
      obtain ⟨qv, hqv⟩ : ∃ q, q = quT rfs T.ops[j] := ⟨_, rfl⟩
      rw [← hqv] at HC HD
      obtain ⟨iq, hiq⟩ : ∃ q, q = is[j]'(by have := HISL.out; omega) := ⟨_, rfl⟩
      rw [← hiq] at HC a0
      clear hqv hiq hcell hq hqi hql hql2 hszj
      go_upto_region 10 with fail
      go_cut [11] (fun s11 wx => s11 = .bool qv ∧ Below wj.heap.size wj wx)
      case first =>
        go_region_with (go_at_call 270; refine (HC _ ?_).mono ?_; (first | exact Below.refl _ wj | exact (Below.refl _ wj).drew); rintro e w3 ⟨rfl, hb3⟩)
        all_goals (go_wp2_with fail; go_meet)
        all_goals exact ⟨rfl, by first | exact hb3 | exact hb3.drew⟩
      case rest =>
        obtain ⟨rfl, hBc⟩ := hcut
        have BF : Below w.heap.size w wc := (hBW.trans (hBj'.mono hBW.size)).trans (hBc.mono (hBW.trans (hBj'.mono hBW.size)).size)
        have BN : Below W.heap.size W wc := hBj.trans (hBc.mono hBj.size)
        cases qv with
        | true =>
          have HQ2 : Hid (quTs rfs T.ops = (T.ops.drop (j + 1)).all (quT rfs)) := by rw [Hid, HQ.out, HD.out]; rfl
          go_wp2_with fail
          go_roundg (T.ops.length - (j + 1))
          case measure => omega
          case rel => exact ⟨j + 1, rfl, by omega, by go_num, BN, HQ2⟩
        | false =>
          have HQ2 : Hid (quT rfs T = false) := by rw [Hid, HQT.out, HQ.out, HD.out]; rfl
          go_wp2_with fail
          go_ret
          exact ⟨ret_bool HQ2.out.symm, BF⟩
    · have HQ2 : Hid (quT rfs T = true) := by rw [Hid, HQT.out, HQ.out, List.drop_of_length_le (by omega)]; rfl
      have BF : Below w.heap.size w wj := hBW.trans (hBj'.mono hBW.size)
      go_wp2_with fail
      go_ret
      exact ⟨ret_bool HQ2.out.symm, BF⟩
end Go.Proofs.YtilfjpmeededmaaGreatDoor

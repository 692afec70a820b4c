import Derived.Test.YtilfjpmeededmaaGreatDoorRtMZ
import Derived.Test.YtilfjpmeededmaaGreatDoorRefVZ
import Derived.Test.YtilfjpmeededmaaGreatDoorBaBZ
set_option linter.unusedVariables false
set_option linter.unusedSimpArgs false
namespace Go.Proofs.YtilfjpmeededmaaGreatDoor
open Go.RowKit
def KRead (w : World) (ps : Sc) (fns : List Fn) (s : Bs) (e : Ending) (w' : World) : Prop := Below w.heap.size w w' ∧
  ((∃ n : Int, readS atoiS ps fns s = .error n ∧ n ≠ 0 ∧ e = .returned (.tuple #[.agg #[.slice none 0 0], .int .u8 0, .int .i64 n])) ∨
   (∃ (x : Ex) (t : Tr) (g cap : Nat) (cs : List Value), readS atoiS ps fns s = .ok x ∧ parseS s = some t ∧ typS atoiS ps fns t = .ok x ∧ (∀ y ∈ post t, Lone y) ∧ e = .returned (.tuple #[.agg #[.slice (some ⟨g, 0, none⟩) (post t).length cap], .int .u8 (ltI x.ty), .int .i64 0]) ∧ w.heap.size ≤ g ∧ NdIn w' g cap (post t) (tysTo atoiS ps fns (post t) (post t).length) cs))
theorem NdIn.other {w x : World} {g cap : Nat} {l : List Tr} {ty : Nat → Int} {cs : List Value} (h : NdIn w g cap l ty cs) {b : Nat} {a0 : Value} {fz : Nat × Nat} (hb : w.heap[b]? = some (.cells #[a0] 242 fz)) (hk : ∀ q, q ≠ b → x.heap[q]? = w.heap[q]?) : NdIn x g cap l ty cs := by
  have hne : ∀ (T : TypeId) (cur : Array Value) (f : Nat × Nat) (q : Nat), w.heap[q]? = some (.cells cur T f) → T ≠ 242 → q ≠ b := by
    intro T cur f q hq hT e
    subst e; rw [hb] at hq; cases hq; exact hT rfl
  refine ⟨owns_keep h.own fun q hq => ?_, fun j t hj => ?_, h.small, h.few⟩
  · rcases h.own.2 with ⟨h', _⟩ | ⟨_, _, _, h', _, hr, _⟩
    · cases h'
    · cases h'; cases hq; exact hk _ (hne _ _ _ _ hr (by decide))
  · obtain ⟨v, is, h0, h1, h2, h3, h4, h5⟩ := h.nodes j t hj
    refine ⟨v, is, h0, h1, h2, h3, owns_keep h4 fun q hq => ?_, h5⟩
    rcases h4.2 with ⟨rfl, _⟩ | ⟨_, _, _, rfl, _, hr, _⟩
    · cases hq
    · cases hq; exact hk _ (hne _ _ _ _ hr (by decide))
theorem NdIn.drew {w : World} {g cap : Nat} {l : List Tr} {ty : Nat → Int} {cs : List Value} (h : NdIn w g cap l ty cs) : NdIn w.drew g cap l ty cs := ⟨h.own, h.nodes, h.small, h.few⟩
theorem below_grownR {w x y : World} {g : Nat} (h : Below w.heap.size w x) (hg : w.heap.size ≤ g) (hy : x.grownBy y (some g)) : Below w.heap.size w y :=
  ⟨hy.os.trans h.os, hy.tape.trans h.tape, hy.output.trans h.output, Nat.le_trans h.size hy.size, fun q hq => (hy.block q (by have := h.size; omega) (by simp; omega)).trans (h.block q hq)⟩
set_option maxHeartbeats 8000000 in
set_option maxRecDepth 100000 in
theorem refRead_any (w : World) (co : Option Addr) (cn cc : Nat) (to' : Option Addr) (tn tc : Nat) (args : Bs) (fo : Option Addr) (fnn fc : Nat) (ps : Sc) (rfs : List RF) (h : KnIn w co cn cc to' tn tc (.slice fo fnn fc) ps.1 rfs) (hargs : args.length ≤ maxLen) (hK : KnOK ps args rfs) (s : Bs) :
    Calls Tryz.prog 268 #[.agg #[.slice co cn cc, .slice to' tn tc, .string (ofBs args), .slice fo fnn fc], .string (ofBs s)] w fun e w' => KRead w ps (RF.list rfs) s e w' := by
  have HP : ∀ x : World, Calls Tryz.prog 108 #[.string (ofBs s)] x fun e w' => Prsd x (parseS s) e w' := by
    intro x; have := refParse_any (ofBs s) x; rw [ofBs_toList] at this; exact this
  go_enter Tryz.func268, Tryz.ntmps268
  go_wp2_with (go_at_call 108; refine (HP _).mono ?_)
  clear HP
  rintro e w2 ⟨hb2, hres⟩
  obtain ⟨hRb, B2, hs2⟩ := res_box2 hb2
  have hKb : w2.heap[w.heap.size]? = some (.cells #[.slice co cn cc, .slice to' tn tc, .string (ofBs args), .slice fo fnn fc] 374 (0, 0)) := by
    rw [hb2.block _ (by simp only [World.size_alloc]; omega), Below.heap_alloc _ _ _ (by simp only [World.size_alloc]; omega)]; exact heap_alloc_new w _
  obtain ⟨⟨k0, k1, k2, k3⟩, _⟩ := cells4 hKb
  obtain ⟨z0, z0f⟩ := cells1 hRb
  have hKl : w.heap.size < w2.heap.size := by omega
  have hRl : w.heap.size + 1 < w2.heap.size := by omega
  rcases hres with ⟨ho, ao, m, cap, rfl⟩ | ⟨g, cap, n, cs, t, ho, hn, rfl, hown, hrep⟩
  · have HR : Hid (readS atoiS ps (RF.list rfs) s = .error 1) := by rw [Hid, readS, ho]
    have q0 := ((below_box (w2.setCell ⟨w.heap.size + 1, 0, none⟩ (.slice none 0 0)) (.cells #[.slice ao m cap] 242)).cell (p := ⟨w.heap.size + 1, 0, none⟩) (by simp [World.setCell]; omega)).trans (new1_cell hRb)
    clear ho hb2 hRb hKb
    go_wp2_with fail
    exact bodyPost_ret (v := .tuple #[.agg #[.slice none 0 0], .int .u8 0, .int .i64 1]) (by simp [results, Tryz.results268, go_sem, q0]) rfl ⟨(B2.setCell (p := ⟨w.heap.size + 1, 0, none⟩) (by simp) _).alloc (by simp [World.setCell]; omega) _, .inl ⟨1, HR.out, by decide, rfl⟩⟩
  · obtain ⟨hnodes, hlen⟩ := hrep.nodes
    have htexts := hrep.texts
    rw [Nat.zero_add] at hlen
    rw [← hlen] at hown ⊢
    have hpl : (post t).length ≤ 1000 := by omega
    have hgl := hown.lt g rfl
    have hgw : w.heap.size ≤ g := by have := hgl.1; simp only [World.size_alloc] at this; omega
    have hgR : w.heap.size + 1 < g := by have := hgl.1; simp only [World.size_alloc] at this; omega
    have hown0 : w2.ownsRow 0 359 4 (.slice (some ⟨g, 0, none⟩) (post t).length cap) (post t).length cs := owns_base hown fun _ _ => Nat.zero_le _
    have hbx3 := below_box w2 (.cells #[.slice (some ⟨g, 0, none⟩) (post t).length cap] 242)
    have HC := refWrong_any atoiS w (w2.alloc (.cells #[.slice (some ⟨g, 0, none⟩) (post t).length cap] 242)) co cn cc to' tn tc args fo fnn fc ps rfs h hargs hK (B2.trans (hbx3.mono B2.size)) g cap hgw t cs (owns_keep hown0 fun q hq => hbx3.block q (hown0.lt q hq).2) (hnodes.keep hbx3) htexts hpl
    have hLone : ∀ y ∈ post t, Lone y := by
      intro y hy
      obtain ⟨j, hj⟩ := List.getElem?_of_mem hy
      obtain ⟨_, _, _, _, _, _, _, _, _, h7, _⟩ := hnodes j y hj
      exact h7
    have hkb3 := (hbx3.block _ hKl).trans hKb
    have hrb3 := (hbx3.block _ hRl).trans hRb
    have heb3 := heap_alloc_new w2 (.cells #[.slice (some ⟨g, 0, none⟩) (post t).length cap] 242)
    have hBw3 : Below w.heap.size w (w2.alloc (.cells #[.slice (some ⟨g, 0, none⟩) (post t).length cap] 242)) := B2.trans (hbx3.mono B2.size)
    have HLEN : Hid _ := hlen
    have HKN : Hid _ := h
    have HLO : Hid _ := hLone
    have HKB : Hid _ := hkb3
    have HRB : Hid _ := hrb3
    have HEB : Hid _ := heb3
    have HBW3 : Hid _ := hBw3
    have hpos : 0 < (post t).length := List.length_pos_of_mem (List.mem_of_getElem? (post_last t))
    have hread : readS atoiS ps (RF.list rfs) s = sizedS (typS atoiS ps (RF.list rfs) t) := by rw [readS, ho]
    have HRD : Hid _ := hread
    have HPS : Hid _ := ho
    have HFEW : Hid (∀ y ∈ post t, y.ops.length ≤ 1000) := fun y hy => by have := ops_le_post hy; omega
    clear hb2 hRb hKb hown hrep hnodes hlen h hLone hkb3 hrb3 heb3 hBw3 hread ho htexts hown0 hbx3
    go_wp2_with (go_at_call 343; refine HC.mono ?_)
    clear HC
    rintro e w4 ⟨hg4, hres⟩
    have B4 : Below w.heap.size w w4 := below_grownR HBW3.out hgw hg4
    have hs4 := hg4.size
    rw [World.size_alloc] at hs4
    have hkb4 := (hg4.block w.heap.size (by simp [World.size_alloc]; omega) (by simp; omega)).trans HKB.out
    have hrb4 := (hg4.block (w.heap.size + 1) (by simp [World.size_alloc]; omega) (by simp; omega)).trans HRB.out
    have heb4 := (hg4.block w2.heap.size (by simp [World.size_alloc]) (by simp; omega)).trans HEB.out
    obtain ⟨⟨k0, k1, k2, k3⟩, _⟩ := cells4 hkb4
    obtain ⟨r0, r0f⟩ := cells1 hrb4
    obtain ⟨e0, e0f⟩ := cells1 heb4
    have hKl4 : w.heap.size < w4.heap.size := by omega
    have hRl4 : w.heap.size + 1 < w4.heap.size := by omega
    have hEl4 : w2.heap.size < w4.heap.size := by omega
    rcases hres with ⟨n', hty, hn', rfl⟩ | ⟨x, cs', hty, rfl, hown4, hnod4⟩
    · have HR : Hid (readS atoiS ps (RF.list rfs) s = .error n') := by rw [Hid, HRD.out, hty]; rfl
      have hne : (n' == 0) = false := by simpa using hn'
      clear hkb4 hrb4 heb4 hty hg4
      go_wp2_with fail
      exact bodyPost_ret (v := .tuple #[.agg #[.slice none 0 0], .int .u8 0, .int .i64 n']) (by simp [results, Tryz.results268, go_sem, r0]) rfl ⟨B4.setCell (p := ⟨w.heap.size + 1, 0, none⟩) (by simp) _, .inl ⟨n', HR.out, hn', rfl⟩⟩
    · have hND : NdIn w4 g cap (post t) (tysTo atoiS ps (RF.list rfs) (post t) (post t).length) cs' := ⟨hown4, hnod4, hpl, HFEW.out⟩
      have HSz := refSize_any w4 co cn cc to' tn tc args fo fnn fc ps rfs (HKN.out.keep B4) hK g cap (post t) _ cs' hND
      have hsz : ((post t).length : Int) + sumI ((post t).map (szR rfs)) = x.size := by
        rw [post_size atoiS ps (RF.list rfs) t x HLO.out hty]
        congr 2
        exact List.map_congr_left fun y _ => szR_same hK y
      rw [hsz] at HSz
      have hlast : w4.cell? ⟨g, ((post t).length - 1) * 4 + 3, none⟩ = some (.int .u8 (ltI x.ty)) := by
        obtain ⟨_, _, _, _, _, _, q3, _⟩ := hND.at (post_last t)
        rw [q3, tysTo, if_pos (by omega), post_last t]
        show some (Value.int .u8 (tyR (typS atoiS ps (RF.list rfs) t))) = _
        rw [hty]; rfl
      obtain ⟨sz, hszv⟩ : ∃ z, z = x.size := ⟨_, rfl⟩
      rw [← hszv] at HSz
      have HSV : Hid _ := hszv
      have HTY : Hid _ := hty
      have HND4 : Hid _ := hND
      have hcap := hND.cap
      obtain ⟨lt, hlt'⟩ : ∃ z, z = ltI x.ty := ⟨_, rfl⟩
      rw [← hlt'] at hlast
      have HLT : Hid _ := hlt'
      have HR4 : Hid (w4.heap[w.heap.size + 1]? = some (.cells #[.slice none 0 0] 242 (0, 0))) := hrb4
      clear hsz hszv hkb4 hrb4 heb4 hty hg4 hown4 hnod4 hND hlt'
      go_wp2_with (go_at_call 269; refine HSz.mono ?_)
      rintro e w5 ⟨rfl, hb5⟩
      have B5 : Below w.heap.size w w5 := B4.trans (hb5.mono B4.size)
      have e5 := (hb5.cell (p := ⟨w2.heap.size, 0, none⟩) hEl4).trans e0
      have e5f := (hb5.block w2.heap.size hEl4)
      have r5 := (hb5.cell (p := ⟨w.heap.size + 1, 0, none⟩) hRl4).trans r0
      have r5f : w5.frozen? ⟨w.heap.size + 1, 0, none⟩ = false := (World.frozen?_of_block (hb5.block (w.heap.size + 1) hRl4)).trans r0f
      have l5 := (hb5.cell (p := ⟨g, ((post t).length - 1) * 4 + 3, none⟩) (by show g < _; have := hgl.2; omega)).trans hlast
      have hRl5 : w.heap.size + 1 < w5.heap.size := by have := hb5.size; omega
      have hg5 : g < w5.heap.size := by have := hb5.size; have := hgl.2; omega
      have HR5 : Hid (w5.heap[w.heap.size + 1]? = some (.cells #[.slice none 0 0] 242 (0, 0))) := (hb5.block (w.heap.size + 1) hRl4).trans HR4.out
      clear HSz k0 k1 k2 k3 r0 e0 hlast e5f
      by_cases h300 : 300 < sz
      · have HR : Hid (readS atoiS ps (RF.list rfs) s = .error 4) := by rw [Hid, HRD.out, HTY.out, sizedS, if_pos (by rw [← HSV.out]; exact h300)]
        have hd : decide (300 < sz) = true := decide_eq_true h300
        clear h300
        go_wp2_with fail
        exact bodyPost_ret (v := .tuple #[.agg #[.slice none 0 0], .int .u8 0, .int .i64 4]) (by simp [results, Tryz.results268, go_sem, r5]) rfl ⟨B5.setCell (p := ⟨w.heap.size + 1, 0, none⟩) (by simp) _, .inl ⟨4, HR.out, by decide, rfl⟩⟩
      · have HR : Hid (readS atoiS ps (RF.list rfs) s = .ok x) := by rw [Hid, HRD.out, HTY.out, sizedS, if_neg (by rw [← HSV.out]; exact h300)]
        have hd : decide (300 < sz) = false := decide_eq_false h300
        clear h300
        obtain ⟨pm, hpm⟩ : ∃ pm, (post t).length = pm + 1 := ⟨(post t).length - 1, by omega⟩
        rw [hpm, Nat.add_sub_cancel] at l5
        rw [hpm] at e5 hcap hpl ⊢
        have HPM : Hid _ := hpm
        clear hpm hpos
        have q5 := new1_cell (v := .slice (some ⟨g, 0, none⟩) (pm + 1) cap) HR5.out
        go_wp2_with fail
        go_region
        all_goals (try go_wp2_with fail)
        all_goals refine bodyPost_ret (v := .tuple #[.agg #[.slice (some ⟨g, 0, none⟩) (pm + 1) cap], .int .u8 lt, .int .i64 0]) (by simp [results, Tryz.results268, go_sem, q5]) rfl ?_
        all_goals
          have B6 := B5.setCell (p := ⟨w.heap.size + 1, 0, none⟩) (by simp) (.slice (some ⟨g, 0, none⟩) (pm + 1) cap)
          have N6 := (HND4.out.keep hb5).other HR5.out (x := w5.setCell ⟨w.heap.size + 1, 0, none⟩ (.slice (some ⟨g, 0, none⟩) (pm + 1) cap)) fun q hq => Below.heap_setCell _ _ _ _ hq
          exact ⟨by first | exact B6 | exact B6.drew, .inr ⟨x, t, g, cap, _, HR.out, HPS.out, HTY.out, HLO.out, by rw [HPM.out, ← HLT.out], hgw, by first | exact N6 | exact N6.drew⟩⟩
end Go.Proofs.YtilfjpmeededmaaGreatDoor

namespace Go.Proofs.YtilfjpmeededmaaGreatDoor
open Go.RowKit
abbrev RFG := RF × Nat × Nat
def rfCell (e : RFG) : List Value := [.string (ofBs e.1.fn.name), .string (ofBs e.1.args), .slice (some ⟨e.2.1, 0, none⟩) (post e.1.t).length e.2.2, .int .i64 e.1.fn.body.size, .bool e.1.fn.body.quiet]
def rfCells (l : List RFG) : List Value := l.flatMap rfCell
theorem rfCells_app (a b : List RFG) : rfCells (a ++ b) = rfCells a ++ rfCells b := by simp [rfCells]
theorem rfCells_get : ∀ (l : List RFG) (i : Nat) (e : RFG) (j : Nat), l[i]? = some e → j < 5 → (rfCells l)[i * 5 + j]? = (rfCell e)[j]?
  | [], i, r, j, h, _ => by simp at h
  | a :: rs, 0, r, j, h, hj => by
    simp at h; subst h
    rw [Nat.zero_mul, Nat.zero_add, rfCells, List.flatMap_cons, List.getElem?_append_left (by simp [rfCell]; omega)]
  | a :: rs, i + 1, r, j, h, hj => by
    have := rfCells_get rs i r j (by simpa using h) hj
    have h5 : (rfCell a).length = 5 := by simp [rfCell]
    rw [rfCells, List.flatMap_cons, List.getElem?_append_right (by rw [h5]; omega), h5, show (i + 1) * 5 + j - 5 = i * 5 + j by omega]
    exact this
def BodyAt (w : World) (e : RFG) : Prop := ∃ (cs : List Value) (tys : Nat → Int), NdIn w e.2.1 e.2.2 (post e.1.t) tys cs ∧ tys ((post e.1.t).length - 1) = ltI e.1.fn.body.ty
theorem BodyAt.keep {w x : World} {e : RFG} (h : BodyAt w e) (hb : Below w.heap.size w x) : BodyAt x e := by
  obtain ⟨cs, tys, h1, h2⟩ := h; exact ⟨cs, tys, h1.keep hb, h2⟩
theorem rfnsIn_own {w : World} {b : Nat} {l : List RFG} {fo : Option Addr} {fnn fc : Nat} (h : w.ownsRow b 377 5 (.slice fo fnn fc) l.length (rfCells l)) (h8 : l.length ≤ 8) (hB : ∀ e ∈ l, BodyAt w e) : RFnsIn w (.slice fo fnn fc) (l.map (·.1)) := by
  rcases h.2 with ⟨e, h0⟩ | ⟨g, cap, cur, e, _, _, _⟩
  · cases e
    exact ⟨none, 0, by rw [List.length_map, h0], by rw [List.length_map]; exact h8, .inl (by rw [List.length_eq_zero_iff.mp h0]; rfl)⟩
  · cases e
    refine ⟨_, _, by rw [List.length_map], by rw [List.length_map]; exact h8, .inr ⟨g, rfl, (h.lt g rfl).2, fun i rf hi => ?_⟩⟩
    rw [List.getElem?_map] at hi
    cases he : l[i]? with
    | none => rw [he] at hi; cases hi
    | some e =>
      rw [he] at hi
      have hrf : e.1 = rf := Option.some.inj hi
      subst hrf
      have hil := (List.getElem?_eq_some_iff.mp he).1
      obtain ⟨cs, tys, hN, hT⟩ := hB e (List.mem_of_getElem? he)
      have hc : ∀ j, j < 5 → w.cell? ⟨g, i * 5 + j, none⟩ = (rfCell e)[j]? := fun j hj => (h.cellAt _ (by omega)).trans (rfCells_get l i e j he hj)
      exact ⟨e.2.1, e.2.2, cs, tys, hc 0 (by omega), hc 1 (by omega), hc 2 (by omega), hc 3 (by omega), hc 4 (by omega), hN.small, hN.own, hN.nodes, hT⟩
structure FnOK (rfs : List RF) : Prop where
  fty : ∀ r ∈ rfs, isTyp r.fn.body.ty
  fargs : ∀ r ∈ rfs, r.fn.args = typesL r.args ∧ r.args.all tyLet = true
  free : ∀ r ∈ rfs, builtS r.fn.name = false
  sizes : ∀ r ∈ rfs, 0 ≤ r.fn.body.size ∧ r.fn.body.size ≤ 300
theorem FnOK.known {rfs : List RF} (h : FnOK rfs) {args : Bs} (ha : args.all tyLet = true) {cols : List (Bs × Int)} (hc : ∀ c ∈ cols, isTyp c.2) (hw : ∀ c ∈ cols, colS c.1 = true) : KnOK (cols, typesL args) args rfs :=
  ⟨rfl, ha, hc, hw, h.fty, h.fargs, h.free, h.sizes⟩
def RBaseF (w : World) (xb : Nat) (l : List RFG) : Prop := ∃ fo fnn fc, w.heap[xb]? = some (.cells #[.slice fo fnn fc, .slice none 0 0, .slice none 0 0] 370 (0, 0)) ∧ w.ownsRow (xb + 1) 377 5 (.slice fo fnn fc) l.length (rfCells l) ∧ l.length ≤ 8 ∧ ∀ e ∈ l, BodyAt w e
theorem col_letter (c : UInt8) : (!(typeB c.toNat == 0)) = tyLet c := by
  cases h : tyLet c with
  | true =>
    have := (typeB_let h).1
    have e : (typeB c.toNat == 0) = false := by
      rw [beq_eq_false_iff_ne]
      rcases this with e | e | e <;> rw [e] <;> decide
    rw [e]; rfl
  | false =>
    unfold tyLet at h
    simp only [Bool.or_eq_false_iff, beq_eq_false_iff_ne] at h
    have e1 : ¬ ((c.toNat : Int) = 110) := fun e => h.1.1 (UInt8.toNat_inj.mp (by simpa using Int.ofNat.inj e))
    have e2 : ¬ ((c.toNat : Int) = 116) := fun e => h.1.2 (UInt8.toNat_inj.mp (by simpa using Int.ofNat.inj e))
    have e3 : ¬ ((c.toNat : Int) = 98) := fun e => h.2 (UInt8.toNat_inj.mp (by simpa using Int.ofNat.inj e))
    simp [typeB, e1, e2, e3]
theorem types_same (l : Bs) : areTypesS l = (decide (l.length ≤ 4) && l.all tyLet) := by
  unfold areTypesS typesL
  congr 1
  induction l with
  | nil => rfl
  | cons c cs ih =>
    simp only [List.map_cons, List.any_cons, List.all_cons, Bool.not_or]
    rw [ih]
    congr 1
    have := col_letter c
    exact this
theorem free_same {fns : List Fn} (l : Bs) : freeS fns l = (wordS l && !valS l && !amongB wordList l && (findS fns l).isNone) := by
  unfold freeS
  cases hw : wordS l with
  | false => rfl
  | true => rw [built_parts, (word_facts hw).1]; rfl
end Go.Proofs.YtilfjpmeededmaaGreatDoor

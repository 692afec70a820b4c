import Derived.Test.YtilfjpmeededmaaGreatDoorRtCZ
import Derived.Test.YtilfjpmeededmaaGreatDoorTyMZ
set_option linter.unusedVariables false
set_option linter.unusedSimpArgs false
namespace Go.Proofs.YtilfjpmeededmaaGreatDoor
open Go.RowKit
def ltI (t : Int) : Int := if t = 1 then 110 else if t = 2 then 116 else if t = 3 then 98 else 0
structure RF where
  fn : Fn
  args : Bs
  t : Tr
def RFnAt (w : World) (b i : Nat) (rf : RF) : Prop := ∃ (g cap : Nat) (cs : List Value) (tys : Nat → Int),
  w.cell? ⟨b, i * 5, none⟩ = some (.string (ofBs rf.fn.name)) ∧ w.cell? ⟨b, i * 5 + 1, none⟩ = some (.string (ofBs rf.args)) ∧ w.cell? ⟨b, i * 5 + 2, none⟩ = some (.slice (some ⟨g, 0, none⟩) (post rf.t).length cap) ∧
  w.cell? ⟨b, i * 5 + 3, none⟩ = some (.int .i64 rf.fn.body.size) ∧ w.cell? ⟨b, i * 5 + 4, none⟩ = some (.bool rf.fn.body.quiet) ∧ (post rf.t).length ≤ 1000 ∧
  w.ownsRow 0 359 4 (.slice (some ⟨g, 0, none⟩) (post rf.t).length cap) (post rf.t).length cs ∧ Nodes w (fun _ => True) cs 0 (post rf.t) tys ∧ tys ((post rf.t).length - 1) = ltI rf.fn.body.ty
def RFnsIn (w : World) (v : Value) (rfs : List RF) : Prop := ∃ ao cap, v = .slice ao rfs.length cap ∧ rfs.length ≤ 8 ∧ (rfs = [] ∨ ∃ b, ao = some ⟨b, 0, none⟩ ∧ b < w.heap.size ∧ ∀ (i : Nat) (rf : RF), rfs[i]? = some rf → RFnAt w b i rf)
theorem NodeIs.keep {w x : World} {S : Nat → Prop} {cs : List Value} {lo : Nat} {l : List Tr} {ty : Nat → Int} {j : Nat} {t : Tr} (h : NodeIs w S cs lo l ty j t) (hb : Below w.heap.size w x) : NodeIs x S cs lo l ty j t := by
  obtain ⟨v, is, h0, h1, h2, h3, h4, h5⟩ := h
  exact ⟨v, is, h0, h1, h2, h3, owns_keep h4 fun g hg => hb.block g (h4.lt g hg).2, h5⟩
theorem Nodes.keep {w x : World} {S : Nat → Prop} {cs : List Value} {lo : Nat} {l : List Tr} {ty : Nat → Int} (h : Nodes w S cs lo l ty) (hb : Below w.heap.size w x) : Nodes x S cs lo l ty := fun j t hj => (h j t hj).keep hb
theorem RFnAt.keep {w x : World} {b i : Nat} {rf : RF} (h : RFnAt w b i rf) (hl : b < w.heap.size) (hb : Below w.heap.size w x) : RFnAt x b i rf := by
  obtain ⟨g, cap, cs, tys, h0, h1, h2, h3, h4, h5, h6, h7, h8⟩ := h
  exact ⟨g, cap, cs, tys, (hb.cell (p := ⟨b, _, none⟩) hl).trans h0, (hb.cell (p := ⟨b, _, none⟩) hl).trans h1, (hb.cell (p := ⟨b, _, none⟩) hl).trans h2, (hb.cell (p := ⟨b, _, none⟩) hl).trans h3, (hb.cell (p := ⟨b, _, none⟩) hl).trans h4, h5, owns_keep h6 fun g hg => hb.block g (h6.lt g hg).2, h7.keep hb, h8⟩
theorem RFnsIn.keep {w x : World} {v : Value} {rfs : List RF} (h : RFnsIn w v rfs) (hb : Below w.heap.size w x) : RFnsIn x v rfs := by
  obtain ⟨ao, cap, h1, h2, h3⟩ := h
  refine ⟨ao, cap, h1, h2, ?_⟩
  rcases h3 with h | ⟨b, e, hl, hc⟩
  · exact .inl h
  · exact .inr ⟨b, e, by have := hb.size; omega, fun i rf hi => (hc i rf hi).keep hl hb⟩
structure KnIn (w : World) (co : Option Addr) (cn : Nat) (cc : Nat) (to' : Option Addr) (tn : Nat) (tc : Nat) (fv : Value) (cols : List (Bs × Int)) (rfs : List RF) : Prop where
  clen : cn = cols.length
  tlen : tn = cols.length
  small : cols.length ≤ 1000
  hcols : cols = [] ∨ ∃ b, co = some ⟨b, 0, none⟩ ∧ b < w.heap.size ∧ ∀ (i : Nat) (c : Bs × Int), cols[i]? = some c → w.cell? ⟨b, i, none⟩ = some (.string (ofBs c.1))
  htypes : cols = [] ∨ ∃ b, to' = some ⟨b, 0, none⟩ ∧ b < w.heap.size ∧ ∀ (i : Nat) (c : Bs × Int), cols[i]? = some c → w.cell? ⟨b, i, none⟩ = some (.int .u8 (ltI c.2))
  ccap : cols.length ≤ cc
  tcap : cols.length ≤ tc
  fns : RFnsIn w fv rfs
theorem KnIn.keep {w x : World} {co : Option Addr} {cn cc : Nat} {to' : Option Addr} {tn tc : Nat} {fv : Value} {cols : List (Bs × Int)} {rfs : List RF} (h : KnIn w co cn cc to' tn tc fv cols rfs) (hb : Below w.heap.size w x) : KnIn x co cn cc to' tn tc fv cols rfs := by
  refine ⟨h.clen, h.tlen, h.small, ?_, ?_, h.ccap, h.tcap, h.fns.keep hb⟩
  · rcases h.hcols with h | ⟨b, e, hl, hc⟩
    · exact .inl h
    · exact .inr ⟨b, e, by have := hb.size; omega, fun i c hi => (hb.cell (p := ⟨b, _, none⟩) hl).trans (hc i c hi)⟩
  · rcases h.htypes with h | ⟨b, e, hl, hc⟩
    · exact .inl h
    · exact .inr ⟨b, e, by have := hb.size; omega, fun i c hi => (hb.cell (p := ⟨b, _, none⟩) hl).trans (hc i c hi)⟩
def RF.list (rfs : List RF) : List Fn := rfs.map RF.fn
def ixS (o : Option Nat) : Int := match o with | none => -1 | some i => (i : Int)
def ixFrom (rfs : List RF) (l : Bs) (i : Nat) : Option Nat := ((rfs.drop i).findIdx? (fun r => r.fn.name == l)).map (· + i)
theorem ixFrom_zero (rfs : List RF) (l : Bs) : ixFrom rfs l 0 = findS (RF.list rfs) l := by
  unfold ixFrom findS RF.list
  rw [List.drop_zero, List.findIdx?_map]
  simp [Function.comp_def]
theorem ixFrom_hit {rfs : List RF} {l : Bs} {i : Nat} (hi : i < rfs.length) (h : (rfs[i].fn.name == l) = true) : ixFrom rfs l i = some i := by
  unfold ixFrom; rw [List.drop_eq_getElem_cons hi, List.findIdx?_cons, h]; simp
theorem ixFrom_miss {rfs : List RF} {l : Bs} {i : Nat} (hi : i < rfs.length) (h : (rfs[i].fn.name == l) = false) : ixFrom rfs l i = ixFrom rfs l (i + 1) := by
  unfold ixFrom; rw [List.drop_eq_getElem_cons hi, List.findIdx?_cons, h]
  simp only [Bool.false_eq_true, if_false, Option.map_map]; congr 1; funext x; simp; omega
theorem ixFrom_end {rfs : List RF} {l : Bs} {i : Nat} (hi : rfs.length ≤ i) : ixFrom rfs l i = none := by
  unfold ixFrom; rw [List.drop_of_length_le hi]; rfl
set_option maxHeartbeats 1600000 in
set_option maxRecDepth 100000 in
theorem refFunction_any (w : World) (c0 c1 : Value) (a : ByteArray) (fo : Option Addr) (fnn fc : Nat) (rfs : List RF) (h : RFnsIn w (.slice fo fnn fc) rfs) (l : Bs) :
    Calls Tryz.prog 187 #[.agg #[c0, c1, .string a, .slice fo fnn fc], .string (ofBs l)] w fun e w' => e = .returned (.int .i64 (ixS (findS (RF.list rfs) l))) ∧ Below w.heap.size w w' := by
  obtain ⟨ao, cap, he, h8, hz⟩ := h
  cases he
  have HI := ixFrom_zero rfs l
  have hbx := below_box w (.cells #[c0, c1, .string a, .slice fo rfs.length fc] 374)
  have hk : (w.alloc (.cells #[c0, c1, .string a, .slice fo rfs.length fc] 374)).cell? ⟨w.heap.size, 3, none⟩ = some (.slice fo rfs.length fc) := (blk_at (heap_alloc_new w _)).trans rfl
  clear hk
  obtain ⟨W, hW⟩ : ∃ W, W = w.alloc (.cells #[c0, c1, .string a, .slice fo rfs.length fc] 374) := ⟨_, rfl⟩
  have HATW : w.alloc (.cells #[c0, c1, .string a, .slice fo rfs.length fc] 374) = W := hW.symm
  rw [HATW] at hbx
  have hk : W.cell? ⟨w.heap.size, 3, none⟩ = some (.slice fo rfs.length fc) := by rw [hW]; exact (blk_at (heap_alloc_new w _)).trans rfl
  clear hW
  go_enter Tryz.func187, Tryz.ntmps187
  go_wp2_with fail
  try rw [HATW]
  clear HATW
  go_loop [5] (fun iv => ∃ i : Nat, i ≤ rfs.length ∧ iv = .int .i64 i ∧ Hid (ixFrom rfs l 0 = ixFrom rfs l i)) (fun i => rfs.length - (intOf i).toNat)
  case atStart => exact ⟨0, Nat.zero_le _, rfl, rfl⟩
  case round =>
    obtain ⟨i, hi, rfl, HA⟩ := hrel
    by_cases hlt : i < rfs.length
    · obtain ⟨b, rfl, hb, hc⟩ : ∃ b, fo = some ⟨b, 0, none⟩ ∧ b < w.heap.size ∧ ∀ (i : Nat) (rf : RF), rfs[i]? = some rf → RFnAt w b i rf := by
        rcases hz with h | h
        · subst h; simp at hlt
        · exact h
      obtain ⟨g, cap', cs, tys, q0, _⟩ := hc i rfs[i] (List.getElem?_eq_getElem hlt)
      have q0' := (hbx.cell (p := ⟨b, i * 5, none⟩) hb).trans q0
      have hbW : b < W.heap.size := by have := hbx.size; omega
      have ho : (ofBs rfs[i].fn.name).toList = rfs[i].fn.name := ofBs_toList _
      have ho2 : (ofBs l).toList = l := ofBs_toList _
      clear hc hz q0
      cases he : (rfs[i].fn.name == l) with
      | true =>
        have HN : Hid (findS (RF.list rfs) l = some i) := by rw [Hid, ← HI, HA.out, ixFrom_hit hlt he]
        clear HI HA
        go_wp2_with fail
        go_ret
        exact ⟨by rw [HN.out]; rfl, hbx⟩
      | false =>
        have HN : Hid (ixFrom rfs l 0 = ixFrom rfs l (i + 1)) := by rw [Hid, HA.out, ixFrom_miss hlt he]
        clear HI HA
        go_wp2_with fail
        go_round
        case rel => exact ⟨i + 1, by omega, by go_num, HN⟩
        case measure => simp [intOf]; omega
    · have HN : Hid (findS (RF.list rfs) l = none) := by rw [Hid, ← HI, HA.out, ixFrom_end (by omega)]
      clear HI HA hz
      go_wp2_with fail
      go_ret
      exact ⟨by rw [HN.out]; rfl, hbx⟩
end Go.Proofs.YtilfjpmeededmaaGreatDoor

namespace Go.Proofs.YtilfjpmeededmaaGreatDoor
open Go.RowKit
def wUser : Bs := [117, 115, 101, 114]
def wTrue : Bs := [116, 114, 117, 101]
def wFalse : Bs := [102, 97, 108, 115, 101]
def parLet (args t : Bs) : Int := match args[(t.getD 1 0).toNat - 49]? with | none => 0 | some c => (c.toNat : Int)
def letAt (cols : List (Bs × Int)) (o : Option Nat) : Int := match o with | none => 0 | some i => match cols[i]? with | none => 0 | some c => ltI c.2
def atomR (cols : List (Bs × Int)) (args t : Bs) : Int :=
  if numS t then 110 else if quoteS t || t == wUser then 116 else if t == wTrue || t == wFalse then 98 else if parS t then parLet args t else letAt cols (colIx cols t)
def colFrom (cols : List (Bs × Int)) (l : Bs) (i : Nat) : Option Nat := ((cols.drop i).findIdx? (fun c => c.1 == l)).map (· + i)
theorem colFrom_zero (cols : List (Bs × Int)) (l : Bs) : colIx cols l = colFrom cols l 0 := by
  unfold colFrom colIx; simp
theorem colFrom_hit {cols : List (Bs × Int)} {l : Bs} {i : Nat} (hi : i < cols.length) (h : (cols[i].1 == l) = true) : colFrom cols l i = some i := by
  unfold colFrom; rw [List.drop_eq_getElem_cons hi, List.findIdx?_cons, h]; simp
theorem colFrom_miss {cols : List (Bs × Int)} {l : Bs} {i : Nat} (hi : i < cols.length) (h : (cols[i].1 == l) = false) : colFrom cols l i = colFrom cols l (i + 1) := by
  unfold colFrom; rw [List.drop_eq_getElem_cons hi, List.findIdx?_cons, h]
  simp only [Bool.false_eq_true, if_false, Option.map_map]; congr 1; funext x; simp; omega
theorem colFrom_end {cols : List (Bs × Int)} {l : Bs} {i : Nat} (hi : cols.length ≤ i) : colFrom cols l i = none := by
  unfold colFrom; rw [List.drop_of_length_le hi]; rfl
set_option maxHeartbeats 4000000 in
set_option maxRecDepth 100000 in
theorem refAtomType_any (w : World) (co : Option Addr) (cn cc : Nat) (to' : Option Addr) (tn tc : Nat) (args : Bs) (fo : Option Addr) (fnn fc : Nat) (cols : List (Bs × Int)) (rfs : List RF) (h : KnIn w co cn cc to' tn tc (.slice fo fnn fc) cols rfs) (_hargs : args.length ≤ maxLen) (l : Bs) (hl : l.length ≤ maxLen) :
    Calls Tryz.prog 374 #[.agg #[.slice co cn cc, .slice to' tn tc, .string (ofBs args), .slice fo fnn fc], .string (ofBs l)] w fun e w' => e = .returned (.int .u8 (atomR cols args l)) ∧ Below w.heap.size w w' := by
  have HN : ∀ x : World, Calls Tryz.prog 337 #[.string (ofBs l)] x fun e w' => e = .returned (.tuple #[.int .i64 (numV l), .bool (numS l)]) ∧ w' = x := by
    intro x; have := refNumeral_any (ofBs l) x (by rw [ofBs_size]; exact hl); rw [ofBs_toList] at this; exact this
  have HQ : ∀ x : World, Calls Tryz.prog 339 #[.string (ofBs l)] x fun e w' => e = .returned (.bool (quoteS l)) ∧ w' = x := by
    intro x; have := refQuote_any (ofBs l) x (by rw [ofBs_size]; exact hl); rw [ofBs_toList] at this; exact this
  have HP : ∀ x : World, Calls Tryz.prog 340 #[.string (ofBs l)] x fun e w' => e = .returned (.int .i64 (parV l)) ∧ w' = x := by
    intro x; have := refParameter_any (ofBs l) x; rw [ofBs_toList] at this; exact this
  have hbx := below_box w (.cells #[.slice co cn cc, .slice to' tn tc, .string (ofBs args), .slice fo fnn fc] 374)
  obtain ⟨W, hW⟩ : ∃ W, W = w.alloc (.cells #[.slice co cn cc, .slice to' tn tc, .string (ofBs args), .slice fo fnn fc] 374) := ⟨_, rfl⟩
  have HATW : w.alloc (.cells #[.slice co cn cc, .slice to' tn tc, .string (ofBs args), .slice fo fnn fc] 374) = W := hW.symm
  rw [HATW] at hbx
  have hkb : W.heap[w.heap.size]? = some (.cells #[.slice co cn cc, .slice to' tn tc, .string (ofBs args), .slice fo fnn fc] 374 (0, 0)) := by rw [hW]; exact heap_alloc_new w _
  have k0 : W.cell? ⟨w.heap.size, 0, none⟩ = some (.slice co cn cc) := (blk_at hkb).trans rfl
  have k1 : W.cell? ⟨w.heap.size, 1, none⟩ = some (.slice to' tn tc) := (blk_at hkb).trans rfl
  have k2 : W.cell? ⟨w.heap.size, 2, none⟩ = some (.string (ofBs args)) := (blk_at hkb).trans rfl
  obtain ⟨rfl, rfl, hsm, hC, hT, hcc, htc, _⟩ := h
  have HR : Hid (atomR cols args l = if numS l then 110 else if quoteS l || l == wUser then 116 else if l == wTrue || l == wFalse then 98 else if parS l then parLet args l else letAt cols (colIx cols l)) := rfl
  obtain ⟨nv, hnv⟩ : ∃ n, n = numV l := ⟨_, rfl⟩
  have ho : (ofBs l).toList = l := ofBs_toList _
  have hsz : (ofBs args).size = args.length := ofBs_size _
  rw [← hnv] at HN
  clear hW hkb hnv
  cases h1 : numS l with
  | true =>
    rw [h1] at HN HR
    go_enter Tryz.func374, Tryz.ntmps374
    go_wp2_with (first
      | (go_at_call 337; refine (HN _).mono ?_; rintro e w2 ⟨rfl, rfl⟩)
      | (go_at_call 339; refine (HQ _).mono ?_; rintro e w2 ⟨rfl, rfl⟩)
      | (go_at_call 340; refine (HP _).mono ?_; rintro e w2 ⟨rfl, rfl⟩))
    go_ret
    exact ⟨ret_u8 HR.out.symm, hbx⟩
  | false =>
    rw [h1] at HN HR
    rw [if_neg Bool.false_ne_true] at HR
    cases h2 : (quoteS l || l == wUser) with
    | true =>
      rw [h2] at HR
      cases h3 : quoteS l with
      | true =>
        rw [h3] at HQ
        clear h2
        go_enter Tryz.func374, Tryz.ntmps374
        go_wp2_with (first
          | (go_at_call 337; refine (HN _).mono ?_; rintro e w2 ⟨rfl, rfl⟩)
          | (go_at_call 339; refine (HQ _).mono ?_; rintro e w2 ⟨rfl, rfl⟩)
          | (go_at_call 340; refine (HP _).mono ?_; rintro e w2 ⟨rfl, rfl⟩))
        go_ret
        exact ⟨ret_u8 HR.out.symm, hbx⟩
      | false =>
        rw [h3] at HQ h2
        have hu : (l == [117, 115, 101, 114]) = true := by rw [Bool.false_or] at h2; exact h2
        clear h2
        go_enter Tryz.func374, Tryz.ntmps374
        go_wp2_with (first
          | (go_at_call 337; refine (HN _).mono ?_; rintro e w2 ⟨rfl, rfl⟩)
          | (go_at_call 339; refine (HQ _).mono ?_; rintro e w2 ⟨rfl, rfl⟩)
          | (go_at_call 340; refine (HP _).mono ?_; rintro e w2 ⟨rfl, rfl⟩))
        go_ret
        exact ⟨ret_u8 HR.out.symm, hbx⟩
    | false =>
      rw [h2, if_neg Bool.false_ne_true] at HR
      rw [Bool.or_eq_false_iff] at h2
      obtain ⟨h3, h4⟩ := h2
      have hu : (l == [117, 115, 101, 114]) = false := h4
      rw [h3] at HQ
      clear h3 h4
      cases h5 : (l == wTrue || l == wFalse) with
      | true =>
        rw [h5] at HR
        have hd : ((l == [116, 114, 117, 101]) || (l == [102, 97, 108, 115, 101])) = true := h5
        clear h5
        go_enter Tryz.func374, Tryz.ntmps374
        go_wp2_with (first
          | (go_at_call 337; refine (HN _).mono ?_; rintro e w2 ⟨rfl, rfl⟩)
          | (go_at_call 339; refine (HQ _).mono ?_; rintro e w2 ⟨rfl, rfl⟩)
          | (go_at_call 340; refine (HP _).mono ?_; rintro e w2 ⟨rfl, rfl⟩))
        all_goals go_ret
        all_goals exact ⟨ret_u8 HR.out.symm, hbx⟩
      | false =>
        rw [h5, if_neg Bool.false_ne_true] at HR
        rw [Bool.or_eq_false_iff] at h5
        have ht : (l == [116, 114, 117, 101]) = false := h5.1
        have hf : (l == [102, 97, 108, 115, 101]) = false := h5.2
        clear h5
        cases h6 : parS l with
        | true =>
          rw [h6, if_pos rfl] at HR
          obtain ⟨c, rfl, hc1, hc2⟩ := parS_inv h6
          have hpv : parV [36, c] = (c.toNat : Int) - 49 := by rw [parV, h6]; rfl
          rw [hpv] at HP
          obtain ⟨k, hk⟩ : ∃ k, k = c.toNat - 49 := ⟨_, rfl⟩
          have hkc : (c.toNat : Int) - 49 = (k : Int) := by omega
          rw [hkc] at HP
          by_cases hlt : k < args.length
          · have hlt' : k < (ofBs args).size := by rw [hsz]; exact hlt
            have HV : Hid (parLet args [36, c] = ((ofBs args)[k].toNat : Int)) := by
              have e := toList_get (ofBs args) k hlt'
              simp only [ofBs_toList] at e
              rw [Hid, parLet, show ([36, c] : Bs).getD 1 0 = c from rfl, ← hk, List.getElem?_eq_getElem hlt, ← e]
            clear h6 hkc hk hpv
            go_enter Tryz.func374, Tryz.ntmps374
            go_wp2_with (first
              | (go_at_call 337; refine (HN _).mono ?_; rintro e w2 ⟨rfl, rfl⟩)
              | (go_at_call 339; refine (HQ _).mono ?_; rintro e w2 ⟨rfl, rfl⟩)
              | (go_at_call 340; refine (HP _).mono ?_; rintro e w2 ⟨rfl, rfl⟩))
            all_goals go_ret
            all_goals exact ⟨ret_u8 (by rw [HR.out, HV.out]), hbx⟩
          · have HV : Hid (parLet args [36, c] = 0) := by
              rw [Hid, parLet, show ([36, c] : Bs).getD 1 0 = c from rfl, ← hk, List.getElem?_eq_none (by omega)]
            clear h6 hkc hk hpv
            go_enter Tryz.func374, Tryz.ntmps374
            go_wp2_with (first
              | (go_at_call 337; refine (HN _).mono ?_; rintro e w2 ⟨rfl, rfl⟩)
              | (go_at_call 339; refine (HQ _).mono ?_; rintro e w2 ⟨rfl, rfl⟩)
              | (go_at_call 340; refine (HP _).mono ?_; rintro e w2 ⟨rfl, rfl⟩))
            all_goals go_ret
            all_goals exact ⟨ret_u8 (by rw [HR.out, HV.out]), hbx⟩
        | false =>
          rw [h6, if_neg Bool.false_ne_true, colFrom_zero] at HR
          have hpv : parV l = -1 := by rw [parV, h6]; rfl
          rw [hpv] at HP
          clear h6 hpv
          go_enter Tryz.func374, Tryz.ntmps374
          go_wp2_with (first
            | (go_at_call 337; refine (HN _).mono ?_; rintro e w2 ⟨rfl, rfl⟩)
            | (go_at_call 339; refine (HQ _).mono ?_; rintro e w2 ⟨rfl, rfl⟩)
            | (go_at_call 340; refine (HP _).mono ?_; rintro e w2 ⟨rfl, rfl⟩))
          try rw [HATW]
          clear HATW HN HQ HP
          go_loop [9] (fun iv => ∃ i : Nat, i ≤ cols.length ∧ iv = .int .i64 i ∧ Hid (colFrom cols l 0 = colFrom cols l i)) (fun i => cols.length - (intOf i).toNat)
          case atStart => exact ⟨0, Nat.zero_le _, rfl, rfl⟩
          case round =>
            obtain ⟨i, hi, rfl, HA⟩ := hrel
            by_cases hlt : i < cols.length
            · obtain ⟨b, rfl, hb, hc⟩ : ∃ b, co = some ⟨b, 0, none⟩ ∧ b < w.heap.size ∧ ∀ (i : Nat) (c : Bs × Int), cols[i]? = some c → w.cell? ⟨b, i, none⟩ = some (.string (ofBs c.1)) := by
                rcases hC with h | h
                · subst h; simp at hlt
                · exact h
              obtain ⟨b', rfl, hb', hc'⟩ : ∃ b, to' = some ⟨b, 0, none⟩ ∧ b < w.heap.size ∧ ∀ (i : Nat) (c : Bs × Int), cols[i]? = some c → w.cell? ⟨b, i, none⟩ = some (.int .u8 (ltI c.2)) := by
                rcases hT with h | h
                · subst h; simp at hlt
                · exact h
              have q0 := (hbx.cell (p := ⟨b, i, none⟩) hb).trans (hc i cols[i] (List.getElem?_eq_getElem hlt))
              have q1 := (hbx.cell (p := ⟨b', i, none⟩) hb').trans (hc' i cols[i] (List.getElem?_eq_getElem hlt))
              have hbW := Nat.lt_of_lt_of_le hb hbx.size
              have hbW' := Nat.lt_of_lt_of_le hb' hbx.size
              have ho2 : (ofBs cols[i].1).toList = cols[i].1 := ofBs_toList _
              have HG : Hid (cols[i]? = some cols[i]) := List.getElem?_eq_getElem hlt
              clear hc hc' hC hT
              cases he : (cols[i].1 == l) with
              | true =>
                have HV : Hid (letAt cols (colFrom cols l 0) = ltI cols[i].2) := by rw [Hid, HA.out, colFrom_hit hlt he, letAt, HG.out]
                clear HA HG
                go_wp2_with fail
                go_ret
                exact ⟨ret_u8 (by rw [HR.out, HV.out]), hbx⟩
              | false =>
                have HV : Hid (colFrom cols l 0 = colFrom cols l (i + 1)) := by rw [Hid, HA.out, colFrom_miss hlt he]
                clear HA HG
                go_wp2_with fail
                go_round
                case rel => exact ⟨i + 1, by omega, by go_num, HV⟩
                case measure => simp [intOf]; omega
            · have HV : Hid (letAt cols (colFrom cols l 0) = 0) := by rw [Hid, HA.out, colFrom_end (by omega)]; rfl
              clear HA hC hT
              go_wp2_with fail
              go_ret
              exact ⟨ret_u8 (by rw [HR.out, HV.out]), hbx⟩
end Go.Proofs.YtilfjpmeededmaaGreatDoor

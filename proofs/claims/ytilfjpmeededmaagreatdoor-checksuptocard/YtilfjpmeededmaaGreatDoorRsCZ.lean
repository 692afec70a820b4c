import Derived.Test.YtilfjpmeededmaaGreatDoorRtUZ
import Derived.Test.YtilfjpmeededmaaGreatDoorRtYZ
import Derived.Test.YtilfjpmeededmaaGreatDoorBaFZ
import Derived.Test.YtilfjpmeededmaaGreatDoorLoDZ
import Derived.Deep.AppendLies
import Derived.Deep.RegionLaw
set_option linter.unusedVariables false
set_option linter.unusedSimpArgs false
namespace Go.Proofs.YtilfjpmeededmaaGreatDoor
open Go.RowKit
structure RTab where
  t : TabT
  x : Ex
  tr : Tr
  g : Nat
  cap : Nat
  co : Option Addr
  cn : Nat
  cc : Nat
  ro : Option Addr
  rn : Nat
  rc : Nat
  uo : Option Addr
  un : Nat
  uc : Nat
def rtCell (r : RTab) : List Value := [.string (ofBs r.t.name), .slice r.co r.cn r.cc, .slice r.ro r.rn r.rc, .int .i64 r.t.count, .string (ofBs r.t.policy), .slice r.uo r.un r.uc]
def rtCells (l : List RTab) : List Value := l.flatMap rtCell
def plCell (r : RTab) : Value := .slice (some ⟨r.g, 0, none⟩) (post r.tr).length r.cap
def plCells (l : List RTab) : List Value := l.map plCell
theorem rtCells_app (a b : List RTab) : rtCells (a ++ b) = rtCells a ++ rtCells b := by simp [rtCells]
theorem rtCells_get : ∀ (l : List RTab) (i : Nat) (e : RTab) (j : Nat), l[i]? = some e → j < 6 → (rtCells l)[i * 6 + j]? = (rtCell e)[j]?
  | [], i, r, j, h, _ => by simp at h
  | a :: rs, 0, r, j, h, hj => by
    simp at h; subst h
    rw [Nat.zero_mul, Nat.zero_add, rtCells, List.flatMap_cons, List.getElem?_append_left (by simp [rtCell]; omega)]
  | a :: rs, i + 1, r, j, h, hj => by
    have := rtCells_get rs i r j (by simpa using h) hj
    have h6 : (rtCell a).length = 6 := by simp [rtCell]
    rw [rtCells, List.flatMap_cons, List.getElem?_append_right (by rw [h6]; omega), h6, show (i + 1) * 6 + j - 6 = i * 6 + j by omega]
    exact this
def PolAt (w : World) (r : RTab) : Prop := ∃ (cs : List Value) (tys : Nat → Int), NdIn w r.g r.cap (post r.tr) tys cs ∧ tys ((post r.tr).length - 1) = ltI r.x.ty
theorem PolAt.keep {w x : World} {r : RTab} (h : PolAt w r) (hb : Below w.heap.size w x) : PolAt x r := by
  obtain ⟨cs, tys, h1, h2⟩ := h; exact ⟨cs, tys, h1.keep hb, h2⟩
theorem PolAt.move {w x : World} {r : RTab} (h : PolAt w r) (hk : ∀ (q : Nat) (cur : Array Value) (T : TypeId) (fz : Nat × Nat), w.heap[q]? = some (.cells cur T fz) → T = 359 ∨ T = 3 → x.heap[q]? = w.heap[q]?) : PolAt x r := by
  obtain ⟨cs, tys, h1, h2⟩ := h; exact ⟨cs, tys, h1.move hk, h2⟩
structure RTab0 (w : World) (r : RTab) : Prop where
  cols : ColsIn w (.slice r.co r.cn r.cc) r.t.cols
  rows : RowsIn w (.slice r.ro r.rn r.rc) r.t.rows
  users : StrsIn w (.slice r.uo r.un r.uc) r.t.users
def RBaseT (w0 w : World) (xb : Nat) (l : List RFG) (ts : List RTab) : Prop := ∃ (fo : Option Addr) (fnn fc : Nat) (to' : Option Addr) (tn tc : Nat) (po : Option Addr) (pn pc : Nat),
  (w0.heap.size ≤ xb ∧ Below w0.heap.size w0 w) ∧ w.heap[xb]? = some (.cells #[.slice fo fnn fc, .slice to' tn tc, .slice po pn pc] 370 (0, 0)) ∧
  (w.ownsRow (xb + 1) 377 5 (.slice fo fnn fc) l.length (rfCells l) ∧ l.length ≤ 8 ∧ ∀ e ∈ l, BodyAt w e) ∧
  w.ownsRow (xb + 1) 134 6 (.slice to' tn tc) ts.length (rtCells ts) ∧ w.ownsRow (xb + 1) 242 1 (.slice po pn pc) ts.length (plCells ts) ∧ ts.length ≤ 4 ∧ ∀ r ∈ ts, RTab0 w0 r ∧ PolAt w r
theorem rbase_start {w0 w : World} {xb : Nat} {l : List RFG} (h : RBaseF w xb l) (h0 : w0.heap.size ≤ xb) (hb : Below w0.heap.size w0 w) : RBaseT w0 w xb l [] := by
  obtain ⟨fo, fnn, fc, h1, h2, h3, h4⟩ := h
  exact ⟨fo, fnn, fc, none, 0, 0, none, 0, 0, ⟨h0, hb⟩, h1, ⟨h2, h3, h4⟩, World.ownsRow_nil _ _ _ _, World.ownsRow_nil _ _ _ _, by simp, fun r hr => by simp at hr⟩
theorem names_of {w : World} {b : Nat} {to' : Option Addr} {tn tc : Nat} {ts : List RTab} (h : w.ownsRow b 134 6 (.slice to' tn tc) ts.length (rtCells ts)) (h4 : ts.length ≤ 4) : TNamesIn w (.slice to' tn tc) (ts.map (·.t.name)) := by
  rcases h.2 with ⟨e, h0⟩ | ⟨g, cap, cur, e, _, _, _⟩
  · cases e
    exact ⟨none, 0, by rw [List.length_map, h0], by rw [List.length_map]; omega, .inl (by rw [List.length_eq_zero_iff.mp h0]; rfl)⟩
  · cases e
    refine ⟨_, _, by rw [List.length_map], by rw [List.length_map]; omega, .inr ⟨g, rfl, (h.lt g rfl).2, fun i n hi => ?_⟩⟩
    rw [List.getElem?_map] at hi
    cases he : ts[i]? with
    | none => rw [he] at hi; cases hi
    | some e =>
      rw [he] at hi
      have hrf : e.t.name = n := Option.some.inj hi
      subst hrf
      have hil := (List.getElem?_eq_some_iff.mp he).1
      exact (h.cellAt _ (by omega)).trans (rtCells_get ts i e 0 he (by omega))
end Go.Proofs.YtilfjpmeededmaaGreatDoor

namespace Go.Proofs.YtilfjpmeededmaaGreatDoor
open Go.RowKit
theorem infoTabR : (Tryz.prog.info? 134).map (fun i => (i.zero, i.size, i.bytes)) = some (some (.agg #[.string ⟨#[]⟩, .slice none 0 0, .slice none 0 0, .int .i64 0, .string ⟨#[]⟩, .slice none 0 0]), 6, 112) := by kernel_rfl
theorem infoExprR : (Tryz.prog.info? 242).map (fun i => (i.zero, i.size, i.bytes)) = some (some (.agg #[.slice none 0 0]), 1, 24) := by kernel_rfl
theorem box_grown {wo w7 : World} {L : Obj} {b z n q : Nat} {T T' : TypeId} {v : Value} {xs : List Value} {cur : Array Value} {fz : Nat × Nat} (hq : wo.heap[q]? = some (.cells cur T' fz)) (own : wo.ownsRow b T z v n xs) (hgrow : (wo.alloc L).drew.grownBy w7 v.ownBlock) (hT : T' ≠ T) : w7.heap[q]? = some (.cells cur T' fz) := by
  have hl := block_lt hq
  refine ((hgrow.block q (by simp only [World.size_drew, World.size_alloc]; omega) (fun e => ?_)).trans (Below.heap_alloc _ _ _ hl)).trans hq
  rcases own.2 with ⟨h, _⟩ | ⟨g1, c1, cur1, h, _, hr1, _⟩
  · rw [h] at e; cases e
  · rw [h] at e; cases e; rw [hr1] at hq; cases hq; exact hT rfl
def rtReg15 (f : Func) : Code := ((f.body.bind (findRegR 15)).getD .skip)
def rtReg16 (f : Func) : Code := ((f.body.bind (findRegR 16)).getD .skip)
set_option maxHeartbeats 16000000 in
set_option maxRecDepth 100000 in
theorem refAddTab_r15 (xb nb : Nat) (w9 : World) (n : Nat) (xs : List Value) (fv : Value) (to' : Option Addr) (tn tc : Nat) (pv : Value) (a0 a4 : ByteArray) (a3 : Int) (co : Option Addr) (cn cc : Nat) (ro : Option Addr) (rn rc : Nat) (uo : Option Addr) (un uc : Nat) (h3 : n ≤ 3)
    (hbx : w9.heap[nb]? = some (.cells #[.string a0, .slice co cn cc, .slice ro rn rc, .int .i64 a3, .string a4, .slice uo un uc] 134 (0, 0))) (own9 : w9.ownsRow (xb + 1) 134 6 (.slice to' tn tc) n xs) (hbk : w9.heap[xb]? = some (.cells #[fv, .slice to' tn tc, pv] 370 (0, 0)))
    (u1 u2 u4 u5 u6 u7 u8 u9 u10 u11 u12 u13 u14 u15 u16 u17 u18 u19 u20 u21 u22 u23 u24 u25 u26 u27 u28 u29 u30 u31 u32 u33 u34 u35 u36 u37 u38 u39 u40 u41 u42 u43 u44 u45 u46 u47 u48 u49 u50 u51 u52 u53 u54 u55 u56 u57 u58 u59 u60 u61 u62 u63 u64 u65 u66 u67 u68 u69 u70 u71 u72 u73 u74 u75 u76 u77 u78 u79 u80 : Value) (K : Act → World → Prop) (P : Ending → World → Prop)
    (hK : ∀ (v61 v62 v63 v64 v65 v66 v67 v68 v69 v70 : Value) (g7 cap7 : Nat) (w10 : World) (L : Obj), w10.ownsRow (xb + 1) 134 6 (.slice (some ⟨g7, 0, none⟩) (n + 1) cap7) (n + 1) (xs ++ [.string a0, .slice co cn cc, .slice ro rn rc, .int .i64 a3, .string a4, .slice uo un uc]) → (w9.alloc L).drew.grownBy w10 (Value.slice to' tn tc).ownBlock → K ⟨#[.pointer (some ⟨xb, 0, none⟩), u1, u2, .pointer (some ⟨nb, 0, none⟩), u4, u5, u6, u7, u8, u9, u10, u11, u12, u13, u14, u15, u16, u17, u18, u19, u20, u21, u22, u23, u24, u25, u26, u27, u28, u29, u30, u31, u32, u33, u34, u35, u36, u37, u38, u39, u40, u41, u42, u43, u44, u45, u46, u47, u48, u49, u50, u51, u52, u53, u54, u55, u56, u57, u58, u59, u60, v61, v62, v63, v64, v65, v66, v67, v68, v69, v70, u71, u72, u73, u74, u75, u76, u77, u78, u79, u80], []⟩ (w10.setCell ⟨xb, 1, none⟩ (.slice (some ⟨g7, 0, none⟩) (n + 1) cap7))) :
    Code.wp Tryz.prog (rtReg15 Tryz.f186) (Exit.then K (bodyPost Tryz.prog Tryz.f186 P)) ⟨#[.pointer (some ⟨xb, 0, none⟩), u1, u2, .pointer (some ⟨nb, 0, none⟩), u4, u5, u6, u7, u8, u9, u10, u11, u12, u13, u14, u15, u16, u17, u18, u19, u20, u21, u22, u23, u24, u25, u26, u27, u28, u29, u30, u31, u32, u33, u34, u35, u36, u37, u38, u39, u40, u41, u42, u43, u44, u45, u46, u47, u48, u49, u50, u51, u52, u53, u54, u55, u56, u57, u58, u59, u60, u61, u62, u63, u64, u65, u66, u67, u68, u69, u70, u71, u72, u73, u74, u75, u76, u77, u78, u79, u80], []⟩ w9 := by
  conv => arg 2; whnf
  have HK : Hid _ := hK
  clear hK
  have hxl := block_lt hbk
  have hnl := block_lt hbx
  have x0 : w9.cell? ⟨nb, 0, none⟩ = some (.string a0) := (blk_at hbx).trans rfl
  have x1 : w9.cell? ⟨nb, 1, none⟩ = some (.slice co cn cc) := (blk_at hbx).trans rfl
  have x2 : w9.cell? ⟨nb, 2, none⟩ = some (.slice ro rn rc) := (blk_at hbx).trans rfl
  have x3 : w9.cell? ⟨nb, 3, none⟩ = some (.int .i64 a3) := (blk_at hbx).trans rfl
  have x4 : w9.cell? ⟨nb, 4, none⟩ = some (.string a4) := (blk_at hbx).trans rfl
  have x5 : w9.cell? ⟨nb, 5, none⟩ = some (.slice uo un uc) := (blk_at hbx).trans rfl
  have y1 : w9.cell? ⟨xb, 1, none⟩ = some (.slice to' tn tc) := (blk_at hbk).trans rfl
  have HOWN : ∀ o : Obj, (w9.alloc o).drew.ownsRow (xb + 1) 134 6 (.slice to' tn tc) n xs := fun o => World.ownsRow.drew (World.ownsRow.alloc own9 o)
  have HBK : Hid _ := hbk
  have HO9 : Hid _ := own9
  clear hbk own9 hbx
  obtain ⟨i0, hi, hz0, hz1, hz2⟩ := info_parts infoTabR
  go_region_law (refine step_append_lies _ rfl (.tmp 65) (.tmp 67) 41 rfl (xb + 1) 134 i0 _ 6 112 Tryz.underlying41 hi hz0 hz1 hz2 rfl (by decide) (.slice to' tn tc) n xs (by simp [Act.eval]) (HOWN _) ⟨w9.heap.size, 0, none⟩ 1 1 [.string a0, .slice co cn cc, .slice ro rn rc, .int .i64 a3, .string a4, .slice uo un uc] (by simp [Act.eval]) rfl (World.news_of_block (blk_new w9 _)) (by intro u hu; simp only [List.mem_cons, List.not_mem_nil, or_false] at hu; rcases hu with rfl | rfl | rfl | rfl | rfl | rfl <;> rfl) (by decide) (by unfold maxLen; omega) (by omega) (by simp; omega) (w9.heap.size + 1) (by simp) ?_; intro g7 cap7 w10 hown7 hgrow7 hat7 hlt7; have kB := box_grown HBK.out HO9.out hgrow7 (by decide); have hb10 := block_lt kB; have r0 : w10.cell? ⟨xb, 1, none⟩ = some (.slice to' tn tc) := (blk_at kB).trans rfl; have r0f : w10.frozen? ⟨xb, 1, none⟩ = false := (by simp [World.frozen?, kB]))
  all_goals exact HK.out _ _ _ _ _ _ _ _ _ _ _ _ _ _ hown7 hgrow7
set_option maxHeartbeats 16000000 in
set_option maxRecDepth 100000 in
theorem refAddTab_r16 (xb eb : Nat) (w9 : World) (n : Nat) (xs : List Value) (fv tv : Value) (po : Option Addr) (pn pc : Nat) (go : Option Addr) (gn gc : Nat) (h3 : n ≤ 3)
    (hbx : w9.heap[eb]? = some (.cells #[.slice go gn gc] 242 (0, 0))) (own9 : w9.ownsRow (xb + 1) 242 1 (.slice po pn pc) n xs) (hbk : w9.heap[xb]? = some (.cells #[fv, tv, .slice po pn pc] 370 (0, 0)))
    (u1 u2 u3 u4 u5 u6 u7 u8 u10 u11 u12 u13 u14 u15 u16 u17 u18 u19 u20 u21 u22 u23 u24 u25 u26 u27 u28 u29 u30 u31 u32 u33 u34 u35 u36 u37 u38 u39 u40 u41 u42 u43 u44 u45 u46 u47 u48 u49 u50 u51 u52 u53 u54 u55 u56 u57 u58 u59 u60 u61 u62 u63 u64 u65 u66 u67 u68 u69 u70 u71 u72 u73 u74 u75 u76 u77 u78 u79 u80 : Value) (K : Act → World → Prop) (P : Ending → World → Prop)
    (hK : ∀ (v71 v72 v73 v74 v75 v76 v77 v78 v79 v80 : Value) (g7 cap7 : Nat) (w10 : World) (L : Obj), w10.ownsRow (xb + 1) 242 1 (.slice (some ⟨g7, 0, none⟩) (n + 1) cap7) (n + 1) (xs ++ [.slice go gn gc]) → (w9.alloc L).drew.grownBy w10 (Value.slice po pn pc).ownBlock → K ⟨#[.pointer (some ⟨xb, 0, none⟩), u1, u2, u3, u4, u5, u6, u7, u8, .pointer (some ⟨eb, 0, none⟩), u10, u11, u12, u13, u14, u15, u16, u17, u18, u19, u20, u21, u22, u23, u24, u25, u26, u27, u28, u29, u30, u31, u32, u33, u34, u35, u36, u37, u38, u39, u40, u41, u42, u43, u44, u45, u46, u47, u48, u49, u50, u51, u52, u53, u54, u55, u56, u57, u58, u59, u60, u61, u62, u63, u64, u65, u66, u67, u68, u69, u70, v71, v72, v73, v74, v75, v76, v77, v78, v79, v80], []⟩ (w10.setCell ⟨xb, 2, none⟩ (.slice (some ⟨g7, 0, none⟩) (n + 1) cap7))) :
    Code.wp Tryz.prog (rtReg16 Tryz.f186) (Exit.then K (bodyPost Tryz.prog Tryz.f186 P)) ⟨#[.pointer (some ⟨xb, 0, none⟩), u1, u2, u3, u4, u5, u6, u7, u8, .pointer (some ⟨eb, 0, none⟩), u10, u11, u12, u13, u14, u15, u16, u17, u18, u19, u20, u21, u22, u23, u24, u25, u26, u27, u28, u29, u30, u31, u32, u33, u34, u35, u36, u37, u38, u39, u40, u41, u42, u43, u44, u45, u46, u47, u48, u49, u50, u51, u52, u53, u54, u55, u56, u57, u58, u59, u60, u61, u62, u63, u64, u65, u66, u67, u68, u69, u70, u71, u72, u73, u74, u75, u76, u77, u78, u79, u80], []⟩ w9 := by
  conv => arg 2; whnf
  have HK : Hid _ := hK
  clear hK
  have hxl := block_lt hbk
  have hnl := block_lt hbx
  have x0 : w9.cell? ⟨eb, 0, none⟩ = some (.slice go gn gc) := (blk_at hbx).trans rfl
  have y1 : w9.cell? ⟨xb, 2, none⟩ = some (.slice po pn pc) := (blk_at hbk).trans rfl
  have HOWN : ∀ o : Obj, (w9.alloc o).drew.ownsRow (xb + 1) 242 1 (.slice po pn pc) n xs := fun o => World.ownsRow.drew (World.ownsRow.alloc own9 o)
  have HBK : Hid _ := hbk
  have HO9 : Hid _ := own9
  clear hbk own9 hbx
  obtain ⟨i0, hi, hz0, hz1, hz2⟩ := info_parts infoExprR
  go_region_law (refine step_append_lies _ rfl (.tmp 75) (.tmp 77) 368 rfl (xb + 1) 242 i0 _ 1 24 Tryz.underlying368 hi hz0 hz1 hz2 rfl (by decide) (.slice po pn pc) n xs (by simp [Act.eval]) (HOWN _) ⟨w9.heap.size, 0, none⟩ 1 1 [.slice go gn gc] (by simp [Act.eval]) rfl (World.news_of_block (blk_new w9 _)) (by intro u hu; simp only [List.mem_cons, List.not_mem_nil, or_false] at hu; rcases hu with rfl; rfl) (by decide) (by unfold maxLen; omega) (by omega) (by simp; omega) (w9.heap.size + 1) (by simp) ?_; intro g7 cap7 w10 hown7 hgrow7 hat7 hlt7; have kB := box_grown HBK.out HO9.out hgrow7 (by decide); have hb10 := block_lt kB; have r0 : w10.cell? ⟨xb, 2, none⟩ = some (.slice po pn pc) := (blk_at kB).trans rfl; have r0f : w10.frozen? ⟨xb, 2, none⟩ = false := (by simp [World.frozen?, kB]))
  all_goals exact HK.out _ _ _ _ _ _ _ _ _ _ _ _ _ _ hown7 hgrow7
end Go.Proofs.YtilfjpmeededmaaGreatDoor

namespace Go.Proofs.YtilfjpmeededmaaGreatDoor
open Go.RowKit
def ttsOf (ts : List RTab) : List (TabT × Ex) := ts.map fun r => (r.t, r.x)
theorem tix_same (ts : List RTab) (l : Bs) : tabIx (ttsOf ts) l = (ts.map (·.t.name)).findIdx? (fun n => n == l) := by
  unfold tabIx ttsOf
  rw [List.findIdx?_map, List.findIdx?_map]; rfl
def RTabRes (w0 w : World) (xb : Nat) (l : List RFG) (ts : List RTab) (t : TabT) (o : Except Int Ex) (e : Ending) (w' : World) : Prop :=
  (∃ n : Int, o = .error n ∧ n ≠ 0 ∧ e = .returned (.int .i64 n) ∧ Below w.heap.size w w') ∨
  (∃ r : RTab, o = .ok r.x ∧ r.t = t ∧ e = .returned (.int .i64 0) ∧ RBaseT w0 w' xb l (ts ++ [r]) ∧ Below xb w w')
theorem addTab_name {fns : List Fn} {ts : List (TabT × Ex)} {t : TabT} (h : (!wordS t.name || (tabIx ts t.name).isSome) = true) : addTabS fns ts t = .error 2 := by
  have e : gvS (!wordS t.name || (tabN ts t.name == 0)) 2 = 2 := by
    have : (!wordS t.name || (tabN ts t.name == 0)) = true := by
      unfold tabN
      cases hw : wordS t.name with
      | false => rfl
      | true =>
        rw [hw] at h
        cases hi : tabIx ts t.name with
        | none => rw [hi] at h; simp at h
        | some k => rfl
    rw [this]; rfl
  unfold addTabS
  rw [e]
  simp [firstS]
theorem addTab_tab {fns : List Fn} {ts : List (TabT × Ex)} {t : TabT} (h : (!wordS t.name || (tabIx ts t.name).isSome) = false) (h2 : isTabS t = false) : addTabS fns ts t = .error 6 := by
  have e : gvS (!wordS t.name || (tabN ts t.name == 0)) 2 = 0 := by
    have : (!wordS t.name || (tabN ts t.name == 0)) = false := by
      rw [Bool.or_eq_false_iff] at h
      unfold tabN
      rw [h.1]
      cases hi : tabIx ts t.name with
      | none => rfl
      | some k => have := h.2; rw [hi] at this; simp at this
    rw [this]; rfl
  unfold addTabS
  rw [e, h2]
  simp [firstS, gvS]
theorem addTab_go {fns : List Fn} {ts : List (TabT × Ex)} {t : TabT} (h : (!wordS t.name || (tabIx ts t.name).isSome) = false) (h2 : isTabS t = true) : addTabS fns ts t = polS (readS atoiS (t.cols.map (nameS rowN), []) fns t.policy) := by
  have e : gvS (!wordS t.name || (tabN ts t.name == 0)) 2 = 0 := by
    have : (!wordS t.name || (tabN ts t.name == 0)) = false := by
      rw [Bool.or_eq_false_iff] at h
      unfold tabN
      rw [h.1]
      cases hi : tabIx ts t.name with
      | none => rfl
      | some k => have := h.2; rw [hi] at this; simp at this
    rw [this]; rfl
  unfold addTabS
  rw [e, h2]
  simp [firstS, gvS, rowN]
theorem row_col {c : Bs} (h : wordS c = true) : colS (rowN ++ [46] ++ c) = true := by
  have e1 : (rowN ++ [46] ++ c).takeWhile (· != 46) = rowN := by simp [rowN, List.takeWhile]
  have e2 : ((rowN ++ [46] ++ c).dropWhile (· != 46)).drop 1 = c := by simp [rowN, List.dropWhile]
  unfold colS
  rw [e1, e2, h]
  have : (rowN ++ [46] ++ c).contains 46 = true := by simp
  rw [this]
  decide
theorem tab_known {t : TabT} (h : isTabS t = true) : (∀ c ∈ t.cols.map (nameS rowN), isTyp c.2) ∧ (∀ c ∈ t.cols.map (nameS rowN), colS c.1 = true) := by
  have hT := isTab_cols h
  have hword := colsFrom_word t.cols [] (by unfold areColsS at hT; rw [Bool.and_eq_true] at hT; exact hT.2)
  constructor
  · intro c hc
    obtain ⟨d, hd, rfl⟩ := List.mem_map.mp hc
    have hco := hword d hd
    rw [isCol_parts] at hco
    simp only [Bool.and_eq_true, decide_eq_true_eq] at hco
    obtain ⟨ch, hch⟩ : ∃ ch, d.2.1 = [ch] := by
      have := hco.1.1.2.2
      match d.2.1, this with
      | [ch], _ => exact ⟨ch, rfl⟩
    have htl : tyLet ch = true := by have := hco.1.1.2.1; rw [hch] at this; simpa using this
    show isTyp (colTyS d)
    have : colTyS d = typeB ch.toNat := by obtain ⟨n, l, m⟩ := d; have : l = [ch] := hch; subst this; rfl
    rw [this]; exact (typeB_let htl).1
  · intro c hc
    obtain ⟨d, hd, rfl⟩ := List.mem_map.mp hc
    have hco := hword d hd
    rw [isCol_parts] at hco
    simp only [Bool.and_eq_true] at hco
    exact row_col hco.1.1.1
end Go.Proofs.YtilfjpmeededmaaGreatDoor

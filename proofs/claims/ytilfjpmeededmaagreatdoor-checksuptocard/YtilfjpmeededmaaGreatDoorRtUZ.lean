import Derived.Test.YtilfjpmeededmaaGreatDoorRtOZ
import Derived.Deep.AppendLies
import Derived.Deep.RegionLaw
set_option linter.unusedVariables false
set_option linter.unusedSimpArgs false
namespace Go.Proofs.YtilfjpmeededmaaGreatDoor
open Go.RowKit
theorem infoRF : (Tryz.prog.info? 377).map (fun i => (i.zero, i.size, i.bytes)) = some (some (.agg #[.string ⟨#[]⟩, .string ⟨#[]⟩, .slice none 0 0, .int .i64 0, .bool false]), 5, 72) := by kernel_rfl
def fnsOf (l : List RFG) : List Fn := RF.list (l.map (·.1))
def RAddRes (w : World) (xb : Nat) (l : List RFG) (args : Bs) (o : Except Int Fn) (e : Ending) (w' : World) : Prop :=
  (∃ n : Int, o = .error n ∧ n ≠ 0 ∧ e = .returned (.int .i64 n) ∧ Below w.heap.size w w') ∨
  (∃ (fn : Fn) (t : Tr) (g cap : Nat), o = .ok fn ∧ e = .returned (.int .i64 0) ∧ RBaseF w' xb (l ++ [(⟨fn, args, t⟩, g, cap)]) ∧ FnOK ((l ++ [((⟨fn, args, t⟩ : RF), g, cap)]).map (·.1)) ∧ Below xb w w')
theorem knIn_nil {w : World} {fv : Value} {rfs : List RF} (h : RFnsIn w fv rfs) : KnIn w none 0 0 none 0 0 fv [] rfs := ⟨rfl, rfl, by simp, .inl rfl, .inl rfl, by simp, by simp, h⟩
theorem addS_bad {fns : List Fn} {name args body : Bs} (h : freeS fns name = false) : addS fns name args body = .error 2 := by
  rw [addS, h]; rfl
theorem addS_bad2 {fns : List Fn} {name args body : Bs} (h : freeS fns name = true) (h2 : areTypesS args = false) : addS fns name args body = .error 9 := by
  rw [addS, h, h2]; rfl
theorem addS_go {fns : List Fn} {name args body : Bs} (h : freeS fns name = true) (h2 : areTypesS args = true) : addS fns name args body = match readS atoiS ([], typesL args) fns body with | .error n => .error n | .ok x => .ok ⟨name, typesL args, x⟩ := by
  rw [addS, h, h2]; rfl
theorem cells3b {x : World} {b : Nat} {a0 a1 a2 : Value} {T : TypeId} (h : x.heap[b]? = some (.cells #[a0, a1, a2] T (0, 0))) : x.cell? ⟨b, 0, none⟩ = some a0 ∧ x.frozen? ⟨b, 0, none⟩ = false ∧ x.cell? ⟨b, 1, none⟩ = some a1 ∧ x.cell? ⟨b, 2, none⟩ = some a2 := by
  simp [World.cell?, World.frozen?, h]
theorem NdIn.move {w x : World} {g cap : Nat} {l : List Tr} {ty : Nat → Int} {cs : List Value} (h : NdIn w g cap l ty cs) (hk : ∀ (q : Nat) (cur : Array Value) (T : TypeId) (fz : Nat × Nat), w.heap[q]? = some (.cells cur T fz) → T = 359 ∨ T = 3 → x.heap[q]? = w.heap[q]?) : NdIn x g cap l ty cs := by
  refine ⟨owns_keep h.own fun q hq => ?_, fun j t hj => ?_, h.small, h.few⟩
  · rcases h.own.2 with ⟨h', _⟩ | ⟨_, _, _, h', _, hr, _⟩
    · cases h'
    · cases h'; cases hq; exact hk _ _ _ _ hr (.inl rfl)
  · obtain ⟨v, is, h0, h1, h2, h3, h4, h5⟩ := h.nodes j t hj
    refine ⟨v, is, h0, h1, h2, h3, owns_keep h4 fun q hq => ?_, h5⟩
    rcases h4.2 with ⟨rfl, _⟩ | ⟨_, _, _, rfl, _, hr, _⟩
    · cases hq
    · cases hq; exact hk _ _ _ _ hr (.inr rfl)
theorem BodyAt.move {w x : World} {e : RFG} (h : BodyAt w e) (hk : ∀ (q : Nat) (cur : Array Value) (T : TypeId) (fz : Nat × Nat), w.heap[q]? = some (.cells cur T fz) → T = 359 ∨ T = 3 → x.heap[q]? = w.heap[q]?) : BodyAt x e := by
  obtain ⟨cs, tys, h1, h2⟩ := h; exact ⟨cs, tys, h1.move hk, h2⟩
theorem rf_fin {w wc w7 : World} {L : Obj} {xb g7 cap7 : Nat} {l : List RFG} {fo : Option Addr} {fnn fc : Nat} {new : RFG}
    (hxl : xb < w.heap.size) (B3 : Below w.heap.size w wc) (hbk : wc.heap[xb]? = some (.cells #[.slice fo fnn fc, .slice none 0 0, .slice none 0 0] 370 (0, 0))) (own4 : wc.ownsRow (xb + 1) 377 5 (.slice fo fnn fc) l.length (rfCells l)) (h7 : l.length ≤ 7) (hbod : ∀ e ∈ l, BodyAt w e) (hnew : BodyAt wc new)
    (hown7 : w7.ownsRow (xb + 1) 377 5 (.slice (some ⟨g7, 0, none⟩) (l.length + 1) cap7) (l.length + 1) (rfCells l ++ rfCell new))
    (hgrow : (wc.alloc L).drew.grownBy w7 (Value.slice fo fnn fc).ownBlock)
    (kB : w7.heap[xb]? = some (.cells #[.slice fo fnn fc, .slice none 0 0, .slice none 0 0] 370 (0, 0))) :
    RBaseF (w7.setCell ⟨xb, 0, none⟩ (.slice (some ⟨g7, 0, none⟩) (l.length + 1) cap7)) xb (l ++ [new]) ∧ Below xb w (w7.setCell ⟨xb, 0, none⟩ (.slice (some ⟨g7, 0, none⟩) (l.length + 1) cap7)) := by
  have hs3 := B3.size
  have hgs := hgrow.size
  simp only [World.size_drew, World.size_alloc] at hgs
  have keepW : ∀ g, g < wc.heap.size → g ≠ xb → (Value.slice fo fnn fc).ownBlock ≠ some g → (w7.setCell ⟨xb, 0, none⟩ (.slice (some ⟨g7, 0, none⟩) (l.length + 1) cap7)).heap[g]? = wc.heap[g]? := by
    intro g h1 h2 h3
    rw [Below.heap_setCell _ _ _ _ h2, hgrow.block g (by simp only [World.size_drew, World.size_alloc]; omega) (fun e => h3 e.symm)]
    exact Below.heap_alloc _ _ _ h1
  have keepT : ∀ (g : Nat) (cur : Array Value) (T : TypeId) (fz : Nat × Nat), wc.heap[g]? = some (.cells cur T fz) → T = 359 ∨ T = 3 → (w7.setCell ⟨xb, 0, none⟩ (.slice (some ⟨g7, 0, none⟩) (l.length + 1) cap7)).heap[g]? = wc.heap[g]? := by
    intro g cur T fz he hT
    refine keepW g (block_lt he) (fun e => ?_) (fun e => ?_)
    · subst e; rw [hbk] at he; cases he; revert hT; decide
    · rcases own4.2 with ⟨h, _⟩ | ⟨g', cap', cur', h, _, hr, _⟩
      · rw [h] at e; cases e
      · rw [h] at e; cases e; rw [hr] at he; cases he; revert hT; decide
  refine ⟨⟨some ⟨g7, 0, none⟩, l.length + 1, cap7, by simp [World.setCell, Array.getElem?_modify, kB], ?_, by simp; omega, fun e he => ?_⟩, ?_⟩
  · rw [rfCells_app, List.length_append]
    have : rfCells [new] = rfCell new := by simp [rfCells]
    rw [this]
    exact ownsRow_setCell_below hown7 (by show xb < xb + 1; omega) _
  · rcases List.mem_append.mp he with h | h
    · exact ((hbod e h).keep B3).move keepT
    · rw [List.mem_singleton.mp h]; exact hnew.move keepT
  · suffices hB : Below xb w w7 from hB.setCell (p := ⟨xb, 0, none⟩) (Nat.le_refl _) _
    refine ⟨hgrow.os.trans B3.os, hgrow.tape.trans B3.tape, hgrow.output.trans B3.output, by omega, fun g hg => ?_⟩
    have := keepW g (by omega) (by omega) (fun e => by have := (own4.lt _ e).1; omega)
    rw [Below.heap_setCell _ _ _ _ (by show g ≠ xb; omega)] at this
    exact this.trans (B3.block g (by omega))
def findRegR (n : Nat) : Code → Option Code
  | .region id ops b => if id = n then some (.region id ops b) else none
  | .seq a b => match findRegR n a with
    | some c => some c
    | none => findRegR n b
  | .block _ c => findRegR n c
  | .scope c => findRegR n c
  | .loop c => findRegR n c
  | .cond _ a b => match findRegR n a with
    | some c => some c
    | none => findRegR n b
  | _ => none
def rfReg16 (f : Func) : Code := ((f.body.bind (findRegR 16)).getD .skip)
set_option maxHeartbeats 16000000 in
set_option maxRecDepth 100000 in
theorem refAddFunc_r16 (xb bw be : Nat) (w9 : World) (l : List RFG) (fo : Option Addr) (fnn fc : Nat) (s0 s1 : ByteArray) (g pl cap : Nat) (xs : Int) (xq : Bool) (h7 : l.length ≤ 7) (_hl0 : bw < w9.heap.size) (hl1 : xb < w9.heap.size) (_hel9 : be < w9.heap.size)
    (x0 : w9.cell? ⟨bw, 0, none⟩ = some (.string s0)) (x1 : w9.cell? ⟨bw, 1, none⟩ = some (.string s1)) (n4 : w9.cell? ⟨be, 0, none⟩ = some (.slice (some ⟨g, 0, none⟩) pl cap)) (x3 : w9.cell? ⟨xb, 0, none⟩ = some (.slice fo fnn fc))
    (own9 : w9.ownsRow (xb + 1) 377 5 (.slice fo fnn fc) l.length (rfCells l)) (hbk : w9.heap[xb]? = some (.cells #[.slice fo fnn fc, .slice none 0 0, .slice none 0 0] 370 (0, 0)))
    (u1 u2 u4 u5 u6 u7 u8 u9 u10 u12 u13 u16 u17 u18 u19 u20 u21 u22 u23 u24 u25 u26 u27 u28 u29 u30 u31 u32 u33 u34 u35 u36 u37 u38 u39 u40 u41 u42 u43 u44 u45 u46 u47 u48 u49 u50 u51 u52 u53 u54 u55 u56 u57 u58 u59 u60 u61 u62 u63 u64 u65 u66 u67 u68 u69 u70 u71 u72 u73 u74 u75 u76 u77 u78 u79 u80 u81 u82 u83 u84 u85 u86 u87 u88 u89 u90 u91 u92 u93 u94 u95 u96 u97 u98 u99 u100 u101 : Value) (K : Act → World → Prop) (P : Ending → World → Prop)
    (hK : ∀ (v85 v86 v87 v88 v89 v90 v91 v92 v93 v94 v95 v96 v97 v98 v99 v100 v101 : Value) (g7 cap7 : Nat) (w10 : World) (L : Obj), w10.ownsRow (xb + 1) 377 5 (.slice (some ⟨g7, 0, none⟩) (l.length + 1) cap7) (l.length + 1) (rfCells l ++ [.string s0, .string s1, .slice (some ⟨g, 0, none⟩) pl cap, .int .i64 xs, .bool xq]) → (w9.alloc L).drew.grownBy w10 (Value.slice fo fnn fc).ownBlock → w10.heap[xb]? = some (.cells #[.slice fo fnn fc, .slice none 0 0, .slice none 0 0] 370 (0, 0)) → K ⟨#[.pointer (some ⟨xb, 0, none⟩), u1, u2, .pointer (some ⟨bw, 0, none⟩), u4, u5, u6, u7, u8, u9, u10, .pointer (some ⟨be, 0, none⟩), u12, u13, .int .i64 xs, .bool xq, u16, u17, u18, u19, u20, u21, u22, u23, u24, u25, u26, u27, u28, u29, u30, u31, u32, u33, u34, u35, u36, u37, u38, u39, u40, u41, u42, u43, u44, u45, u46, u47, u48, u49, u50, u51, u52, u53, u54, u55, u56, u57, u58, u59, u60, u61, u62, u63, u64, u65, u66, u67, u68, u69, u70, u71, u72, u73, u74, u75, u76, u77, u78, u79, u80, u81, u82, u83, u84, v85, v86, v87, v88, v89, v90, v91, v92, v93, v94, v95, v96, v97, v98, v99, v100, v101], []⟩ (w10.setCell ⟨xb, 0, none⟩ (.slice (some ⟨g7, 0, none⟩) (l.length + 1) cap7))) :
    Code.wp Tryz.prog (rfReg16 Tryz.f185) (Exit.then K (bodyPost Tryz.prog Tryz.f185 P)) ⟨#[.pointer (some ⟨xb, 0, none⟩), u1, u2, .pointer (some ⟨bw, 0, none⟩), u4, u5, u6, u7, u8, u9, u10, .pointer (some ⟨be, 0, none⟩), u12, u13, .int .i64 xs, .bool xq, u16, u17, u18, u19, u20, u21, u22, u23, u24, u25, u26, u27, u28, u29, u30, u31, u32, u33, u34, u35, u36, u37, u38, u39, u40, u41, u42, u43, u44, u45, u46, u47, u48, u49, u50, u51, u52, u53, u54, u55, u56, u57, u58, u59, u60, u61, u62, u63, u64, u65, u66, u67, u68, u69, u70, u71, u72, u73, u74, u75, u76, u77, u78, u79, u80, u81, u82, u83, u84, u85, u86, u87, u88, u89, u90, u91, u92, u93, u94, u95, u96, u97, u98, u99, u100, u101], []⟩ w9 := by
  conv => arg 2; whnf
  have HK : Hid _ := hK
  clear hK
  have HOWN : ∀ o : Obj, (w9.alloc o).drew.ownsRow (xb + 1) 377 5 (.slice fo fnn fc) l.length (rfCells l) := fun o => World.ownsRow.drew (World.ownsRow.alloc own9 o)
  have hvb : (Value.slice fo fnn fc).ownBlock ≠ some xb := fun e => by have := (own9.lt _ e).1; omega
  have HBK9 : Hid _ := hbk
  clear hbk own9
  obtain ⟨i0, hi, hz0, hz1, hz2⟩ := info_parts infoRF
  go_region_law (refine step_append_lies _ rfl (.tmp 89) (.tmp 98) 367 rfl (xb + 1) 377 i0 _ 5 72 Tryz.underlying367 hi hz0 hz1 hz2 rfl (by decide) (.slice fo fnn fc) l.length (rfCells l) (by simp [Act.eval]) (HOWN _) ⟨w9.heap.size, 0, none⟩ 1 1 [.string s0, .string s1, .slice (some ⟨g, 0, none⟩) pl cap, .int .i64 xs, .bool xq] (by simp [Act.eval]) rfl (World.news_of_block (blk_new w9 _)) (by intro u hu; simp only [List.mem_cons, List.not_mem_nil, or_false] at hu; rcases hu with rfl | rfl | rfl | rfl | rfl <;> rfl) (by decide) (by unfold maxLen; omega) (by omega) (by simp; omega) (w9.heap.size + 1) (by simp) ?_; intro g7 cap7 w10 hown7 hgrow7 hat7 hlt7; have kB : w10.heap[xb]? = _ := (hgrow7.block xb (by simp; omega) hvb.symm).trans ((Below.heap_alloc _ _ _ hl1).trans HBK9.out); have hb10 := block_lt kB; obtain ⟨r0, r0f, _⟩ := cells3b kB)
  all_goals exact HK.out _ _ _ _ _ _ _ _ _ _ _ _ _ _ _ _ _ _ _ _ _ hown7 hgrow7 kB
end Go.Proofs.YtilfjpmeededmaaGreatDoor

namespace Go.Proofs.YtilfjpmeededmaaGreatDoor
open Go.RowKit
set_option maxHeartbeats 8000000 in
set_option maxRecDepth 100000 in
theorem refAddFunc_any (w : World) (xb : Nat) (l : List RFG) (hB : RBaseF w xb l) (h7 : l.length ≤ 7) (hOK : FnOK (l.map (·.1))) (name args body : Bs) (hn : name.length ≤ maxLen) (ha : args.length ≤ maxLen) :
    Calls Tryz.prog 185 #[.pointer (some ⟨xb, 0, none⟩), .agg #[.string (ofBs name), .string (ofBs args), .string (ofBs body)]] w fun e w' => RAddRes w xb l args (addS (fnsOf l) name args body) e w' := by
  obtain ⟨fo, fnn, fc, hbk, hown, h8, hbod⟩ := hB
  have hxl := block_lt hbk
  have hRF := rfnsIn_own hown h8 hbod
  obtain ⟨W, hW⟩ : ∃ W, W = w.alloc (.cells #[.string (ofBs name), .string (ofBs args), .string (ofBs body)] 39) := ⟨_, rfl⟩
  have HATW : Hid (w.alloc (.cells #[.string (ofBs name), .string (ofBs args), .string (ofBs body)] 39) = W) := hW.symm
  have hBW : Below w.heap.size w W := by rw [hW]; exact below_box w _
  have hbx : W.heap[w.heap.size]? = some (.cells #[.string (ofBs name), .string (ofBs args), .string (ofBs body)] 39 (0, 0)) := by rw [hW]; exact heap_alloc_new w _
  have hsW : W.heap.size = w.heap.size + 1 := by rw [hW]; simp [World.size_alloc]
  have hbkW := (hBW.block xb hxl).trans hbk
  have HKEEP : ∀ x : World, Below W.heap.size W x → (x.cell? ⟨w.heap.size, 0, none⟩ = some (.string (ofBs name)) ∧ x.cell? ⟨w.heap.size, 1, none⟩ = some (.string (ofBs args)) ∧ x.cell? ⟨w.heap.size, 2, none⟩ = some (.string (ofBs body))) ∧ x.cell? ⟨xb, 0, none⟩ = some (.slice fo fnn fc) ∧ (w.heap.size < x.heap.size ∧ xb < x.heap.size) := by
    intro x hx
    have b0 := (hx.block w.heap.size (by omega)).trans hbx
    have b1 := (hx.block xb (by omega)).trans hbkW
    have := hx.size
    exact ⟨⟨(blk_at b0).trans rfl, (blk_at b0).trans rfl, (blk_at b0).trans rfl⟩, (blk_at b1).trans rfl, by omega, by omega⟩
  have HWd : ∀ x : World, Calls Tryz.prog 263 #[.string (ofBs name)] x fun e w' => e = .returned (.bool (wordS name)) ∧ w' = x := by
    intro x; have := refWord_any (ofBs name) x (by rw [ofBs_size]; exact hn); rw [ofBs_toList] at this; exact this
  have HCn : ∀ x : World, Calls Tryz.prog 264 #[.string (ofBs name)] x fun e w' => e = .returned (.bool (valS name)) ∧ w' = x := by
    intro x; have := refConstant_any (ofBs name) x; rw [ofBs_toList] at this; exact this
  have HTy : ∀ x : World, Calls Tryz.prog 267 #[.string (ofBs args)] x fun e w' => e = .returned (.bool (args.all tyLet)) ∧ w' = x := by
    intro x; have := refTypes_any (ofBs args) x (by rw [ofBs_size]; exact ha); rw [ofBs_toList] at this; exact this
  have HAw : ∀ (x : World) (b : Nat), x.heap[b]? = some (.cells (wordList.map fun t => Value.string (ofBs t)).toArray 9 (0, 0)) → Calls Tryz.prog 265 #[.slice (some ⟨b, 0, none⟩) 8 8, .string (ofBs name)] x fun e w' => e = .returned (.bool (amongB wordList name)) ∧ w' = x := fun x b hb => amongOf wordList 8 rfl (by omega) x b hb name
  have HWo := refWords_any
  have HFn : ∀ x : World, Below W.heap.size W x → Calls Tryz.prog 187 #[.agg #[.slice none 0 0, .slice none 0 0, .string ⟨#[]⟩, .slice fo fnn fc], .string (ofBs name)] x fun e w' => e = .returned (.int .i64 (ixS (findS (fnsOf l) name))) ∧ Below W.heap.size W w' := fun x hx =>
    (refFunction_any x _ _ _ fo fnn fc _ (hRF.keep (hBW.trans (hx.mono hBW.size))) name).mono fun e w' h => ⟨h.1, hx.trans (h.2.mono hx.size)⟩
  have hfree := free_same (fns := fnsOf l) name
  obtain ⟨wd, hwd⟩ : ∃ b, b = wordS name := ⟨_, rfl⟩
  obtain ⟨vl, hvl⟩ : ∃ b, b = valS name := ⟨_, rfl⟩
  obtain ⟨wl, hwl⟩ : ∃ b, b = amongB wordList name := ⟨_, rfl⟩
  obtain ⟨fi, hfi⟩ : ∃ b, b = findS (fnsOf l) name := ⟨_, rfl⟩
  obtain ⟨ty, hty⟩ : ∃ b, b = args.all tyLet := ⟨_, rfl⟩
  obtain ⟨ow, how⟩ : ∃ o, o = Obj.cells (wordList.map fun t => Value.string (ofBs t)).toArray 9 := ⟨_, rfl⟩
  rw [← hwd] at HWd hfree
  rw [← hvl] at HCn hfree
  simp only [← hwl, ← how] at HAw
  rw [← hwl, ← hfi] at hfree
  simp only [← hfi] at HFn
  simp only [← how] at HWo
  rw [← hty] at HTy
  have HFR : Hid _ := hfree
  have HTY : Hid _ := hty
  have HWDW : Hid (wd = wordS name) := hwd
  clear hwd hvl hwl hfi hty how hfree hW
  obtain ⟨⟨x0, x1, x2⟩, x3, hl0, hl1⟩ := HKEEP W (Below.refl _ _)
  go_enter Tryz.func185, Tryz.ntmps185
  go_upto_region 3 with (first
    | (go_at_call 263; refine (HWd _).mono ?_; rintro e w2 ⟨rfl, rfl⟩)
    | (go_at_call 264; refine (HCn _).mono ?_; rintro e w2 ⟨rfl, rfl⟩))
  rw [HATW.out]
  clear HATW HWd HCn
  go_cut [7] (fun s7 wx => s7 = .bool wl ∧ Below W.heap.size W wx)
  case first =>
    clear HFn HTy HKEEP hsW
    go_region_with (first
      | (go_at_call 266; refine (HWo _).mono ?_; rintro e w6 ⟨rfl, rfl⟩)
      | (go_at_call 265; refine (HAw _ _ ?_).mono ?_; (first | exact heap_alloc_new _ _ | exact heap_alloc_new W ow); rintro e w7 ⟨rfl, rfl⟩))
    all_goals (go_wp2_with fail; go_meet)
    all_goals exact ⟨rfl, by first | exact below_box W ow | exact (below_box W ow).drew⟩
  case rest =>
    obtain ⟨rfl, hB3⟩ := hcut
    clear x0 x1 x2 x3 hl0 hl1 HAw HWo
    generalize hw3 : wc = w3 at *
    clear hw3
    obtain ⟨⟨x0, x1, x2⟩, x3, hl0, hl1⟩ := HKEEP w3 hB3
    go_upto_region 4 with fail
    go_cut [8] (fun s8 wx => s8 = .int .i64 (ixS fi) ∧ Below W.heap.size W wx)
    case first =>
      clear HTy HKEEP
      go_region_with (go_at_call 187; refine (HFn _ ?_).mono ?_; (first | exact hB3 | exact hB3.drew); rintro e w6 ⟨rfl, hb6⟩)
      all_goals (go_wp2_with fail; go_meet)
      all_goals exact ⟨rfl, by first | exact hb6 | exact hb6.drew⟩
    case rest =>
      obtain ⟨rfl, hB4⟩ := hcut
      clear x0 x1 x2 x3 hl0 hl1 HFn hB3
      generalize hw4 : wc = w4 at *
      clear hw4
      obtain ⟨⟨x0, x1, x2⟩, x3, hl0, hl1⟩ := HKEEP w4 hB4
      cases wd with
      | false =>
        have HE : Hid (addS (fnsOf l) name args body = .error 2) := addS_bad (by rw [HFR.out]; rfl)
        go_wp2_with fail
        go_ret
        exact .inl ⟨2, HE.out, by decide, rfl, hBW.trans (hB4.mono hBW.size)⟩
      | true =>
        cases vl with
        | true =>
          have HE : Hid (addS (fnsOf l) name args body = .error 2) := addS_bad (by rw [HFR.out]; rfl)
          go_wp2_with fail
          go_ret
          exact .inl ⟨2, HE.out, by decide, rfl, hBW.trans (hB4.mono hBW.size)⟩
        | false =>
          cases wl with
          | true =>
            have HE : Hid (addS (fnsOf l) name args body = .error 2) := addS_bad (by rw [HFR.out]; rfl)
            go_wp2_with fail
            go_ret
            exact .inl ⟨2, HE.out, by decide, rfl, hBW.trans (hB4.mono hBW.size)⟩
          | false =>
            cases fi with
            | some k' =>
              have hix : ixS (some k') = (k' : Int) := rfl
              have HE : Hid (addS (fnsOf l) name args body = .error 2) := addS_bad (by rw [HFR.out]; rfl)
              go_wp2_with fail
              go_ret
              exact .inl ⟨2, HE.out, by decide, rfl, hBW.trans (hB4.mono hBW.size)⟩
            | none =>
              have hix : ixS none = -1 := rfl
              have HFR2 : Hid (freeS (fnsOf l) name = true) := by rw [Hid, HFR.out]; rfl
              have hasz : (ofBs args).size = args.length := ofBs_size _
              cases ty with
              | false =>
                have HE : Hid (addS (fnsOf l) name args body = .error 9) := addS_bad2 HFR2.out (by rw [types_same, ← HTY.out, Bool.and_false])
                go_wp2_with (go_at_call 267; refine (HTy _).mono ?_; rintro e w5 ⟨rfl, rfl⟩)
                go_ret
                exact .inl ⟨9, HE.out, by decide, rfl, hBW.trans (hB4.mono hBW.size)⟩
              | true =>
                by_cases h4 : args.length ≤ 4
                · have HTT : Hid (areTypesS args = true) := by rw [Hid, types_same, ← HTY.out, decide_eq_true h4]; rfl
                  have hd4 : decide ((4 : Int) < ((ofBs args).size : Int)) = false := by rw [hasz]; simp; omega
                  go_upto_region 10 with (go_at_call 267; refine (HTy _).mono ?_; rintro e w5 ⟨rfl, rfl⟩)
                  generalize hq4 : w5 = w4 at *
                  clear hq4
                  go_cut [10] (fun s10 wx => ∃ kb : Nat, s10 = .pointer (some ⟨kb, 0, none⟩) ∧ Below w4.heap.size w4 wx ∧ w4.heap.size ≤ kb ∧ wx.heap[kb]? = some (.cells #[.slice none 0 0, .slice none 0 0, .string (ofBs args), .slice fo fnn fc] 374 (0, 0)))
                  case first =>
                    clear HTy HKEEP hsW
                    go_region
                    all_goals (go_wp2_with fail; go_meet)
                    all_goals exact ⟨w4.heap.size, rfl, by first | exact below_box w4 _ | exact (below_box w4 _).drew, Nat.le_refl _, heap_alloc_new w4 _⟩
                  case rest =>
                    obtain ⟨kb, rfl, hB5, hkb, hkbb⟩ := hcut
                    clear x0 x1 x2 x3 hl0 hl1 HTy hd4 h4
                    generalize hw5 : wc = w5 at *
                    clear hw5
                    have hB5' : Below W.heap.size W w5 := hB4.trans (hB5.mono hB4.size)
                    have Bw5 : Below w.heap.size w w5 := hBW.trans (hB5'.mono hBW.size)
                    obtain ⟨⟨x0, x1, x2⟩, x3, hl0, hl1⟩ := HKEEP w5 hB5'
                    have hkbl := block_lt hkbb
                    obtain ⟨⟨k0, k1, k2, k3⟩, _⟩ := cells4 hkbb
                    have hKO : KnOK (([] : List (Bs × Int)), typesL args) args (l.map (·.1)) := hOK.known HTY.out.symm (fun c hc => by simp at hc) (fun c hc => by simp at hc)
                    have HRd := refRead_any w5 none 0 0 none 0 0 args fo fnn fc ([], typesL args) (l.map (·.1)) (knIn_nil (hRF.keep Bw5)) ha hKO body
                    have HGO : Hid _ := addS_go (body := body) HFR2.out HTT.out
                    have HBX : Hid _ := hbx
                    have HBKW : Hid _ := hbkW
                    clear hbx hbkW
                    go_wp2_with (go_at_call 268; refine HRd.mono ?_)
                    clear HRd
                    rintro e w6 ⟨hb6, hres⟩
                    have Bw6 : Below w.heap.size w w6 := Bw5.trans (hb6.mono Bw5.size)
                    have hB6 : Below W.heap.size W w6 := hB5'.trans (hb6.mono hB5'.size)
                    rcases hres with ⟨n, hrd, hnz, rfl⟩ | ⟨x, t, g, cap, cs, hrd, hps, htyx, hlone, rfl, hgw, hND⟩
                    · have HE : Hid (addS (fnsOf l) name args body = .error n) := by
                        rw [Hid, HGO.out]
                        have : readS atoiS ([], typesL args) (fnsOf l) body = .error n := hrd
                        rw [this]
                      have hne : (n == 0) = false := by simpa using hnz
                      clear hrd
                      go_wp2_with fail
                      go_ret
                      exact .inl ⟨n, HE.out, hnz, rfl, Bw6.alloc Bw6.size _⟩
                    · have HE : Hid (addS (fnsOf l) name args body = .ok ⟨name, typesL args, x⟩) := by
                        rw [Hid, HGO.out]
                        have : readS atoiS ([], typesL args) (fnsOf l) body = .ok x := hrd
                        rw [this]
                      obtain ⟨pm, hpm⟩ : ∃ pm, (post t).length = pm + 1 := ⟨(post t).length - 1, by have := post_pos t; omega⟩
                      rw [hpm]
                      have hbx7 := below_box w6 (.cells #[.slice (some ⟨g, 0, none⟩) (pm + 1) cap] 242)
                      have hkb6 := (hb6.block kb hkbl).trans hkbb
                      have hsz : ((post t).length : Int) + sumI ((post t).map (szR (l.map (·.1)))) = x.size := by
                        rw [post_size atoiS ([], typesL args) (RF.list (l.map (·.1))) t x hlone htyx]
                        congr 2
                        exact List.map_congr_left fun y _ => szR_same hKO y
                      have HSz := refSize_any (w6.alloc (.cells #[.slice (some ⟨g, 0, none⟩) (pm + 1) cap] 242)) none 0 0 none 0 0 args fo fnn fc ([], typesL args) (l.map (·.1)) (knIn_nil (hRF.keep (Bw6.alloc Bw6.size _))) hKO g cap (post t) _ cs (hND.keep hbx7)
                      rw [hsz, hpm] at HSz
                      have hqx : quT (l.map (·.1)) t = x.quiet := (quT_same atoiS hKO t x hlone htyx).symm
                      have hpmi : (post t)[pm]? = some t := by have := post_last t; rw [hpm, Nat.add_sub_cancel] at this; exact this
                      have HQu : ∀ y : World, Below (w6.alloc (.cells #[.slice (some ⟨g, 0, none⟩) (pm + 1) cap] 242)).heap.size (w6.alloc (.cells #[.slice (some ⟨g, 0, none⟩) (pm + 1) cap] 242)) y → Calls Tryz.prog 270 #[.agg #[.slice none 0 0, .slice none 0 0, .string (ofBs args), .slice fo fnn fc], .agg #[.slice (some ⟨g, 0, none⟩) (pm + 1) cap], .int .i64 (pm : Int)] y fun e w' => e = .returned (.bool x.quiet) ∧ Below y.heap.size y w' := by
                        intro y hy
                        have := refQuiet_any (SizeOf.sizeOf t) t y none 0 0 none 0 0 args fo fnn fc ([], typesL args) (l.map (·.1)) g cap (post t) _ cs pm (Nat.le_refl _) (knIn_nil (hRF.keep ((Bw6.alloc Bw6.size _).trans (hy.mono (Bw6.alloc Bw6.size _).size)))) hKO ((hND.keep hbx7).keep hy) hpmi
                        rw [hqx, hpm] at this; exact this
                      obtain ⟨⟨j0, j1, j2, j3⟩, _⟩ := cells4 ((hbx7.block kb (block_lt hkb6)).trans hkb6)
                      have heb7 := heap_alloc_new w6 (.cells #[.slice (some ⟨g, 0, none⟩) (pm + 1) cap] 242)
                      obtain ⟨j4, _⟩ := cells1 heb7
                      have hkl7 : kb < (w6.alloc (.cells #[.slice (some ⟨g, 0, none⟩) (pm + 1) cap] 242)).heap.size := by rw [World.size_alloc]; have := block_lt hkb6; omega
                      have hel7 : w6.heap.size < (w6.alloc (.cells #[.slice (some ⟨g, 0, none⟩) (pm + 1) cap] 242)).heap.size := by rw [World.size_alloc]; omega
                      have B7 : Below W.heap.size W (w6.alloc (.cells #[.slice (some ⟨g, 0, none⟩) (pm + 1) cap] 242)) := hB6.alloc hB6.size _
                      have Bw7 : Below w.heap.size w (w6.alloc (.cells #[.slice (some ⟨g, 0, none⟩) (pm + 1) cap] 242)) := Bw6.alloc Bw6.size _
                      have HKB7 : Hid _ := (hbx7.block kb (block_lt hkb6)).trans hkb6
                      have HN7 : Hid _ := hND.keep hbx7
                      have hszb : 0 ≤ x.size ∧ x.size ≤ 300 := readS_size (fun fn hfn => by
                        rw [RF.list, List.mem_map] at hfn
                        obtain ⟨r, hr, rfl⟩ := hfn
                        exact hOK.sizes r hr) hrd
                      have hxty : isTyp x.ty := typ_typed atoiS hKO t x hlone htyx
                      have hpl1 : pm + 1 ≤ 1000 := by have := hND.small; omega
                      have hcap1 : pm + 1 ≤ cap := by have := hND.cap; omega
                      have HPM : Hid _ := hpm
                      have HXT : Hid _ := hxty
                      have HSB : Hid _ := hszb
                      have HTX : Hid _ := htyx
                      clear hpm hsz hqx hpmi hrd hps htyx hlone hND hkb6 hbx7 heb7 hxty hszb x0 x1 x2 x3 hl0 hl1 k0 k1 k2 k3
                      generalize hw7 : w6.alloc (.cells #[.slice (some ⟨g, 0, none⟩) (pm + 1) cap] 242) = w7 at *
                      obtain ⟨⟨x0, x1, x2⟩, x3, hl0, hl1⟩ := HKEEP w7 B7
                      obtain ⟨xs, hxs⟩ : ∃ z, z = x.size := ⟨_, rfl⟩
                      obtain ⟨xq, hxq⟩ : ∃ z, z = x.quiet := ⟨_, rfl⟩
                      rw [← hxs] at HSz
                      simp only [← hxq] at HQu
                      have HXS : Hid _ := hxs
                      have HXQ : Hid _ := hxq
                      clear hxs hxq
                      go_upto_region 16 with (first
                        | (go_at_call 269; refine HSz.mono ?_; rintro e w8 ⟨rfl, hb8⟩; have m0 := (hb8.cell (p := ⟨kb, 0, none⟩) hkl7).trans j0; have m1 := (hb8.cell (p := ⟨kb, 1, none⟩) hkl7).trans j1; have m2 := (hb8.cell (p := ⟨kb, 2, none⟩) hkl7).trans j2; have m3 := (hb8.cell (p := ⟨kb, 3, none⟩) hkl7).trans j3; have m4 := (hb8.cell (p := ⟨w6.heap.size, 0, none⟩) hel7).trans j4)
                        | (go_at_call 270; refine (HQu _ hb8).mono ?_; rintro e w9 ⟨rfl, hb9⟩))
                      have B8 : Below W.heap.size W w8 := B7.trans (hb8.mono B7.size)
                      have B9 : Below W.heap.size W w9 := B8.trans (hb9.mono B8.size)
                      have Bw9 : Below w.heap.size w w9 := hBW.trans (B9.mono hBW.size)
                      have hel8 : w6.heap.size < w8.heap.size := Nat.lt_of_lt_of_le hel7 hb8.size
                      have n4 := (hb9.cell (p := ⟨w6.heap.size, 0, none⟩) hel8).trans m4
                      have hel9 : w6.heap.size < w9.heap.size := Nat.lt_of_lt_of_le hel8 hb9.size
                      have own9 : w9.ownsRow (xb + 1) 377 5 (.slice fo fnn fc) l.length (rfCells l) := owns_keep hown fun q hq => Bw9.block q (hown.lt q hq).2
                      have HOWN : ∀ o : Obj, (w9.alloc o).drew.ownsRow (xb + 1) 377 5 (.slice fo fnn fc) l.length (rfCells l) := fun o => World.ownsRow.drew (World.ownsRow.alloc own9 o)
                      have hvb : (Value.slice fo fnn fc).ownBlock ≠ some xb := fun e => by have := (own9.lt _ e).1; omega
                      have hvb0 : (Value.slice fo fnn fc).ownBlock ≠ some w.heap.size := fun e => by have := (hown.lt _ e).2; omega
                      have hvb6 : (Value.slice fo fnn fc).ownBlock ≠ some w6.heap.size := fun e => by have := (hown.lt _ e).2; have := Bw6.size; omega
                      have hbk9 := (Bw9.block xb hxl).trans hbk
                      have HBK9 : Hid _ := hbk9
                      have HN9 : Hid _ := (HN7.out.keep hb8).keep hb9
                      clear x0 x1 x2 x3 hl0 hl1 m0 m1 m2 m3 m4 j0 j1 j2 j3 j4 HSz HQu hbk9 hRF hbk hw7
                      obtain ⟨⟨x0, x1, x2⟩, x3, hl0, hl1⟩ := HKEEP w9 B9
                      refine refAddFunc_r16 xb w.heap.size w6.heap.size w9 l fo fnn fc (ofBs name) (ofBs args) g (pm + 1) cap xs xq h7 hl0 hl1 hel9 x0 x1 n4 x3 own9 HBK9.out _ _ _ _ _ _ _ _ _ _ _ _ _ _ _ _ _ _ _ _ _ _ _ _ _ _ _ _ _ _ _ _ _ _ _ _ _ _ _ _ _ _ _ _ _ _ _ _ _ _ _ _ _ _ _ _ _ _ _ _ _ _ _ _ _ _ _ _ _ _ _ _ _ _ _ _ _ _ _ _ _ _ _ _ _ _ _ _ _ _ _ _ _ _ _ _ _ _ _ ?_
                      intro v85 v86 v87 v88 v89 v90 v91 v92 v93 v94 v95 v96 v97 v98 v99 v100 v101 g7 cap7 w10 L hown7 hgrow7 kB
                      dsimp only
                      go_wp2_with fail
                      go_ret
                      all_goals
                        have hcl : [.string (ofBs name), .string (ofBs args), .slice (some ⟨g, 0, none⟩) (pm + 1) cap, .int .i64 xs, .bool xq] = rfCell ((⟨⟨name, typesL args, x⟩, args, t⟩ : RF), g, cap) := by
                          rw [rfCell, HXS.out, HXQ.out]; simp only [HPM.out]
                        rw [hcl] at hown7
                        have hbody : BodyAt w9 ((⟨⟨name, typesL args, x⟩, args, t⟩ : RF), g, cap) := by
                          refine ⟨cs, _, HN9.out, ?_⟩
                          show tysTo atoiS ([], typesL args) (RF.list (l.map (·.1))) (post t) (post t).length ((post t).length - 1) = ltI x.ty
                          rw [tysTo, if_pos (by have := post_pos t; omega), post_last t]
                          show tyR (typS atoiS ([], typesL args) (RF.list (l.map (·.1))) t) = ltI x.ty
                          rw [HTX.out]; rfl
                        obtain ⟨A1, A2⟩ := rf_fin hxl Bw9 HBK9.out own9 h7 hbod hbody hown7 hgrow7 kB
                        have hfb : builtS name = false := by
                          have h1 := HFR2.out
                          unfold freeS at h1
                          simp only [Bool.and_eq_true, Bool.not_eq_true'] at h1
                          exact h1.1.2
                        have hin : ∀ r ∈ (l ++ [((⟨⟨name, typesL args, x⟩, args, t⟩ : RF), g, cap)]).map (·.1), r ∈ l.map (·.1) ∨ r = ⟨⟨name, typesL args, x⟩, args, t⟩ := by
                          intro r hr
                          rw [List.map_append, List.mem_append] at hr
                          rcases hr with h | h
                          · exact .inl h
                          · simp at h; exact .inr h
                        refine .inr ⟨_, t, g, cap, HE.out, rfl, A1, ⟨fun r hr => ?_, fun r hr => ?_, fun r hr => ?_, fun r hr => ?_⟩, A2⟩
                        · rcases hin r hr with h | rfl
                          · exact hOK.fty r h
                          · exact HXT.out
                        · rcases hin r hr with h | rfl
                          · exact hOK.fargs r h
                          · exact ⟨rfl, HTY.out.symm⟩
                        · rcases hin r hr with h | rfl
                          · exact hOK.free r h
                          · exact hfb
                        · rcases hin r hr with h | rfl
                          · exact hOK.sizes r h
                          · exact HSB.out
                · have HE : Hid (addS (fnsOf l) name args body = .error 9) := addS_bad2 HFR2.out (by rw [types_same, decide_eq_false h4]; rfl)
                  have hd4 : decide ((4 : Int) < ((ofBs args).size : Int)) = true := by rw [hasz]; simp; omega
                  go_wp2_with (go_at_call 267; refine (HTy _).mono ?_; rintro e w5 ⟨rfl, rfl⟩)
                  go_ret
                  exact .inl ⟨9, HE.out, by decide, rfl, hBW.trans (hB4.mono hBW.size)⟩
end Go.Proofs.YtilfjpmeededmaaGreatDoor

namespace Go.Proofs.YtilfjpmeededmaaGreatDoor
open Go.RowKit
def TNamesIn (w : World) (v : Value) (ns : List Bs) : Prop := ∃ ao cap, v = .slice ao ns.length cap ∧ ns.length ≤ 1000 ∧ (ns = [] ∨ ∃ b, ao = some ⟨b, 0, none⟩ ∧ b < w.heap.size ∧ ∀ (i : Nat) (n : Bs), ns[i]? = some n → w.cell? ⟨b, i * 6, none⟩ = some (.string (ofBs n)))
def tixFrom (ns : List Bs) (l : Bs) (i : Nat) : Option Nat := ((ns.drop i).findIdx? (fun n => n == l)).map (· + i)
theorem tixFrom_zero (ns : List Bs) (l : Bs) : tixFrom ns l 0 = ns.findIdx? (fun n => n == l) := by
  unfold tixFrom; simp
theorem tixFrom_hit {ns : List Bs} {l : Bs} {i : Nat} (hi : i < ns.length) (h : (ns[i] == l) = true) : tixFrom ns l i = some i := by
  unfold tixFrom; rw [List.drop_eq_getElem_cons hi, List.findIdx?_cons, h]; simp
theorem tixFrom_miss {ns : List Bs} {l : Bs} {i : Nat} (hi : i < ns.length) (h : (ns[i] == l) = false) : tixFrom ns l i = tixFrom ns l (i + 1) := by
  unfold tixFrom; rw [List.drop_eq_getElem_cons hi, List.findIdx?_cons, h]
  simp only [Bool.false_eq_true, if_false, Option.map_map]; congr 1; funext x; simp; omega
theorem tixFrom_end {ns : List Bs} {l : Bs} {i : Nat} (hi : ns.length ≤ i) : tixFrom ns l i = none := by
  unfold tixFrom; rw [List.drop_of_length_le hi]; rfl
set_option maxHeartbeats 1600000 in
set_option maxRecDepth 100000 in
theorem refTable_any (w : World) (xb : Nat) (to' : Option Addr) (tn tc : Nat) (ns : List Bs) (hx : w.cell? ⟨xb, 1, none⟩ = some (.slice to' tn tc)) (h : TNamesIn w (.slice to' tn tc) ns) (l : Bs) :
    Calls Tryz.prog 192 #[.pointer (some ⟨xb, 0, none⟩), .string (ofBs l)] w fun e w' => e = .returned (.int .i64 (ixS (ns.findIdx? (fun n => n == l)))) ∧ Below w.heap.size w w' := by
  obtain ⟨ao, cap, he, h8, hz⟩ := h
  cases he
  have HI : Hid _ := tixFrom_zero ns l
  have HZ : Hid _ := hz
  clear hz
  go_enter Tryz.func192, Tryz.ntmps192
  go_wp2_with fail
  go_loop [5] (fun iv => ∃ i : Nat, i ≤ ns.length ∧ iv = .int .i64 i ∧ Hid (tixFrom ns l 0 = tixFrom ns l i)) (fun i => ns.length - (intOf i).toNat)
  case atStart => exact ⟨0, Nat.zero_le _, rfl, rfl⟩
  case round =>
    obtain ⟨i, hi, rfl, HA⟩ := hrel
    by_cases hlt : i < ns.length
    · obtain ⟨b, rfl, hb, hc⟩ : ∃ b, to' = some ⟨b, 0, none⟩ ∧ b < w.heap.size ∧ ∀ (i : Nat) (n : Bs), ns[i]? = some n → w.cell? ⟨b, i * 6, none⟩ = some (.string (ofBs n)) := by
        rcases HZ.out with h | h
        · subst h; simp at hlt
        · exact h
      have q0 := hc i ns[i] (List.getElem?_eq_getElem hlt)
      have ho : (ofBs ns[i]).toList = ns[i] := ofBs_toList _
      have ho2 : (ofBs l).toList = l := ofBs_toList _
      clear hc HZ
      cases he : (ns[i] == l) with
      | true =>
        have HN : Hid (ns.findIdx? (fun n => n == l) = some i) := by rw [Hid, ← HI.out, HA.out, tixFrom_hit hlt he]
        clear HI HA
        go_wp2_with fail
        go_ret
        exact ⟨by rw [HN.out]; rfl, Below.refl _ _⟩
      | false =>
        have HN : Hid (tixFrom ns l 0 = tixFrom ns l (i + 1)) := by rw [Hid, HA.out, tixFrom_miss hlt he]
        clear HI HA
        go_wp2_with fail
        go_round
        case rel => exact ⟨i + 1, by omega, by go_num, HN⟩
        case measure => simp [intOf]; omega
    · have HN : Hid (ns.findIdx? (fun n => n == l) = none) := by rw [Hid, ← HI.out, HA.out, tixFrom_end (by omega)]
      clear HI HA HZ
      go_wp2_with fail
      go_ret
      exact ⟨by rw [HN.out]; rfl, Below.refl _ _⟩
end Go.Proofs.YtilfjpmeededmaaGreatDoor

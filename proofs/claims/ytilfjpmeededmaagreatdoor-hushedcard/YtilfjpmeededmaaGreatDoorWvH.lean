/- Package work: note. -/
import Derived.Test.YtilfjpmeededmaaGreatDoorWvC
import Derived.Test.YtilfjpmeededmaaGreatDoorWkFZ
import Derived.Test.YtilfjpmeededmaaGreatDoorBaB
import Derived.Deep.RegionHeld2
import Derived.Deep.AppendLies
namespace Go.Proofs.YtilfjpmeededmaaGreatDoor
open Go.RowKit

def strVals (ns : List Bs) : List Value := ns.map fun s => Value.string (ofBs s)
/-- The worker and what it has noted. -/
def WkIs (w : World) (wb : Nat) (user : Bs) (no : Option Addr) (nn nc : Nat) (ns : List Bs) : Prop :=
  w.heap[wb]? = some (.cells #[.string (ofBs user), .slice no nn nc] 128 (0, 0)) ∧ w.ownsRow (wb + 1) 9 1 (.slice no nn nc) ns.length (strVals ns)
/-- Nothing old is changed but the worker and its notes. -/
def Nt (wb : Nat) (nv : Value) (w w' : World) : Prop := Below wb w w' ∧ ∀ g, g < w.heap.size → g ≠ wb → nv.ownBlock ≠ some g → w'.heap[g]? = w.heap[g]?
theorem infoStr : (Tryz.prog.info? 9).map (fun i => (i.zero, i.size, i.bytes)) = some (some (.string ⟨#[]⟩), 1, 16) := by kernel_rfl
theorem blk1_drew (x : World) (o : Obj) : (x.alloc o).drew.heap[x.heap.size]? = some o := heap_alloc_new x o

theorem box_cells {w : World} {b : Nat} {a0 a1 a2 : Value} {o : Obj} (h : b < w.heap.size) (h0 : w.cell? ⟨b, 0, none⟩ = some a0) (h1 : w.cell? ⟨b, 1, none⟩ = some a1) (h2 : w.cell? ⟨b, 2, none⟩ = some a2) : (w.alloc o).cell? ⟨b, 0, none⟩ = some a0 ∧ (w.alloc o).cell? ⟨b, 1, none⟩ = some a1 ∧ (w.alloc o).cell? ⟨b, 2, none⟩ = some a2 :=
  have hb := below_box w o
  ⟨(hb.cell (p := ⟨b, 0, none⟩) h).trans h0, (hb.cell (p := ⟨b, 1, none⟩) h).trans h1, (hb.cell (p := ⟨b, 2, none⟩) h).trans h2⟩
theorem set3_ne (x : World) (b j : Nat) (a0 a1 a2 : Value) (h : j ≠ b) : (((x.setCell ⟨b, 0, none⟩ a0).setCell ⟨b, 1, none⟩ a1).setCell ⟨b, 2, none⟩ a2).heap[j]? = x.heap[j]? := by
  rw [Below.heap_setCell _ _ _ _ h, Below.heap_setCell _ _ _ _ h, Below.heap_setCell _ _ _ _ h]
theorem note_fin {w W w2 w7 : World} {wb g7 cap7 : Nat} {user : Bs} {no : Option Addr} {nn nc : Nat} {ns : List Bs} {txt : Bs} {o : Obj} (hbk : w.heap[wb]? = some (.cells #[.string (ofBs user), .slice no nn nc] 128 (0, 0))) (hown : w.ownsRow (wb + 1) 9 1 (.slice no nn nc) ns.length (strVals ns))
    (hb0 : Below w.heap.size w W) (hWs : W.heap.size = w.heap.size + 2) (hb2 : Below W.heap.size W w2) (hg : (w2.alloc o).grownBy w7 (Value.slice no nn nc).ownBlock) (h7 : w7.ownsRow (wb + 1) 9 1 (.slice (some ⟨g7, 0, none⟩) (ns.length + 1) cap7) (ns.length + 1) (strVals ns ++ [.string (ofBs txt)])) (hat : (Value.slice no nn nc).ownBlock = some g7 ∨ g7 = w2.heap.size + 1)
    (kB : w7.heap[wb]? = some (.cells #[.string (ofBs user), .slice no nn nc] 128)) {a0 a1 a2 : Value} :
    WkIs ((((w7.setCell ⟨wb, 1, none⟩ (.slice (some ⟨g7, 0, none⟩) (ns.length + 1) cap7)).setCell ⟨w.heap.size + 1, 0, none⟩ a0).setCell ⟨w.heap.size + 1, 1, none⟩ a1).setCell ⟨w.heap.size + 1, 2, none⟩ a2) wb user (some ⟨g7, 0, none⟩) (ns.length + 1) cap7 (ns ++ [txt]) ∧
    Nt wb (.slice no nn nc) w ((((w7.setCell ⟨wb, 1, none⟩ (.slice (some ⟨g7, 0, none⟩) (ns.length + 1) cap7)).setCell ⟨w.heap.size + 1, 0, none⟩ a0).setCell ⟨w.heap.size + 1, 1, none⟩ a1).setCell ⟨w.heap.size + 1, 2, none⟩ a2) := by
  have hwl := block_lt hbk
  have hs2 := hb2.size
  have hs7 := hg.size
  simp only [World.size_alloc] at hs7
  have hg7 : g7 ≠ w.heap.size + 1 := by
    rcases hat with e | e
    · have := (hown.lt _ e).2; omega
    · omega
  have hgw : g7 ≠ wb := by
    rcases hat with e | e
    · have := (hown.lt _ e).1; omega
    · omega
  have keep : ∀ g, g < w.heap.size → g ≠ wb → (Value.slice no nn nc).ownBlock ≠ some g → ((((w7.setCell ⟨wb, 1, none⟩ (.slice (some ⟨g7, 0, none⟩) (ns.length + 1) cap7)).setCell ⟨w.heap.size + 1, 0, none⟩ a0).setCell ⟨w.heap.size + 1, 1, none⟩ a1).setCell ⟨w.heap.size + 1, 2, none⟩ a2).heap[g]? = w.heap[g]? := by
    intro g h1 h2 h3
    rw [set3_ne _ _ _ _ _ _ (by omega), Below.heap_setCell _ _ _ _ h2, hg.block g (by simp only [World.size_alloc]; omega) (fun e => h3 e.symm), Below.heap_alloc _ _ _ (by omega), hb2.block g (by omega)]
    exact hb0.block g h1
  refine ⟨⟨?_, ?_⟩, ⟨⟨?_, ?_, ?_, ?_, ?_⟩, keep⟩⟩
  · rw [set3_ne _ _ _ _ _ _ (by omega)]
    simp [World.setCell, Array.getElem?_modify, kB]
  · have e : strVals (ns ++ [txt]) = strVals ns ++ [.string (ofBs txt)] := by simp [strVals]
    rw [e, List.length_append]
    exact owns_keep h7 fun g hgg => by cases hgg; rw [set3_ne _ _ _ _ _ _ hg7, Below.heap_setCell _ _ _ _ hgw]
  · exact hg.os.trans (hb2.os.trans hb0.os)
  · exact hg.tape.trans (hb2.tape.trans hb0.tape)
  · exact hg.output.trans (hb2.output.trans hb0.output)
  · simp only [World.size_setCell]; omega
  · intro g h1
    exact keep g (by omega) (by omega) (fun e => by have := (hown.lt _ e).1; omega)
set_option maxHeartbeats 8000000 in
set_option maxRecDepth 100000 in
theorem note_any (w : World) (wb : Nat) (user : Bs) (no : Option Addr) (nn nc : Nat) (ns : List Bs) (hk : WkIs w wb user no nn nc ns) (hT : TabP w) (c : CellT) (h0 : -9223372036854775808 ≤ c.2.1) (h1 : c.2.1 ≤ 9223372036854775807) (hl : c.2.2.length ≤ 1000) (hn : ns.length ≤ 1000000000) :
    Calls Tryz.prog 220 #[.pointer (some ⟨wb, 0, none⟩), .agg #[.int .i64 c.1, .int .i64 c.2.1, .string (ofBs c.2.2)]] w fun e w' => e = .returned (.agg #[.int .i64 c.1, .int .i64 c.2.1, .string (ofBs c.2.2)]) ∧ (∃ no' nc', WkIs w' wb user no' (ns.length + 1) nc' (ns ++ [notedS c])) ∧ Nt wb (.slice no nn nc) w w' := by
  obtain ⟨i0, hi, hz0, hz1, hz2⟩ := info_parts infoStr
  obtain ⟨hbk, hown⟩ := hk
  obtain ⟨ck, cn, cl⟩ := c
  simp only at h0 h1 hl ⊢
  have hwl := block_lt hbk
  have hb0 := below_box2 w (.cells #[.int .i64 ck, .int .i64 cn, .string (ofBs cl)] 50) (cellO 0 0 ⟨#[]⟩)
  have k0 : ((w.alloc (.cells #[.int .i64 ck, .int .i64 cn, .string (ofBs cl)] 50)).alloc (cellO 0 0 ⟨#[]⟩)).heap[w.heap.size]? = some (.cells #[.int .i64 ck, .int .i64 cn, .string (ofBs cl)] 50) := (Below.heap_alloc _ _ _ (by simp [World.size_alloc])).trans (heap_alloc_new w _)
  have k1 : ((w.alloc (.cells #[.int .i64 ck, .int .i64 cn, .string (ofBs cl)] 50)).alloc (cellO 0 0 ⟨#[]⟩)).heap[w.heap.size + 1]? = some (cellO 0 0 ⟨#[]⟩) := by
    have := heap_alloc_new (w.alloc (.cells #[.int .i64 ck, .int .i64 cn, .string (ofBs cl)] 50)) (cellO 0 0 ⟨#[]⟩)
    rw [World.size_alloc] at this; exact this
  obtain ⟨W, hW⟩ : ∃ W, W = (w.alloc (.cells #[.int .i64 ck, .int .i64 cn, .string (ofBs cl)] 50)).alloc (cellO 0 0 ⟨#[]⟩) := ⟨_, rfl⟩
  have hWs : W.heap.size = w.heap.size + 2 := by rw [hW]; simp [World.size_alloc]
  obtain ⟨txt, htx⟩ : ∃ t, t = notedS (ck, cn, cl) := ⟨_, rfl⟩
  have HN := fun (x : World) (hx : Below W.heap.size W x) => noted_any ck cn cl x (tabP_keep (tabP_keep hT (by rw [← hW] at hb0; exact hb0)) hx) h0 h1 hl
  simp only [← htx] at HN ⊢
  go_enter Tryz.func220, Tryz.ntmps220
  go_upto_region 1 with fail
  rw [← hW] at k0 k1 hb0 ⊢
  have hbW := (hb0.block wb hwl).trans hbk
  obtain ⟨e0, _, e1, _⟩ := cellsB hbW
  obtain ⟨⟨z0, z1, z2⟩, _⟩ := cells3 k0
  have hvb : (Value.slice no nn nc).ownBlock ≠ some wb := fun e => by have := (hown.lt _ e).1; omega
  have hl1 : wb < W.heap.size := by omega
  have hl0 : w.heap.size < W.heap.size := by omega
  have hvc : (Value.slice no nn nc).ownBlock ≠ some w.heap.size := fun e => by have := (hown.lt _ e).2; omega
  have hvr : (Value.slice no nn nc).ownBlock ≠ some (w.heap.size + 1) := fun e => by have := (hown.lt _ e).2; omega
  have hl2 : w.heap.size + 1 < W.heap.size := by omega
  clear hW htx hT
  have HOWN : ∀ (w2 : World), Below W.heap.size W w2 → ∀ o : Obj, (w2.alloc o).drew.ownsRow (wb + 1) 9 1 (.slice no nn nc) ns.length (strVals ns) := fun w2 hb2 o =>
    World.ownsRow.drew (World.ownsRow.alloc (owns_keep hown fun g hg => (hb2.block g (by have := (hown.lt g hg).2; omega)).trans (hb0.block g (hown.lt g hg).2)) o)
  go_region_law
    (first
      | (refine step_append_lies _ rfl (.tmp 9) (.tmp 12) 34 rfl (wb + 1) 9 i0 _ 1 16 Tryz.underlying34 hi hz0 hz1 hz2 rfl (by decide) (.slice no nn nc) ns.length (strVals ns) (by simp [Act.eval]) (HOWN _ hb2 _) ⟨w2.heap.size, 0, none⟩ 1 1 [.string (ofBs txt)] (by simp [Act.eval]) rfl (World.news_of_block (blk1_drew w2 _)) (by intro u hu; simp at hu; subst hu; rfl) (by decide) (by unfold maxLen; omega) (by omega) (by simp; omega) (w2.heap.size + 1) (by simp) ?_; intro g7 cap7 w7 hown7 hgrow7 hat7 hlt7; have kB : w7.heap[wb]? = _ := (hgrow7.block wb (by simp; omega) hvb.symm).trans ((Below.heap_alloc _ _ _ m1).trans ((hb2.block wb hl1).trans hbW)); have kC : w7.heap[w.heap.size]? = _ := (hgrow7.block w.heap.size (by simp; omega) hvc.symm).trans ((Below.heap_alloc _ _ _ m0).trans ((hb2.block _ hl0).trans k0)); obtain ⟨v0, v00, v1, v11⟩ := cellsB kB; obtain ⟨⟨v2, v3, v4⟩, _⟩ := cells3 kC; have hb7 := block_lt kB; have hc7 := block_lt kC)
      | (go_simp; go_at_call 298; refine (HN _ ?_).mono ?_; exact (Below.refl W.heap.size W).drew; rintro e w2 ⟨rfl, hb2⟩; replace hb2 := undrewB hb2; have y1 := (hb2.cell (p := ⟨wb, 1, none⟩) hl1).trans e1; have y2 := (hb2.cell (p := ⟨w.heap.size, 0, none⟩) hl0).trans z0; have y3 := (hb2.cell (p := ⟨w.heap.size, 1, none⟩) hl0).trans z1; have y4 := (hb2.cell (p := ⟨w.heap.size, 2, none⟩) hl0).trans z2; have hs2 := hb2.size; have m1 := Nat.lt_of_lt_of_le hl1 hs2; have m0 := Nat.lt_of_lt_of_le hl0 hs2; have KA := fun o : Obj => box_cells (o := o) m0 y2 y3 y4; have KC := fun o : Obj => ((below_box w2 o).cell (p := ⟨wb, 1, none⟩) m1).trans y1))
  all_goals
    have kR : w7.heap[w.heap.size + 1]? = _ := (hgrow7.block (w.heap.size + 1) (by simp; omega) hvr.symm).trans ((Below.heap_alloc _ _ _ (Nat.lt_of_lt_of_le hl2 hs2)).trans ((hb2.block _ hl2).trans k1))
    obtain ⟨⟨r0, r1, r2⟩, rf0, rf1, rf2⟩ := cells3 kR
    have hr7 := block_lt kR
    go_wp2_with fail
  all_goals
    refine bodyPost_ret (v := .agg #[.int .i64 ck, .int .i64 cn, .string (ofBs cl)]) (by simp [results, Tryz.results220, go_sem, r0, r1, r2]) rfl ⟨rfl, ?_⟩
    obtain ⟨A1, A2⟩ := note_fin hbk hown hb0 hWs hb2 hgrow7 hown7 hat7 kB
    exact ⟨⟨_, _, A1⟩, A2⟩
end Go.Proofs.YtilfjpmeededmaaGreatDoor

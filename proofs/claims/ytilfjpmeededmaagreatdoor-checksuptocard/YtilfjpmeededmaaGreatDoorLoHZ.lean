import Derived.Test.YtilfjpmeededmaaGreatDoorLoDZ
import Derived.Deep.RegionLaw
import Derived.Deep.DeepCutAuto
set_option linter.unusedVariables false
set_option linter.unusedSimpArgs false
namespace Go.Proofs.YtilfjpmeededmaaGreatDoor
open Go.RowKit
def KeepL (w x : World) (S : List TypeId) : Prop := ∀ (q : Nat) (cur : Array Value) (T : TypeId) (fz : Nat × Nat), w.heap[q]? = some (.cells cur T fz) → T ∉ S → x.heap[q]? = w.heap[q]?
theorem KeepT.l {w x : World} {A B : TypeId} (h : KeepT w x A B) {S : List TypeId} (hA : A ∈ S) (hB : B ∈ S) : KeepL w x S := fun q cur T fz hq hT => h q cur T fz hq (fun e => hT (e ▸ hA)) (fun e => hT (e ▸ hB))
theorem KeepL.trans {w x y : World} {S : List TypeId} (h1 : KeepL w x S) (h2 : KeepL x y S) : KeepL w y S := fun q cur T fz hq hT => by
  have e := h1 q cur T fz hq hT
  exact (h2 q cur T fz (e.trans hq) hT).trans e
theorem KeepL.mono {w x : World} {S S' : List TypeId} (h : KeepL w x S) (hs : ∀ T ∈ S, T ∈ S') : KeepL w x S' := fun q cur T fz hq hT => h q cur T fz hq fun hc => hT (hs T hc)
theorem KeepL.refl (w : World) (S : List TypeId) : KeepL w w S := fun _ _ _ _ _ _ => rfl
theorem KeepT.trans {w x y : World} {A B : TypeId} (h1 : KeepT w x A B) (h2 : KeepT x y A B) : KeepT w y A B := fun q cur T fz hq a b => by
  have e := h1 q cur T fz hq a b
  exact (h2 q cur T fz (e.trans hq) a b).trans e
theorem KeepT.refl (w : World) (A B : TypeId) : KeepT w w A B := fun _ _ _ _ _ _ _ => rfl
theorem rowIs_typedL {w x : World} {g n : Nat} {T : TypeId} {S : List TypeId} {f : Nat → Value} (h : w.rowIs g T n f) (hk : KeepL w x S) (h1 : T ∉ S) : x.rowIs g T n f := by
  have h' := h
  obtain ⟨c, hb, _, _⟩ := h'
  exact h.of_block (hk _ _ _ _ hb h1)
theorem LnsIn.typedL {Wt : Ln → Prop} {w x : World} {T TL : TypeId} {S : List TypeId} {z mb : Nat} {far : Nat → Value} {v : Value} {ls : List Ln} (h : LnsIn Wt w T TL z far mb v ls) (hk : KeepL w x S) (h1 : T ∉ S) (h2 : TL ∉ S) : LnsIn Wt x T TL z far mb v ls :=
  ⟨owns_typed h.own fun q cur fz hq => hk q cur TL fz hq h2, fun l hl => ⟨rowIs_typedL (h.each l hl).row hk h1, (h.each l hl).len, (h.each l hl).lo, (h.each l hl).small, (h.each l hl).want⟩, h.apart⟩
theorem LnsIn.other {Wt : Ln → Prop} {w x : World} {T TL T' : TypeId} {z mb g : Nat} {far : Nat → Value} {v : Value} {ls : List Ln} (h : LnsIn Wt w T TL z far mb v ls) (hk : ∀ q, q ≠ g → x.heap[q]? = w.heap[q]?) (hg : ∃ c, w.heap[g]? = some (.cells c T' (0, 0))) (h1 : T ≠ T') (h2 : TL ≠ T') : LnsIn Wt x T TL z far mb v ls :=
  h.typedL (S := [T']) (fun q cur T0 fz hq hT => hk q fun e => by
    subst e; obtain ⟨c, hc⟩ := hg; rw [hc] at hq; cases hq; simp at hT) (by simpa using h1) (by simpa using h2)
structure RowS where
  ro : Option Addr
  rn : Nat
  rc : Nat
  cs : List Value
structure SrcOk (Ty : List Value → Nat → Prop) (w0 : World) (z : Nat) (r : RowS) : Prop where
  small : r.rn ≤ 1048576
  nil : r.ro = none → r.rn = 0 ∧ r.rc = 0
  want : WantIn w0 z r.ro r.rn r.cs
  one : ∀ v ∈ r.cs, v.oneCell' = true
  ty : Ty r.cs r.rn
abbrev RowOk (w0 : World) (r : RowS) : Prop := SrcOk TyC w0 3 r
def RowsSrc (w0 : World) (wo : Option Addr) (n : Nat) (rows : List RowS) : Prop := rows.length = n ∧ (n = 0 ∨ ∃ b off, wo = some ⟨b, off, none⟩ ∧ b < w0.heap.size ∧ ∀ (i : Nat) (r : RowS), rows[i]? = some r → w0.cell? ⟨b, off + i, none⟩ = some (.slice r.ro r.rn r.rc))
def RowLent (C : List Ln) (r : RowS) (v : Value) : Prop := (r.rn = 0 ∧ v = .slice none 0 0) ∨ ∃ g, v = .slice (some ⟨g, 0, none⟩) r.rn (r.rn + 3) ∧ (⟨g, r.rn, r.ro, r.rc, r.cs⟩ : Ln) ∈ C
theorem RowLent.mono {C C' : List Ln} {r : RowS} {v : Value} (h : RowLent C r v) (hs : ∀ l ∈ C, l ∈ C') : RowLent C' r v := by
  rcases h with h | ⟨g, h1, h2⟩
  · exact .inl h
  · exact .inr ⟨g, h1, hs _ h2⟩
def RowsLent (C : List Ln) (rows : List RowS) (es : List Value) : Prop := es.length = rows.length ∧ ∀ (i : Nat) (r : RowS) (v : Value), rows[i]? = some r → es[i]? = some v → RowLent C r v
theorem RowsLent.mono {C C' : List Ln} {rows : List RowS} {es : List Value} (h : RowsLent C rows es) (hs : ∀ l ∈ C, l ∈ C') : RowsLent C' rows es := ⟨h.1, fun i r v a b => (h.2 i r v a b).mono hs⟩
theorem RowsLent.snoc {C : List Ln} {rows : List RowS} {es : List Value} {r : RowS} {v : Value} (h : RowsLent C rows es) (hv : RowLent C r v) : RowsLent C (rows ++ [r]) (es ++ [v]) := by
  refine ⟨by simp [h.1], fun i r' v' a b => ?_⟩
  by_cases hi : i < rows.length
  · rw [List.getElem?_append_left hi] at a
    rw [List.getElem?_append_left (by rw [h.1]; exact hi)] at b
    exact h.2 i r' v' a b
  · rw [List.getElem?_append_right (by omega)] at a
    rw [List.getElem?_append_right (by rw [h.1]; omega), h.1] at b
    have hz : i - rows.length = 0 := by
      have := (List.getElem?_eq_some_iff.mp a).1
      simp at this; omega
    rw [hz] at a b
    cases a; cases b; exact hv
def WtR (w0 : World) (C : List Ln) (l : Ln) : Prop := ∃ rows, RowsSrc w0 l.wo l.n rows ∧ RowsLent C rows l.cs
def farR (_ : Nat) : Value := .slice none 0 0
theorem infoRowL : (Tryz.prog.info? 47).map (fun i => (i.zero, i.size, i.bytes)) = some (some (.slice none 0 0), 1, 24) := by kernel_rfl
theorem infoRowLoan : (Tryz.prog.info? 470).map (fun i => (i.zero, i.size, i.bytes)) = some (some (.agg #[.slice none 0 0, .slice none 0 0]), 2, 48) := by kernel_rfl
theorem cp_snoc {w : World} {g N : Nat} {T : TypeId} {es : List Value} {f : Nat → Value} {i : Nat} (h : w.rowIs g T N (cpF es f)) (hi : es.length = i) (v : Value) : (w.setCell ⟨g, i, none⟩ v).rowIs g T N (cpF (es ++ [v]) f) := by
  subst hi
  refine (h.set es.length v).congr fun j hj => ?_
  unfold cpF
  by_cases e : j = es.length
  · subst e; rw [if_pos rfl, dif_pos (by simp)]; simp
  · rw [if_neg e]
    by_cases hl : j < es.length
    · rw [dif_pos hl, dif_pos (by simp; omega), List.getElem_append_left hl]
    · rw [dif_neg hl, dif_neg (by simp; omega)]
def LendRows (w0 w : World) (mb : Nat) (arr : Array Value) (C R : List Ln) (wo : Option Addr) (n wc : Nat) (rows : List RowS) (e : Ending) (w' : World) : Prop :=
  ∃ (g : Nat) (a : Option Addr) (an ac : Nat) (b : Option Addr) (bn bc : Nat) (C2 : List Ln) (es : List Value), e = .returned (.slice (some ⟨g, 0, none⟩) n (n + 3)) ∧ w'.heap[mb]? = some (.cells ((arr.setIfInBounds 0 (.slice a an ac)).setIfInBounds 1 (.slice b bn bc)) 256 (0, 0)) ∧
    LnsIn (WtL TyC w0 3) w' 50 380 3 farC mb (.slice a an ac) (C ++ C2) ∧ C2.length ≤ n ∧ LnsIn (WtR w0 (C ++ C2)) w' 47 470 1 farR mb (.slice b bn bc) (R ++ [⟨g, n, wo, wc, es⟩]) ∧ RowsLent (C ++ C2) rows es ∧ Below mb w w' ∧ KeepL w w' [380, 470, 256]
set_option maxHeartbeats 4000000 in
set_option maxRecDepth 100000 in
theorem rowsOf_nil (w : World) (mb : Nat) :
    Calls Tryz.prog 183 #[.pointer (some ⟨mb, 0, none⟩), .slice none 0 0] w fun e w' => e = .returned (.slice none 0 0) ∧ w' = w := by
  have hnil : ∀ W, (binOp .eql 24 (.slice none 0 0) (.slice none 0 0)).run Tryz.prog W = .ok (.bool true) W := fun W => eql_nil W _ _ _ _ _ Tryz.underlying24
  go_enter Tryz.func183, Tryz.ntmps183
  go_wp2_with fail
  go_ret
  exact ⟨rfl, rfl⟩
theorem arr_set {arr : Array Value} {i : Nat} {v : Value} (h : i < arr.size) : (arr.setIfInBounds i v)[i]? = some v := by
  rw [Array.getElem?_setIfInBounds]; simp [h]
def RowInv (w0 w : World) (mb : Nat) (arr : Array Value) (C : List Ln) (n : Nat) (rows : List RowS) (f2 : Nat → Value) (i : Nat) (wr : World) : Prop :=
  ∃ (C2 : List Ln) (es : List Value) (a : Option Addr) (an ac : Nat), (C2.length ≤ i ∧ es.length = i) ∧ wr.heap[mb]? = some (.cells (arr.setIfInBounds 0 (.slice a an ac)) 256 (0, 0)) ∧ LnsIn (WtL TyC w0 3) wr 50 380 3 farC mb (.slice a an ac) (C ++ C2) ∧
    RowsLent (C ++ C2) (rows.take i) es ∧ wr.rowIs w.heap.size 47 ((n + 3) * 1) (cpF es f2) ∧ Below mb w wr ∧ KeepT w wr 380 256
set_option maxHeartbeats 4000000 in
set_option maxRecDepth 100000 in
theorem rowsOf_any (w0 w : World) (mb : Nat) (a : Option Addr) (an ac : Nat) (b : Option Addr) (bn bc : Nat) (arr : Array Value) (C R : List Ln) (hO : w.heap[mb]? = some (.cells arr 256 (0, 0))) (ha : arr[0]? = some (.slice a an ac)) (hb : arr[1]? = some (.slice b bn bc))
    (hC : LnsIn (WtL TyC w0 3) w 50 380 3 farC mb (.slice a an ac) C) (hR : LnsIn (WtR w0 C) w 47 470 1 farR mb (.slice b bn bc) R) (n : Nat) (hCl : C.length + n ≤ 1099511627776) (hRl : R.length ≤ 1099511627776)
    (h0 : Below w0.heap.size w0 w) (h0m : w0.heap.size ≤ mb) (so : Addr) (wc : Nat) (rows : List RowS) (hn : n ≤ 1048576) (hs : RowsSrc w0 (some so) n rows) (hok : ∀ r ∈ rows, RowOk w0 r) :
    Calls Tryz.prog 183 #[.pointer (some ⟨mb, 0, none⟩), .slice (some so) n wc] w fun e w' => LendRows w0 w mb arr C R (some so) n wc rows e w' := by
  obtain ⟨i0, hi, hz0, hz1, hz2⟩ := info_parts infoRowL
  obtain ⟨i1, hj, hj0, hj1, hj2⟩ := info_parts infoRowLoan
  have hml := ln_lt hO
  have hnil : ∀ W, (binOp .eql 24 (.slice (some so) n wc) (.slice none 0 0)).run Tryz.prog W = .ok (.bool false) W := fun W => eql_nil W _ _ _ _ _ Tryz.underlying24
  have hasz : 1 < arr.size := (Array.getElem?_eq_some_iff.1 hb).1
  go_enter Tryz.func183, Tryz.ntmps183
  go_wp2_with (at_make; refine wpList_make_z _ rfl _ _ 24 rfl 47 i0 _ Tryz.underlying24 hi hz0 .i64 .i64 (n + 3) _ rfl rfl (by omega) (by rw [hz2]; omega) (by omega) 1 hz1 ?_; intro w2 f2 hs2 hb2 hr2 HF2)
  have I0 : RowInv w0 w mb arr C n rows f2 0 w2 := ⟨[], [], a, an, ac, ⟨Nat.le_refl _, rfl⟩, by
      rw [show arr.setIfInBounds 0 (.slice a an ac) = arr from by
        apply Array.ext
        · simp
        · intro k h1 h2
          rw [Array.getElem_setIfInBounds]
          split
          · subst_vars; have := Array.getElem?_eq_getElem (by omega : 0 < arr.size); rw [ha] at this; exact Option.some.inj this
          · rfl]
      exact (hb2.block mb hml).trans hO, by rw [List.append_nil]; exact hC.keep hb2, ⟨by simp, fun i r v h => by simp at h⟩, hr2.congr fun j _ => by simp [cpF], hb2.mono (by omega), keepT_below hb2 _ _⟩
  have HS : Hid _ := hs
  have HOK : Hid _ := hok
  clear hr2 hb2 hs2 hnil hC hs hok
  go_loopw [7] (fun iv wr => ∃ i : Nat, i ≤ n ∧ iv = .int .i64 (i : Int) ∧ RowInv w0 w mb arr C n rows f2 i wr) (fun iv _ => n - (intOf iv).toNat)
  case atStart => exact ⟨0, Nat.zero_le _, rfl, I0⟩
  case round =>
    clear I0
    obtain ⟨i, hin, rfl, C2, es, a2, an2, ac2, ⟨hC2, hes⟩, hOr, hCr, hlent, hout, hB, hK⟩ := hrel
    have hmr := ln_lt hOr
    have hbs := hB.size
    by_cases hlt : i < n
    · obtain ⟨bb, off, rfl, hbb, hcell⟩ : ∃ bb off, so = ⟨bb, off, none⟩ ∧ bb < w0.heap.size ∧ ∀ (i : Nat) (r : RowS), rows[i]? = some r → w0.cell? ⟨bb, off + i, none⟩ = some (.slice r.ro r.rn r.rc) := by
        rcases HS.out.2 with h | ⟨x, y, h1, h2, h3⟩
        · omega
        · exact ⟨x, y, Option.some.inj h1, h2, h3⟩
      have hil : i < rows.length := by rw [HS.out.1]; exact hlt
      obtain ⟨⟨ro, rn, rc, rcs⟩, hre⟩ : ∃ r : RowS, rows[i]? = some r := ⟨_, List.getElem?_eq_getElem hil⟩
      have hrok := HOK.out _ (List.mem_of_getElem? hre)
      have q0 : wr.cell? ⟨bb, off + i, none⟩ = some (.slice ro rn rc) := (hB.cell (p := ⟨bb, off + i, none⟩) (by show bb < mb; omega)).trans ((h0.cell (p := ⟨bb, off + i, none⟩) hbb).trans (hcell i _ hre))
      have hbr : bb < wr.heap.size := by have := h0.size; omega
      have HTK : Hid (rows.take (i + 1) = rows.take i ++ [⟨ro, rn, rc, rcs⟩]) := by
        rw [Hid, List.take_add_one, hre]; rfl
      have hgl := hout.lt
      clear hcell hre
      cases ro with
      | none =>
        obtain ⟨rfl, rfl⟩ : rn = 0 ∧ rc = 0 := hrok.nil rfl
        have c0 := hout.cell (i := i) (by omega)
        have f0 := hout.frozen i
        go_wp2_with (go_at_call 115; refine (cellsOf_nil _ mb).mono ?_; rintro e w5 ⟨rfl, rfl⟩)
        go_roundw
        case rel =>
          refine ⟨i + 1, by omega, by go_num, C2, es ++ [.slice none 0 0], a2, an2, ac2, ⟨by omega, by simp [hes]⟩, ?_, ?_, ?_, cp_snoc hout hes _, hB.setCell (p := ⟨w.heap.size, i, none⟩) (by show mb ≤ w.heap.size; omega) _, ?_⟩
          · exact (Below.heap_setCell _ _ _ _ (by show mb ≠ w.heap.size; omega)).trans hOr
          · exact hCr.other (fun q hq => Below.heap_setCell _ _ _ _ hq) (by obtain ⟨c, hcb, _, _⟩ := hout; exact ⟨c, hcb⟩) (by decide) (by decide)
          · rw [HTK.out]; exact hlent.snoc (.inl ⟨rfl, rfl⟩)
          · intro q cur T fz hq h1 h2
            exact (Below.heap_setCell _ _ _ _ (by have := ln_lt hq; show q ≠ w.heap.size; omega)).trans (hK q cur T fz hq h1 h2)
        case measure => simp [intOf]; omega
      | some s =>
        have HC5 := cellsOf_any w0 wr mb a2 an2 ac2 (arr.setIfInBounds 0 (.slice a2 an2 ac2)) (C ++ C2) hOr (arr_set (by omega)) hCr (by rw [List.length_append]; omega) (h0.trans (hB.mono h0m)) s rn rc rcs hrok.small hrok.want hrok.one hrok.ty
        go_wp2_with (go_at_call 115; refine HC5.mono ?_; rintro e w5 ⟨g5, v5, rfl, hO5, hC5, ⟨a5, an5, ac5, rfl⟩, hB5, hK5⟩; have hout5 := rowIs_typed hout hK5 (by decide) (by decide); have c0 := hout5.cell (i := i) (by omega); have f0 := hout5.frozen i; have hgl5 := hout5.lt)
        go_roundw
        case rel =>
          refine ⟨i + 1, by omega, by go_num, C2 ++ [⟨g5, rn, some s, rc, rcs⟩], es ++ [.slice (some ⟨g5, 0, none⟩) rn (rn + 3)], a5, an5, ac5, ⟨by simp; omega, by simp [hes]⟩, ?_, ?_, ?_, cp_snoc hout5 hes _, (hB.trans hB5).setCell (p := ⟨w.heap.size, i, none⟩) (by show mb ≤ w.heap.size; omega) _, ?_⟩
          · rw [Array.setIfInBounds_setIfInBounds] at hO5
            exact (Below.heap_setCell _ _ _ _ (by show mb ≠ w.heap.size; omega)).trans hO5
          · rw [← List.append_assoc]
            exact hC5.other (fun q hq => Below.heap_setCell _ _ _ _ hq) (by obtain ⟨c, hcb, _, _⟩ := hout5; exact ⟨c, hcb⟩) (by decide) (by decide)
          · rw [HTK.out, ← List.append_assoc]
            exact (hlent.mono fun l hl => List.mem_append_left _ hl).snoc (.inr ⟨g5, rfl, List.mem_append_right _ (by simp)⟩)
          · intro q cur T fz hq h1 h2
            exact (Below.heap_setCell _ _ _ _ (by have := ln_lt hq; show q ≠ w.heap.size; omega)).trans ((hK.trans hK5) q cur T fz hq h1 h2)
        case measure => simp [intOf]; omega
    · obtain rfl : i = n := by omega
      have hrow : wr.rowIs w.heap.size 47 ((i + 3) * 1) (lentF 1 es farR) := hout.congr fun j hj => by
        unfold cpF lentF
        by_cases h : j < es.length
        · rw [dif_pos h, dif_pos h]
        · rw [dif_neg h, dif_neg h, HF2.out]
          simp [Value.cells, farR, Nat.mod_one]
      rw [List.take_of_length_le (by rw [HS.out.1]; exact Nat.le_refl _)] at hlent
      have b0 : wr.cell? ⟨mb, 1, none⟩ = some (.slice b bn bc) := (blk_at hOr).trans (by rw [Array.getElem?_setIfInBounds]; simp [hb])
      have hgl := hrow.lt
      have hRr : LnsIn (WtR w0 (C ++ C2)) wr 47 470 1 farR mb (.slice b bn bc) R := (hR.typed hK (by decide) (by decide) (by decide) (by decide)).mono fun l _ ⟨rs, h1, h2⟩ => ⟨rs, h1, h2.mono fun x hx => List.mem_append_left _ hx⟩
      have hnew : LnIn (WtR w0 (C ++ C2)) wr 47 1 farR (mb + 1) ⟨w.heap.size, i, some so, wc, es⟩ := ⟨hrow, by simp [hes], hml, hn, rows, HS.out, hlent⟩
      have hgs : ∀ x ∈ R, x.g < w.heap.size := fun x hx => (hR.each x hx).row.lt
      have HOR : Hid _ := hOr
      have HLR : Hid _ := hRr
      have HNW : Hid _ := hnew
      have HLN : Hid _ := hlent
      have HCR : Hid _ := hCr
      clear hO hOr hRr hnew hrow hout hlent hCr hR
      go_wp2_with (at_builtin; refine wpList_append_lies _ rfl (.tmp 33) (.tmp 37) 247 rfl (mb + 1) 470 i1 _ 2 48 Tryz.underlying247 hj hj0 hj1 hj2 rfl (by decide) (.slice b bn bc) R.length (lnCells R) rfl (HLR.out.own.alloc _) ⟨wr.heap.size, 0, none⟩ 1 1 [.slice (some ⟨w.heap.size, 0, none⟩) (i + 3) (i + 3), .slice (some so) i wc] rfl rfl (World.news_of_block (heap_alloc_new wr _)) (by intro u hu; simp at hu; rcases hu with rfl | rfl <;> rfl) (by decide) (by unfold maxLen; omega) (by omega) (by simp [World.size_alloc]; omega) (wr.heap.size + 1) (by simp [World.size_alloc]) ?_; intro g7 cap7 w7 hown7 hgrow7 hat7 hlt7; have kO := (lend_fin (w := wr) (k := 1) (l := ⟨w.heap.size, i, some so, wc, es⟩) HOR.out HLR.out HNW.out hgs (by decide) (by decide) (Below.refl _ _) (KeepT.refl _ _ _) ((Below.refl _ wr).alloc (Nat.le_refl _) _) hgrow7 hown7 (.slice none 0 0)).1; have hb7 := ln_lt kO; have r0 : w7.cell? ⟨mb, 1, none⟩ = some (.slice b bn bc) := (blk_at kO).trans (by rw [Array.getElem?_setIfInBounds]; simp [hb]); have r0f : w7.frozen? ⟨mb, 1, none⟩ = false := by simp [World.frozen?, kO])
      go_ret
      obtain ⟨_, A1, A2, A3, A4⟩ := lend_fin (w := wr) (k := 1) (l := ⟨w.heap.size, i, some so, wc, es⟩) HOR.out HLR.out HNW.out hgs (by decide) (by decide) (Below.refl _ _) (KeepT.refl _ _ _) ((Below.refl _ wr).alloc (Nat.le_refl _) _) hgrow7 hown7 (.slice (some ⟨g7, 0, none⟩) (R.length + 1) cap7)
      exact ⟨w.heap.size, a2, an2, ac2, some ⟨g7, 0, none⟩, R.length + 1, cap7, C2, es, rfl, A1, HCR.out.typed A4 (by decide) (by decide) (by decide) (by decide), hC2, A2, HLN.out, hB.trans A3, (hK.l (by simp) (by simp)).trans (A4.l (by simp) (by simp))⟩
end Go.Proofs.YtilfjpmeededmaaGreatDoor

namespace Go.Proofs.YtilfjpmeededmaaGreatDoor
open Go.RowKit
theorem grown_typed {wo W1 w7 : World} {b z n : Nat} {T : TypeId} {v : Value} {xs : List Value} (own : wo.ownsRow b T z v n xs) (hW : Below wo.heap.size wo W1) (hgrow : W1.grownBy w7 v.ownBlock) {q : Nat} {cur : Array Value} {T' : TypeId} {fz : Nat × Nat} (hq : wo.heap[q]? = some (.cells cur T' fz)) (hT : T' ≠ T) : w7.heap[q]? = some (.cells cur T' fz) := by
  have hl := ln_lt hq
  refine ((hgrow.block q (by have := hW.size; omega) (fun e => ?_)).trans (hW.block q hl)).trans hq
  rcases own.2 with ⟨h, _⟩ | ⟨g1, c1, cur1, h, _, hr1, _⟩
  · rw [h] at e; cases e
  · rw [h] at e; cases e; rw [hr1] at hq; cases hq; exact hT rfl
structure TabS where
  name : ByteArray
  k : RowS
  ro : Option Addr
  rn : Nat
  rc : Nat
  rows : List RowS
  count : Int
  policy : ByteArray
  u : RowS
structure TabOk (w0 : World) (s : TabS) : Prop where
  k : SrcOk TyK w0 3 s.k
  u : SrcOk TyX w0 1 s.u
  small : s.rn ≤ 1048576
  nil : s.ro = none → s.rn = 0 ∧ s.rc = 0
  rows : RowsSrc w0 s.ro s.rn s.rows
  each : ∀ r ∈ s.rows, RowOk w0 r
def TabsSrc (w0 : World) (wo : Option Addr) (n : Nat) (tabs : List TabS) : Prop := tabs.length = n ∧ (n = 0 ∨ ∃ b off, wo = some ⟨b, off, none⟩ ∧ b < w0.heap.size ∧ ∀ (i : Nat) (s : TabS), tabs[i]? = some s →
  w0.cell? ⟨b, off + i * 6, none⟩ = some (.string s.name) ∧ w0.cell? ⟨b, off + i * 6 + 1, none⟩ = some (.slice s.k.ro s.k.rn s.k.rc) ∧ w0.cell? ⟨b, off + i * 6 + 2, none⟩ = some (.slice s.ro s.rn s.rc) ∧ w0.cell? ⟨b, off + i * 6 + 3, none⟩ = some (.int .i64 s.count) ∧
  w0.cell? ⟨b, off + i * 6 + 4, none⟩ = some (.string s.policy) ∧ w0.cell? ⟨b, off + i * 6 + 5, none⟩ = some (.slice s.u.ro s.u.rn s.u.rc))
def RLent (R : List Ln) (ro : Option Addr) (rn rc : Nat) (v : Value) : Prop := (rn = 0 ∧ v = .slice none 0 0) ∨ ∃ g es, v = .slice (some ⟨g, 0, none⟩) rn (rn + 3) ∧ (⟨g, rn, ro, rc, es⟩ : Ln) ∈ R
theorem RLent.mono {R R' : List Ln} {ro : Option Addr} {rn rc : Nat} {v : Value} (h : RLent R ro rn rc v) (hs : ∀ l ∈ R, l ∈ R') : RLent R' ro rn rc v := by
  rcases h with h | ⟨g, es, h1, h2⟩
  · exact .inl h
  · exact .inr ⟨g, es, h1, hs _ h2⟩
def tabCells (s : TabS) (kv rv xv : Value) : List Value := [.string s.name, kv, rv, .int .i64 s.count, .string s.policy, xv]
def TabsLent (K R X : List Ln) (tabs : List TabS) (es : List Value) : Prop := es.length = tabs.length * 6 ∧ ∀ (i : Nat) (s : TabS), tabs[i]? = some s → ∃ kv rv xv, (∀ j, j < 6 → es[i * 6 + j]? = (tabCells s kv rv xv)[j]?) ∧ RowLent K s.k kv ∧ RLent R s.ro s.rn s.rc rv ∧ RowLent X s.u xv
theorem TabsLent.mono {K R X K' R' X' : List Ln} {tabs : List TabS} {es : List Value} (h : TabsLent K R X tabs es) (hK : ∀ l ∈ K, l ∈ K') (hR : ∀ l ∈ R, l ∈ R') (hX : ∀ l ∈ X, l ∈ X') : TabsLent K' R' X' tabs es :=
  ⟨h.1, fun i s hs => by
    obtain ⟨kv, rv, xv, h1, h2, h3, h4⟩ := h.2 i s hs
    exact ⟨kv, rv, xv, h1, h2.mono hK, h3.mono hR, h4.mono hX⟩⟩
theorem TabsLent.snoc {K R X : List Ln} {tabs : List TabS} {es : List Value} {s : TabS} {kv rv xv : Value} (h : TabsLent K R X tabs es) (h1 : RowLent K s.k kv) (h2 : RLent R s.ro s.rn s.rc rv) (h3 : RowLent X s.u xv) : TabsLent K R X (tabs ++ [s]) (es ++ tabCells s kv rv xv) := by
  have hl := h.1
  refine ⟨by simp [hl, tabCells]; omega, fun i s' hi => ?_⟩
  by_cases hlt : i < tabs.length
  · rw [List.getElem?_append_left hlt] at hi
    obtain ⟨kv', rv', xv', a, b, c, d⟩ := h.2 i s' hi
    exact ⟨kv', rv', xv', fun j hj => by rw [List.getElem?_append_left (by omega)]; exact a j hj, b, c, d⟩
  · rw [List.getElem?_append_right (by omega)] at hi
    have hz : i - tabs.length = 0 := by
      have := (List.getElem?_eq_some_iff.mp hi).1
      simp at this; omega
    rw [hz] at hi; cases hi
    obtain rfl : i = tabs.length := by omega
    exact ⟨kv, rv, xv, fun j hj => by rw [List.getElem?_append_right (by omega), hl, Nat.add_sub_cancel_left], h1, h2, h3⟩
def WtT (w0 : World) (K R X : List Ln) (l : Ln) : Prop := ∃ tabs, TabsSrc w0 l.wo l.n tabs ∧ TabsLent K R X tabs l.cs
def zeroT (j : Nat) : Value := if j = 0 then .string ⟨#[]⟩ else if j = 3 then .int .i64 0 else if j = 4 then .string ⟨#[]⟩ else .slice none 0 0
def farT (j : Nat) : Value := if j = 0 then .string ⟨#[98, 101, 121, 111, 110, 100]⟩ else zeroT j
def farF (j : Nat) : Value := if j = 0 then .string ⟨#[98, 101, 121, 111, 110, 100]⟩ else .string ⟨#[]⟩
def IsSl (v : Value) : Prop := ∃ a n c, v = .slice a n c
def Lens (C R X K B F : List Ln) : Prop := C.length ≤ 2199023255552 ∧ R.length ≤ 2199023255552 ∧ X.length ≤ 2199023255552 ∧ K.length ≤ 2199023255552 ∧ B.length ≤ 2199023255552 ∧ F.length ≤ 2199023255552
def Loaned (w0 w : World) (mb : Nat) (C R X K B F : List Ln) : Prop := ∃ vc vr vx vk vb vf : Value, (IsSl vc ∧ IsSl vr ∧ IsSl vx ∧ IsSl vk ∧ IsSl vb ∧ IsSl vf) ∧
  w.heap[mb]? = some (.cells #[vc, vr, vx, .slice none 0 0, vk, vb, vf, .slice none 0 0, .slice none 0 0] 256 (0, 0)) ∧
  LnsIn (WtL TyC w0 3) w 50 380 3 farC mb vc C ∧ LnsIn (WtR w0 C) w 47 470 1 farR mb vr R ∧ LnsIn (WtL TyX w0 1) w 9 472 1 farX mb vx X ∧
  LnsIn (WtL TyK w0 3) w 162 468 3 farK mb vk K ∧ LnsIn (WtT w0 K R X) w 134 366 6 farT mb vb B ∧ LnsIn (WtL TyF w0 3) w 39 361 3 farF mb vf F
theorem Loaned.keep {w0 w x : World} {mb : Nat} {C R X K B F : List Ln} (h : Loaned w0 w mb C R X K B F) (hb : Below w.heap.size w x) : Loaned w0 x mb C R X K B F := by
  obtain ⟨vc, vr, vx, vk, vb, vf, h0, h1, h2, h3, h4, h5, h6, h7⟩ := h
  exact ⟨vc, vr, vx, vk, vb, vf, h0, (hb.block mb (ln_lt h1)).trans h1, h2.keep hb, h3.keep hb, h4.keep hb, h5.keep hb, h6.keep hb, h7.keep hb⟩
theorem Loaned.other {w0 w x : World} {mb g : Nat} {T' : TypeId} {C R X K B F : List Ln} (h : Loaned w0 w mb C R X K B F) (hk : ∀ q, q ≠ g → x.heap[q]? = w.heap[q]?) (hg : ∃ c, w.heap[g]? = some (.cells c T' (0, 0))) (hT : T' ∉ [50, 380, 47, 470, 9, 472, 162, 468, 134, 366, 39, 361, 256]) : Loaned w0 x mb C R X K B F := by
  obtain ⟨vc, vr, vx, vk, vb, vf, h0, h1, h2, h3, h4, h5, h6, h7⟩ := h
  simp only [List.mem_cons, List.not_mem_nil, or_false, not_or] at hT
  obtain ⟨t0, t1, t2, t3, t4, t5, t6, t7, t8, t9, t10, t11, t12⟩ := hT
  refine ⟨vc, vr, vx, vk, vb, vf, h0, (hk mb fun e => ?_).trans h1, h2.other hk hg (Ne.symm t0) (Ne.symm t1), h3.other hk hg (Ne.symm t2) (Ne.symm t3), h4.other hk hg (Ne.symm t4) (Ne.symm t5), h5.other hk hg (Ne.symm t6) (Ne.symm t7), h6.other hk hg (Ne.symm t8) (Ne.symm t9), h7.other hk hg (Ne.symm t10) (Ne.symm t11)⟩
  subst e; obtain ⟨c, hc⟩ := hg; rw [hc] at h1; cases h1; exact t12 rfl
theorem Loaned.otherT {w0 w x : World} {mb g : Nat} {C R X K F : List Ln} (h : Loaned w0 w mb C R X K [] F) (hk : ∀ q, q ≠ g → x.heap[q]? = w.heap[q]?) (hg : ∃ c, w.heap[g]? = some (.cells c 134 (0, 0))) : Loaned w0 x mb C R X K [] F := by
  obtain ⟨vc, vr, vx, vk, vb, vf, h0, h1, h2, h3, h4, h5, h6, h7⟩ := h
  refine ⟨vc, vr, vx, vk, vb, vf, h0, (hk mb fun e => ?_).trans h1, h2.other hk hg (by decide) (by decide), h3.other hk hg (by decide) (by decide), h4.other hk hg (by decide) (by decide), h5.other hk hg (by decide) (by decide), ⟨owns_typed h6.own fun q cur fz hq => hk q fun e => ?_, fun l hl => by simp at hl, List.Pairwise.nil⟩, h7.other hk hg (by decide) (by decide)⟩
  · subst e; obtain ⟨c, hc⟩ := hg; rw [hc] at h1; cases h1
  · subst e; obtain ⟨c, hc⟩ := hg; rw [hc] at hq; cases hq
theorem loaned_nil {w0 w : World} {mb : Nat} (h : w.heap[mb]? = some (.cells #[.slice none 0 0, .slice none 0 0, .slice none 0 0, .slice none 0 0, .slice none 0 0, .slice none 0 0, .slice none 0 0, .slice none 0 0, .slice none 0 0] 256 (0, 0))) : Loaned w0 w mb [] [] [] [] [] [] := by
  have hs : IsSl (.slice none 0 0) := ⟨_, _, _, rfl⟩
  have hl : ∀ (Wt : Ln → Prop) (T TL : TypeId) (z : Nat) (far : Nat → Value), LnsIn Wt w T TL z far mb (.slice none 0 0) [] := fun Wt T TL z far => ⟨World.ownsRow_nil _ _ _ _, fun l hl => by simp at hl, List.Pairwise.nil⟩
  exact ⟨_, _, _, _, _, _, ⟨hs, hs, hs, hs, hs, hs⟩, h, hl _ _ _ _ _, hl _ _ _ _ _, hl _ _ _ _ _, hl _ _ _ _ _, hl _ _ _ _ _, hl _ _ _ _ _⟩
theorem infoFuncL : (Tryz.prog.info? 39).map (fun i => (i.zero, i.size, i.bytes)) = some (some (.agg #[.string ⟨#[]⟩, .string ⟨#[]⟩, .string ⟨#[]⟩]), 3, 48) := by kernel_rfl
theorem infoFuncLoan : (Tryz.prog.info? 361).map (fun i => (i.zero, i.size, i.bytes)) = some (some (.agg #[.slice none 0 0, .slice none 0 0]), 2, 48) := by kernel_rfl
theorem infoTabL : (Tryz.prog.info? 134).map (fun i => (i.zero, i.size, i.bytes)) = some (some (.agg #[.string ⟨#[]⟩, .slice none 0 0, .slice none 0 0, .int .i64 0, .string ⟨#[]⟩, .slice none 0 0]), 6, 112) := by kernel_rfl
theorem infoTabLoan : (Tryz.prog.info? 366).map (fun i => (i.zero, i.size, i.bytes)) = some (some (.agg #[.slice none 0 0, .slice none 0 0]), 2, 48) := by kernel_rfl
end Go.Proofs.YtilfjpmeededmaaGreatDoor

namespace Go.Proofs.YtilfjpmeededmaaGreatDoor
open Go.RowKit
abbrev lendTs : List TypeId := [380, 470, 472, 468, 256]
theorem WtT.mono {w0 : World} {K R X K' R' X' : List Ln} {l : Ln} (h : WtT w0 K R X l) (hK : ∀ l ∈ K, l ∈ K') (hR : ∀ l ∈ R, l ∈ R') (hX : ∀ l ∈ X, l ∈ X') : WtT w0 K' R' X' l := by
  obtain ⟨tabs, h1, h2⟩ := h; exact ⟨tabs, h1, h2.mono hK hR hX⟩
theorem lendCols (w0 w : World) (mb : Nat) (C R X K B F : List Ln) (hL : Loaned w0 w mb C R X K B F) (h0 : Below w0.heap.size w0 w) (k : RowS) (hk : SrcOk TyK w0 3 k) (hl : K.length ≤ 1099511627776) :
    Calls Tryz.prog 182 #[.pointer (some ⟨mb, 0, none⟩), .slice k.ro k.rn k.rc] w fun e w' => ∃ (xo : Option Addr) (xn xc : Nat) (K2 : List Ln), e = .returned (.slice xo xn xc) ∧ K2.length ≤ 1 ∧ Loaned w0 w' mb C R X (K ++ K2) B F ∧ RowLent (K ++ K2) k (.slice xo xn xc) ∧ Below mb w w' ∧ KeepL w w' lendTs := by
  obtain ⟨ro, rn, rc, cs⟩ := k
  cases ro with
  | none =>
    obtain ⟨h1, h2⟩ := hk.nil rfl
    dsimp only at h1 h2; subst h1 h2
    refine (colsOf_nil w mb).mono ?_
    rintro e w' ⟨rfl, rfl⟩
    exact ⟨none, 0, 0, [], rfl, by simp, by rw [List.append_nil]; exact hL, .inl ⟨rfl, rfl⟩, Below.refl _ _, KeepL.refl _ _⟩
  | some so =>
    obtain ⟨vc, vr, vx, vk, vb, vf, ⟨s1, s2, s3, s4, s5, s6⟩, hO, hC, hR, hX, hK, hB, hF⟩ := hL
    obtain ⟨a, an, ac, rfl⟩ := s4
    refine (colsOf_any w0 w mb a an ac _ K hO rfl hK hl h0 so rn rc cs hk.small hk.want hk.one hk.ty).mono ?_
    rintro e w' ⟨g, v, rfl, hO', hK', hv, hBl, hKp⟩
    refine ⟨some ⟨g, 0, none⟩, rn, rn + 3, [⟨g, rn, some so, rc, cs⟩], rfl, by simp, ⟨vc, vr, vx, v, vb, vf, ⟨s1, s2, s3, hv, s5, s6⟩, hO', hC.typed hKp (by decide) (by decide) (by decide) (by decide), hR.typed hKp (by decide) (by decide) (by decide) (by decide), hX.typed hKp (by decide) (by decide) (by decide) (by decide), hK', (hB.typed hKp (by decide) (by decide) (by decide) (by decide)).mono fun l _ h => h.mono (fun x hx => List.mem_append_left _ hx) (fun x hx => hx) (fun x hx => hx), hF.typed hKp (by decide) (by decide) (by decide) (by decide)⟩, .inr ⟨g, rfl, List.mem_append_right _ (by simp)⟩, hBl, hKp.l (by decide) (by decide)⟩
theorem lendTexts (w0 w : World) (mb : Nat) (C R X K B F : List Ln) (hL : Loaned w0 w mb C R X K B F) (h0 : Below w0.heap.size w0 w) (k : RowS) (hk : SrcOk TyX w0 1 k) (hl : X.length ≤ 1099511627776) :
    Calls Tryz.prog 184 #[.pointer (some ⟨mb, 0, none⟩), .slice k.ro k.rn k.rc] w fun e w' => ∃ (xo : Option Addr) (xn xc : Nat) (X2 : List Ln), e = .returned (.slice xo xn xc) ∧ X2.length ≤ 1 ∧ Loaned w0 w' mb C R (X ++ X2) K B F ∧ RowLent (X ++ X2) k (.slice xo xn xc) ∧ Below mb w w' ∧ KeepL w w' lendTs := by
  obtain ⟨ro, rn, rc, cs⟩ := k
  cases ro with
  | none =>
    obtain ⟨h1, h2⟩ := hk.nil rfl
    dsimp only at h1 h2; subst h1 h2
    refine (textsOf_nil w mb).mono ?_
    rintro e w' ⟨rfl, rfl⟩
    exact ⟨none, 0, 0, [], rfl, by simp, by rw [List.append_nil]; exact hL, .inl ⟨rfl, rfl⟩, Below.refl _ _, KeepL.refl _ _⟩
  | some so =>
    obtain ⟨vc, vr, vx, vk, vb, vf, ⟨s1, s2, s3, s4, s5, s6⟩, hO, hC, hR, hX, hK, hB, hF⟩ := hL
    obtain ⟨a, an, ac, rfl⟩ := s3
    refine (textsOf_any w0 w mb a an ac _ X hO rfl hX hl h0 so rn rc cs hk.small hk.want hk.one hk.ty).mono ?_
    rintro e w' ⟨g, v, rfl, hO', hX', hv, hBl, hKp⟩
    refine ⟨some ⟨g, 0, none⟩, rn, rn + 3, [⟨g, rn, some so, rc, cs⟩], rfl, by simp, ⟨vc, vr, v, vk, vb, vf, ⟨s1, s2, hv, s4, s5, s6⟩, hO', hC.typed hKp (by decide) (by decide) (by decide) (by decide), hR.typed hKp (by decide) (by decide) (by decide) (by decide), hX', hK.typed hKp (by decide) (by decide) (by decide) (by decide), (hB.typed hKp (by decide) (by decide) (by decide) (by decide)).mono fun l _ h => h.mono (fun x hx => hx) (fun x hx => hx) (fun x hx => List.mem_append_left _ hx), hF.typed hKp (by decide) (by decide) (by decide) (by decide)⟩, .inr ⟨g, rfl, List.mem_append_right _ (by simp)⟩, hBl, hKp.l (by decide) (by decide)⟩
theorem lendRows (w0 w : World) (mb : Nat) (C R X K B F : List Ln) (hL : Loaned w0 w mb C R X K B F) (h0 : Below w0.heap.size w0 w) (h0m : w0.heap.size ≤ mb) (ro : Option Addr) (rn rc : Nat) (rows : List RowS) (hsm : rn ≤ 1048576) (hnil : ro = none → rn = 0 ∧ rc = 0) (hs : RowsSrc w0 ro rn rows) (hok : ∀ r ∈ rows, RowOk w0 r) (hl : C.length + rn ≤ 1099511627776) (hl2 : R.length ≤ 1099511627776) :
    Calls Tryz.prog 183 #[.pointer (some ⟨mb, 0, none⟩), .slice ro rn rc] w fun e w' => ∃ (xo : Option Addr) (xn xc : Nat) (C2 R2 : List Ln), e = .returned (.slice xo xn xc) ∧ C2.length ≤ rn ∧ R2.length ≤ 1 ∧ Loaned w0 w' mb (C ++ C2) (R ++ R2) X K B F ∧ RLent (R ++ R2) ro rn rc (.slice xo xn xc) ∧ Below mb w w' ∧ KeepL w w' lendTs := by
  cases ro with
  | none =>
    obtain ⟨rfl, rfl⟩ := hnil rfl
    refine (rowsOf_nil w mb).mono ?_
    rintro e w' ⟨rfl, rfl⟩
    exact ⟨none, 0, 0, [], [], rfl, by simp, by simp, by rw [List.append_nil, List.append_nil]; exact hL, .inl ⟨rfl, rfl⟩, Below.refl _ _, KeepL.refl _ _⟩
  | some so =>
    obtain ⟨vc, vr, vx, vk, vb, vf, ⟨s1, s2, s3, s4, s5, s6⟩, hO, hC, hR, hX, hK, hB, hF⟩ := hL
    obtain ⟨a, an, ac, rfl⟩ := s1
    obtain ⟨b, bn, bc, rfl⟩ := s2
    refine (rowsOf_any w0 w mb a an ac b bn bc _ C R hO rfl rfl hC hR rn hl hl2 h0 h0m so rc rows hsm hs hok).mono ?_
    rintro e w' ⟨g, a', an', ac', b', bn', bc', C2, es, rfl, hO', hC', hC2, hR', hlent, hBl, hKp⟩
    refine ⟨some ⟨g, 0, none⟩, rn, rn + 3, C2, [⟨g, rn, some so, rc, es⟩], rfl, hC2, by simp, ⟨.slice a' an' ac', .slice b' bn' bc', vx, vk, vb, vf, ⟨⟨_, _, _, rfl⟩, ⟨_, _, _, rfl⟩, s3, s4, s5, s6⟩, hO', hC', hR', hX.typedL hKp (by decide) (by decide), hK.typedL hKp (by decide) (by decide), (hB.typedL hKp (by decide) (by decide)).mono fun l _ h => h.mono (fun x hx => hx) (fun x hx => List.mem_append_left _ hx) (fun x hx => hx), hF.typedL hKp (by decide) (by decide)⟩, .inr ⟨g, es, rfl, List.mem_append_right _ (by simp)⟩, hBl, hKp.mono (by decide)⟩
end Go.Proofs.YtilfjpmeededmaaGreatDoor

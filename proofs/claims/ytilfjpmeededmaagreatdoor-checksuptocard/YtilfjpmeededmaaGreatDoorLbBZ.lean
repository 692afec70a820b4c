import Derived.Test.YtilfjpmeededmaaGreatDoorLoG
import Derived.Test.YtilfjpmeededmaaGreatDoorLoLZ
import Derived.Test.YtilfjpmeededmaaGreatDoorBaFZ
import Derived.Test.YtilfjpmeededmaaGreatDoorTokZ
import Derived.Below
import Derived.Test.YtilfjpmeededmaaGreatDoorRefVZ
import Derived.Test.YtilfjpmeededmaaGreatDoorLoWZ
import Derived.Test.YtilfjpmeededmaaGreatDoorRsFZ
import Derived.Deep.RegionHeld2
set_option linter.unusedVariables false
set_option linter.unusedSimpArgs false
namespace Go.Proofs.YtilfjpmeededmaaGreatDoor
open Go.RowKit
def fnCells (fs : List FnT) : List Value := fs.flatMap fun f => [.string (ofBs f.1), .string (ofBs f.2.1), .string (ofBs f.2.2)]
def colCells (cs : List ColT) : List Value := cs.flatMap fun c => [.string (ofBs c.1), .string (ofBs c.2.1), .int .i64 c.2.2]
def cellCells (cs : List CellT) : List Value := cs.flatMap fun c => [.int .i64 c.1, .int .i64 c.2.1, .string (ofBs c.2.2)]
def txtCells (ls : List Bs) : List Value := ls.map fun l => .string (ofBs l)
theorem flat3 {α : Type} (f : α → List Value) (hf : ∀ a, (f a).length = 3) : ∀ (l : List α) (i j : Nat) (a : α), l[i]? = some a → j < 3 → (l.flatMap f)[i * 3 + j]? = (f a)[j]?
  | [], i, j, a, h, _ => by simp at h
  | b :: r, 0, j, a, h, hj => by
    simp at h; subst h
    rw [Nat.zero_mul, Nat.zero_add, List.flatMap_cons, List.getElem?_append_left (by rw [hf]; exact hj)]
  | b :: r, i + 1, j, a, h, hj => by
    have := flat3 f hf r i j a (by simpa using h) hj
    rw [List.flatMap_cons, List.getElem?_append_right (by rw [hf]; omega), hf, show (i + 1) * 3 + j - 3 = i * 3 + j by omega]
    exact this
theorem flat3_len {α : Type} (f : α → List Value) (hf : ∀ a, (f a).length = 3) (l : List α) : (l.flatMap f).length = l.length * 3 := by
  induction l with
  | nil => rfl
  | cons b r ih => rw [List.flatMap_cons, List.length_append, hf, ih, List.length_cons]; omega
structure TabTy (s : TabS) (t : TabT) : Prop where
  name : s.name = ofBs t.name
  count : s.count = t.count
  policy : s.policy = ofBs t.policy
  kcs : s.k.cs = colCells t.cols
  kn : s.k.rn = t.cols.length
  ucs : s.u.cs = txtCells t.users
  un : s.u.rn = t.users.length
  rn : s.rn = t.rows.length
  rl : s.rows.length = t.rows.length
  rows : ∀ (i : Nat) (r : RowS) (c : List CellT), s.rows[i]? = some r → t.rows[i]? = some c → r.cs = cellCells c ∧ r.rn = c.length
  namel : t.name.length ≤ maxLen
  policyl : t.policy.length ≤ maxLen
  coll : ∀ c ∈ t.cols, c.1.length ≤ maxLen ∧ c.2.1.length ≤ maxLen
structure BaseS (w : World) (fo : Option Addr) (fl fc : Nat) (to' : Option Addr) (tl tc : Nat) (fs : List FnT) (ts : List TabT) : Prop where
  texts : TextsIn w (.slice fo fl fc) fs
  args : ∀ f ∈ fs, f.2.1.length ≤ maxLen
  tbls : TblsIn w (.slice to' tl tc) ts
  fsrc : SrcOk TyF w 3 ⟨fo, fl, fc, fnCells fs⟩
  tsm : tl ≤ 1048576
  tnil : to' = none → tl = 0 ∧ tc = 0
  tabs : ∃ tabs, TabsSrc w to' tl tabs ∧ (∀ s ∈ tabs, TabOk w s) ∧ tabs.length = ts.length ∧ ∀ (i : Nat) (s : TabS) (t : TabT), tabs[i]? = some s → ts[i]? = some t → TabTy s t
theorem lent_get {Wt : Ln → Prop} {w : World} {T : TypeId} {z lo : Nat} {far : Nat → Value} {l : Ln} (h : LnIn Wt w T z far lo l) {j : Nat} {v : Value} (hj : l.cs[j]? = some v) : w.cell? ⟨l.g, j, none⟩ = some v := by
  have hl := (List.getElem?_eq_some_iff.mp hj).1
  have hlen := h.len
  exact (h.row.cell (i := j) (by have : l.n * z ≤ (l.n + 3) * z := Nat.mul_le_mul_right _ (by omega); omega)).trans (by rw [lent_at hj])
theorem lent_texts {w0 w : World} {lo fl fc : Nat} {fo : Option Addr} {F : List Ln} {fs : List FnT} {xo : Option Addr} {xn xc : Nat} (hF : ∀ l ∈ F, LnIn (WtL TyF w0 3) w 39 3 farF lo l) (h : RowLent F ⟨fo, fl, fc, fnCells fs⟩ (.slice xo xn xc)) (hv : TextsIn w0 (.slice fo fl fc) fs) : TextsIn w (.slice xo xn xc) fs := by
  obtain ⟨ao, cap, he, hml, hz⟩ := hv
  cases he
  rcases h with ⟨h0, e⟩ | ⟨g, e, hm⟩
  · dsimp only at h0; cases e
    have hf : fs = [] := List.eq_nil_of_length_eq_zero h0
    subst hf
    exact ⟨none, 0, rfl, by simp, .inl rfl⟩
  · cases e
    refine ⟨_, _, rfl, hml, ?_⟩
    rcases hz with h | ⟨b, off, _, _, hc⟩
    · exact .inl h
    · have hln := hF _ hm
      refine .inr ⟨g, 0, rfl, hln.row.lt, fun i f hi => ?_⟩
      have hg : ∀ (j : Nat) (u : Value), j < 3 → ([Value.string (ofBs f.1), .string (ofBs f.2.1), .string (ofBs f.2.2)] : List Value)[j]? = some u → w.cell? ⟨g, 0 + i * 3 + j, none⟩ = some u := fun j u hj hu => by
        rw [Nat.zero_add]
        have hx := flat3 (fun f : FnT => [Value.string (ofBs f.1), .string (ofBs f.2.1), .string (ofBs f.2.2)]) (fun _ => rfl) fs i j f hi hj
        exact lent_get hln (hx.trans hu)
      exact ⟨⟨hg 0 _ (by omega) rfl, hg 1 _ (by omega) rfl, hg 2 _ (by omega) rfl⟩, (hc i f hi).2⟩
theorem lent_cols {w0 w : World} {lo : Nat} {k : RowS} {K : List Ln} {cs : List ColT} {xo : Option Addr} {xn xc : Nat} (hK : ∀ l ∈ K, LnIn (WtL TyK w0 3) w 162 3 farK lo l) (h : RowLent K k (.slice xo xn xc)) (hk : k.cs = colCells cs) (hn : k.rn = cs.length) (hm : k.rn ≤ 1048576) (hl : ∀ c ∈ cs, c.1.length ≤ maxLen ∧ c.2.1.length ≤ maxLen) : ColsIn w (.slice xo xn xc) cs := by
  rcases h with ⟨h0, e⟩ | ⟨g, e, hmem⟩
  · cases e
    have hf : cs = [] := List.eq_nil_of_length_eq_zero (by omega)
    subst hf
    exact ⟨none, 0, rfl, Nat.le_refl _, by simp, .inl rfl⟩
  · cases e
    have hln := hK _ hmem
    refine ⟨_, _, by rw [hn], by rw [← hn]; omega, by unfold maxLen; omega, .inr ⟨g, 0, rfl, hln.row.lt, fun i c hi => ?_⟩⟩
    have hg : ∀ (j : Nat) (u : Value), j < 3 → ([Value.string (ofBs c.1), .string (ofBs c.2.1), .int .i64 c.2.2] : List Value)[j]? = some u → w.cell? ⟨g, 0 + i * 3 + j, none⟩ = some u := fun j u hj hu => by
      rw [Nat.zero_add]
      have hx := flat3 (fun c : ColT => [Value.string (ofBs c.1), .string (ofBs c.2.1), .int .i64 c.2.2]) (fun _ => rfl) cs i j c hi hj
      refine lent_get hln ?_
      show k.cs[i * 3 + j]? = _
      rw [hk]; exact hx.trans hu
    exact ⟨⟨hg 0 _ (by omega) rfl, hg 1 _ (by omega) rfl, hg 2 _ (by omega) rfl⟩, hl c (List.mem_of_getElem? hi)⟩
theorem lent_cells {w0 w : World} {lo : Nat} {k : RowS} {C : List Ln} {cs : List CellT} {xo : Option Addr} {xn xc : Nat} (hC : ∀ l ∈ C, LnIn (WtL TyC w0 3) w 50 3 farC lo l) (h : RowLent C k (.slice xo xn xc)) (hk : k.cs = cellCells cs) (hn : k.rn = cs.length) : CellsIn w (.slice xo xn xc) cs := by
  rcases h with ⟨h0, e⟩ | ⟨g, e, hmem⟩
  · cases e
    have hf : cs = [] := List.eq_nil_of_length_eq_zero (by omega)
    subst hf
    exact ⟨none, 0, rfl, by simp, .inl rfl⟩
  · cases e
    have hln := hC _ hmem
    have hsm := hln.small
    dsimp only at hsm
    refine ⟨_, _, by rw [hn], by unfold maxLen; omega, .inr ⟨g, 0, rfl, hln.row.lt, fun i c hi => ?_⟩⟩
    have hg : ∀ (j : Nat) (u : Value), j < 3 → ([Value.int .i64 c.1, .int .i64 c.2.1, .string (ofBs c.2.2)] : List Value)[j]? = some u → w.cell? ⟨g, 0 + i * 3 + j, none⟩ = some u := fun j u hj hu => by
      rw [Nat.zero_add]
      have hx := flat3 (fun c : CellT => [Value.int .i64 c.1, .int .i64 c.2.1, .string (ofBs c.2.2)]) (fun _ => rfl) cs i j c hi hj
      refine lent_get hln ?_
      show k.cs[i * 3 + j]? = _
      rw [hk]; exact hx.trans hu
    exact ⟨hg 0 _ (by omega) rfl, hg 1 _ (by omega) rfl, hg 2 _ (by omega) rfl⟩
theorem lent_strs {w0 w : World} {lo : Nat} {k : RowS} {X : List Ln} {ls : List Bs} {xo : Option Addr} {xn xc : Nat} (hX : ∀ l ∈ X, LnIn (WtL TyX w0 1) w 9 1 farX lo l) (h : RowLent X k (.slice xo xn xc)) (hk : k.cs = txtCells ls) (hn : k.rn = ls.length) : StrsIn w (.slice xo xn xc) ls := by
  rcases h with ⟨h0, e⟩ | ⟨g, e, hmem⟩
  · cases e
    have hf : ls = [] := List.eq_nil_of_length_eq_zero (by omega)
    subst hf
    exact ⟨none, 0, rfl, by simp, .inl rfl⟩
  · cases e
    have hln := hX _ hmem
    have hsm := hln.small
    dsimp only at hsm
    refine ⟨_, _, by rw [hn], by unfold maxLen; omega, .inr ⟨g, 0, rfl, hln.row.lt, fun i l hi => ?_⟩⟩
    rw [Nat.zero_add]
    refine lent_get hln ?_
    show k.cs[i]? = _
    rw [hk, txtCells, List.getElem?_map, hi]; rfl
end Go.Proofs.YtilfjpmeededmaaGreatDoor

namespace Go.Proofs.YtilfjpmeededmaaGreatDoor
open Go.RowKit
theorem want_one {w0 : World} {z n : Nat} {wo : Option Addr} {cs ds : List Value} (h : WantIn w0 z wo n cs) (h' : WantIn w0 z wo n ds) : cs = ds := by
  apply List.ext_getElem?
  intro j
  by_cases hj : j < cs.length
  · have hjd : j < ds.length := by rw [h'.1, ← h.1]; exact hj
    rcases h.2 with h0 | ⟨b, off, e, _, hc⟩
    · have := h.1; rw [h0, Nat.zero_mul] at this; omega
    · rcases h'.2 with h0 | ⟨b', off', e', _, hc'⟩
      · have := h.1; rw [h0, Nat.zero_mul] at this; omega
      · rw [e] at e'; cases e'
        have a := hc j _ (List.getElem?_eq_getElem hj)
        have b := hc' j _ (List.getElem?_eq_getElem hjd)
        rw [a] at b
        rw [List.getElem?_eq_getElem hj, List.getElem?_eq_getElem hjd]; exact b
  · rw [List.getElem?_eq_none (by omega), List.getElem?_eq_none (by rw [h'.1, ← h.1]; omega)]
theorem rowLent_like {w0 : World} {z : Nat} {L : List Ln} {k k' : RowS} {v : Value} (h : RowLent L k' v) (hL : ∀ l ∈ L, WantIn w0 z l.wo l.n l.cs) (h1 : k'.ro = k.ro) (h2 : k'.rn = k.rn) (h3 : k'.rc = k.rc) (hk : WantIn w0 z k.ro k.rn k.cs) : RowLent L k v := by
  rcases h with ⟨h0, e⟩ | ⟨g, e, hm⟩
  · exact .inl ⟨by omega, e⟩
  · have hw := hL _ hm
    dsimp only at hw
    rw [h1, h2] at hw
    refine .inr ⟨g, by rw [e, h2], ?_⟩
    rw [← want_one hw hk, ← h1, ← h2, ← h3]; exact hm
theorem lent_rows {w0 w : World} {lo : Nat} {R C : List Ln} {ro : Option Addr} {rn rc : Nat} {rows : List RowS} {rs : List (List CellT)} {xo : Option Addr} {xn xc : Nat} (hR : ∀ l ∈ R, LnIn (WtR w0 C) w 47 1 farR lo l) (hC : ∀ l ∈ C, LnIn (WtL TyC w0 3) w 50 3 farC lo l) (h : RLent R ro rn rc (.slice xo xn xc)) (hs : RowsSrc w0 ro rn rows) (hok : ∀ r ∈ rows, RowOk w0 r) (hn : rn = rs.length) (hl : rows.length = rs.length)
    (hty : ∀ (i : Nat) (r : RowS) (c : List CellT), rows[i]? = some r → rs[i]? = some c → r.cs = cellCells c ∧ r.rn = c.length) : RowsIn w (.slice xo xn xc) rs := by
  rcases h with ⟨h0, e⟩ | ⟨g, es, e, hmem⟩
  · cases e
    have hf : rs = [] := List.eq_nil_of_length_eq_zero (by omega)
    subst hf
    exact ⟨none, 0, rfl, by simp, .inl rfl⟩
  · cases e
    have hln := hR _ hmem
    have hsm := hln.small
    dsimp only at hsm
    refine ⟨_, _, by rw [hn], by unfold maxLen; omega, ?_⟩
    by_cases h0 : rs = []
    · exact .inl h0
    have hpos : 0 < rs.length := List.length_pos_iff.mpr h0
    obtain ⟨rows', ⟨hl', hs'⟩, hel, hlent⟩ := hln.want
    dsimp only at hl' hs' hel hlent
    obtain ⟨b, off, rfl, hb, hc⟩ : ∃ b off, ro = some ⟨b, off, none⟩ ∧ b < w0.heap.size ∧ ∀ (i : Nat) (r : RowS), rows[i]? = some r → w0.cell? ⟨b, off + i, none⟩ = some (.slice r.ro r.rn r.rc) := by
      rcases hs.2 with h | h
      · omega
      · exact h
    obtain ⟨b', off', e', hb', hc'⟩ := hs'.resolve_left (by omega)
    cases e'
    refine .inr ⟨g, 0, rfl, hln.row.lt, fun i r hi => ?_⟩
    have hil := (List.getElem?_eq_some_iff.mp hi).1
    obtain ⟨q, hq⟩ : ∃ q, rows[i]? = some q := ⟨_, List.getElem?_eq_getElem (by omega)⟩
    obtain ⟨q', hq'⟩ : ∃ q, rows'[i]? = some q := ⟨_, List.getElem?_eq_getElem (by omega)⟩
    obtain ⟨v, hv⟩ : ∃ v, es[i]? = some v := ⟨_, List.getElem?_eq_getElem (by omega)⟩
    have hrl := hlent i q' v hq' hv
    have ha := hc i q hq
    rw [hc' i q' hq'] at ha
    have ha' := Option.some.inj ha
    simp only [Value.slice.injEq] at ha'
    have hrl2 := rowLent_like hrl (fun l hl => (hC l hl).want.1) ha'.1 ha'.2.1 ha'.2.2 (hok q (List.mem_of_getElem? hq)).want
    obtain ⟨yo, yn, yc, rfl⟩ : ∃ yo yn yc, v = .slice yo yn yc := by rcases hrl2 with ⟨_, rfl⟩ | ⟨g, rfl, _⟩ <;> exact ⟨_, _, _, rfl⟩
    rw [Nat.zero_add]
    exact ⟨yo, yn, yc, lent_get hln hv, lent_cells hC hrl2 (hty i q r hq hi).1 (hty i q r hq hi).2⟩
theorem lent_tabs {w0 w : World} {mb : Nat} {C R X K B F : List Ln} (hL : Loaned w0 w mb C R X K B F) {to' : Option Addr} {tl tc : Nat} {tabs : List TabS} {ts : List TabT} {xo : Option Addr} {xn xc : Nat} (h : RLent B to' tl tc (.slice xo xn xc)) (hv : TblsIn w0 (.slice to' tl tc) ts) (hs : TabsSrc w0 to' tl tabs) (hok : ∀ s ∈ tabs, TabOk w0 s) (hlen : tabs.length = ts.length)
    (hty : ∀ (i : Nat) (s : TabS) (t : TabT), tabs[i]? = some s → ts[i]? = some t → TabTy s t) : TblsIn w (.slice xo xn xc) ts := by
  obtain ⟨vc, vr, vx, vk, vb, vf, _, _, hC, hR, hX, hK, hB, _⟩ := hL
  obtain ⟨ao, cap, he, hml, _⟩ := hv
  cases he
  rcases h with ⟨h0, e⟩ | ⟨g, es, e, hmem⟩
  · cases e
    have hf : ts = [] := List.eq_nil_of_length_eq_zero h0
    subst hf
    exact ⟨none, 0, rfl, by simp, .inl rfl⟩
  · cases e
    have hln := hB.each _ hmem
    refine ⟨_, _, rfl, hml, ?_⟩
    by_cases h0 : ts = []
    · exact .inl h0
    have hpos : 0 < ts.length := List.length_pos_iff.mpr h0
    obtain ⟨tabs', ⟨hl', hs'⟩, hel, hlent⟩ := hln.want
    dsimp only at hl' hs' hel hlent
    obtain ⟨b, off, rfl, hb, hc⟩ := hs.2.resolve_left (by omega)
    obtain ⟨b', off', e', hb', hc'⟩ := hs'.resolve_left (by omega)
    cases e'
    refine .inr ⟨g, 0, rfl, hln.row.lt, fun i t hi => ?_⟩
    have hil := (List.getElem?_eq_some_iff.mp hi).1
    obtain ⟨s, hsi⟩ : ∃ s, tabs[i]? = some s := ⟨_, List.getElem?_eq_getElem (by omega)⟩
    obtain ⟨s', hsi'⟩ : ∃ s, tabs'[i]? = some s := ⟨_, List.getElem?_eq_getElem (by omega)⟩
    obtain ⟨kv, rv, xv, hcs, hkl, hrl, hul⟩ := hlent i s' hsi'
    obtain ⟨p0, p1, p2, p3, p4, p5⟩ := hc i s hsi
    obtain ⟨q0, q1, q2, q3, q4, q5⟩ := hc' i s' hsi'
    rw [p0] at q0; rw [p1] at q1; rw [p2] at q2; rw [p3] at q3; rw [p4] at q4; rw [p5] at q5
    simp only [Option.some.injEq, Value.string.injEq, Value.slice.injEq, Value.int.injEq, true_and] at q0 q1 q2 q3 q4 q5
    have hT := hty i s t hsi hi
    have hO := hok s (List.mem_of_getElem? hsi)
    have hk2 := rowLent_like hkl (fun l hl => (hK.each l hl).want.1) q1.1.symm q1.2.1.symm q1.2.2.symm hO.k.want
    have hu2 := rowLent_like hul (fun l hl => (hX.each l hl).want.1) q5.1.symm q5.2.1.symm q5.2.2.symm hO.u.want
    rw [← q2.1, ← q2.2.1, ← q2.2.2] at hrl
    obtain ⟨ko, kn, kc, rfl⟩ : ∃ yo yn yc, kv = .slice yo yn yc := by rcases hk2 with ⟨_, rfl⟩ | ⟨g, rfl, _⟩ <;> exact ⟨_, _, _, rfl⟩
    obtain ⟨uo, un, uc, rfl⟩ : ∃ yo yn yc, xv = .slice yo yn yc := by rcases hu2 with ⟨_, rfl⟩ | ⟨g, rfl, _⟩ <;> exact ⟨_, _, _, rfl⟩
    obtain ⟨yo, yn, yc, rfl⟩ : ∃ yo yn yc, rv = .slice yo yn yc := by rcases hrl with ⟨_, rfl⟩ | ⟨g, es, rfl, _⟩ <;> exact ⟨_, _, _, rfl⟩
    have hg : ∀ (j : Nat) (u : Value), j < 6 → (tabCells s' (.slice ko kn kc) (.slice yo yn yc) (.slice uo un uc))[j]? = some u → w.cell? ⟨g, 0 + i * 6 + j, none⟩ = some u := fun j u hj hu => by
      rw [Nat.zero_add]; exact lent_get hln ((hcs j hj).trans hu)
    refine ⟨ko, kn, kc, yo, yn, yc, uo, un, uc, ⟨?_, hg 1 _ (by omega) rfl, hg 2 _ (by omega) rfl, ?_, ?_, hg 5 _ (by omega) rfl⟩, lent_cols hK.each hk2 hT.kcs hT.kn hO.k.small hT.coll, lent_rows hR.each hC.each hrl hO.rows hO.each hT.rn hT.rl hT.rows, lent_strs hX.each hu2 hT.ucs hT.un, hT.namel, hT.policyl⟩
    · rw [← hT.name, q0]; exact hg 0 _ (by omega) rfl
    · rw [← hT.count, q3]; exact hg 3 _ (by omega) rfl
    · rw [← hT.policy, q4]; exact hg 4 _ (by omega) rfl
end Go.Proofs.YtilfjpmeededmaaGreatDoor

namespace Go.Proofs.YtilfjpmeededmaaGreatDoor
open Go.RowKit
theorem cells_at {x : World} {b j : Nat} {cs : Array Value} {T : TypeId} {fz : Nat × Nat} (h : x.heap[b]? = some (.cells cs T fz)) : x.cell? ⟨b, j, none⟩ = cs[j]? := by simp [World.cell?, h]
end Go.Proofs.YtilfjpmeededmaaGreatDoor

namespace Go.Proofs.YtilfjpmeededmaaGreatDoor
open Go.RowKit
def WorldIs (w : World) (b : Nat) : Prop := ∃ g0 g1 g2 : Value, w.heap[b]? = some (.cells #[g0, g1, g2, .slice none 0 0, .slice none 0 0, .slice none 0 0, .slice none 0 0, .slice none 0 0] 100 (0, 0))
theorem WorldIs.cells {w : World} {b : Nat} (h : WorldIs w b) : w.cell? ⟨b, 3, none⟩ = some (.slice none 0 0) ∧ w.cell? ⟨b, 4, none⟩ = some (.slice none 0 0) ∧ w.cell? ⟨b, 5, none⟩ = some (.slice none 0 0) ∧ w.cell? ⟨b, 6, none⟩ = some (.slice none 0 0) ∧ w.cell? ⟨b, 7, none⟩ = some (.slice none 0 0) := by
  obtain ⟨g0, g1, g2, h⟩ := h
  exact ⟨(cells_at h).trans rfl, (cells_at h).trans rfl, (cells_at h).trans rfl, (cells_at h).trans rfl, (cells_at h).trans rfl⟩
theorem WorldIs.keep {w x : World} {b B : Nat} (h : WorldIs w b) (hb : Below B w x) (hlt : b < B) : WorldIs x b := by
  obtain ⟨g0, g1, g2, h⟩ := h
  exact ⟨g0, g1, g2, (hb.block b hlt).trans h⟩
set_option maxHeartbeats 4000000 in
set_option maxRecDepth 100000 in
theorem whole_any (w : World) (b : Nat) (h : WorldIs w b) : Calls Tryz.prog 37 #[.pointer (some ⟨b, 3, none⟩)] w fun e w' => e = .returned (.bool true) ∧ w' = w := by
  obtain ⟨y3, y4, y5, y6, y7⟩ := h.cells
  clear h
  go_enter Tryz.func37, Tryz.ntmps37
  go_wp2_with fail
  go_loopw [3, 4] (fun ov iv wx => ov = .bool true ∧ iv = .int .i64 0 ∧ wx = w) (fun _ _ _ => 0)
  case atStart => exact ⟨rfl, rfl, rfl⟩
  case round =>
    obtain ⟨rfl, rfl, hw4⟩ := hrel
    cases hw4
    go_wp2_with fail
    go_loopw [3, 6] (fun ov iv wx => ov = .bool true ∧ iv = .int .i64 0 ∧ wx = w) (fun _ _ _ => 0)
    case atStart => exact ⟨rfl, rfl, rfl⟩
    case round =>
      obtain ⟨rfl, rfl, hw6⟩ := hrel
      cases hw6
      go_wp2_with fail
      go_loopw [3, 8] (fun ov iv wx => ov = .bool true ∧ iv = .int .i64 0 ∧ wx = w) (fun _ _ _ => 0)
      case atStart => exact ⟨rfl, rfl, rfl⟩
      case round =>
        obtain ⟨rfl, rfl, hw8⟩ := hrel
        cases hw8
        go_wp2_with fail
        go_loopw [3, 10] (fun ov iv wx => ov = .bool true ∧ iv = .int .i64 0 ∧ wx = w) (fun _ _ _ => 0)
        case atStart => exact ⟨rfl, rfl, rfl⟩
        case round =>
          obtain ⟨rfl, rfl, hw10⟩ := hrel
          cases hw10
          go_wp2_with fail
          go_loopw [3, 12] (fun ov iv wx => ov = .bool true ∧ iv = .int .i64 0 ∧ wx = w) (fun _ _ _ => 0)
          case atStart => exact ⟨rfl, rfl, rfl⟩
          case round =>
            obtain ⟨rfl, rfl, hw12⟩ := hrel
            cases hw12
            go_wp2_with fail
            go_ret
            exact ⟨rfl, rfl⟩
end Go.Proofs.YtilfjpmeededmaaGreatDoor

namespace Go.Proofs.YtilfjpmeededmaaGreatDoor
open Go.RowKit
set_option maxHeartbeats 400000 in
set_option maxRecDepth 100000 in
theorem num_any (n : Int) (w : World) : Calls Tryz.prog 68 #[.int .i64 n] w fun e w' => e = .returned (.int .i64 n) ∧ w' = w := by
  go_enter Tryz.func68, Tryz.ntmps68
  go_wp2_with fail
  go_ret
  exact ⟨rfl, rfl⟩
end Go.Proofs.YtilfjpmeededmaaGreatDoor

namespace Go.Proofs.YtilfjpmeededmaaGreatDoor
open Go.RowKit
end Go.Proofs.YtilfjpmeededmaaGreatDoor

namespace Go.Proofs.YtilfjpmeededmaaGreatDoor
open Go.RowKit
theorem SrcOk.keep {Ty : List Value → Nat → Prop} {w x : World} {z : Nat} {r : RowS} (h : SrcOk Ty w z r) (hb : Below w.heap.size w x) : SrcOk Ty x z r := ⟨h.small, h.nil, h.want.keep hb, h.one, h.ty⟩
theorem RowsSrc.keep {w x : World} {wo : Option Addr} {n : Nat} {rows : List RowS} (h : RowsSrc w wo n rows) (hb : Below w.heap.size w x) : RowsSrc x wo n rows := by
  refine ⟨h.1, ?_⟩
  rcases h.2 with h | ⟨b, off, e, hl, hc⟩
  · exact .inl h
  · exact .inr ⟨b, off, e, by have := hb.size; omega, fun i r hi => (hb.cell (p := ⟨b, off + i, none⟩) hl).trans (hc i r hi)⟩
theorem TabOk.keep {w x : World} {s : TabS} (h : TabOk w s) (hb : Below w.heap.size w x) : TabOk x s := ⟨h.k.keep hb, h.u.keep hb, h.small, h.nil, h.rows.keep hb, fun r hr => (h.each r hr).keep hb⟩
theorem TabsSrc.keep {w x : World} {wo : Option Addr} {n : Nat} {tabs : List TabS} (h : TabsSrc w wo n tabs) (hb : Below w.heap.size w x) : TabsSrc x wo n tabs := by
  refine ⟨h.1, ?_⟩
  rcases h.2 with h | ⟨b, off, e, hl, hc⟩
  · exact .inl h
  · refine .inr ⟨b, off, e, by have := hb.size; omega, fun i s hi => ?_⟩
    obtain ⟨p0, p1, p2, p3, p4, p5⟩ := hc i s hi
    have cl : ∀ o, x.cell? ⟨b, o, none⟩ = w.cell? ⟨b, o, none⟩ := fun o => hb.cell (p := ⟨b, o, none⟩) hl
    exact ⟨(cl _).trans p0, (cl _).trans p1, (cl _).trans p2, (cl _).trans p3, (cl _).trans p4, (cl _).trans p5⟩
theorem BaseS.keep {w x : World} {fo : Option Addr} {fl fc : Nat} {to' : Option Addr} {tl tc : Nat} {fs : List FnT} {ts : List TabT} (h : BaseS w fo fl fc to' tl tc fs ts) (hb : Below w.heap.size w x) : BaseS x fo fl fc to' tl tc fs ts := by
  obtain ⟨tabs, h1, h2, h3, h4⟩ := h.tabs
  exact ⟨h.texts.keep hb, h.args, h.tbls.keep hb, h.fsrc.keep hb, h.tsm, h.tnil, tabs, h1.keep hb, fun s hs => (h2 s hs).keep hb, h3, h4⟩
def BasesAt (w : World) (b off n : Nat) : Prop := ∀ i, i < n → ∃ (fo : Option Addr) (fl fc : Nat) (to' : Option Addr) (tl tc : Nat) (fs : List FnT) (ts : List TabT), w.cell? ⟨b, off + i * 2, none⟩ = some (.slice fo fl fc) ∧ w.cell? ⟨b, off + i * 2 + 1, none⟩ = some (.slice to' tl tc) ∧ BaseS w fo fl fc to' tl tc fs ts
theorem BasesAt.keep {w x : World} {b off n : Nat} (h : BasesAt w b off n) (hb : Below w.heap.size w x) (hl : b < w.heap.size) : BasesAt x b off n := by
  intro i hi
  obtain ⟨fo, fl, fc, to', tl, tc, fs, ts, h1, h2, h3⟩ := h i hi
  exact ⟨fo, fl, fc, to', tl, tc, fs, ts, (hb.cell (p := ⟨b, _, none⟩) hl).trans h1, (hb.cell (p := ⟨b, _, none⟩) hl).trans h2, h3.keep hb⟩
def pickN (a : Int) (n : Nat) : Nat := ((if a < 0 then -(a + 1) else a) % (n : Int)).toNat
theorem pickN_lt (a : Int) (n : Nat) (hn : 0 < n) : pickN a n < n := by
  unfold pickN
  have h1 := Int.emod_lt_of_pos (if a < 0 then -(a + 1) else a) (show (0 : Int) < (n : Int) by omega)
  have h2 := Int.emod_nonneg (if a < 0 then -(a + 1) else a) (show (n : Int) ≠ 0 by omega)
  omega
set_option maxHeartbeats 1600000 in
set_option maxRecDepth 100000 in
theorem pick_any (a : Int) (n : Nat) (w : World) (h1 : -9223372036854775808 ≤ a) (h2 : a ≤ 9223372036854775807) (hn : 0 < n) (hn2 : n ≤ 1048576) : Calls Tryz.prog 110 #[.int .i64 a, .int .i64 (n : Int)] w fun e w' => e = .returned (.int .i64 (pickN a n : Int)) ∧ w' = w := by
  have hz : ¬ ((n : Int) = 0) := by omega
  have hz2 : ((n : Int) == 0) = false := by simpa using hz
  by_cases ha : a < 0
  · have HP : Hid ((pickN a n : Int) = (-(a + 1)) % (n : Int)) := by
      rw [Hid, pickN, if_pos ha, Int.toNat_of_nonneg (Int.emod_nonneg _ hz)]
    go_enter Tryz.func110, Tryz.ntmps110
    go_wp2_with fail
    go_ret
    exact ⟨by show Ending.returned (.int .i64 (-((a + 1).tmod (n : Int)))) = _; rw [HP.out, ← Int.tmod_eq_emod_of_nonneg (by omega), Int.neg_tmod], rfl⟩
  · have HP : Hid ((pickN a n : Int) = a % (n : Int)) := by
      rw [Hid, pickN, if_neg ha, Int.toNat_of_nonneg (Int.emod_nonneg _ hz)]
    go_enter Tryz.func110, Tryz.ntmps110
    go_wp2_with fail
    go_ret
    exact ⟨by show Ending.returned (.int .i64 (a % (n : Int))) = _; rw [HP.out], rfl⟩
end Go.Proofs.YtilfjpmeededmaaGreatDoor

namespace Go.Proofs.YtilfjpmeededmaaGreatDoor
open Go.RowKit
set_option maxHeartbeats 16000000 in
set_option maxRecDepth 100000 in
theorem bases_none (w : World) (wb : Nat) (c0 : Value) (gc : Nat) (hc0 : c0 = .slice none 0 gc ∨ ∃ a, c0 = .slice a 0 gc) (hW : w.cell? ⟨wb, 0, none⟩ = some c0) (hwb : wb < w.heap.size) (kd x y : Int) (s t : ByteArray) (lo : Option Addr) (ln lc : Nat) :
    Calls Tryz.prog 69 #[.pointer (some ⟨wb, 0, none⟩), .agg #[.int .i64 kd, .int .i64 x, .int .i64 y, .string s, .string t, .slice lo ln lc]] w fun e w' => e = .returned (.bool true) ∧ Below w.heap.size w w' := by
  obtain ⟨a, rfl⟩ : ∃ a, c0 = .slice a 0 gc := by
    rcases hc0 with h | h
    · exact ⟨none, h⟩
    · exact h
  clear hc0
  go_enter Tryz.func69, Tryz.ntmps69
  go_wp2_with fail
  go_ret
  exact ⟨rfl, (Below.refl _ w).alloc (Nat.le_refl _) _⟩
set_option maxHeartbeats 16000000 in
set_option maxRecDepth 100000 in
theorem bases_any (w : World) (wb b off n gc : Nat) (hW : w.cell? ⟨wb, 0, none⟩ = some (.slice (some ⟨b, off, none⟩) n gc)) (hwb : wb < w.heap.size) (hn : 0 < n) (hn2 : n ≤ 1048576) (hbl : b < w.heap.size) (hBs : BasesAt w b off n) (kd x y : Int) (hkd : kd = 2 ∨ kd = 3) (hx1 : -9223372036854775808 ≤ x) (hx2 : x ≤ 9223372036854775807) (s t : ByteArray) (lo : Option Addr) (ln lc : Nat) :
    Calls Tryz.prog 69 #[.pointer (some ⟨wb, 0, none⟩), .agg #[.int .i64 kd, .int .i64 x, .int .i64 y, .string s, .string t, .slice lo ln lc]] w fun e w' => e = .returned (.bool true) ∧ Below w.heap.size w w' := by
  have hk := pickN_lt x n hn
  obtain ⟨k, hke⟩ : ∃ k, k = pickN x n := ⟨_, rfl⟩
  have HPk : ∀ W : World, Calls Tryz.prog 110 #[.int .i64 x, .int .i64 (n : Int)] W fun e w' => e = .returned (.int .i64 (k : Int)) ∧ w' = W := by
    intro W; rw [hke]; exact pick_any x n W hx1 hx2 hn hn2
  rw [← hke] at hk
  obtain ⟨fo, fl, fc, to', tl, tc, fs, ts, hq0, hq1, hBS⟩ := hBs k hk
  clear hke hBs
  obtain ⟨W, hWe⟩ : ∃ W, W = w.alloc (.cells #[.int .i64 kd, .int .i64 x, .int .i64 y, .string s, .string t, .slice lo ln lc] 103) := ⟨_, rfl⟩
  have HATW : Hid (w.alloc (.cells #[.int .i64 kd, .int .i64 x, .int .i64 y, .string s, .string t, .slice lo ln lc] 103) = W) := hWe.symm
  have hBW : Below w.heap.size w W := by rw [hWe]; exact below_box w _
  have hob : W.heap[w.heap.size]? = some (.cells #[.int .i64 kd, .int .i64 x, .int .i64 y, .string s, .string t, .slice lo ln lc] 103 (0, 0)) := by rw [hWe]; exact heap_alloc_new w _
  have hsW : W.heap.size = w.heap.size + 1 := by rw [hWe]; simp [World.size_alloc]
  clear hWe
  have hol := ln_lt hob
  have o1 : W.cell? ⟨w.heap.size, 1, none⟩ = some (.int .i64 x) := (blk_at hob).trans rfl
  have g0 : W.cell? ⟨wb, 0, none⟩ = some (.slice (some ⟨b, off, none⟩) n gc) := (hBW.cell (p := ⟨wb, 0, none⟩) hwb).trans hW
  have q0 : W.cell? ⟨b, off + k * 2, none⟩ = some (.slice fo fl fc) := (hBW.cell (p := ⟨b, _, none⟩) hbl).trans hq0
  have q1 : W.cell? ⟨b, off + k * 2 + 1, none⟩ = some (.slice to' tl tc) := (hBW.cell (p := ⟨b, _, none⟩) hbl).trans hq1
  have hwbW : wb < W.heap.size := by omega
  have hblW : b < W.heap.size := by omega
  have HBS : Hid _ := hBS
  have hnz : ((n : Int) == 0) = false := by simp; omega
  have hnz2 : ¬ (n : Int) = 0 := by omega
  clear hq0 hq1 hBS
  go_enter Tryz.func69, Tryz.ntmps69
  go_upto_region 3 with fail
  rw [HATW.out]
  clear HATW
  go_cut [5] (fun s5 wx => ∃ bb, s5 = .pointer (some ⟨bb, 0, none⟩) ∧ Below W.heap.size W wx ∧ W.heap.size ≤ bb ∧ wx.heap[bb]? = some (.cells #[.slice fo fl fc, .slice to' tl tc] 43 (0, 0)))
  case first =>
    have hne1 := World.new_ne W ⟨wb, 0, none⟩ g0
    have hne2 := World.new_ne W ⟨w.heap.size, 1, none⟩ o1
    have hne3 := World.new_ne W ⟨b, off + k * 2, none⟩ q0
    dsimp only at hne1 hne2 hne3
    go_region_held2 (fun v => v.cell? ⟨wb, 0, none⟩ = some (.slice (some ⟨b, off, none⟩) n gc) ∧ v.cell? ⟨w.heap.size, 1, none⟩ = some (.int .i64 x) ∧ v.cell? ⟨b, off + k * 2, none⟩ = some (.slice fo fl fc) ∧ v.cell? ⟨b, off + k * 2 + 1, none⟩ = some (.slice to' tl tc)) (go_keep) (first | (go_at_call 110; refine (HPk _).mono ?_; rintro e w6 ⟨rfl, rfl⟩))
    all_goals (go_wp2_with fail; go_meet)
    all_goals exact ⟨W.heap.size, by rw [hsW], by first | exact (below_box W _).drew | exact below_box W _, Nat.le_refl _, heap_alloc_new W _⟩
  case rest =>
    obtain ⟨bb, rfl, hb1, hbb, hbbk⟩ := hcut
    generalize hw1 : wc = w1 at *
    clear hw1 o1 g0 q0 q1 hwbW hblW HPk
    have B1 : Below w.heap.size w w1 := hBW.trans (hb1.mono hBW.size)
    have hob1 := (hb1.block _ hol).trans hob
    obtain ⟨w2, hw2⟩ : ∃ w2, w2 = w1.alloc (.cells #[.slice none 0 0, .slice none 0 0, .slice none 0 0, .slice none 0 0, .slice none 0 0, .slice none 0 0, .slice none 0 0, .slice none 0 0, .slice none 0 0] 256) := ⟨_, rfl⟩
    have HAT2 : Hid (w1.alloc (.cells #[.slice none 0 0, .slice none 0 0, .slice none 0 0, .slice none 0 0, .slice none 0 0, .slice none 0 0, .slice none 0 0, .slice none 0 0, .slice none 0 0] 256) = w2) := hw2.symm
    have hb2 : Below w1.heap.size w1 w2 := by rw [hw2]; exact below_box w1 _
    have hmb : w2.heap[w1.heap.size]? = some (.cells #[.slice none 0 0, .slice none 0 0, .slice none 0 0, .slice none 0 0, .slice none 0 0, .slice none 0 0, .slice none 0 0, .slice none 0 0, .slice none 0 0] 256 (0, 0)) := by rw [hw2]; exact heap_alloc_new w1 _
    clear hw2
    have B2 : Below w.heap.size w w2 := B1.trans (hb2.mono B1.size)
    have hbb2 := (hb2.block bb (ln_lt hbbk)).trans hbbk
    have hob2 := (hb2.block _ (ln_lt hob1)).trans hob1
    obtain ⟨tabs, hT1, hT2, hT3, hT4⟩ := HBS.out.tabs
    have HB := loansBase_any w w2 w1.heap.size (loaned_nil hmb) B2 B1.size fo fl fc (fnCells fs) HBS.out.fsrc to' tl tc tabs HBS.out.tsm HBS.out.tnil hT1 hT2
    have b0 : w2.cell? ⟨bb, 0, none⟩ = some (.slice fo fl fc) := (blk_at hbb2).trans rfl
    have b1 : w2.cell? ⟨bb, 1, none⟩ = some (.slice to' tl tc) := (blk_at hbb2).trans rfl
    have hbl2 := ln_lt hbb2
    have hbm : bb < w1.heap.size := ln_lt hbbk
    have hom : w.heap.size < w1.heap.size := ln_lt hob1
    generalize hmbe : w1.heap.size = mb at *
    clear hob1 hbbk
    go_upto_region 5 with fail
    rw [HAT2.out]
    clear HAT2
    go_wp2_with (go_at_call 111; refine HB.mono ?_)
    clear HB
    rintro e w3 ⟨fo', fn', fc', bo, bn, bc, C, R, X, K, B, F, rfl, ⟨hlens, hLo⟩, hfl, hbl', hb3⟩
    have hTx : TextsIn w3 (.slice fo' fn' fc') fs := by
      obtain ⟨_, _, _, _, _, _, _, _, _, _, _, _, _, hF⟩ := hLo
      exact lent_texts hF.each hfl HBS.out.texts
    have hTb : TblsIn w3 (.slice bo bn bc) ts := lent_tabs hLo hbl' HBS.out.tbls hT1 hT2 hT3 hT4
    have B3 : Below w.heap.size w w3 := B2.trans (hb3.mono (by have := B1.size; omega))
    have hbb3 : w3.heap[bb]? = some (.cells #[.slice fo fl fc, .slice to' tl tc] 43 (0, 0)) := (hb3.block bb (by omega)).trans hbb2
    have hob3 := (hb3.block w.heap.size (by omega)).trans hob2
    have h3m : mb < w3.heap.size := by obtain ⟨_, _, _, _, _, _, _, h, _⟩ := hLo; exact ln_lt h
    obtain ⟨w4, hw4⟩ : ∃ w4, w4 = w3.alloc (.cells #[.slice fo' fn' fc', .slice bo bn bc] 43) := ⟨_, rfl⟩
    have HAT4 : Hid (w3.alloc (.cells #[.slice fo' fn' fc', .slice bo bn bc] 43) = w4) := hw4.symm
    have hb4 : Below w3.heap.size w3 w4 := by rw [hw4]; exact below_box w3 _
    have hin : w4.heap[w3.heap.size]? = some (.cells #[.slice fo' fn' fc', .slice bo bn bc] 43 (0, 0)) := by rw [hw4]; exact heap_alloc_new w3 _
    clear hw4
    have B4 : Below w.heap.size w w4 := B3.trans (hb4.mono B3.size)
    have hbb4 := (hb4.block bb (ln_lt hbb3)).trans hbb3
    have hob4 := (hb4.block _ (ln_lt hob3)).trans hob3
    have HLo : Hid _ := hLo.keep hb4
    have HLe : Hid _ := hlens
    have HTx : Hid _ := hTx.keep hb4
    have HTb : Hid _ := hTb.keep hb4
    have HKEEP : ∀ v : World, Below w4.heap.size w4 v → (v.cell? ⟨w.heap.size, 0, none⟩ = some (.int .i64 kd) ∧ v.cell? ⟨w.heap.size, 3, none⟩ = some (.string s)) ∧ (v.cell? ⟨bb, 0, none⟩ = some (.slice fo fl fc) ∧ v.cell? ⟨bb, 1, none⟩ = some (.slice to' tl tc)) ∧ (v.cell? ⟨w3.heap.size, 0, none⟩ = some (.slice fo' fn' fc') ∧ v.cell? ⟨w3.heap.size, 1, none⟩ = some (.slice bo bn bc)) ∧ w.heap.size < v.heap.size ∧ bb < v.heap.size ∧ w3.heap.size < v.heap.size := fun v hv =>
      ⟨⟨(blk_at ((hv.block _ (ln_lt hob4)).trans hob4)).trans rfl, (blk_at ((hv.block _ (ln_lt hob4)).trans hob4)).trans rfl⟩, ⟨(blk_at ((hv.block _ (ln_lt hbb4)).trans hbb4)).trans rfl, (blk_at ((hv.block _ (ln_lt hbb4)).trans hbb4)).trans rfl⟩, ⟨(blk_at ((hv.block _ (ln_lt hin)).trans hin)).trans rfl, (blk_at ((hv.block _ (ln_lt hin)).trans hin)).trans rfl⟩, Nat.lt_of_lt_of_le (ln_lt hob4) hv.size, Nat.lt_of_lt_of_le (ln_lt hbb4) hv.size, Nat.lt_of_lt_of_le (ln_lt hin) hv.size⟩
    have HWh : ∀ v : World, Below w4.heap.size w4 v → Calls Tryz.prog 122 #[.pointer (some ⟨mb, 0, none⟩)] v fun e w' => e = .returned (.bool true) ∧ Below w.heap.size w w' := fun v hv =>
      (loansWhole_any w v mb C R X K B F (Loaned.keep HLo.out hv) HLe.out (B4.trans (hv.mono B4.size)) (by omega)).mono fun e w' h => ⟨h.1, (B4.trans (hv.mono B4.size)).trans (h.2.mono (by omega))⟩
    clear hLo hlens hTx hTb hfl hbl' hb3 hbb3 hob3 hbb2 hob2 b0 b1 hbl2 hmb hb1 hb2
    generalize hib : w3.heap.size = ib at *
    obtain ⟨⟨o0, o3⟩, ⟨b0, b1⟩, ⟨i0, i1⟩, hl1, hl2, hl3⟩ := HKEEP w4 (Below.refl _ _)
    rcases hkd with rfl | rfl
    · have HCk := check2_any w4 fs fo' fn' fc' HTx.out ts bo bn bc HTb.out
      obtain ⟨ck, hck⟩ : ∃ ck, ck = checkB fs ts := ⟨_, rfl⟩
      rw [← hck] at HCk
      have HCK : Hid _ := hck
      clear hck
      go_upto_region 7 with fail
      rw [HAT4.out]
      clear HAT4
      go_upto_region 9 with (go_at_call 112; refine HCk.mono ?_; rintro e w5 ⟨rfl, hb5⟩)
      clear o0 o3 b0 b1 i0 i1 hl1 hl2 hl3 HCk
      obtain ⟨⟨o0, o3⟩, ⟨b0, b1⟩, ⟨i0, i1⟩, hl1, hl2, hl3⟩ := HKEEP w5 hb5
      have B5 : Below w.heap.size w w5 := B4.trans (hb5.mono B4.size)
      have HRd := refReadB_any w5 fs fo fl fc (HBS.out.texts.keep B5) HBS.out.args ts to' tl tc (HBS.out.tbls.keep B5)
      have HRd2 : Calls Tryz.prog 113 #[.agg #[.slice fo fl fc, .slice to' tl tc]] w5 fun e w' => ∃ xp, e = .returned (.tuple #[.pointer (some ⟨xp, 0, none⟩), .int .i64 ck]) ∧ Below w5.heap.size w5 w' := HRd.mono fun e w' ⟨hb, hr⟩ => by
        rcases hr with ⟨m, xp, ho, _, rfl⟩ | ⟨l, tls, xp, ho, rfl, _⟩
        · exact ⟨xp, by rw [HCK.out, checkB, ho], hb⟩
        · exact ⟨xp, by rw [HCK.out, checkB, ho], hb⟩
      clear HRd
      go_wp2_with (first
        | (go_at_call 113; refine HRd2.mono ?_; rintro e w6 ⟨xp, rfl, hb6⟩)
        | (go_at_call 68; refine (num_any _ _).mono ?_; rintro e w7 ⟨rfl, rfl⟩)
        | (go_at_call 122; refine (HWh _ (hb5.trans (hb6.mono hb5.size))).mono ?_; rintro e w8 ⟨rfl, hb8⟩))
      go_ret
      exact ⟨rfl, hb8⟩
    · obtain ⟨sb, rfl⟩ : ∃ sb, s = ofBs sb := ⟨s.toList, ba_eq s⟩
      have HCk := quiet2_any w4 fs fo' fn' fc' HTx.out ts bo bn bc HTb.out sb
      obtain ⟨cq, hcq⟩ : ∃ cq, cq = quietB fs ts sb := ⟨_, rfl⟩
      rw [← hcq] at HCk
      have HCK : Hid _ := hcq
      clear hcq
      go_upto_region 7 with fail
      rw [HAT4.out]
      clear HAT4
      go_upto_region 13 with (go_at_call 17; refine HCk.mono ?_; rintro e w5 ⟨rfl, hb5⟩)
      clear o0 o3 b0 b1 i0 i1 hl1 hl2 hl3 HCk
      obtain ⟨⟨o0, o3⟩, ⟨b0, b1⟩, ⟨i0, i1⟩, hl1, hl2, hl3⟩ := HKEEP w5 hb5
      have B5 : Below w.heap.size w w5 := B4.trans (hb5.mono B4.size)
      have HRd := refQuietB_any w5 fs fo fl fc (HBS.out.texts.keep B5) HBS.out.args ts to' tl tc (HBS.out.tbls.keep B5) sb
      rw [← HCK.out] at HRd
      obtain ⟨cq1, cq2⟩ := cq
      dsimp only at HRd
      dsimp only
      go_wp2_with (first
        | (go_at_call 114; refine HRd.mono ?_; rintro e w6 ⟨rfl, hb6⟩)
        | (go_at_call 68; refine (num_any _ _).mono ?_; rintro e w7 ⟨rfl, rfl⟩)
        | (go_at_call 122; refine (HWh _ (hb5.trans (hb6.mono hb5.size))).mono ?_; rintro e w8 ⟨rfl, hb8⟩))
      go_ret
      exact ⟨rfl, hb8⟩
end Go.Proofs.YtilfjpmeededmaaGreatDoor

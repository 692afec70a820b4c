import Derived.Test.YtilfjpmeededmaaGreatDoorTaCZ
import Derived.Test.YtilfjpmeededmaaGreatDoorTyMZ
import Derived.Test.YtilfjpmeededmaaGreatDoorWkFZ
import Derived.Deep.AppendLies
set_option linter.unusedVariables false
set_option linter.unusedSimpArgs false
namespace Go.Proofs.YtilfjpmeededmaaGreatDoor
open Go.RowKit
structure TabT where
  name : Bs
  cols : List ColT
  rows : List (List CellT)
  count : Int
  policy : Bs
  users : List Bs
def isTabS (t : TabT) : Bool := areColsS t.cols && decide (0 ≤ t.count) && decide (t.count ≤ 1000000) && areRowsS t.rows t.cols
set_option maxHeartbeats 1600000 in
set_option maxRecDepth 100000 in
theorem isTable_any (w : World) (t : TabT) (co : Option Addr) (cn cc : Nat) (ro : Option Addr) (rn rc : Nat) (uo : Option Addr) (un uc : Nat) (hc : ColsIn w (.slice co cn cc) t.cols) (hr : RowsIn w (.slice ro rn rc) t.rows) :
    Calls Tryz.prog 139 #[.agg #[.string (ofBs t.name), .slice co cn cc, .slice ro rn rc, .int .i64 t.count, .string (ofBs t.policy), .slice uo un uc]] w fun e w' => e = .returned (.bool (isTabS t)) ∧ Below w.heap.size w w' := by
  have hb0 := below_box w (.cells #[.string (ofBs t.name), .slice co cn cc, .slice ro rn rc, .int .i64 t.count, .string (ofBs t.policy), .slice uo un uc] 134)
  have k0 := heap_alloc_new w (.cells #[.string (ofBs t.name), .slice co cn cc, .slice ro rn rc, .int .i64 t.count, .string (ofBs t.policy), .slice uo un uc] 134)
  have HC := areColumns_any _ _ t.cols (hc.keep hb0)
  have HRw := fun (x : World) (hx : Below w.heap.size w x) => areRows_any x _ co cn cc t.rows t.cols (hr.keep hx) (hc.keep hx)
  have HR : Hid (isTabS t = (areColsS t.cols && decide (0 ≤ t.count) && decide (t.count ≤ 1000000) && areRowsS t.rows t.cols)) := rfl
  obtain ⟨a, ha⟩ : ∃ a, a = areColsS t.cols := ⟨_, rfl⟩
  obtain ⟨b, hb⟩ : ∃ b, b = areRowsS t.rows t.cols := ⟨_, rfl⟩
  rw [← ha] at HC HR
  rw [← hb] at HR
  simp only [← hb] at HRw
  clear ha hb hc hr
  have key : ∀ w2 : World, Below (w.alloc (.cells #[.string (ofBs t.name), .slice co cn cc, .slice ro rn rc, .int .i64 t.count, .string (ofBs t.policy), .slice uo un uc] 134)).heap.size (w.alloc (.cells #[.string (ofBs t.name), .slice co cn cc, .slice ro rn rc, .int .i64 t.count, .string (ofBs t.policy), .slice uo un uc] 134)) w2 → (w2.cell? ⟨w.heap.size, 1, none⟩ = some (.slice co cn cc) ∧ w2.cell? ⟨w.heap.size, 2, none⟩ = some (.slice ro rn rc) ∧ w2.cell? ⟨w.heap.size, 3, none⟩ = some (.int .i64 t.count)) ∧ Below w.heap.size w w2 := by
    intro w2 h
    have hk := (h.block w.heap.size (by simp [World.size_alloc])).trans k0
    exact ⟨⟨(blk_at hk).trans rfl, (blk_at hk).trans rfl, (blk_at hk).trans rfl⟩, hb0.trans (h.mono hb0.size)⟩
  cases a
  · go_enter Tryz.func139, Tryz.ntmps139
    go_wp2_with (go_at_call 212; refine HC.mono ?_; rintro e w2 ⟨rfl, hb2⟩; obtain ⟨⟨a1, a2, a3⟩, B2⟩ := key w2 hb2)
    go_ret
    exact ⟨by rw [HR.out]; rfl, B2⟩
  · by_cases h0 : 0 ≤ t.count
    · have d0 : decide (0 ≤ t.count) = true := decide_eq_true h0
      by_cases h1 : t.count ≤ 1000000
      · have d1 : decide (t.count ≤ 1000000) = true := decide_eq_true h1
        rw [d0, d1] at HR
        go_enter Tryz.func139, Tryz.ntmps139
        go_wp2_with (first
          | (go_at_call 212; refine HC.mono ?_; rintro e w2 ⟨rfl, hb2⟩; obtain ⟨⟨a1, a2, a3⟩, B2⟩ := key w2 hb2)
          | (go_at_call 213; refine (HRw _ B2).mono ?_; rintro e w3 ⟨rfl, hb3⟩))
        go_ret
        exact ⟨by rw [HR.out]; rfl, B2.trans (hb3.mono B2.size)⟩
      · have d1 : decide (t.count ≤ 1000000) = false := decide_eq_false h1
        rw [d0, d1] at HR
        go_enter Tryz.func139, Tryz.ntmps139
        go_wp2_with (go_at_call 212; refine HC.mono ?_; rintro e w2 ⟨rfl, hb2⟩; obtain ⟨⟨a1, a2, a3⟩, B2⟩ := key w2 hb2)
        go_ret
        exact ⟨by rw [HR.out]; rfl, B2⟩
    · have d0 : decide (0 ≤ t.count) = false := decide_eq_false h0
      rw [d0] at HR
      go_enter Tryz.func139, Tryz.ntmps139
      go_wp2_with (go_at_call 212; refine HC.mono ?_; rintro e w2 ⟨rfl, hb2⟩; obtain ⟨⟨a1, a2, a3⟩, B2⟩ := key w2 hb2)
      go_ret
      exact ⟨by rw [HR.out]; rfl, B2⟩
def nameS (tb : Bs) (c : ColT) : Bs × Int := (tb ++ [46] ++ c.1, colTyS c)
def nameCells (ns : List (Bs × Int)) : List Value := ns.flatMap fun n => [Value.string (ofBs n.1), .int .i64 n.2]
theorem nameCells_append (a b : List (Bs × Int)) : nameCells (a ++ b) = nameCells a ++ nameCells b := by simp [nameCells]
theorem nameCells_get : ∀ (ns : List (Bs × Int)) (i : Nat) (n : Bs × Int), ns[i]? = some n → (nameCells ns)[i * 2]? = some (.string (ofBs n.1)) ∧ (nameCells ns)[i * 2 + 1]? = some (.int .i64 n.2)
  | [], i, n, h => by simp at h
  | m :: ns, 0, n, h => by simp at h; subst h; simp [nameCells]
  | m :: ns, i + 1, n, h => by
    have := nameCells_get ns i n (by simpa using h)
    have e : nameCells (m :: ns) = [Value.string (ofBs m.1), .int .i64 m.2] ++ nameCells ns := by simp [nameCells]
    rw [e]
    refine ⟨?_, ?_⟩
    · rw [List.getElem?_append_right (by simp; omega), ← this.1]; congr 1; simp; omega
    · rw [List.getElem?_append_right (by simp; omega), ← this.2]; congr 1; simp; omega
theorem namesIn_own {w : World} {b : Nat} {v : Value} {ns : List (Bs × Int)} (h : w.ownsRow b 301 2 v ns.length (nameCells ns)) (hl : ns.length ≤ 1000) : NamesIn w v ns := by
  rcases h.2 with ⟨rfl, h0⟩ | ⟨g, cap, cur, rfl, hr⟩
  · have : ns = [] := List.length_eq_zero_iff.mp h0
    subst this; exact ⟨_, _, rfl, by simp, .inl rfl⟩
  · refine ⟨_, _, rfl, hl, .inr ⟨g, rfl, (h.lt g rfl).2, fun i n hn => ?_⟩⟩
    obtain ⟨e0, e1⟩ := nameCells_get ns i n hn
    have c0 := h.cells (g := g) rfl (i * 2) _ e0
    have c1 := h.cells (g := g) rfl (i * 2 + 1) _ e1
    rw [Addr.add_lit] at c0 c1
    exact ⟨by simpa using c0, by simpa using c1⟩
theorem infoName : (Tryz.prog.info? 301).map (fun i => (i.zero, i.size, i.bytes)) = some (some (.agg #[.string ⟨#[]⟩, .int .i64 0]), 2, 24) := by kernel_rfl
theorem blk1_drewN (x : World) (o : Obj) : (x.alloc o).drew.heap[x.heap.size]? = some o := heap_alloc_new x o
theorem dot_eq (tb n : Bs) : (ofBs tb ++ ByteArray.mk #[46]) ++ ofBs n = ofBs (tb ++ [46] ++ n) := by
  have h1 := add_strA tb [46]
  have h2 := add_strA (tb ++ [46]) n
  have e : ByteArray.mk #[46] = ofBs [46] := rfl
  rw [e, h1, h2]
set_option maxHeartbeats 8000000 in
set_option maxRecDepth 100000 in
theorem names_any (w : World) (tb : Bs) (ht : tb.length ≤ 1000) (v : Value) (cs : List ColT) (h : ColsIn w v cs) (h4 : cs.length ≤ 1000) (hn : ∀ c ∈ cs, c.1.length ≤ 1000) :
    Calls Tryz.prog 140 #[.string (ofBs tb), v] w fun e w' => ∃ no nn nc, e = .returned (.slice no nn nc) ∧ NamesIn w' (.slice no nn nc) (cs.map (nameS tb)) ∧ Below w.heap.size w w' := by
  obtain ⟨i0, hi, hz0, hz1, hz2⟩ := info_parts infoName
  obtain ⟨ao, cap, rfl, _, _, hz⟩ := h
  have htz : (ofBs tb).size ≤ 1000 := by rw [ofBs_size]; exact ht
  have hdz : (ByteArray.mk #[46]).size = 1 := rfl
  go_enter Tryz.func140, Tryz.ntmps140
  go_wp2_with fail
  go_loopw [5, 10] (fun kv iv wr => ∃ (i kn kc : Nat) (ko : Option Addr), i ≤ cs.length ∧ kv = .slice ko kn kc ∧ iv = .int .i64 i ∧ wr.ownsRow w.heap.size 301 2 (.slice ko kn kc) i (nameCells ((cs.take i).map (nameS tb))) ∧ Below w.heap.size w wr) (fun _ iv _ => cs.length - (intOf iv).toNat)
  case atStart => exact ⟨0, 0, 0, none, Nat.zero_le _, rfl, rfl, World.ownsRow_nil _ _ _ _, Below.refl _ _⟩
  case round =>
    obtain ⟨i, kn, kc, ko, hi', rfl, rfl, hko, hB⟩ := hrel
    have hsz := hB.size
    by_cases hlt : i < cs.length
    · obtain ⟨b, off, rfl, hb, hc⟩ : ∃ b off, ao = some ⟨b, off, none⟩ ∧ b < w.heap.size ∧ ∀ (i : Nat) (c : ColT), cs[i]? = some c → (w.cell? ⟨b, off + i * 3, none⟩ = some (.string (ofBs c.1)) ∧ w.cell? ⟨b, off + i * 3 + 1, none⟩ = some (.string (ofBs c.2.1)) ∧ w.cell? ⟨b, off + i * 3 + 2, none⟩ = some (.int .i64 c.2.2)) ∧ c.1.length ≤ maxLen ∧ c.2.1.length ≤ maxLen := by
        rcases hz with h | h
        · subst h; simp at hlt
        · exact h
      obtain ⟨⟨p0, p1, p2⟩, -⟩ := hc i cs[i] (List.getElem?_eq_getElem hlt)
      have q0 := (hB.cell (p := ⟨b, off + i * 3, none⟩) hb).trans p0
      have q1 := (hB.cell (p := ⟨b, off + i * 3 + 1, none⟩) hb).trans p1
      have q2 := (hB.cell (p := ⟨b, off + i * 3 + 2, none⟩) hb).trans p2
      have hcl := hn cs[i] (List.getElem_mem hlt)
      have HT : Hid ((cs.take (i + 1)).map (nameS tb) = (cs.take i).map (nameS tb) ++ [nameS tb cs[i]]) := by rw [Hid, List.take_succ_eq_append_getElem hlt, List.map_append]; rfl
      obtain ⟨c, hck⟩ : ∃ c, c = cs[i] := ⟨_, rfl⟩
      rw [← hck] at q0 q1 q2 hcl HT
      have hbr : b < wr.heap.size := by omega
      have HK := fun x : World => columnType_any c x
      have HNS : Hid (nameS tb c = (tb ++ [46] ++ c.1, colTyS c)) := rfl
      obtain ⟨ty, hty⟩ : ∃ t, t = colTyS c := ⟨_, rfl⟩
      simp only [← hty] at HK HNS
      have hcz : (ofBs c.1).size ≤ 1000 := by rw [ofBs_size]; exact hcl
      have hdd := dot_eq tb c.1
      have e2 : ofBs tb ++ ByteArray.mk #[46] = ofBs (tb ++ [46]) := add_strA tb [46]
      have hez : (ofBs (tb ++ [46])).size ≤ 1001 := by rw [ofBs_size]; simp; omega
      rw [e2] at hdd
      have g1 : ¬ 9223372036854775807 < (ofBs tb).size + 1 := by omega
      have g2 : ¬ 9223372036854775807 < (ofBs (tb ++ [46])).size + (ofBs c.1).size := by omega
      obtain ⟨nm, hnm⟩ : ∃ x, x = tb ++ [46] ++ c.1 := ⟨_, rfl⟩
      obtain ⟨t1, ht1⟩ : ∃ x, x = tb ++ [46] := ⟨_, rfl⟩
      rw [← hnm] at hdd HNS
      rw [← ht1] at hdd e2 hez g2
      clear hc hz p0 p1 p2 hck hty hn hnm ht1
      go_upto_region 5 with fail
      have hWr := below_box wr (.cells #[.string (ofBs c.1), .string (ofBs c.2.1), .int .i64 c.2.2] 162)
      obtain ⟨WR, hWR⟩ : ∃ x, x = wr.alloc (.cells #[.string (ofBs c.1), .string (ofBs c.2.1), .int .i64 c.2.2] 162) := ⟨_, rfl⟩
      rw [← hWR] at hWr ⊢
      have kx : WR.heap[wr.heap.size]? = some (.cells #[.string (ofBs c.1), .string (ofBs c.2.1), .int .i64 c.2.2] 162) := by rw [hWR]; exact heap_alloc_new wr _
      obtain ⟨⟨x0, x1, x2⟩, _⟩ := cells3w kx
      have hWs : WR.heap.size = wr.heap.size + 1 := by rw [hWR]; simp
      have HOWN : ∀ (w8 : World), Below WR.heap.size WR w8 → ∀ o : Obj, (w8.alloc o).drew.ownsRow w.heap.size 301 2 (.slice ko kn kc) i (nameCells ((cs.take i).map (nameS tb))) := fun w8 hb8 o =>
        World.ownsRow.drew (World.ownsRow.alloc (owns_keep hko fun g hg => (hb8.block g (by have := (hko.lt g hg).2; omega)).trans (hWr.block g (hko.lt g hg).2)) o)
      clear hWR
      go_region_law (first
        | (refine step_append_lies _ rfl (.tmp 14) (.tmp 23) 203 rfl w.heap.size 301 i0 _ 2 24 Tryz.underlying203 hi hz0 hz1 hz2 rfl (by decide) (.slice ko kn kc) _ (nameCells ((cs.take i).map (nameS tb))) (by simp [Act.eval]) (HOWN _ hb8 _) ⟨w8.heap.size, 0, none⟩ 1 1 [.string (ofBs nm), .int .i64 ty] (by simp [Act.eval]) rfl (World.news_of_block (blk1_drewN w8 _)) (by intro u hu; simp at hu; rcases hu with rfl | rfl <;> rfl) (by decide) (by unfold maxLen; omega) (by omega) (by simp; omega) (w8.heap.size + 1) (by simp) ?_; intro g9 cap9 w9 hown9 hgrow9 hat9 hlt9)
        | (go_simp; go_at_call 214; refine (HK _).mono ?_; rintro e' w8 ⟨rfl, hb8⟩; replace hb8 := undrewB hb8; have hs8 := hb8.size; obtain ⟨⟨y0, y1, y2⟩, _⟩ := cells3w ((hb8.block _ (by omega)).trans kx)))
      all_goals
        have R : w9.ownsRow w.heap.size 301 2 (.slice (some ⟨g9, 0, none⟩) (i + 1) cap9) (i + 1) (nameCells ((cs.take (i + 1)).map (nameS tb))) := by
          rw [HT.out, nameCells_append, HNS.out]; exact hown9
        have RB : Below w.heap.size w w9 := (((hB.trans (hWr.mono hsz)).trans (hb8.mono (by omega))).alloc (by omega) _).grown hgrow9 (by rw [World.size_alloc]; omega) (fun k hk => (hko.lt k hk).1)
        clear hown9 hgrow9 hko HT hat9
        go_wp2_with fail
        go_roundw
        case rel => exact ⟨i + 1, _, _, _, by omega, rfl, by go_num, R, RB⟩
        case measure => simp [intOf]; omega
    · have hil : i = cs.length := by omega
      have HI : Hid (NamesIn wr (.slice ko kn kc) (cs.map (nameS tb))) := by
        rw [hil, List.take_length] at hko
        exact namesIn_own (by rw [List.length_map]; exact hko) (by rw [List.length_map]; exact h4)
      clear hko hz hn
      go_wp2_with fail
      go_ret
      exact ⟨_, _, _, rfl, HI.out, hB⟩
end Go.Proofs.YtilfjpmeededmaaGreatDoor

namespace Go.Proofs.YtilfjpmeededmaaGreatDoor
open Go.RowKit
structure TbRaw where
  name : Bs
  co : Option Addr
  cn : Nat
  cc : Nat
  ro : Option Addr
  rn : Nat
  rc : Nat
  count : Int
  policy : Bs
  uo : Option Addr
  un : Nat
  uc : Nat
  sort : Int
  ty : Int
  size : Int
  quiet : Bool
  vk : Int
  vn : Int
  vs : Bs
  place : Int
  head : Bs
  fp : Option Addr
  xo : Option Addr
  xn : Nat
  xc : Nat
abbrev TbRaw.arr (r : TbRaw) : Array Value := #[.string (ofBs r.name), .slice r.co r.cn r.cc, .slice r.ro r.rn r.rc, .int .i64 r.count, .string (ofBs r.policy), .slice r.uo r.un r.uc, .int .i64 r.sort, .int .i64 r.ty, .int .i64 r.size, .bool r.quiet, .int .i64 r.vk, .int .i64 r.vn, .string (ofBs r.vs), .int .i64 r.place, .string (ofBs r.head), .pointer r.fp, .slice r.xo r.xn r.xc]
abbrev TbRaw.ex (r : TbRaw) : List Value := [.int .i64 r.sort, .int .i64 r.ty, .int .i64 r.size, .bool r.quiet, .int .i64 r.vk, .int .i64 r.vn, .string (ofBs r.vs), .int .i64 r.place, .string (ofBs r.head), .pointer r.fp, .slice r.xo r.xn r.xc]
def StrsIn (w : World) (v : Value) (ls : List Bs) : Prop := ∃ ao cap, v = .slice ao ls.length cap ∧ ls.length ≤ maxLen ∧ (ls = [] ∨ ∃ b off, ao = some ⟨b, off, none⟩ ∧ b < w.heap.size ∧ ∀ (i : Nat) (l : Bs), ls[i]? = some l → w.cell? ⟨b, off + i, none⟩ = some (.string (ofBs l)))
theorem StrsIn.keep {w x : World} {v : Value} {ls : List Bs} (h : StrsIn w v ls) (hb : Below w.heap.size w x) : StrsIn x v ls := by
  obtain ⟨ao, cap, h1, h2, h3⟩ := h
  refine ⟨ao, cap, h1, h2, ?_⟩
  rcases h3 with h | ⟨b, off, e, hl, hc⟩
  · exact .inl h
  · exact .inr ⟨b, off, e, by have := hb.size; omega, fun i l hi => (hb.cell (p := ⟨b, _, none⟩) hl).trans (hc i l hi)⟩
structure TabRow (w : World) (FB : List Nat) (r : TbRaw) (t : TabT) (e : Ex) : Prop where
  name : r.name = t.name
  count : r.count = t.count
  policy : r.policy = t.policy
  cols : ColsIn w (.slice r.co r.cn r.cc) t.cols
  rows : RowsIn w (.slice r.ro r.rn r.rc) t.rows
  users : StrsIn w (.slice r.uo r.un r.uc) t.users
  ex : IsEx w FB (fun _ => True) r.ex e
theorem TabRow.keep {w x : World} {FB : List Nat} {r : TbRaw} {t : TabT} {e : Ex} (h : TabRow w FB r t e) (hb : Below w.heap.size w x) : TabRow x FB r t e :=
  ⟨h.name, h.count, h.policy, h.cols.keep hb, h.rows.keep hb, h.users.keep hb, h.ex.keep hb⟩
def Row17 (x : World) (b i : Nat) (r : TbRaw) : Prop := x.cell? ⟨b, i * 17, none⟩ = some (.string (ofBs r.name)) ∧ x.cell? ⟨b, i * 17 + 1, none⟩ = some (.slice r.co r.cn r.cc) ∧ x.cell? ⟨b, i * 17 + 2, none⟩ = some (.slice r.ro r.rn r.rc) ∧ x.cell? ⟨b, i * 17 + 3, none⟩ = some (.int .i64 r.count) ∧ x.cell? ⟨b, i * 17 + 4, none⟩ = some (.string (ofBs r.policy)) ∧ x.cell? ⟨b, i * 17 + 5, none⟩ = some (.slice r.uo r.un r.uc) ∧ x.cell? ⟨b, i * 17 + 6, none⟩ = some (.int .i64 r.sort) ∧ x.cell? ⟨b, i * 17 + 7, none⟩ = some (.int .i64 r.ty) ∧ x.cell? ⟨b, i * 17 + 8, none⟩ = some (.int .i64 r.size) ∧ x.cell? ⟨b, i * 17 + 9, none⟩ = some (.bool r.quiet) ∧ x.cell? ⟨b, i * 17 + 10, none⟩ = some (.int .i64 r.vk) ∧ x.cell? ⟨b, i * 17 + 11, none⟩ = some (.int .i64 r.vn) ∧ x.cell? ⟨b, i * 17 + 12, none⟩ = some (.string (ofBs r.vs)) ∧ x.cell? ⟨b, i * 17 + 13, none⟩ = some (.int .i64 r.place) ∧ x.cell? ⟨b, i * 17 + 14, none⟩ = some (.string (ofBs r.head)) ∧ x.cell? ⟨b, i * 17 + 15, none⟩ = some (.pointer r.fp) ∧ x.cell? ⟨b, i * 17 + 16, none⟩ = some (.slice r.xo r.xn r.xc)
def TabsIn (w : World) (FB : List Nat) (v : Value) (ts : List (TabT × Ex)) : Prop := ∃ ao cap, v = .slice ao ts.length cap ∧ ts.length ≤ 1000 ∧ (ts = [] ∨ ∃ b, ao = some ⟨b, 0, none⟩ ∧ b < w.heap.size ∧ ∀ (i : Nat) (te : TabT × Ex), ts[i]? = some te → ∃ r : TbRaw, Row17 w b i r ∧ TabRow w FB r te.1 te.2)
theorem Row17.keep {w x : World} {b i : Nat} {r : TbRaw} (h : Row17 w b i r) (hc : ∀ o, x.cell? ⟨b, o, none⟩ = w.cell? ⟨b, o, none⟩) : Row17 x b i r := by
  unfold Row17 at h ⊢; simp only [hc]; exact h
theorem TabsIn.keep {w x : World} {FB : List Nat} {v : Value} {ts : List (TabT × Ex)} (h : TabsIn w FB v ts) (hb : Below w.heap.size w x) : TabsIn x FB v ts := by
  obtain ⟨ao, cap, h1, h2, h3⟩ := h
  refine ⟨ao, cap, h1, h2, ?_⟩
  rcases h3 with h | ⟨b, e, hl, hc⟩
  · exact .inl h
  · refine .inr ⟨b, e, by have := hb.size; omega, fun i te hi => ?_⟩
    obtain ⟨r, a, c⟩ := hc i te hi
    exact ⟨r, a.keep fun o => hb.cell (p := ⟨b, o, none⟩) hl, c.keep hb⟩
def tabIx (ts : List (TabT × Ex)) (l : Bs) : Option Nat := ts.findIdx? (fun te => te.1.name == l)
theorem cells17 {x : World} {b : Nat} {a0 a1 a2 a3 a4 a5 a6 a7 a8 a9 a10 a11 a12 a13 a14 a15 a16 : Value} {T : TypeId} (h : x.heap[b]? = some (.cells #[a0, a1, a2, a3, a4, a5, a6, a7, a8, a9, a10, a11, a12, a13, a14, a15, a16] T (0, 0))) :
    (x.cell? ⟨b, 0, none⟩ = some a0 ∧ x.cell? ⟨b, 1, none⟩ = some a1 ∧ x.cell? ⟨b, 2, none⟩ = some a2 ∧ x.cell? ⟨b, 3, none⟩ = some a3 ∧ x.cell? ⟨b, 4, none⟩ = some a4 ∧ x.cell? ⟨b, 5, none⟩ = some a5 ∧ x.cell? ⟨b, 6, none⟩ = some a6 ∧ x.cell? ⟨b, 7, none⟩ = some a7 ∧ x.cell? ⟨b, 8, none⟩ = some a8 ∧ x.cell? ⟨b, 9, none⟩ = some a9 ∧ x.cell? ⟨b, 10, none⟩ = some a10 ∧ x.cell? ⟨b, 11, none⟩ = some a11 ∧ x.cell? ⟨b, 12, none⟩ = some a12 ∧ x.cell? ⟨b, 13, none⟩ = some a13 ∧ x.cell? ⟨b, 14, none⟩ = some a14 ∧ x.cell? ⟨b, 15, none⟩ = some a15 ∧ x.cell? ⟨b, 16, none⟩ = some a16) ∧ (x.frozen? ⟨b, 0, none⟩ = false ∧ x.frozen? ⟨b, 1, none⟩ = false ∧ x.frozen? ⟨b, 2, none⟩ = false ∧ x.frozen? ⟨b, 3, none⟩ = false ∧ x.frozen? ⟨b, 4, none⟩ = false ∧ x.frozen? ⟨b, 5, none⟩ = false ∧ x.frozen? ⟨b, 6, none⟩ = false ∧ x.frozen? ⟨b, 7, none⟩ = false ∧ x.frozen? ⟨b, 8, none⟩ = false ∧ x.frozen? ⟨b, 9, none⟩ = false ∧ x.frozen? ⟨b, 10, none⟩ = false ∧ x.frozen? ⟨b, 11, none⟩ = false ∧ x.frozen? ⟨b, 12, none⟩ = false ∧ x.frozen? ⟨b, 13, none⟩ = false ∧ x.frozen? ⟨b, 14, none⟩ = false ∧ x.frozen? ⟨b, 15, none⟩ = false ∧ x.frozen? ⟨b, 16, none⟩ = false) := by
  simp [World.cell?, World.frozen?, h]
theorem set17_below {B : Nat} {w x : World} {b : Nat} (h : Below B w x) (hb : B ≤ b) (a0 a1 a2 a3 a4 a5 a6 a7 a8 a9 a10 a11 a12 a13 a14 a15 a16 : Value) : Below B w (((((((((((((((((x.setCell ⟨b, 0, none⟩ a0).setCell ⟨b, 1, none⟩ a1).setCell ⟨b, 2, none⟩ a2).setCell ⟨b, 3, none⟩ a3).setCell ⟨b, 4, none⟩ a4).setCell ⟨b, 5, none⟩ a5).setCell ⟨b, 6, none⟩ a6).setCell ⟨b, 7, none⟩ a7).setCell ⟨b, 8, none⟩ a8).setCell ⟨b, 9, none⟩ a9).setCell ⟨b, 10, none⟩ a10).setCell ⟨b, 11, none⟩ a11).setCell ⟨b, 12, none⟩ a12).setCell ⟨b, 13, none⟩ a13).setCell ⟨b, 14, none⟩ a14).setCell ⟨b, 15, none⟩ a15).setCell ⟨b, 16, none⟩ a16) :=
  (((((((((((((((((h.setCell (p := ⟨b, 0, none⟩) hb _).setCell (p := ⟨b, 1, none⟩) hb _).setCell (p := ⟨b, 2, none⟩) hb _).setCell (p := ⟨b, 3, none⟩) hb _).setCell (p := ⟨b, 4, none⟩) hb _).setCell (p := ⟨b, 5, none⟩) hb _).setCell (p := ⟨b, 6, none⟩) hb _).setCell (p := ⟨b, 7, none⟩) hb _).setCell (p := ⟨b, 8, none⟩) hb _).setCell (p := ⟨b, 9, none⟩) hb _).setCell (p := ⟨b, 10, none⟩) hb _).setCell (p := ⟨b, 11, none⟩) hb _).setCell (p := ⟨b, 12, none⟩) hb _).setCell (p := ⟨b, 13, none⟩) hb _).setCell (p := ⟨b, 14, none⟩) hb _).setCell (p := ⟨b, 15, none⟩) hb _).setCell (p := ⟨b, 16, none⟩) hb _)
set_option maxHeartbeats 800000 in
set_option maxRecDepth 100000 in
theorem table1_any (w : World) (nb : Nat) (r : TbRaw) (l : Bs) (hnl : nb < w.heap.size) (hn : w.cell? ⟨nb, 0, none⟩ = some (.string (ofBs l))) :
    Calls Tryz.prog 102 #[.agg #[.string (ofBs r.name), .slice r.co r.cn r.cc, .slice r.ro r.rn r.rc, .int .i64 r.count, .string (ofBs r.policy), .slice r.uo r.un r.uc, .int .i64 r.sort, .int .i64 r.ty, .int .i64 r.size, .bool r.quiet, .int .i64 r.vk, .int .i64 r.vn, .string (ofBs r.vs), .int .i64 r.place, .string (ofBs r.head), .pointer r.fp, .slice r.xo r.xn r.xc], .pointer (some ⟨nb, 0, none⟩)] w fun e w' => e = .returned (.bool (r.name == l)) ∧ Below w.heap.size w w' := by
  have HR : Hid ((r.name == l) = ((ofBs r.name).toList == (ofBs l).toList)) := by rw [Hid, ofBs_toList, ofBs_toList]
  have hb := below_box w (.cells #[.string (ofBs r.name), .slice r.co r.cn r.cc, .slice r.ro r.rn r.rc, .int .i64 r.count, .string (ofBs r.policy), .slice r.uo r.un r.uc, .int .i64 r.sort, .int .i64 r.ty, .int .i64 r.size, .bool r.quiet, .int .i64 r.vk, .int .i64 r.vn, .string (ofBs r.vs), .int .i64 r.place, .string (ofBs r.head), .pointer r.fp, .slice r.xo r.xn r.xc] 155)
  have hn2 := (hb.cell (p := ⟨nb, 0, none⟩) hnl).trans hn
  go_enter Tryz.func102, Tryz.ntmps102
  go_upto_region 1 with fail
  first
    | (go_region; go_wp2_with fail; go_ret; exact ⟨by rw [HR.out]; rfl, hb.drew⟩)
    | (go_wp2_with fail; go_ret; exact ⟨by rw [HR.out]; rfl, hb⟩)
set_option maxHeartbeats 1600000 in
set_option maxRecDepth 100000 in
theorem tabsIndexFunc_any (w : World) (FB : List Nat) (v : Value) (ts : List (TabT × Ex)) (nb : Nat) (l : Bs) (h : TabsIn w FB v ts) (hnl : nb < w.heap.size) (hn : w.cell? ⟨nb, 0, none⟩ = some (.string (ofBs l))) :
    Calls Tryz.prog 101 #[v, .func (Fn.func 102) #[] #[.pointer (some ⟨nb, 0, none⟩)]] w fun e w' => (∃ k : Int, e = .returned (.int .i64 k) ∧ ((tabIx ts l = none ∧ k = -1) ∨ ∃ i : Nat, tabIx ts l = some i ∧ k = i ∧ i < ts.length)) ∧ Below w.heap.size w w' := by
  obtain ⟨ao, cap, rfl, hl, hz⟩ := h
  go_enter Tryz.func101, Tryz.ntmps101
  go_wp2_with fail
  go_loopw [8] (fun iv wx => ∃ i : Nat, i ≤ ts.length ∧ iv = .int .i64 i ∧ Below w.heap.size w wx ∧ Hid (tabIx ts l = ((ts.drop i).findIdx? (fun te => te.1.name == l)).map (· + i))) (fun iv _ => ts.length - (intOf iv).toNat)
  case atStart => exact ⟨0, Nat.zero_le _, rfl, Below.refl _ _, by rw [Hid]; simp [tabIx]⟩
  case round =>
    obtain ⟨i, hi, rfl, hB, HE⟩ := hrel
    by_cases hlt : i < ts.length
    · obtain ⟨b, rfl, hb, hc⟩ : ∃ b, ao = some ⟨b, 0, none⟩ ∧ b < w.heap.size ∧ ∀ (i : Nat) (te : TabT × Ex), ts[i]? = some te → ∃ r : TbRaw, Row17 w b i r ∧ TabRow w FB r te.1 te.2 := by
        rcases hz with h | h
        · subst h; simp at hlt
        · exact h
      obtain ⟨r, hrow, hr⟩ := hc i ts[i] (List.getElem?_eq_getElem hlt)
      obtain ⟨q0, q1, q2, q3, q4, q5, q6, q7, q8, q9, q10, q11, q12, q13, q14, q15, q16⟩ := hrow.keep fun o => hB.cell (p := ⟨b, o, none⟩) hb
      have hn' := (hB.cell (p := ⟨nb, 0, none⟩) hnl).trans hn
      have hd : ts.drop i = ts[i] :: ts.drop (i + 1) := List.drop_eq_getElem_cons hlt
      have HA : Hid (tabIx ts l = if (r.name == l) then some i else ((ts.drop (i + 1)).findIdx? (fun te => te.1.name == l)).map (· + (i + 1))) := by
        rw [Hid, HE.out, hd, List.findIdx?_cons, hr.name]
        cases (ts[i].1.name == l)
        · simp only [Bool.false_eq_true, if_false, Option.map_map]; congr 1; funext x; simp; omega
        · simp
      have hnr : nb < wr.heap.size := by have := hB.size; omega
      have HC := table1_any wr nb r l hnr hn'
      clear hc hd hz HE hr hrow
      obtain ⟨d, hde⟩ : ∃ d, d = (r.name == l) := ⟨_, rfl⟩
      rw [← hde] at HC HA
      clear hde
      cases d with
      | true =>
        have HN : Hid (tabIx ts l = some i) := by rw [Hid, HA.out, if_pos rfl]
        clear HA
        go_wp2_with (go_at_call 102; refine HC.mono ?_; rintro e w2 ⟨rfl, hb2⟩)
        go_ret
        exact ⟨⟨_, rfl, .inr ⟨i, HN.out, rfl, hlt⟩⟩, hB.trans (hb2.mono hB.size)⟩
      | false =>
        have HN : Hid (tabIx ts l = ((ts.drop (i + 1)).findIdx? (fun te => te.1.name == l)).map (· + (i + 1))) := by rw [Hid, HA.out, if_neg Bool.false_ne_true]
        clear HA
        go_wp2_with (go_at_call 102; refine HC.mono ?_; rintro e w2 ⟨rfl, hb2⟩)
        go_roundw
        case rel => exact ⟨i + 1, by omega, by go_num, hB.trans (hb2.mono hB.size), HN⟩
        case measure => simp [intOf]; omega
    · have HN : Hid (tabIx ts l = none) := by rw [Hid, HE.out, List.drop_of_length_le (by omega)]; rfl
      clear HE hz
      go_wp2_with fail
      go_ret
      exact ⟨⟨_, rfl, .inl ⟨HN.out, rfl⟩⟩, hB⟩
end Go.Proofs.YtilfjpmeededmaaGreatDoor

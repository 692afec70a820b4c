/- Package work: builtIn of the other heads. -/
/- Package work: value, call, Worker.Call. -/
import Derived.Test.YtilfjpmeededmaaGreatDoorWvG
namespace Go.Proofs.YtilfjpmeededmaaGreatDoor
open Go.RowKit

abbrev frV (wb : Nat) (co : Option Addr) (cn cc : Nat) (ao : Option Addr) (an ac : Nat) : Value := .agg #[.pointer (some ⟨wb, 0, none⟩), .slice co cn cc, .slice ao an ac]
theorem bi_box {w w2 : World} {a b c : Obj} (h : Below (((w.alloc a).alloc b).alloc c).heap.size (((w.alloc a).alloc b).alloc c) w2) : Below w.heap.size w w2 ∧ (w2.heap[w.heap.size]? = some a ∧ w2.heap[w.heap.size + 1]? = some b ∧ w2.heap[w.heap.size + 2]? = some c) ∧ w.heap.size < w2.heap.size ∧ w.heap.size + 1 < w2.heap.size ∧ w.heap.size + 2 < w2.heap.size := by
  have hs := h.size
  simp only [World.size_alloc] at hs
  obtain ⟨k0, k1, k2⟩ := box3 w a b c
  exact ⟨(below3 w a b c).trans (h.mono (by simp only [World.size_alloc]; omega)), ⟨(h.block _ (by simp only [World.size_alloc]; omega)).trans k0, (h.block _ (by simp only [World.size_alloc]; omega)).trans k1, (h.block _ (by simp only [World.size_alloc]; omega)).trans k2⟩, by omega, by omega, by omega⟩

set_option maxHeartbeats 4000000 in
set_option maxRecDepth 100000 in
theorem builtIn_and (w : World) (wb : Nat) (co : Option Addr) (cn cc : Nat) (ao : Option Addr) (an ac : Nat) (r : CellT) (sort ty size : Int) (quiet : Bool) (vk vn : Int) (vs : Bs) (place : Int) (fp oo : Option Addr) (on oc : Nat)
    (HC : ∀ x : World, Below w.heap.size w x → Calls Tryz.prog 216 #[frV wb co cn cc ao an ac, .slice oo on oc] x fun e w' => Vald x r e w') :
    Calls Tryz.prog 146 #[frV wb co cn cc ao an ac, .agg #[.int .i64 sort, .int .i64 ty, .int .i64 size, .bool quiet, .int .i64 vk, .int .i64 vn, .string (ofBs vs), .int .i64 place, .string ⟨#[97, 110, 100]⟩, .pointer fp, .slice oo on oc]] w fun e w' => Vald w r e w' := by
  have HC0 := HC _ (below3 w (.cells #[.pointer (some ⟨wb, 0, none⟩), .slice co cn cc, .slice ao an ac] 193) (.cells #[.int .i64 sort, .int .i64 ty, .int .i64 size, .bool quiet, .int .i64 vk, .int .i64 vn, .string (ofBs vs), .int .i64 place, .string ⟨#[97, 110, 100]⟩, .pointer fp, .slice oo on oc] 122) (cellO 0 0 ⟨#[]⟩))
  clear HC
  go_enter Tryz.func146, Tryz.ntmps146
  go_wp2_with (go_at_call 216; refine HC0.mono ?_; rintro e w2 ⟨rfl, hb2⟩; obtain ⟨B2, ⟨_, _, k2⟩, l0, l1, l2⟩ := bi_box hb2; obtain ⟨⟨r0, r1, r2⟩, rf0, rf1, rf2⟩ := cells3 k2)
  refine bodyPost_ret (v := .tuple #[.agg #[.int .i64 r.1, .int .i64 r.2.1, .string (ofBs r.2.2)], .int .i64 0]) (by simp [results, Tryz.results146, go_sem, r0, r1, r2]) rfl ⟨rfl, ?_⟩
  exact set3_below B2 (by omega) _ _ _

set_option maxHeartbeats 4000000 in
set_option maxRecDepth 100000 in
theorem builtIn_or (w : World) (wb : Nat) (co : Option Addr) (cn cc : Nat) (ao : Option Addr) (an ac : Nat) (r : CellT) (sort ty size : Int) (quiet : Bool) (vk vn : Int) (vs : Bs) (place : Int) (fp oo : Option Addr) (on oc : Nat)
    (HC : ∀ x : World, Below w.heap.size w x → Calls Tryz.prog 217 #[frV wb co cn cc ao an ac, .slice oo on oc] x fun e w' => Vald x r e w') :
    Calls Tryz.prog 146 #[frV wb co cn cc ao an ac, .agg #[.int .i64 sort, .int .i64 ty, .int .i64 size, .bool quiet, .int .i64 vk, .int .i64 vn, .string (ofBs vs), .int .i64 place, .string ⟨#[111, 114]⟩, .pointer fp, .slice oo on oc]] w fun e w' => Vald w r e w' := by
  have HC0 := HC _ (below3 w (.cells #[.pointer (some ⟨wb, 0, none⟩), .slice co cn cc, .slice ao an ac] 193) (.cells #[.int .i64 sort, .int .i64 ty, .int .i64 size, .bool quiet, .int .i64 vk, .int .i64 vn, .string (ofBs vs), .int .i64 place, .string ⟨#[111, 114]⟩, .pointer fp, .slice oo on oc] 122) (cellO 0 0 ⟨#[]⟩))
  clear HC
  go_enter Tryz.func146, Tryz.ntmps146
  go_wp2_with (go_at_call 217; refine HC0.mono ?_; rintro e w2 ⟨rfl, hb2⟩; obtain ⟨B2, ⟨_, _, k2⟩, l0, l1, l2⟩ := bi_box hb2; obtain ⟨⟨r0, r1, r2⟩, rf0, rf1, rf2⟩ := cells3 k2)
  refine bodyPost_ret (v := .tuple #[.agg #[.int .i64 r.1, .int .i64 r.2.1, .string (ofBs r.2.2)], .int .i64 0]) (by simp [results, Tryz.results146, go_sem, r0, r1, r2]) rfl ⟨rfl, ?_⟩
  exact set3_below B2 (by omega) _ _ _

set_option maxHeartbeats 4000000 in
set_option maxRecDepth 100000 in
theorem builtIn_ops (w : World) (wb : Nat) (co : Option Addr) (cn cc : Nat) (ao : Option Addr) (an ac : Nat) (r : CellT) (cs : List CellT) (sort ty size : Int) (quiet : Bool) (vk vn : Int) (vs : Bs) (place : Int) (head : Bs) (fp oo : Option Addr) (on oc : Nat)
    (n1 : head ≠ hAnd) (n2 : head ≠ hOr) (n3 : head ≠ hIf) (n4 : head ≠ hNote)
    (HC : ∀ x : World, Below w.heap.size w x → Calls Tryz.prog 219 #[frV wb co cn cc ao an ac, .slice oo on oc] x fun e w' => ∃ ro rn rc, e = .returned (.tuple #[.slice ro rn rc, .int .i64 0]) ∧ CellsIn w' (.slice ro rn rc) cs ∧ Below x.heap.size x w') (ha : appQ head cs = some r) :
    Calls Tryz.prog 146 #[frV wb co cn cc ao an ac, .agg #[.int .i64 sort, .int .i64 ty, .int .i64 size, .bool quiet, .int .i64 vk, .int .i64 vn, .string (ofBs vs), .int .i64 place, .string (ofBs head), .pointer fp, .slice oo on oc]] w fun e w' => Vald w r e w' := by
  have HC0 := HC _ (below3 w (.cells #[.pointer (some ⟨wb, 0, none⟩), .slice co cn cc, .slice ao an ac] 193) (.cells #[.int .i64 sort, .int .i64 ty, .int .i64 size, .bool quiet, .int .i64 vk, .int .i64 vn, .string (ofBs vs), .int .i64 place, .string (ofBs head), .pointer fp, .slice oo on oc] 122) (cellO 0 0 ⟨#[]⟩))
  have t1 : ((ofBs head).toList == [97, 110, 100]) = false := by rw [ofBs_toList]; exact beq_eq_false_iff_ne.mpr n1
  have t2 : ((ofBs head).toList == [111, 114]) = false := by rw [ofBs_toList]; exact beq_eq_false_iff_ne.mpr n2
  have t3 : ((ofBs head).toList == [105, 102]) = false := by rw [ofBs_toList]; exact beq_eq_false_iff_ne.mpr n3
  have t4 : ((ofBs head).toList == [110, 111, 116, 101]) = false := by rw [ofBs_toList]; exact beq_eq_false_iff_ne.mpr n4
  clear HC n1 n2 n3 n4
  go_enter Tryz.func146, Tryz.ntmps146
  go_wp2_with (first
    | (go_at_call 219; refine HC0.mono ?_; rintro e w2 ⟨ro, rn, rc, rfl, hcs, hb2⟩; obtain ⟨B2, ⟨_, k1, k2⟩, l0, l1, l2⟩ := bi_box hb2; obtain ⟨⟨y0, y1, y2, y3, y4, y5, y6, y7, y8, y9, y10⟩, _⟩ := cells11 k1)
    | (go_at_call 221; refine (apply_any w2 _ cs hcs head r ha).mono ?_; rintro e w3 ⟨rfl, hb3⟩; obtain ⟨⟨r0, r1, r2⟩, rf0, rf1, rf2⟩ := cells3 ((hb3.block _ l2).trans k2); have l3 := Nat.lt_of_lt_of_le l2 hb3.size))
  refine bodyPost_ret (v := .tuple #[.agg #[.int .i64 r.1, .int .i64 r.2.1, .string (ofBs r.2.2)], .int .i64 0]) (by simp [results, Tryz.results146, go_sem, r0, r1, r2]) rfl ⟨rfl, ?_⟩
  exact set3_below (B2.trans (hb3.mono B2.size)) (by omega) _ _ _

set_option maxHeartbeats 4000000 in
set_option maxRecDepth 100000 in
theorem builtIn_note (w : World) (wb : Nat) (user : Bs) (hk : WkIs w wb user none 0 0 []) (hT : TabP w) (co : Option Addr) (cn cc : Nat) (ao : Option Addr) (an ac : Nat) (c : CellT) (h0 : -9223372036854775808 ≤ c.2.1) (h1 : c.2.1 ≤ 9223372036854775807) (hl : c.2.2.length ≤ 1000) (sort ty size : Int) (quiet : Bool) (vk vn : Int) (vs : Bs) (place : Int) (fp oo : Option Addr) (on oc : Nat)
    (HC : ∀ x : World, Below w.heap.size w x → Calls Tryz.prog 219 #[frV wb co cn cc ao an ac, .slice oo on oc] x fun e w' => ∃ ro rn rc, e = .returned (.tuple #[.slice ro rn rc, .int .i64 0]) ∧ CellsIn w' (.slice ro rn rc) [c] ∧ Below x.heap.size x w') :
    Calls Tryz.prog 146 #[frV wb co cn cc ao an ac, .agg #[.int .i64 sort, .int .i64 ty, .int .i64 size, .bool quiet, .int .i64 vk, .int .i64 vn, .string (ofBs vs), .int .i64 place, .string ⟨#[110, 111, 116, 101]⟩, .pointer fp, .slice oo on oc]] w fun e w' => Noted false wb user 1 c w e w' := by
  have hwl := block_lt hk.1
  have HC0 := HC _ (below3 w (.cells #[.pointer (some ⟨wb, 0, none⟩), .slice co cn cc, .slice ao an ac] 193) (.cells #[.int .i64 sort, .int .i64 ty, .int .i64 size, .bool quiet, .int .i64 vk, .int .i64 vn, .string (ofBs vs), .int .i64 place, .string ⟨#[110, 111, 116, 101]⟩, .pointer fp, .slice oo on oc] 122) (cellO 0 0 ⟨#[]⟩))
  clear HC
  go_enter Tryz.func146, Tryz.ntmps146
  go_upto_region 12 with (go_at_call 219; refine HC0.mono ?_; rintro e w2 ⟨ro, rn, rc, rfl, hcs, hb2⟩; obtain ⟨B2, ⟨k0, k1, k2⟩, l0, l1, l2⟩ := bi_box hb2; obtain ⟨⟨y0, y1, y2, y3, y4, y5, y6, y7, y8, y9, y10⟩, _⟩ := cells11 k1)
  obtain ⟨b, off, cap, hsl, hb, hcc⟩ := cellsIn_one hcs
  cases hsl
  obtain ⟨q0, q1, q2⟩ := hcc w2 (Below.refl _ _)
  obtain ⟨⟨f0, f1, f2⟩, _⟩ := cells3 k0
  have HN : Calls Tryz.prog 220 #[.pointer (some ⟨wb, 0, none⟩), .agg #[.int .i64 c.1, .int .i64 c.2.1, .string (ofBs c.2.2)]] w2.drew fun e w' => e = .returned (.agg #[.int .i64 c.1, .int .i64 c.2.1, .string (ofBs c.2.2)]) ∧ (∃ no' nc', WkIs w' wb user no' 1 nc' [notedS c]) ∧ Nt wb (.slice none 0 0) w2.drew w' :=
    note_any w2.drew wb user none 0 0 [] ⟨(B2.block wb hwl).trans hk.1, World.ownsRow_nil _ _ _ _⟩ (tabP_keep hT B2.drew) c h0 h1 hl (by simp)
  obtain ⟨ck, cn', cl⟩ := c
  simp only at q0 q1 q2 HN ⊢
  have hne2 : w.heap.size + 2 ≠ wb := by omega
  clear HC0 hb2 hcs hcc hk hT
  go_region_with (go_at_call 220; refine HN.mono ?_; rintro e w3 ⟨rfl, ⟨no', nc', hk3⟩, hn3⟩; obtain ⟨⟨r0, r1, r2⟩, rf0, rf1, rf2⟩ := cells3 ((hn3.2 _ (by simp only [World.size_drew]; exact l2) hne2 (by simp [Value.ownBlock])).trans k2); have l3 : w.heap.size + 2 < w3.heap.size := Nat.lt_of_lt_of_le l2 hn3.1.size)
  all_goals (go_wp2_with fail)
  all_goals
    refine bodyPost_ret (v := .tuple #[.agg #[.int .i64 ck, .int .i64 cn', .string (ofBs cl)], .int .i64 0]) (by simp [results, Tryz.results146, go_sem, r0, r1, r2]) rfl ⟨rfl, ?_⟩
    have hK : Kp false wb user 1 w w3 := ⟨(B2.drew.mono (by omega)).trans hn3.1, fun g hg hne => (hn3.2 g (by simp only [World.size_drew]; have := B2.size; omega) hne (by simp [Value.ownBlock])).trans (B2.block g hg), fun e => (by cases e), fun _ => ⟨no', nc', hk3.1⟩⟩
    exact hK.set3 hwl (by omega) _ _ _
end Go.Proofs.YtilfjpmeededmaaGreatDoor

namespace Go.Proofs.YtilfjpmeededmaaGreatDoor
open Go.RowKit

set_option maxHeartbeats 400000 in
set_option maxRecDepth 100000 in
theorem cellTextX (s : ByteArray) (w : World) : Calls Tryz.prog 145 #[.string s] w fun e w' => e = .returned (.agg #[.int .i64 2, .int .i64 0, .string s]) ∧ w' = w.alloc (.cells #[.int .i64 2, .int .i64 0, .string s] 50) := by
  go_enter Tryz.func145, Tryz.ntmps145
  go_wp2_with fail
  exact bodyPost_ret (v := .agg #[.int .i64 2, .int .i64 0, .string s]) (by simp [results, Tryz.results145, go_sem]) rfl ⟨rfl, rfl⟩

abbrev exV (sort ty size : Int) (quiet : Bool) (vk vn : Int) (vs : Bs) (place : Int) (head : Bs) (fp oo : Option Addr) (on oc : Nat) : Value := .agg #[.int .i64 sort, .int .i64 ty, .int .i64 size, .bool quiet, .int .i64 vk, .int .i64 vn, .string (ofBs vs), .int .i64 place, .string (ofBs head), .pointer fp, .slice oo on oc]
abbrev exB (sort ty size : Int) (quiet : Bool) (vk vn : Int) (vs : Bs) (place : Int) (head : Bs) (fp oo : Option Addr) (on oc : Nat) : Obj := .cells #[.int .i64 sort, .int .i64 ty, .int .i64 size, .bool quiet, .int .i64 vk, .int .i64 vn, .string (ofBs vs), .int .i64 place, .string (ofBs head), .pointer fp, .slice oo on oc] 122
abbrev frB (wb : Nat) (co : Option Addr) (cn cc : Nat) (ao : Option Addr) (an ac : Nat) : Obj := .cells #[.pointer (some ⟨wb, 0, none⟩), .slice co cn cc, .slice ao an ac] 193

set_option maxHeartbeats 4000000 in
set_option maxRecDepth 100000 in
theorem value_user (w : World) (wb : Nat) (user : Bs) (hk : w.cell? ⟨wb, 0, none⟩ = some (.string (ofBs user))) (hwl : wb < w.heap.size) (co : Option Addr) (cn cc : Nat) (ao : Option Addr) (an ac : Nat) (ty size : Int) (quiet : Bool) (vk vn : Int) (vs : Bs) (place : Int) (head : Bs) (fp oo : Option Addr) (on oc : Nat) :
    Calls Tryz.prog 82 #[frV wb co cn cc ao an ac, exV 1 ty size quiet vk vn vs place head fp oo on oc] w fun e w' => Vald w (2, 0, user) e w' := by
  have hk3 := ((below3 w (frB wb co cn cc ao an ac) (exB 1 ty size quiet vk vn vs place head fp oo on oc) (cellO 0 0 ⟨#[]⟩)).cell (p := ⟨wb, 0, none⟩) hwl).trans hk
  go_enter Tryz.func82, Tryz.ntmps82
  go_wp2_with (go_at_call 145; refine (cellTextX _ _).mono ?_; rintro e w2 ⟨rfl, rfl⟩)
  refine bodyPost_ret (v := .tuple #[.agg #[.int .i64 2, .int .i64 0, .string (ofBs user)], .int .i64 0]) (by simp [results, Tryz.results82, go_sem]) rfl ⟨rfl, ?_⟩
  exact (below3 w _ _ _).alloc (by simp only [World.size_alloc]; omega) _

set_option maxHeartbeats 4000000 in
set_option maxRecDepth 100000 in
theorem value_const (w : World) (wb : Nat) (co : Option Addr) (cn cc : Nat) (ao : Option Addr) (an ac : Nat) (sort ty size : Int) (n1 : sort ≠ 1) (n2 : sort ≠ 2) (n3 : sort ≠ 3) (n4 : sort ≠ 4) (n5 : sort ≠ 5) (quiet : Bool) (vk vn : Int) (vs : Bs) (place : Int) (head : Bs) (fp oo : Option Addr) (on oc : Nat) :
    Calls Tryz.prog 82 #[frV wb co cn cc ao an ac, exV sort ty size quiet vk vn vs place head fp oo on oc] w fun e w' => Vald w (vk, vn, vs) e w' := by
  have m1 : (sort == 1) = false := by simpa using n1
  have m2 : (sort == 2) = false := by simpa using n2
  have m3 : (sort == 3) = false := by simpa using n3
  have m4 : (sort == 4) = false := by simpa using n4
  have m5 : (sort == 5) = false := by simpa using n5
  go_enter Tryz.func82, Tryz.ntmps82
  go_wp2_with fail
  refine bodyPost_ret (v := .tuple #[.agg #[.int .i64 vk, .int .i64 vn, .string (ofBs vs)], .int .i64 0]) (by simp [results, Tryz.results82, go_sem]) rfl ⟨rfl, ?_⟩
  exact below3 w _ _ _

set_option maxHeartbeats 4000000 in
set_option maxRecDepth 100000 in
theorem value_par (w : World) (wb : Nat) (co : Option Addr) (cn cc : Nat) (b off ac : Nat) (args : List CellT) (hb : b < w.heap.size) (p : Nat) (c : CellT) (hp : args[p]? = some c) (q0 : w.cell? ⟨b, off + p * 3, none⟩ = some (.int .i64 c.1)) (q1 : w.cell? ⟨b, off + p * 3 + 1, none⟩ = some (.int .i64 c.2.1)) (q2 : w.cell? ⟨b, off + p * 3 + 2, none⟩ = some (.string (ofBs c.2.2))) (ty size : Int) (quiet : Bool) (vk vn : Int) (vs : Bs) (head : Bs) (fp oo : Option Addr) (on oc : Nat) :
    Calls Tryz.prog 82 #[frV wb co cn cc (some ⟨b, off, none⟩) args.length ac, exV 3 ty size quiet vk vn vs p head fp oo on oc] w fun e w' => Vald w c e w' := by
  have hlt : p < args.length := (List.getElem?_eq_some_iff.mp hp).1
  obtain ⟨ck, cn', cl⟩ := c
  simp only at q0 q1 q2 ⊢
  have hb3 := below3 w (frB wb co cn cc (some ⟨b, off, none⟩) args.length ac) (exB 3 ty size quiet vk vn vs p head fp oo on oc) (cellO 0 0 ⟨#[]⟩)
  replace q0 := (hb3.cell (p := ⟨b, off + p * 3, none⟩) hb).trans q0
  replace q1 := (hb3.cell (p := ⟨b, off + p * 3 + 1, none⟩) hb).trans q1
  replace q2 := (hb3.cell (p := ⟨b, off + p * 3 + 2, none⟩) hb).trans q2
  clear hp hb3
  go_enter Tryz.func82, Tryz.ntmps82
  go_wp2_with fail
  refine bodyPost_ret (v := .tuple #[.agg #[.int .i64 ck, .int .i64 cn', .string (ofBs cl)], .int .i64 0]) (by simp [results, Tryz.results82, go_sem]) rfl ⟨rfl, ?_⟩
  exact below3 w _ _ _

set_option maxHeartbeats 4000000 in
set_option maxRecDepth 100000 in
theorem value_col (w : World) (wb : Nat) (ao : Option Addr) (an ac : Nat) (b off cc : Nat) (cols : List CellT) (hb : b < w.heap.size) (p : Nat) (c : CellT) (hp : cols[p]? = some c) (q0 : w.cell? ⟨b, off + p * 3, none⟩ = some (.int .i64 c.1)) (q1 : w.cell? ⟨b, off + p * 3 + 1, none⟩ = some (.int .i64 c.2.1)) (q2 : w.cell? ⟨b, off + p * 3 + 2, none⟩ = some (.string (ofBs c.2.2))) (ty size : Int) (quiet : Bool) (vk vn : Int) (vs : Bs) (head : Bs) (fp oo : Option Addr) (on oc : Nat) :
    Calls Tryz.prog 82 #[frV wb (some ⟨b, off, none⟩) cols.length cc ao an ac, exV 2 ty size quiet vk vn vs p head fp oo on oc] w fun e w' => Vald w c e w' := by
  have hlt : p < cols.length := (List.getElem?_eq_some_iff.mp hp).1
  obtain ⟨ck, cn', cl⟩ := c
  simp only at q0 q1 q2 ⊢
  have hb3 := below3 w (frB wb (some ⟨b, off, none⟩) cols.length cc ao an ac) (exB 2 ty size quiet vk vn vs p head fp oo on oc) (cellO 0 0 ⟨#[]⟩)
  replace q0 := (hb3.cell (p := ⟨b, off + p * 3, none⟩) hb).trans q0
  replace q1 := (hb3.cell (p := ⟨b, off + p * 3 + 1, none⟩) hb).trans q1
  replace q2 := (hb3.cell (p := ⟨b, off + p * 3 + 2, none⟩) hb).trans q2
  clear hp hb3
  go_enter Tryz.func82, Tryz.ntmps82
  go_wp2_with fail
  refine bodyPost_ret (v := .tuple #[.agg #[.int .i64 ck, .int .i64 cn', .string (ofBs cl)], .int .i64 0]) (by simp [results, Tryz.results82, go_sem]) rfl ⟨rfl, ?_⟩
  exact below3 w _ _ _

set_option maxHeartbeats 4000000 in
set_option maxRecDepth 100000 in
theorem value_built (q : Bool) (m : Nat) (user : Bs) (r : CellT) (w : World) (wb : Nat) (hwl : wb < w.heap.size) (co : Option Addr) (cn cc : Nat) (ao : Option Addr) (an ac : Nat) (ty size : Int) (quiet : Bool) (vk vn : Int) (vs : Bs) (place : Int) (head : Bs) (fp oo : Option Addr) (on oc : Nat)
    (HC : ∀ x : World, Below w.heap.size w x → Calls Tryz.prog 146 #[frV wb co cn cc ao an ac, exV 4 ty size quiet vk vn vs place head fp oo on oc] x fun e w' => Noted q wb user m r x e w') :
    Calls Tryz.prog 82 #[frV wb co cn cc ao an ac, exV 4 ty size quiet vk vn vs place head fp oo on oc] w fun e w' => Noted q wb user m r w e w' := by
  have hb0 := below3 w (frB wb co cn cc ao an ac) (exB 4 ty size quiet vk vn vs place head fp oo on oc) (cellO 0 0 ⟨#[]⟩)
  have k2 := (box3 w (frB wb co cn cc ao an ac) (exB 4 ty size quiet vk vn vs place head fp oo on oc) (cellO 0 0 ⟨#[]⟩)).2.2
  have HC0 := HC _ hb0
  have hne2 : w.heap.size + 2 ≠ wb := by omega
  clear HC
  go_enter Tryz.func82, Tryz.ntmps82
  go_wp2_with (go_at_call 146; refine HC0.mono ?_; rintro e w2 ⟨rfl, hk2⟩; obtain ⟨⟨r0, r1, r2⟩, rf0, rf1, rf2⟩ := cells3 ((hk2.2.1 (w.heap.size + 2) (by simp only [World.size_alloc]; omega) hne2).trans k2); have l2 : w.heap.size + 2 < w2.heap.size := Nat.lt_of_lt_of_le (by simp only [World.size_alloc]; omega) hk2.size)
  refine bodyPost_ret (v := .tuple #[.agg #[.int .i64 r.1, .int .i64 r.2.1, .string (ofBs r.2.2)], .int .i64 0]) (by simp [results, Tryz.results82, go_sem, r0, r1, r2]) rfl ⟨rfl, ?_⟩
  exact (Kp.pre hb0 hwl hk2).set3 hwl (by omega) _ _ _

set_option maxHeartbeats 4000000 in
set_option maxRecDepth 100000 in
theorem value_calls (r : CellT) (w : World) (wb : Nat) (co : Option Addr) (cn cc : Nat) (ao : Option Addr) (an ac : Nat) (ty size : Int) (quiet : Bool) (vk vn : Int) (vs : Bs) (place : Int) (head : Bs) (fp oo : Option Addr) (on oc : Nat)
    (HC : ∀ x : World, Below w.heap.size w x → Calls Tryz.prog 147 #[frV wb co cn cc ao an ac, exV 5 ty size quiet vk vn vs place head fp oo on oc] x fun e w' => Vald x r e w') :
    Calls Tryz.prog 82 #[frV wb co cn cc ao an ac, exV 5 ty size quiet vk vn vs place head fp oo on oc] w fun e w' => Vald w r e w' := by
  have hb0 := below3 w (frB wb co cn cc ao an ac) (exB 5 ty size quiet vk vn vs place head fp oo on oc) (cellO 0 0 ⟨#[]⟩)
  have HC0 := HC _ hb0
  clear HC
  go_enter Tryz.func82, Tryz.ntmps82
  go_wp2_with (go_at_call 147; refine HC0.mono ?_; rintro e w2 ⟨rfl, hb2⟩; obtain ⟨B2, ⟨_, _, k2⟩, l0, l1, l2⟩ := bi_box hb2; obtain ⟨⟨r0, r1, r2⟩, rf0, rf1, rf2⟩ := cells3 k2)
  refine bodyPost_ret (v := .tuple #[.agg #[.int .i64 r.1, .int .i64 r.2.1, .string (ofBs r.2.2)], .int .i64 0]) (by simp [results, Tryz.results82, go_sem, r0, r1, r2]) rfl ⟨rfl, ?_⟩
  exact set3_below B2 (by omega) _ _ _

/-- The body of a function, as it lies in the function's block. -/
theorem FnAt.body {w : World} {FB : List Nat} {fb : Nat} {fn : Fn} (h : FnAt w FB fb fn) : fb < w.heap.size ∧ ∃ sort ty size quiet vk vn vs place head fp oo on oc, IsEx w FB (fun _ => True) [.int .i64 sort, .int .i64 ty, .int .i64 size, .bool quiet, .int .i64 vk, .int .i64 vn, .string (ofBs vs), .int .i64 place, .string (ofBs head), .pointer fp, .slice oo on oc] fn.body ∧
    ∀ x : World, x.heap[fb]? = w.heap[fb]? → At11 x fb 2 3 4 5 6 7 8 9 10 11 12 sort ty size quiet vk vn vs place head fp oo on oc := by
  obtain ⟨av, c, h1, _, _, hx⟩ := h
  obtain ⟨sort, ty, size, quiet, vk, vn, vs, place, head, fi, ops, fp, oo, on, oc, cs, he, rfl, -, -, -, -, -⟩ := hx.inv
  refine ⟨block_lt h1, sort, ty, size, quiet, vk, vn, vs, place, head, fp, oo, on, oc, hx, fun x hxx => ?_⟩
  have hb := hxx.trans h1
  exact ⟨(blk_at hb).trans rfl, (blk_at hb).trans rfl, (blk_at hb).trans rfl, (blk_at hb).trans rfl, (blk_at hb).trans rfl, (blk_at hb).trans rfl, (blk_at hb).trans rfl, (blk_at hb).trans rfl, (blk_at hb).trans rfl, (blk_at hb).trans rfl, (blk_at hb).trans rfl⟩

set_option maxHeartbeats 4000000 in
set_option maxRecDepth 100000 in
theorem workerCall_any (q : Bool) (m : Nat) (user : Bs) (r : CellT) (w : World) (wb : Nat) (hwl : wb < w.heap.size) (FB : List Nat) (fb : Nat) (fn : Fn) (hf : FnAt w FB fb fn) (ao : Option Addr) (an ac : Nat)
    (HC : ∀ (x : World) (c : Array Value), Below w.heap.size w x → IsEx x FB (fun _ => True) c.toList fn.body → Calls Tryz.prog 82 #[frV wb none 0 0 ao an ac, .agg c] x fun e w' => Noted q wb user m r x e w') :
    Calls Tryz.prog 49 #[.pointer (some ⟨wb, 0, none⟩), .pointer (some ⟨fb, 0, none⟩), .slice ao an ac] w fun e w' => Noted q wb user m r w e w' := by
  obtain ⟨hfl, sort, ty, size, quiet, vk, vn, vs, place, head, fp, oo, on, oc, hx, hat⟩ := hf.body
  have hb0 := below_box w (cellO 0 0 ⟨#[]⟩)
  have k0 := heap_alloc_new w (cellO 0 0 ⟨#[]⟩)
  have HC0 := HC _ #[.int .i64 sort, .int .i64 ty, .int .i64 size, .bool quiet, .int .i64 vk, .int .i64 vn, .string (ofBs vs), .int .i64 place, .string (ofBs head), .pointer fp, .slice oo on oc] hb0 (hx.keep hb0)
  obtain ⟨y0, y1, y2, y3, y4, y5, y6, y7, y8, y9, y10⟩ := hat _ (hb0.block fb hfl)
  have hne : w.heap.size ≠ wb := by omega
  clear HC hx hat hf
  go_enter Tryz.func49, Tryz.ntmps49
  go_wp2_with (go_at_call 82; refine HC0.mono ?_; rintro e w2 ⟨rfl, hk2⟩; obtain ⟨⟨r0, r1, r2⟩, rf0, rf1, rf2⟩ := cells3 ((hk2.2.1 w.heap.size (by simp only [World.size_alloc]; omega) hne).trans k0); have l2 : w.heap.size < w2.heap.size := Nat.lt_of_lt_of_le (by simp only [World.size_alloc]; omega) hk2.size)
  refine bodyPost_ret (v := .tuple #[.agg #[.int .i64 r.1, .int .i64 r.2.1, .string (ofBs r.2.2)], .int .i64 0]) (by simp [results, Tryz.results49, go_sem, r0, r1, r2]) rfl ⟨rfl, ?_⟩
  exact (Kp.pre hb0 hwl hk2).set3 hwl (Nat.le_refl _) _ _ _
end Go.Proofs.YtilfjpmeededmaaGreatDoor

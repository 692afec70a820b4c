/- The maker of expressions (package curtainkeep): its numbers. -/
import Derived.Test.YtilfjpmeededmaaTidy
import Derived.Deep.QuietTactic
import Derived.BigQuiet
namespace Go.Proofs.Ytilfjpmeededmaa
open Go.RowKit

structure Cfg where
  loud : Bool
  call : Bs
  nums : List Bs
  texts : List Bs
  bools : List Bs

/-- A slice of numbers in another block than mb (it may be nil). -/
def IntsAt (w : World) (mb : Nat) (v : Value) : Prop :=
  (∃ ao cap, v = .slice ao 0 cap) ∨
  (∃ b off n cap, v = .slice (some ⟨b, off, none⟩) n cap ∧ 0 < n ∧ n ≤ 9223372036854775807 ∧ b ≠ mb ∧ b < w.heap.size ∧ ∀ i, i < n → ∃ z : Int, w.cell? ⟨b, off + i, none⟩ = some (.int .i64 z) ∧ -9223372036854775808 ≤ z ∧ z ≤ 9223372036854775807)
/-- A slice of texts in another block than mb. -/
def StrsAt (w : World) (mb : Nat) (v : Value) (l : List Bs) : Prop :=
  (l = [] ∧ ∃ ao cap, v = .slice ao 0 cap) ∨
  (∃ b off cap, v = .slice (some ⟨b, off, none⟩) l.length cap ∧ 0 < l.length ∧ l.length ≤ 1000 ∧ b ≠ mb ∧ b < w.heap.size ∧ ∀ i (h : i < l.length), w.cell? ⟨b, off + i, none⟩ = some (.string (ofBs l[i])))
def MakerIs (w : World) (mb : Nat) (c : Cfg) (a l : Int) : Prop :=
  ∃ rv nv tv bv, w.heap[mb]? = some (.cells #[rv, .int .i64 a, .int .i64 l, .bool c.loud, .string (ofBs c.call), nv, tv, bv] 26 (0, 0)) ∧
    IntsAt w mb rv ∧ StrsAt w mb nv c.nums ∧ StrsAt w mb tv c.texts ∧ StrsAt w mb bv c.bools

theorem IntsAt.keep {w x : World} {mb : Nat} {v : Value} (h : IntsAt w mb v) (hs : w.heap.size ≤ x.heap.size) (hk : ∀ k, k < w.heap.size → k ≠ mb → x.heap[k]? = w.heap[k]?) : IntsAt x mb v := by
  rcases h with h | ⟨b, off, n, cap, hv, h0, hn, hb, hlt, hc⟩
  · exact .inl h
  · refine .inr ⟨b, off, n, cap, hv, h0, hn, hb, by omega, fun i hi => ?_⟩
    rw [World.cell?_of_block (w := w) (hk b hlt hb)]; exact hc i hi
theorem StrsAt.keep {w x : World} {mb : Nat} {v : Value} {l : List Bs} (h : StrsAt w mb v l) (hs : w.heap.size ≤ x.heap.size) (hk : ∀ k, k < w.heap.size → k ≠ mb → x.heap[k]? = w.heap[k]?) : StrsAt x mb v l := by
  rcases h with h | ⟨b, off, cap, hv, h0, hn, hb, hlt, hc⟩
  · exact .inl h
  · refine .inr ⟨b, off, cap, hv, h0, hn, hb, by omega, fun i hi => ?_⟩
    rw [World.cell?_of_block (w := w) (hk b hlt hb)]; exact hc i hi
theorem MakerIs.lt {w : World} {mb : Nat} {c : Cfg} {a l : Int} (h : MakerIs w mb c a l) : mb < w.heap.size := by
  obtain ⟨_, _, _, _, hb, _⟩ := h; exact block_lt hb
theorem MakerIs.keep {w x : World} {mb : Nat} {c : Cfg} {a l : Int} (h : MakerIs w mb c a l) (hb : Below w.heap.size w x) : MakerIs x mb c a l := by
  have hlt := h.lt
  obtain ⟨rv, nv, tv, bv, hk, h1, h2, h3, h4⟩ := h
  have hh : ∀ k, k < w.heap.size → k ≠ mb → x.heap[k]? = w.heap[k]? := fun k hk _ => hb.block k hk
  exact ⟨rv, nv, tv, bv, by rw [hb.block mb hlt]; exact hk, h1.keep hb.size hh, h2.keep hb.size hh, h3.keep hb.size hh, h4.keep hb.size hh⟩
theorem MakerIs.alloc {w : World} {mb : Nat} {c : Cfg} {a l : Int} (h : MakerIs w mb c a l) (o : Obj) : MakerIs (w.alloc o) mb c a l :=
  h.keep ((Below.refl _ _).alloc (Nat.le_refl _) _)
theorem MakerIs.drew {w : World} {mb : Nat} {c : Cfg} {a l : Int} (h : MakerIs w mb c a l) : MakerIs w.drew mb c a l :=
  h.keep (Below.drew (Below.refl _ _))
theorem MakerIs.setAt {w : World} {mb : Nat} {c : Cfg} {a l : Int} (h : MakerIs w mb c a l) (a' : Int) : MakerIs (w.setCell ⟨mb, 1, none⟩ (.int .i64 a')) mb c a' l := by
  have hlt := h.lt
  obtain ⟨rv, nv, tv, bv, hk, h1, h2, h3, h4⟩ := h
  have hh : ∀ k, k < w.heap.size → k ≠ mb → (w.setCell ⟨mb, 1, none⟩ (.int .i64 a')).heap[k]? = w.heap[k]? := fun k _ hne => Below.heap_setCell _ _ _ _ hne
  have hs : w.heap.size ≤ (w.setCell ⟨mb, 1, none⟩ (.int .i64 a')).heap.size := by simp [World.setCell]
  exact ⟨rv, nv, tv, bv, by simp [World.setCell, Array.getElem?_modify, hk], h1.keep hs hh, h2.keep hs hh, h3.keep hs hh, h4.keep hs hh⟩
theorem MakerIs.setLeft {w : World} {mb : Nat} {c : Cfg} {a l : Int} (h : MakerIs w mb c a l) (l' : Int) : MakerIs (w.setCell ⟨mb, 2, none⟩ (.int .i64 l')) mb c a l' := by
  have hlt := h.lt
  obtain ⟨rv, nv, tv, bv, hk, h1, h2, h3, h4⟩ := h
  have hh : ∀ k, k < w.heap.size → k ≠ mb → (w.setCell ⟨mb, 2, none⟩ (.int .i64 l')).heap[k]? = w.heap[k]? := fun k _ hne => Below.heap_setCell _ _ _ _ hne
  have hs : w.heap.size ≤ (w.setCell ⟨mb, 2, none⟩ (.int .i64 l')).heap.size := by simp [World.setCell]
  exact ⟨rv, nv, tv, bv, by simp [World.setCell, Array.getElem?_modify, hk], h1.keep hs hh, h2.keep hs hh, h3.keep hs hh, h4.keep hs hh⟩

def pickR (c n : Int) : Int := if c < 0 then -((c + 1).tmod n) else c % n
theorem pickR_bd (c n : Int) (hn : 0 < n) : 0 ≤ pickR c n ∧ pickR c n < n := by
  unfold pickR
  by_cases h0 : c < 0
  · have m1 := Int.emod_nonneg (-(c + 1)) (Int.ne_of_gt hn)
    have m2 := Int.emod_lt_of_pos (-(c + 1)) hn
    rw [← Int.tmod_eq_emod_of_nonneg (by omega), Int.neg_tmod] at m1 m2
    rw [if_pos h0]; exact ⟨m1, m2⟩
  · rw [if_neg h0]; exact ⟨Int.emod_nonneg c (Int.ne_of_gt hn), Int.emod_lt_of_pos c hn⟩

set_option maxHeartbeats 400000 in
set_option maxRecDepth 100000 in
theorem pick_any (c n : Int) (w : World) (hn : 0 < n) (hn2 : n ≤ 1000000000000) (h1 : -9223372036854775808 ≤ c) (h2 : c ≤ 9223372036854775807) :
    Calls Try.prog 13 #[.int .i64 c, .int .i64 n] w fun e w' => e = .returned (.int .i64 (pickR c n)) ∧ w' = w := by
  by_cases h0 : c < 0
  · have HP : Hid (pickR c n = -((c + 1).tmod n)) := by rw [Hid, pickR, if_pos h0]
    have m1 := Int.emod_nonneg (-(c + 1)) (Int.ne_of_gt hn)
    have m2 := Int.emod_lt_of_pos (-(c + 1)) hn
    rw [← Int.tmod_eq_emod_of_nonneg (by omega), Int.neg_tmod] at m1 m2
    go_enter Try.func13, Try.ntmps13
    go_wp2
    go_ret
    exact ⟨ret_int HP.out.symm, rfl⟩
  · have HP : Hid (pickR c n = c % n) := by rw [Hid, pickR, if_neg h0]
    have m1 := Int.emod_nonneg c (Int.ne_of_gt hn)
    have m2 := Int.emod_lt_of_pos c hn
    go_enter Try.func13, Try.ntmps13
    go_wp2
    go_ret
    exact ⟨ret_int HP.out.symm, rfl⟩

theorem cells8 {x : World} {b : Nat} {a0 a1 a2 a3 a4 a5 a6 a7 : Value} {T : TypeId} (h : x.heap[b]? = some (.cells #[a0, a1, a2, a3, a4, a5, a6, a7] T (0, 0))) :
    (x.cell? ⟨b, 0, none⟩ = some a0 ∧ x.cell? ⟨b, 1, none⟩ = some a1 ∧ x.cell? ⟨b, 2, none⟩ = some a2 ∧ x.cell? ⟨b, 3, none⟩ = some a3 ∧ x.cell? ⟨b, 4, none⟩ = some a4 ∧ x.cell? ⟨b, 5, none⟩ = some a5 ∧ x.cell? ⟨b, 6, none⟩ = some a6 ∧ x.cell? ⟨b, 7, none⟩ = some a7) ∧
    (x.frozen? ⟨b, 1, none⟩ = false ∧ x.frozen? ⟨b, 2, none⟩ = false) := by
  simp [World.cell?, World.frozen?, h]

/-- What a call that takes a number of the maker's leaves. -/
def Numbered (w : World) (mb : Nat) (c : Cfg) (a l : Int) (n : Int) (e : Ending) (w' : World) : Prop :=
  ∃ r a' : Int, e = .returned (.int .i64 r) ∧ 0 ≤ r ∧ r < n ∧ a ≤ a' ∧ a' ≤ a + 1 ∧ w.grownBy w' (some mb) ∧ MakerIs w' mb c a' l

set_option maxHeartbeats 1600000 in
set_option maxRecDepth 100000 in
theorem number_any (n : Int) (w : World) (mb : Nat) (c : Cfg) (a l : Int) (hn : 0 < n) (hn2 : n ≤ 1000000) (ha : 0 ≤ a) (ha2 : a ≤ 1000000) (h : MakerIs w mb c a l) :
    Calls Try.prog 5 #[.pointer (some ⟨mb, 0, none⟩), .int .i64 n] w fun e w' => Numbered w mb c a l n e w' := by
  have hM := h
  have hlt := h.lt
  obtain ⟨rv, nv, tv, bv, hk, h1, h2, h3, h4⟩ := h
  obtain ⟨⟨y0, y1, y2, y3, y4, y5, y6, y7⟩, f1, f2⟩ := cells8 hk
  rcases h1 with ⟨ao, cap, rfl⟩ | ⟨b, off, m, cap, rfl, hm0, hm, hb, hbl, hc⟩
  · clear h2 h3 h4 hk
    go_enter Try.func5, Try.ntmps5
    go_wp2_with fail
    go_ret
    exact ⟨0, a, rfl, Int.le_refl _, hn, Int.le_refl _, by omega, grown_refl _ _, hM⟩
  · have hq0 : 0 ≤ a % (m : Int) := Int.emod_nonneg _ (by omega)
    have hq1 : a % (m : Int) < m := Int.emod_lt_of_pos _ (by omega)
    obtain ⟨z, hz, hz1, hz2⟩ := hc (a % (m : Int)).toNat (by omega)
    have hp := pickR_bd z n hn
    clear h2 h3 h4 hk hc
    go_enter Try.func5, Try.ntmps5
    go_wp2_with fail
    go_quiet ((go_at_call 13; exact Calls.quiet_of_same (pick_any _ _ _ hn (by omega) hz1 hz2)))
    go_wp2
    go_ret
    refine ⟨_, a + 1, rfl, hp.1, hp.2, by omega, Int.le_refl _, ?_, ?_⟩
    · exact ⟨rfl, rfl, rfl, by simp [World.setCell], fun k _ hk => Below.heap_setCell _ _ _ _ (fun e => hk (by simp [e]))⟩
    · exact (hM.setAt (a + 1)).keep ⟨rfl, rfl, rfl, Nat.le_refl _, fun _ _ => rfl⟩
end Go.Proofs.Ytilfjpmeededmaa

/- Texts that hold given tokens, with blanks about them: how they are taken apart, and read. -/
/- The maker of expressions (package curtainkeep): its numbers. -/
import Derived.Test.YtilfjpmeededmaaGreatDoorTidyZ
import Derived.Deep.QuietTactic
import Derived.BigQuiet
namespace Go.Proofs.YtilfjpmeededmaaGreatDoor

mutual
def dep : Tr → Nat
  | .mk _ _ br ops => if br then 1 + depL ops else 0
def depL : List Tr → Nat
  | [] => 0
  | t :: ts => max (dep t) (depL ts)
end
def blanksB (l : Bs) : Bool := l.all fun c => blankB c.toNat
def sepB (c : UInt8) : Bool := blankB c.toNat || bracketB c.toNat
def endOK (r : Bs) : Prop := r = [] ∨ sepB (r.headD 0) = true
/-- A token that is no bracket, as far as where it ends is concerned. -/
def Good (tx : Bs) : Prop := (tx ≠ [] ∧ tx.all (fun c => !sepB c && c != 39) = true) ∨ (∃ inner : Bs, tx = 39 :: (inner ++ [39]) ∧ inner.all (fun c => c != 39) = true)

inductive Deco : List Tk → Bs → Prop
  | nil {b : Bs} : blanksB b = true → Deco [] b
  | tok {b tx r : Bs} {k : Int} {ts : List Tk} : blanksB b = true → kindS tx = k → k ≠ 0 → Good tx → Deco ts r → endOK r → Deco ((k, tx) :: ts) (b ++ (tx ++ r))
  | br {b r : Bs} {c : UInt8} {ts : List Tk} : blanksB b = true → bracketB c.toNat = true → Deco ts r → Deco ((kindS [c], [c]) :: ts) (b ++ (c :: r))

theorem blanksB_cons (c : UInt8) (l : Bs) : blanksB (c :: l) = (blankB c.toNat && blanksB l) := rfl
theorem deco_blanks {b r : Bs} {ts : List Tk} (hb : blanksB b = true) (h : Deco ts r) : Deco ts (b ++ r) := by
  have app : ∀ {x y : Bs}, blanksB x = true → blanksB y = true → blanksB (x ++ y) = true := by
    intro x y hx hy; unfold blanksB at *; rw [List.all_append, hx, hy]; rfl
  cases h with
  | nil h => exact .nil (app hb h)
  | tok h1 h2 h3 h4 h5 h6 => rw [← List.append_assoc]; exact .tok (app hb h1) h2 h3 h4 h5 h6
  | br h1 h2 h3 => rw [← List.append_assoc]; exact .br (app hb h1) h2 h3

theorem scan_blanks (b l : Bs) (h : blanksB b = true) : scanS (b ++ l) = scanS l := by
  induction b with
  | nil => rfl
  | cons c r ih =>
    rw [blanksB_cons, Bool.and_eq_true] at h
    rw [scanS_eq _ (by simp)]
    simp only [List.cons_append, List.headD_cons, h.1, if_true, List.drop_succ_cons, List.drop_zero]
    exact ih h.2
theorem scan_one (tx r : Bs) (h0 : 0 < tx.length) (hb : blankB (tx.headD 0).toNat = false) (hp : plen (tx ++ r) = tx.length) : scanS (tx ++ r) = if kindS tx = 0 then none else (scanS r).map ((kindS tx, tx) :: ·) := by
  have hh : (tx ++ r).headD 0 = tx.headD 0 := by cases tx with | nil => simp at h0 | cons _ _ => rfl
  rw [scanS_eq _ (by simp; omega), hh, hb, if_neg Bool.false_ne_true, hp, List.take_left, List.drop_left]

theorem sep_notSep (c : UInt8) : notSep c = !sepB c := by simp [notSep, sepB]
theorem tw_end2 (r : Bs) (h : endOK r) : r.takeWhile notSep = [] := by
  rcases h with rfl | h
  · rfl
  · cases r with
    | nil => rfl
    | cons c r =>
      have : notSep c = false := by rw [sep_notSep]; simp only [List.headD_cons] at h; rw [h]; rfl
      rw [List.takeWhile_cons, this]; rfl
theorem tw_all (tx r : Bs) (h : tx.all notSep = true) (he : endOK r) : (tx ++ r).takeWhile notSep = tx := by
  induction tx with
  | nil => exact tw_end2 r he
  | cons c t ih =>
    rw [List.all_cons, Bool.and_eq_true] at h
    rw [List.cons_append, List.takeWhile_cons, h.1, if_pos rfl, ih h.2]
theorem tw39 (inner r : Bs) (h : inner.all (fun c => c != 39) = true) : (inner ++ 39 :: r).takeWhile (· != 39) = inner := by
  induction inner with
  | nil => rfl
  | cons c t ih =>
    rw [List.all_cons, Bool.and_eq_true] at h
    rw [List.cons_append, List.takeWhile_cons, h.1, if_pos rfl, ih h.2]
theorem good_pos {tx : Bs} (h : Good tx) : 0 < tx.length := by
  rcases h with ⟨h, _⟩ | ⟨i, rfl, _⟩
  · exact List.length_pos_iff.mpr h
  · simp
theorem good_head {tx : Bs} (h : Good tx) : sepB (tx.headD 0) = false := by
  rcases h with ⟨h, h2⟩ | ⟨i, rfl, _⟩
  · cases tx with
    | nil => exact absurd rfl h
    | cons c t => rw [List.all_cons, Bool.and_eq_true] at h2; have := h2.1; simp at this; simpa using this.1
  · rfl
theorem sep_split {c : UInt8} (h : sepB c = false) : blankB c.toNat = false ∧ bracketB c.toNat = false := by
  unfold sepB at h; simpa using h
theorem good_plen {tx r : Bs} (h : Good tx) (he : endOK r) : plen (tx ++ r) = tx.length := by
  have hh := good_head h
  have hl := good_pos h
  have hhd : (tx ++ r).headD 0 = tx.headD 0 := by cases tx with | nil => simp at hl | cons _ _ => rfl
  unfold plen
  rw [hhd, (sep_split hh).2, if_neg Bool.false_ne_true]
  rcases h with ⟨h, h2⟩ | ⟨i, rfl, h2⟩
  · have hq : qlen (tx ++ r) = 0 := by
      unfold qlen
      rw [hhd]
      cases tx with
      | nil => exact absurd rfl h
      | cons c t =>
        rw [List.all_cons, Bool.and_eq_true] at h2
        have := h2.1; simp at this
        rw [List.headD_cons, if_neg]; simpa using this.2
    have ha : tx.all notSep = true := by
      rw [List.all_eq_true] at h2 ⊢
      intro c hc; have := h2 c hc; simp at this; rw [sep_notSep, this.1]; rfl
    rw [hq, List.drop_zero, tw_all tx r ha he, Nat.zero_add]
  · have e : ((39 :: (i ++ [39])) ++ r).drop 1 = i ++ 39 :: r := by simp
    have hq : qlen ((39 :: (i ++ [39])) ++ r) = i.length + 2 := by
      unfold qlen
      rw [e, tw39 i r h2, if_pos (by rfl), if_pos]
      rw [List.contains_iff_mem]; simp
    rw [hq]
    have d : ((39 :: (i ++ [39])) ++ r).drop (i.length + 2) = r := by
      have : (39 :: (i ++ [39])).length = i.length + 2 := by simp
      rw [← this, List.drop_left]
    rw [d, tw_end2 r he]; simp
theorem scan_deco {ts : List Tk} {d : Bs} (h : Deco ts d) : scanS d = some ts := by
  induction h with
  | nil h => have := scan_blanks _ [] h; rw [List.append_nil] at this; rw [this]; exact scanS_nil [] rfl
  | @tok b tx r k ts h1 h2 h3 h4 h5 h6 ih =>
    rw [scan_blanks _ _ h1, scan_one tx r (good_pos h4) (sep_split (good_head h4)).1 (good_plen h4 h6), h2, if_neg h3, ih]; rfl
  | @br b r c ts h1 h2 h3 ih =>
    have hc : c = 40 ∨ c = 41 := by
      unfold bracketB at h2; simp at h2
      rcases h2 with h | h
      · exact .inl (UInt8.toNat_inj.mp (by simp; omega))
      · exact .inr (UInt8.toNat_inj.mp (by simp; omega))
    have hbl : blankB (([c] : Bs).headD 0).toNat = false := by rcases hc with rfl | rfl <;> decide
    have hk : ¬ kindS [c] = 0 := by rcases hc with rfl | rfl <;> decide
    have hp : plen ([c] ++ r) = ([c] : Bs).length := by unfold plen; rw [if_pos]; rfl; exact h2
    have := scan_one [c] r (by simp) hbl hp
    rw [scan_blanks _ _ h1]
    rw [if_neg hk, ih] at this
    exact this

mutual
def toks : Tr → List Tk
  | .mk k tx br ops => if br then (1, [40]) :: (k, tx) :: (toksL ops ++ [(2, [41])]) else [(k, tx)]
def toksL : List Tr → List Tk
  | [] => []
  | t :: ts => toks t ++ toksL ts
end
mutual
inductive Wf : Tr → Prop
  | leaf {k : Int} {tx : Bs} : kindS tx = k → k ≠ 0 → ¬ k = 1 → ¬ k = 2 → Good tx → aloneS k tx = true → Wf (.mk k tx false [])
  | node {k : Int} {tx : Bs} {ops : List Tr} : kindS tx = k → k ≠ 0 → Good tx → headS k tx = true → WfL ops → Wf (.mk k tx true ops)
inductive WfL : List Tr → Prop
  | nil : WfL []
  | cons {t : Tr} {ts : List Tr} : Wf t → WfL ts → WfL (t :: ts)
end
def isLeaf : Tr → Bool
  | .mk _ _ br _ => !br

theorem end_br (c : UInt8) (h : bracketB c.toNat = true) (r : Bs) : endOK (c :: r) := .inr (by simp [sepB, h])
theorem end_bl (r : Bs) : endOK (32 :: r) := .inr rfl

mutual
theorem deco_tree : ∀ {x : Tr} {ts : List Tk} {r : Bs}, Wf x → Deco ts r → (isLeaf x = true → endOK r) → Deco (toks x ++ ts) (render x ++ r)
  | _, ts, r, .leaf h1 h2 _ _ h3 _, hd, he => by
    rw [toks, render]
    exact .tok (b := []) rfl h1 h2 h3 hd (he rfl)
  | _, ts, r, @Wf.node k tx ops h1 h2 h3 _ h5, hd, _ => by
    rw [toks, render, if_pos rfl, if_pos rfl]
    have hc : Deco ((2, [41]) :: ts) (41 :: r) := .br (b := []) (c := 41) rfl rfl hd
    obtain ⟨D, E⟩ := deco_trees h5 hc (end_br 41 rfl r)
    have D2 : Deco ((k, tx) :: (toksL ops ++ (2, [41]) :: ts)) (tx ++ (renders ops ++ 41 :: r)) := .tok (b := []) rfl h1 h2 h3 D E
    have D3 : Deco ((1, [40]) :: (k, tx) :: (toksL ops ++ (2, [41]) :: ts)) (40 :: (tx ++ (renders ops ++ 41 :: r))) := .br (b := []) (c := 40) rfl rfl D2
    simpa using D3
theorem deco_trees : ∀ {xs : List Tr} {ts : List Tk} {r : Bs}, WfL xs → Deco ts r → endOK r → Deco (toksL xs ++ ts) (renders xs ++ r) ∧ endOK (renders xs ++ r)
  | _, ts, r, .nil, hd, he => by rw [toksL, renders]; exact ⟨hd, he⟩
  | _, ts, r, .cons h1 h2, hd, he => by
    obtain ⟨D, E⟩ := deco_trees h2 hd he
    have D2 := deco_tree h1 D (fun _ => E)
    rw [toksL, renders]
    refine ⟨?_, end_bl _⟩
    have := deco_blanks (b := [32]) rfl D2
    simpa using this
end

theorem first_kind {x : Tr} (h : Wf x) : ∃ t r, toks x = t :: r ∧ ¬ t.1 = 2 := by
  cases h with
  | leaf h1 h2 h3 h4 h5 h6 => exact ⟨_, [], by rw [toks]; rfl, h4⟩
  | node h1 h2 h3 h4 h5 => exact ⟨(1, [40]), _, by rw [toks]; rfl, by decide⟩
mutual
theorem parse_tree : ∀ {x : Tr} {f deep : Nat} {r : List Tk}, Wf x → deep + dep x ≤ 20 → 2 * (toks x).length ≤ f → treeF f deep (toks x ++ r) = some (x, r)
  | _, f, deep, r, .leaf h1 h2 h3 h4 h5 h6, _, hf => by
    rw [toks] at hf ⊢
    simp at hf
    obtain ⟨g, rfl⟩ : ∃ g, f = g + 1 := ⟨f - 1, by omega⟩
    simp only [Bool.false_eq_true, if_false, List.cons_append, List.nil_append]
    rw [treeF, if_neg h3, h6, if_pos rfl]
  | _, f, deep, r, @Wf.node k tx ops h1 h2 h3 h4 h5, hd, hf => by
    rw [dep, if_pos rfl] at hd
    rw [toks, if_pos rfl] at hf ⊢
    simp only [List.length_cons, List.length_append, List.length_nil] at hf
    obtain ⟨g, rfl⟩ : ∃ g, f = g + 2 := ⟨f - 2, by omega⟩
    have := parse_trees (r := r) (f := g) (deep := deep + 1) h5 (by omega) (by omega)
    simp only [List.cons_append, List.append_assoc, List.nil_append]
    rw [treeF, if_pos rfl, brF, if_neg (by omega), h4, if_pos rfl, this]; rfl
theorem parse_trees : ∀ {xs : List Tr} {f deep : Nat} {r : List Tk}, WfL xs → deep + depL xs ≤ 20 → 2 * (toksL xs).length + 1 ≤ f → opsF f deep (toksL xs ++ (2, [41]) :: r) = some (xs, r)
  | _, f, deep, r, .nil, _, hf => by
    obtain ⟨g, rfl⟩ : ∃ g, f = g + 1 := ⟨f - 1, by omega⟩
    rw [toksL, List.nil_append, opsF, if_pos rfl]
  | _, f, deep, r, @WfL.cons t ts h1 h2, hd, hf => by
    rw [depL] at hd
    rw [toksL, List.length_append] at hf
    obtain ⟨a, b, he, hk⟩ := first_kind h1
    obtain ⟨g, rfl⟩ : ∃ g, f = g + 1 := ⟨f - 1, by omega⟩
    have hl : 1 ≤ (toks t).length := by rw [he]; simp
    have i1 := parse_tree (f := g) (deep := deep) (r := toksL ts ++ (2, [41]) :: r) h1 (by omega) (by omega)
    have i2 := parse_trees (f := g) (deep := deep) (r := r) h2 (by omega) (by omega)
    rw [toksL, List.append_assoc]
    rw [he, List.cons_append] at i1
    rw [he, List.cons_append, opsF, if_neg hk, i1]
    simp only
    rw [i2]; rfl
end
end Go.Proofs.YtilfjpmeededmaaGreatDoor

namespace Go.Proofs.YtilfjpmeededmaaGreatDoor
open Go.RowKit

structure Cfg where
  loud : Bool
  call : Bs
  nums : List Bs
  texts : List Bs
  bools : List Bs

/-- A slice of numbers in another block than mb (it may be nil). -/
def IntsAt (w : World) (mb : Nat) (v : Value) : Prop :=
  (∃ ao cap, v = .slice ao 0 cap) ∨
  (∃ b off n cap, v = .slice (some ⟨b, off, none⟩) n cap ∧ 0 < n ∧ n ≤ 9223372036854775807 ∧ b ≠ mb ∧ b < w.heap.size ∧ ∀ i, i < n → ∃ z : Int, w.cell? ⟨b, off + i, none⟩ = some (.int .i64 z) ∧ -9223372036854775808 ≤ z ∧ z ≤ 9223372036854775807)
/-- A slice of texts in another block than mb. -/
def StrsAt (w : World) (mb : Nat) (v : Value) (l : List Bs) : Prop :=
  (l = [] ∧ ∃ ao cap, v = .slice ao 0 cap) ∨
  (∃ b off cap, v = .slice (some ⟨b, off, none⟩) l.length cap ∧ 0 < l.length ∧ l.length ≤ 1000 ∧ b ≠ mb ∧ b < w.heap.size ∧ ∀ i (h : i < l.length), w.cell? ⟨b, off + i, none⟩ = some (.string (ofBs l[i])))
def MakerIs (w : World) (mb : Nat) (c : Cfg) (a l : Int) : Prop :=
  ∃ rv nv tv bv, w.heap[mb]? = some (.cells #[rv, .int .i64 a, .int .i64 l, .bool c.loud, .string (ofBs c.call), nv, tv, bv] 36 (0, 0)) ∧
    IntsAt w mb rv ∧ StrsAt w mb nv c.nums ∧ StrsAt w mb tv c.texts ∧ StrsAt w mb bv c.bools

theorem IntsAt.keep {w x : World} {mb : Nat} {v : Value} (h : IntsAt w mb v) (hs : w.heap.size ≤ x.heap.size) (hk : ∀ k, k < w.heap.size → k ≠ mb → x.heap[k]? = w.heap[k]?) : IntsAt x mb v := by
  rcases h with h | ⟨b, off, n, cap, hv, h0, hn, hb, hlt, hc⟩
  · exact .inl h
  · refine .inr ⟨b, off, n, cap, hv, h0, hn, hb, by omega, fun i hi => ?_⟩
    rw [World.cell?_of_block (w := w) (hk b hlt hb)]; exact hc i hi
theorem StrsAt.keep {w x : World} {mb : Nat} {v : Value} {l : List Bs} (h : StrsAt w mb v l) (hs : w.heap.size ≤ x.heap.size) (hk : ∀ k, k < w.heap.size → k ≠ mb → x.heap[k]? = w.heap[k]?) : StrsAt x mb v l := by
  rcases h with h | ⟨b, off, cap, hv, h0, hn, hb, hlt, hc⟩
  · exact .inl h
  · refine .inr ⟨b, off, cap, hv, h0, hn, hb, by omega, fun i hi => ?_⟩
    rw [World.cell?_of_block (w := w) (hk b hlt hb)]; exact hc i hi
theorem MakerIs.lt {w : World} {mb : Nat} {c : Cfg} {a l : Int} (h : MakerIs w mb c a l) : mb < w.heap.size := by
  obtain ⟨_, _, _, _, hb, _⟩ := h; exact block_lt hb
theorem MakerIs.keep {w x : World} {mb : Nat} {c : Cfg} {a l : Int} (h : MakerIs w mb c a l) (hb : Below w.heap.size w x) : MakerIs x mb c a l := by
  have hlt := h.lt
  obtain ⟨rv, nv, tv, bv, hk, h1, h2, h3, h4⟩ := h
  have hh : ∀ k, k < w.heap.size → k ≠ mb → x.heap[k]? = w.heap[k]? := fun k hk _ => hb.block k hk
  exact ⟨rv, nv, tv, bv, by rw [hb.block mb hlt]; exact hk, h1.keep hb.size hh, h2.keep hb.size hh, h3.keep hb.size hh, h4.keep hb.size hh⟩
theorem MakerIs.alloc {w : World} {mb : Nat} {c : Cfg} {a l : Int} (h : MakerIs w mb c a l) (o : Obj) : MakerIs (w.alloc o) mb c a l :=
  h.keep ((Below.refl _ _).alloc (Nat.le_refl _) _)
theorem MakerIs.drew {w : World} {mb : Nat} {c : Cfg} {a l : Int} (h : MakerIs w mb c a l) : MakerIs w.drew mb c a l :=
  h.keep (Below.drew (Below.refl _ _))
theorem MakerIs.setAt {w : World} {mb : Nat} {c : Cfg} {a l : Int} (h : MakerIs w mb c a l) (a' : Int) : MakerIs (w.setCell ⟨mb, 1, none⟩ (.int .i64 a')) mb c a' l := by
  have hlt := h.lt
  obtain ⟨rv, nv, tv, bv, hk, h1, h2, h3, h4⟩ := h
  have hh : ∀ k, k < w.heap.size → k ≠ mb → (w.setCell ⟨mb, 1, none⟩ (.int .i64 a')).heap[k]? = w.heap[k]? := fun k _ hne => Below.heap_setCell _ _ _ _ hne
  have hs : w.heap.size ≤ (w.setCell ⟨mb, 1, none⟩ (.int .i64 a')).heap.size := by simp [World.setCell]
  exact ⟨rv, nv, tv, bv, by simp [World.setCell, Array.getElem?_modify, hk], h1.keep hs hh, h2.keep hs hh, h3.keep hs hh, h4.keep hs hh⟩
theorem MakerIs.setLeft {w : World} {mb : Nat} {c : Cfg} {a l : Int} (h : MakerIs w mb c a l) (l' : Int) : MakerIs (w.setCell ⟨mb, 2, none⟩ (.int .i64 l')) mb c a l' := by
  have hlt := h.lt
  obtain ⟨rv, nv, tv, bv, hk, h1, h2, h3, h4⟩ := h
  have hh : ∀ k, k < w.heap.size → k ≠ mb → (w.setCell ⟨mb, 2, none⟩ (.int .i64 l')).heap[k]? = w.heap[k]? := fun k _ hne => Below.heap_setCell _ _ _ _ hne
  have hs : w.heap.size ≤ (w.setCell ⟨mb, 2, none⟩ (.int .i64 l')).heap.size := by simp [World.setCell]
  exact ⟨rv, nv, tv, bv, by simp [World.setCell, Array.getElem?_modify, hk], h1.keep hs hh, h2.keep hs hh, h3.keep hs hh, h4.keep hs hh⟩

def pickR (c n : Int) : Int := if c < 0 then -((c + 1).tmod n) else c % n
theorem pickR_bd (c n : Int) (hn : 0 < n) : 0 ≤ pickR c n ∧ pickR c n < n := by
  unfold pickR
  by_cases h0 : c < 0
  · have m1 := Int.emod_nonneg (-(c + 1)) (Int.ne_of_gt hn)
    have m2 := Int.emod_lt_of_pos (-(c + 1)) hn
    rw [← Int.tmod_eq_emod_of_nonneg (by omega), Int.neg_tmod] at m1 m2
    rw [if_pos h0]; exact ⟨m1, m2⟩
  · rw [if_neg h0]; exact ⟨Int.emod_nonneg c (Int.ne_of_gt hn), Int.emod_lt_of_pos c hn⟩

set_option maxHeartbeats 400000 in
set_option maxRecDepth 100000 in
theorem pick_any (c n : Int) (w : World) (hn : 0 < n) (hn2 : n ≤ 1000000000000) (h1 : -9223372036854775808 ≤ c) (h2 : c ≤ 9223372036854775807) :
    Calls Tryz.prog 15 #[.int .i64 c, .int .i64 n] w fun e w' => e = .returned (.int .i64 (pickR c n)) ∧ w' = w := by
  by_cases h0 : c < 0
  · have HP : Hid (pickR c n = -((c + 1).tmod n)) := by rw [Hid, pickR, if_pos h0]
    have m1 := Int.emod_nonneg (-(c + 1)) (Int.ne_of_gt hn)
    have m2 := Int.emod_lt_of_pos (-(c + 1)) hn
    rw [← Int.tmod_eq_emod_of_nonneg (by omega), Int.neg_tmod] at m1 m2
    go_enter Tryz.func15, Tryz.ntmps15
    go_wp2
    go_ret
    exact ⟨ret_int HP.out.symm, rfl⟩
  · have HP : Hid (pickR c n = c % n) := by rw [Hid, pickR, if_neg h0]
    have m1 := Int.emod_nonneg c (Int.ne_of_gt hn)
    have m2 := Int.emod_lt_of_pos c hn
    go_enter Tryz.func15, Tryz.ntmps15
    go_wp2
    go_ret
    exact ⟨ret_int HP.out.symm, rfl⟩

theorem cells8 {x : World} {b : Nat} {a0 a1 a2 a3 a4 a5 a6 a7 : Value} {T : TypeId} (h : x.heap[b]? = some (.cells #[a0, a1, a2, a3, a4, a5, a6, a7] T (0, 0))) :
    (x.cell? ⟨b, 0, none⟩ = some a0 ∧ x.cell? ⟨b, 1, none⟩ = some a1 ∧ x.cell? ⟨b, 2, none⟩ = some a2 ∧ x.cell? ⟨b, 3, none⟩ = some a3 ∧ x.cell? ⟨b, 4, none⟩ = some a4 ∧ x.cell? ⟨b, 5, none⟩ = some a5 ∧ x.cell? ⟨b, 6, none⟩ = some a6 ∧ x.cell? ⟨b, 7, none⟩ = some a7) ∧
    (x.frozen? ⟨b, 1, none⟩ = false ∧ x.frozen? ⟨b, 2, none⟩ = false) := by
  simp [World.cell?, World.frozen?, h]

/-- What a call that takes a number of the maker's leaves. -/
def Numbered (w : World) (mb : Nat) (c : Cfg) (a l : Int) (n : Int) (e : Ending) (w' : World) : Prop :=
  ∃ r a' : Int, e = .returned (.int .i64 r) ∧ 0 ≤ r ∧ r < n ∧ a ≤ a' ∧ a' ≤ a + 1 ∧ w.grownBy w' (some mb) ∧ MakerIs w' mb c a' l

set_option maxHeartbeats 1600000 in
set_option maxRecDepth 100000 in
theorem number_any (n : Int) (w : World) (mb : Nat) (c : Cfg) (a l : Int) (hn : 0 < n) (hn2 : n ≤ 1000000) (ha : 0 ≤ a) (ha2 : a ≤ 1000000) (h : MakerIs w mb c a l) :
    Calls Tryz.prog 38 #[.pointer (some ⟨mb, 0, none⟩), .int .i64 n] w fun e w' => Numbered w mb c a l n e w' := by
  have hM := h
  have hlt := h.lt
  obtain ⟨rv, nv, tv, bv, hk, h1, h2, h3, h4⟩ := h
  obtain ⟨⟨y0, y1, y2, y3, y4, y5, y6, y7⟩, f1, f2⟩ := cells8 hk
  rcases h1 with ⟨ao, cap, rfl⟩ | ⟨b, off, m, cap, rfl, hm0, hm, hb, hbl, hc⟩
  · clear h2 h3 h4 hk
    go_enter Tryz.func38, Tryz.ntmps38
    go_wp2_with fail
    go_ret
    exact ⟨0, a, rfl, Int.le_refl _, hn, Int.le_refl _, by omega, grown_refl _ _, hM⟩
  · have hq0 : 0 ≤ a % (m : Int) := Int.emod_nonneg _ (by omega)
    have hq1 : a % (m : Int) < m := Int.emod_lt_of_pos _ (by omega)
    obtain ⟨z, hz, hz1, hz2⟩ := hc (a % (m : Int)).toNat (by omega)
    have hp := pickR_bd z n hn
    clear h2 h3 h4 hk hc
    go_enter Tryz.func38, Tryz.ntmps38
    go_wp2_with fail
    go_quiet ((go_at_call 15; exact Calls.quiet_of_same (pick_any _ _ _ hn (by omega) hz1 hz2)))
    go_wp2
    go_ret
    refine ⟨_, a + 1, rfl, hp.1, hp.2, by omega, Int.le_refl _, ?_, ?_⟩
    · exact ⟨rfl, rfl, rfl, by simp [World.setCell], fun k _ hk => Below.heap_setCell _ _ _ _ (fun e => hk (by simp [e]))⟩
    · exact (hM.setAt (a + 1)).keep ⟨rfl, rfl, rfl, Nat.le_refl _, fun _ _ => rfl⟩
end Go.Proofs.YtilfjpmeededmaaGreatDoor

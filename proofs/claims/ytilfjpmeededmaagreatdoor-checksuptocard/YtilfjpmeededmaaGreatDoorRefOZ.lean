import Derived.Test.YtilfjpmeededmaaGreatDoorRefRZ
import Derived.Deep.AppendLies
set_option linter.unusedVariables false
set_option linter.unusedSimpArgs false
namespace Go.Proofs.YtilfjpmeededmaaGreatDoor
theorem kind_nb {l : Bs} (hl : bracketB (l.headD 0).toNat = false) : ¬ kindS l = 1 ∧ ¬ kindS l = 2 := by
  have hb : (l == [40]) = false ∧ (l == [41]) = false := by
    constructor
    · rw [Bool.eq_false_iff]; intro h; rw [beq_iff_eq] at h; subst h; cases hl
    · rw [Bool.eq_false_iff]; intro h; rw [beq_iff_eq] at h; subst h; cases hl
  unfold kindS
  rw [hb.1, hb.2, if_neg Bool.false_ne_true, if_neg Bool.false_ne_true]
  constructor
  · repeat (first | (split; decide) | decide)
    all_goals (repeat split) <;> decide
  · repeat (first | (split; decide) | decide)
    all_goals (repeat split) <;> decide
theorem br_two {c : UInt8} (h : bracketB c.toNat = true) : c = 40 ∨ c = 41 := by
  unfold bracketB at h; simp at h
  rcases h with h | h
  · exact .inl (UInt8.toNat_inj.mp (by simp; omega))
  · exact .inr (UInt8.toNat_inj.mp (by simp; omega))
theorem scan_cases {l : Bs} {a : Tk} {ts : List Tk} (hz : skN l = 0) (h : scanS l = some (a :: ts)) :
    (∃ r, l = 40 :: r ∧ a = (1, [40]) ∧ scanS r = some ts) ∨ (∃ r, l = 41 :: r ∧ a = (2, [41]) ∧ scanS r = some ts) ∨
    (0 < l.length ∧ bracketB (l.headD 0).toNat = false ∧ bracketB (a.2.headD 0).toNat = false ∧ a.1 = kindS a.2 ∧ (tokS l).1 = a.2 ∧ scanS (tokS l).2 = some ts ∧ skN (tokS l).2 = 0 ∧ (tokS l).2.length < l.length) := by
  have h0 : 0 < l.length := by
    rcases Nat.eq_zero_or_pos l.length with e | e
    · rw [scanS_nil l e] at h; cases h
    · exact e
  have hbl := sk_head hz h0
  cases hbr : bracketB (l.headD 0).toNat with
  | true =>
    cases l with
    | nil => simp at h0
    | cons c r =>
      simp only [List.headD_cons] at hbr
      have hc := br_two hbr
      rw [scan_br hc] at h
      obtain ⟨o, ho, he⟩ := Option.map_eq_some_iff.mp h
      simp only [List.cons.injEq] at he
      obtain ⟨rfl, rfl⟩ := he
      rcases hc with rfl | rfl
      · exact .inl ⟨r, rfl, rfl, ho⟩
      · exact .inr (.inl ⟨r, rfl, rfl, ho⟩)
  | false =>
    right; right
    have hs : sepB (l.headD 0) = false := by unfold sepB; rw [hbl, hbr]; rfl
    rw [scanS_eq l h0, hbl, if_neg Bool.false_ne_true] at h
    by_cases hk : kindS (l.take (plen l)) = 0
    · rw [if_pos hk] at h; cases h
    · rw [if_neg hk] at h
      obtain ⟨o, ho, he⟩ := Option.map_eq_some_iff.mp h
      simp only [List.cons.injEq] at he
      obtain ⟨rfl, rfl⟩ := he
      have t := tk_piece h0 hs hk
      have hp := plen_pos l h0 hbl
      have et : tokS l = (tkText l, skS (l.drop (tkLen l))) := by
        unfold tokS; rw [if_neg]; rintro (e | e)
        · omega
        · rw [hbr] at e; cases e
      refine ⟨h0, rfl, ?_, rfl, ?_, ?_, ?_, ?_⟩
      · show bracketB ((l.take (plen l)).headD 0).toNat = false
        obtain ⟨m, hm⟩ : ∃ m, plen l = m + 1 := ⟨plen l - 1, by omega⟩
        cases l with
        | nil => simp at h0
        | cons c r => rw [hm, List.take_succ_cons]; exact hbr
      · rw [et]; exact t.1
      · rw [et, scan_sk, t.2]; exact ho
      · rw [et]; exact sk_zero _
      · rw [et]
        have := sk_len (l.drop (tkLen l))
        have e2 := t.2
        rw [List.length_drop] at this
        show (skS (l.drop (tkLen l))).length < l.length
        omega
theorem comp : ∀ n : Nat,
    (∀ (f deep : Nat) (l : Bs) (ts : List Tk) (t : Tr) (ts' : List Tk) (F : Nat), f ≤ n → scanS l = some ts → treeF f deep ts = some (t, ts') → 2 * l.length ≤ F →
      ∃ r, oneS F deep l = some (t, r) ∧ scanS r = some ts' ∧ skN r = 0 ∧ r.length < l.length) ∧
    (∀ (f deep : Nat) (l : Bs) (ts : List Tk) (xs : List Tr) (ts' : List Tk) (F : Nat), f ≤ n → skN l = 0 → scanS l = some ts → opsF f deep ts = some (xs, ts') → 2 * l.length + 1 ≤ F →
      ∃ r, opsR F deep l = some (xs, 41 :: r) ∧ scanS r = some ts' ∧ r.length < l.length) := by
  intro n
  induction n with
  | zero =>
    refine ⟨?_, ?_⟩
    · intro f deep l ts t ts' F hf _ h; obtain rfl : f = 0 := by omega
      simp [treeF] at h
    · intro f deep l ts t ts' F hf _ _ h; obtain rfl : f = 0 := by omega
      simp [opsF] at h
  | succ n ih =>
    obtain ⟨ih1, ih2⟩ := ih
    refine ⟨?_, ?_⟩
    · intro f deep l ts t ts' F hf hl h hF
      cases f with
      | zero => simp [treeF] at h
      | succ f =>
      cases ts with
      | nil => simp [treeF] at h
      | cons a ts =>
        rw [← scan_sk] at hl
        have hsl := sk_len l
        have h0 : 0 < l.length := by
          rcases Nat.eq_zero_or_pos (skS l).length with e | e
          · rw [scanS_nil _ e] at hl; cases hl
          · omega
        obtain ⟨G, rfl⟩ : ∃ G, F = G + 1 := ⟨F - 1, by omega⟩
        rw [oneS]
        rw [treeF] at h
        rcases scan_cases (sk_zero l) hl with ⟨r, e, rfl, hr⟩ | ⟨r, e, rfl, hr⟩ | ⟨h1, hb, hba, ha, htx, hsc, hz, hlt⟩
        · rw [if_pos rfl] at h
          rw [e] at hsl ⊢
          simp only [List.length_cons] at hsl
          simp only [List.headD_cons, beq_self_eq_true, if_true, List.drop_succ_cons, List.drop_zero]
          cases f with
          | zero => simp [brF] at h
          | succ f =>
          cases ts with
          | nil => simp [brF] at h
          | cons b ts =>
            rw [brF] at h
            by_cases hd : 20 < deep + 1
            · rw [if_pos hd] at h; cases h
            · rw [if_neg hd] at h
              cases hh : headS b.1 b.2 with
              | false => rw [hh] at h; simp at h
              | true =>
                rw [hh, if_pos rfl] at h
                obtain ⟨⟨xs, q⟩, ho, he⟩ := Option.map_eq_some_iff.mp h
                simp only [Prod.mk.injEq] at he
                obtain ⟨rfl, rfl⟩ := he
                have hl2 := sk_len r
                rw [← scan_sk] at hr
                rcases scan_cases (sk_zero r) hr with ⟨_, _, rfl, _⟩ | ⟨_, _, rfl, _⟩ | ⟨h1, hb, hba, ha, htx, hsc, hz, hlt⟩
                · cases hh
                · cases hh
                · obtain ⟨r', o', s', l'⟩ := ih2 f (deep + 1) _ ts xs q G (by omega) hz hsc ho (by omega)
                  have hR : headR b.2 = true := by rw [← head_same hba, ← ha]; exact hh
                  refine ⟨skS r', ?_, by rw [scan_sk]; exact s', sk_zero _, ?_⟩
                  · rw [htx, hR, decide_eq_true (by omega : deep < 20), o']
                    simp [ha]
                  · have := sk_len r'; omega
        · rw [if_neg (by decide)] at h
          have : aloneS 2 [41] = false := by decide
          simp only [this] at h; simp at h
        · have hk := kind_nb hba
          rw [← ha] at hk
          rw [if_neg hk.1] at h
          cases hh : aloneS a.1 a.2 with
          | false => rw [hh] at h; simp at h
          | true =>
            rw [hh, if_pos rfl] at h
            simp only [Option.some.injEq, Prod.mk.injEq] at h
            obtain ⟨rfl, rfl⟩ := h
            have h40 : ((skS l).headD 0 == 40) = false := by
              rw [Bool.eq_false_iff]; intro e; rw [beq_iff_eq] at e; rw [e] at hb; cases hb
            have hA : atomS a.2 = true := by rw [← atom_same hba, ← ha]; exact hh
            rw [h40, if_neg Bool.false_ne_true, htx, hA, if_pos rfl]
            refine ⟨_, by rw [ha], hsc, hz, by omega⟩
    · intro f deep l ts xs ts' F hf hz hl h hF
      cases f with
      | zero => simp [opsF] at h
      | succ f =>
      cases ts with
      | nil => simp [opsF] at h
      | cons a ts =>
        obtain ⟨G, rfl⟩ : ∃ G, F = G + 1 := ⟨F - 1, by omega⟩
        have h0 : 0 < l.length := by
          rcases Nat.eq_zero_or_pos l.length with e | e
          · rw [scanS_nil _ e] at hl; cases hl
          · omega
        rw [opsF] at h
        rw [opsR, if_neg (by omega)]
        by_cases h2 : a.1 = 2
        · rw [if_pos h2] at h
          simp only [Option.some.injEq, Prod.mk.injEq] at h
          obtain ⟨rfl, rfl⟩ := h
          rcases scan_cases hz hl with ⟨r, rfl, rfl, hr⟩ | ⟨r, rfl, rfl, hr⟩ | ⟨h1, hb, hba, ha, htx, hsc, hz, hlt⟩
          · cases h2
          · exact ⟨r, rfl, hr, by simp⟩
          · exact absurd (ha ▸ h2) (kind_nb hba).2
        · rw [if_neg h2] at h
          have h41 : (l.headD 0 == 41) = false := by
            rcases scan_cases hz hl with ⟨r, rfl, rfl, hr⟩ | ⟨r, rfl, rfl, hr⟩ | ⟨h1, hb, hba, ha, htx, hsc, hz, hlt⟩
            · rfl
            · exact absurd rfl h2
            · rw [Bool.eq_false_iff]; intro e; rw [beq_iff_eq] at e; rw [e] at hb; cases hb
          rw [h41, if_neg Bool.false_ne_true]
          cases ht : treeF f deep (a :: ts) with
          | none => rw [ht] at h; simp at h
          | some p =>
            obtain ⟨x, q⟩ := p
            rw [ht] at h
            simp only at h
            obtain ⟨⟨ys, q2⟩, ho, he⟩ := Option.map_eq_some_iff.mp h
            simp only [Prod.mk.injEq] at he
            obtain ⟨rfl, rfl⟩ := he
            obtain ⟨r1, e1, s1, z1, l1⟩ := ih1 f deep l _ x q G (by omega) hl ht (by omega)
            obtain ⟨r2, e2, s2, l2⟩ := ih2 f deep r1 q ys q2 G (by omega) z1 s1 ho (by omega)
            rw [e1]
            exact ⟨r2, by simp [e2], s2, by omega⟩
def refS (l : Bs) : Option Tr := match oneS (2 * l.length + 1) 0 l with | some (t, []) => some t | _ => none
theorem ref_same (l : Bs) (h : l.length ≤ 400) : refS l = parseS l := by
  have ef : parseS l = (scanS l).bind parseT := by unfold parseS; rw [if_neg (by omega)]
  rw [ef]
  have fwd : ∀ t, refS l = some t → (scanS l).bind parseT = some t := by
    intro t ht
    unfold refS at ht
    split at ht
    · next t' e =>
      simp only [Option.some.injEq] at ht
      subst ht
      obtain ⟨s1, w1, d1, _⟩ := one_sound _ _ _ _ _ e
      rw [scanS_nil [] rfl] at s1
      simp only [Option.map_some, List.append_nil] at s1
      rw [s1, Option.bind_some]
      have := parse_tree (f := 2 * (toks t').length) (deep := 0) (r := []) w1 (by simpa using d1) (Nat.le_refl _)
      rw [List.append_nil] at this
      unfold parseT
      rw [this]
    · cases ht
  have bwd : ∀ t, (scanS l).bind parseT = some t → refS l = some t := by
    intro t ht
    cases hs : scanS l with
    | none => rw [hs] at ht; cases ht
    | some ts =>
      rw [hs, Option.bind_some] at ht
      unfold parseT at ht
      split at ht
      · next t' e =>
        simp only [Option.some.injEq] at ht
        subst ht
        obtain ⟨r, e1, s1, z1, _⟩ := (comp _).1 _ _ l _ _ _ (2 * l.length + 1) (Nat.le_refl _) hs e (by omega)
        have hr : r = [] := by
          cases r with
          | nil => rfl
          | cons c q =>
            have h0 : 0 < (c :: q).length := by simp
            have hb := sk_head z1 h0
            rw [scanS_eq _ h0, hb, if_neg Bool.false_ne_true] at s1
            split at s1
            · cases s1
            · obtain ⟨_, _, he⟩ := Option.map_eq_some_iff.mp s1
              cases he
        subst hr
        unfold refS
        rw [e1]
      · cases ht
  cases h1 : refS l with
  | some t => exact (fwd t h1).symm
  | none =>
    cases h2 : (scanS l).bind parseT with
    | none => rfl
    | some t => rw [bwd t h2] at h1; cases h1
end Go.Proofs.YtilfjpmeededmaaGreatDoor

namespace Go.Proofs.YtilfjpmeededmaaGreatDoor
open Go.RowKit
theorem infoNode : (Tryz.prog.info? 359).map (fun i => (i.zero, i.size, i.bytes)) = some (some (.agg #[.string ⟨#[]⟩, .bool false, .slice none 0 0, .int .u8 0]), 4, 56) := by kernel_rfl
structure Frm (w w' : World) (rb : Nat) (o : Option Nat) : Prop where
  os : w'.os = w.os
  tape : w'.tape = w.tape
  output : w'.output = w.output
  size : w.heap.size ≤ w'.heap.size
  block : ∀ g, g < w.heap.size → g ≠ rb → o ≠ some g → w'.heap[g]? = w.heap[g]?
mutual
inductive Rep (w : World) (S : Nat → Prop) (cs : List Value) : Nat → Nat → Tr → Prop
  | mk {lo i : Nat} {k : Int} {tx : Bs} {br : Bool} {ops : List Tr} {v : Value} {is : List Nat} : cs[4 * i]? = some (.string (ofBs tx)) → cs[4 * i + 1]? = some (.bool br) → cs[4 * i + 2]? = some v → cs[4 * i + 3]? = some (.int .u8 0) →
      w.ownsRow 0 3 1 v ops.length (is.map fun j : Nat => Value.int .i64 (j : Int)) → (∀ g, v.ownBlock = some g → S g) → RepL w S cs lo i is ops → (br = false → ops = [] ∧ atomS tx = true ∧ k = kindS tx) → tx.length ≤ maxLen → Rep w S cs lo i (.mk k tx br ops)
inductive RepL (w : World) (S : Nat → Prop) (cs : List Value) : Nat → Nat → List Nat → List Tr → Prop
  | nil {lo : Nat} : RepL w S cs lo lo [] []
  | cons {lo i hi : Nat} {is : List Nat} {t : Tr} {ts : List Tr} : Rep w S cs lo i t → RepL w S cs (i + 1) hi is ts → RepL w S cs lo hi (i :: is) (t :: ts)
end
theorem pre_get {cs ds : List Value} {i : Nat} {v : Value} (h : cs[i]? = some v) : (cs ++ ds)[i]? = some v := by
  rw [List.getElem?_append_left (List.getElem?_eq_some_iff.mp h).1]; exact h
mutual
theorem Rep.move {w x : World} {S S' : Nat → Prop} {cs : List Value} (ds : List Value) (hk : ∀ g, S g → x.heap[g]? = w.heap[g]?) (hs : ∀ g, S g → S' g) : ∀ {lo i : Nat} {t : Tr}, Rep w S cs lo i t → Rep x S' (cs ++ ds) lo i t
  | _, _, _, .mk a b c c3 d e f l z => .mk (pre_get a) (pre_get b) (pre_get c) (pre_get c3) (owns_keep d fun g hg => hk g (e g hg)) (fun g hg => hs g (e g hg)) (RepL.move ds hk hs f) l z
theorem RepL.move {w x : World} {S S' : Nat → Prop} {cs : List Value} (ds : List Value) (hk : ∀ g, S g → x.heap[g]? = w.heap[g]?) (hs : ∀ g, S g → S' g) : ∀ {lo hi : Nat} {i : List Nat} {t : List Tr}, RepL w S cs lo hi i t → RepL x S' (cs ++ ds) lo hi i t
  | _, _, _, _, .nil => .nil
  | _, _, _, _, .cons a b => .cons (Rep.move ds hk hs a) (RepL.move ds hk hs b)
end
mutual
theorem Rep.bounded {w : World} {S : Nat → Prop} {cs : List Value} : ∀ {lo i : Nat} {t : Tr}, Rep w S cs lo i t → Rep w (fun g => S g ∧ g < w.heap.size) cs lo i t
  | _, _, _, .mk a b c c3 d e f l z => .mk a b c c3 d (fun g hg => ⟨e g hg, (d.lt g hg).2⟩) (RepL.bounded f) l z
theorem RepL.bounded {w : World} {S : Nat → Prop} {cs : List Value} : ∀ {lo hi : Nat} {i : List Nat} {t : List Tr}, RepL w S cs lo hi i t → RepL w (fun g => S g ∧ g < w.heap.size) cs lo hi i t
  | _, _, _, _, .nil => .nil
  | _, _, _, _, .cons a b => .cons (Rep.bounded a) (RepL.bounded b)
end
def Ones (w : World) (rb : Nat) (s : ByteArray) (k : Nat) (v : Value) (n : Nat) (cs : List Value) (o : Option (Tr × Bs)) (e : Ending) (w' : World) : Prop :=
  Frm w w' rb v.ownBlock ∧ ((o = none ∧ e = .returned (.int .i64 (-1)) ∧ ∃ k' ao m cap, RdIs w' rb s k' (.slice ao m cap)) ∨
    (∃ t k' g cap n' ds, o = some (t, s.toList.drop k') ∧ k < k' ∧ k' ≤ s.size ∧ n ≤ n' ∧ n' + 1 + k ≤ n + k' ∧ e = .returned (.int .i64 (n' : Int)) ∧
      RdIs w' rb s k' (.slice (some ⟨g, 0, none⟩) (n' + 1) cap) ∧ w'.ownsRow (rb + 1) 359 4 (.slice (some ⟨g, 0, none⟩) (n' + 1) cap) (n' + 1) (cs ++ ds) ∧
      (v.ownBlock = some g ∨ w.heap.size ≤ g) ∧ Rep w' (fun q => w.heap.size ≤ q ∧ q ≠ g) (cs ++ ds) n n' t))
theorem ones_fin {w w4 W w5 : World} {rb k' lo m g5 cap5 : Nat} {v ov v4 : Value} {s : ByteArray} {cs ds : List Value} (kd : Int) {tx : Bs} {br : Bool} {ops : List Tr} {is : List Nat} {av : Value}
    (hrb : rb < w.heap.size) (F : Frm w w4 rb v.ownBlock) (hv4 : v4.ownBlock = v.ownBlock ∨ ∃ g, v4.ownBlock = some g ∧ w.heap.size ≤ g)
    (hW : W.os = w4.os ∧ W.tape = w4.tape ∧ W.output = w4.output ∧ w4.heap.size ≤ W.heap.size ∧ ∀ g, g < w4.heap.size → W.heap[g]? = w4.heap[g]?)
    (own4 : w4.ownsRow (rb + 1) 359 4 v4 m (cs ++ ds))
    (hgrow : W.grownBy w5 v4.ownBlock) (hown5 : w5.ownsRow (rb + 1) 359 4 (.slice (some ⟨g5, 0, none⟩) (m + 1) cap5) (m + 1) (cs ++ ds ++ [.string (ofBs tx), .bool br, av, .int .u8 0]))
    (hat5 : v4.ownBlock = some g5 ∨ g5 = w4.heap.size + 1) (kR : w5.heap[rb]? = some (.cells #[.string s, .int .i64 (k' : Int), ov] 357 (0, 0)))
    (hav : w4.ownsRow 0 3 1 av ops.length (is.map fun j : Nat => Value.int .i64 (j : Int))) (hav2 : ∀ g, av.ownBlock = some g → w.heap.size ≤ g ∧ v4.ownBlock ≠ some g)
    (hrep : RepL w4 (fun q => w.heap.size ≤ q ∧ v4.ownBlock ≠ some q) (cs ++ ds) lo m is ops) (hlf : br = false → ops = [] ∧ atomS tx = true ∧ kd = kindS tx) (htl : tx.length ≤ maxLen) :
    Frm w (w5.setCell ⟨rb, 2, none⟩ (.slice (some ⟨g5, 0, none⟩) (m + 1) cap5)) rb v.ownBlock ∧
    RdIs (w5.setCell ⟨rb, 2, none⟩ (.slice (some ⟨g5, 0, none⟩) (m + 1) cap5)) rb s k' (.slice (some ⟨g5, 0, none⟩) (m + 1) cap5) ∧
    (w5.setCell ⟨rb, 2, none⟩ (.slice (some ⟨g5, 0, none⟩) (m + 1) cap5)).ownsRow (rb + 1) 359 4 (.slice (some ⟨g5, 0, none⟩) (m + 1) cap5) (m + 1) (cs ++ (ds ++ [.string (ofBs tx), .bool br, av, .int .u8 0])) ∧
    (v.ownBlock = some g5 ∨ w.heap.size ≤ g5) ∧
    Rep (w5.setCell ⟨rb, 2, none⟩ (.slice (some ⟨g5, 0, none⟩) (m + 1) cap5)) (fun q => w.heap.size ≤ q ∧ q ≠ g5) (cs ++ (ds ++ [.string (ofBs tx), .bool br, av, .int .u8 0])) lo m (.mk kd tx br ops) := by
  obtain ⟨a1, a2, a3, a4, a5⟩ := hW
  have hlen : (cs ++ ds).length = 4 * m := by have := own4.1; omega
  have keep : ∀ g, g < w4.heap.size → g ≠ rb → v4.ownBlock ≠ some g → (w5.setCell ⟨rb, 2, none⟩ (.slice (some ⟨g5, 0, none⟩) (m + 1) cap5)).heap[g]? = w4.heap[g]? := by
    intro g h1 h2 h3
    rw [Below.heap_setCell _ _ _ _ h2, hgrow.block g (by omega) (fun e => h3 e.symm), a5 g h1]
  have hne5 : ∀ g, g < w4.heap.size → v4.ownBlock ≠ some g → g ≠ g5 := by
    intro g h1 h2 e
    subst e
    rcases hat5 with e | e
    · exact h2 e
    · omega
  have hF := F.size
  refine ⟨⟨hgrow.os.trans (a1.trans F.os), hgrow.tape.trans (a2.trans F.tape), hgrow.output.trans (a3.trans F.output), ?_, ?_⟩, ?_, ?_, ?_, ?_⟩
  · have := hgrow.size; simp [World.setCell]; omega
  · intro g h1 h2 h3
    rw [keep g (by omega) h2 ?_, F.block g h1 h2 h3]
    rcases hv4 with e | ⟨q, e, hq⟩
    · rw [e]; exact h3
    · rw [e]; intro e2; have := Option.some.inj e2; omega
  · unfold RdIs; simp [World.setCell, Array.getElem?_modify, kR]
  · rw [← List.append_assoc]; exact ownsRow_setCell_below hown5 (by show rb < rb + 1; omega) _
  · rcases hat5 with e | e
    · rcases hv4 with e2 | ⟨q, e2, hq⟩
      · exact .inl (by rw [← e2]; exact e)
      · rw [e2] at e; have := Option.some.inj e; exact .inr (by omega)
    · exact .inr (by omega)
  · rw [← List.append_assoc]
    refine .mk (v := av) (is := is) ?_ ?_ ?_ ?_ (owns_keep hav fun g hg => ?_) (fun g hg => ?_) (hrep.bounded.move _ (fun g hg => ?_) (fun g hg => ⟨hg.1.1, hne5 g hg.2 hg.1.2⟩)) hlf htl
    · rw [List.getElem?_append_right (by omega), hlen]; simp
    · rw [List.getElem?_append_right (by omega), hlen, show 4 * m + 1 - 4 * m = 1 by omega]; rfl
    · rw [List.getElem?_append_right (by omega), hlen, show 4 * m + 2 - 4 * m = 2 by omega]; rfl
    · rw [List.getElem?_append_right (by omega), hlen, show 4 * m + 3 - 4 * m = 3 by omega]; rfl
    · have h1 := hav2 g hg; exact keep g (hav.lt g hg).2 (by omega) h1.2
    · have h1 := hav2 g hg; exact ⟨h1.1, hne5 g (hav.lt g hg).2 h1.2⟩
    · have h1 := hg.1.1; exact keep g hg.2 (by omega) hg.1.2
end Go.Proofs.YtilfjpmeededmaaGreatDoor

namespace Go.Proofs.YtilfjpmeededmaaGreatDoor
open Go.RowKit
theorem undrew {a b : World} {row : Option Nat} (h : a.drew.grownBy b row) : a.grownBy b row := ⟨h.os, h.tape, h.output, h.size, h.block⟩
theorem not40 {s : ByteArray} {k : Nat} (h : k < s.size) : (s.toList.drop k).headD 0 = s[k] := (ref_head s k h).2
theorem blk4_set0 {x : World} {b : Nat} {a0 a1 a2 a3 : Value} {T : TypeId} (h : x.heap[b]? = some (.cells #[a0, a1, a2, a3] T (0, 0))) (v : Value) : (x.setCell ⟨b, 0, none⟩ v).heap[b]? = some (.cells #[v, a1, a2, a3] T (0, 0)) := by
  simp [World.setCell, Array.getElem?_modify, h]
theorem blk_setOther {x : World} {b b' : Nat} {o : Obj} (h : x.heap[b]? = some o) (hne : b ≠ b') (off : Nat) (v : Value) : (x.setCell ⟨b', off, none⟩ v).heap[b]? = some o := by
  rw [Below.heap_setCell _ _ _ _ hne]; exact h
set_option maxHeartbeats 4000000 in
set_option maxRecDepth 100000 in
theorem one_leaf (s : ByteArray) (hs : s.size ≤ 400) (w : World) (rb k deep n : Nat) (ao : Option Addr) (cap : Nat) (cs : List Value) (h : RdIs w rb s k (.slice ao n cap)) (hk : k ≤ s.size)
    (hown : w.ownsRow (rb + 1) 359 4 (.slice ao n cap) n cs) (hn : n ≤ 1000)
    (k1 : Nat) (hk1e : k + skN (s.toList.drop k) = k1) (hlt : k1 < s.size) (h40 : (s[k1] == 40) = false) (hb : bracketB s[k1].toNat = false) (tx : Bs) (hne : tx ≠ []) (htx : tkText (s.toList.drop k1) = tx) (hat : atomS tx = true) (htl : tx.length ≤ maxLen) (o : Option (Tr × Bs))
    (ho : o = some (Tr.mk (kindS tx) tx false [], skS ((s.toList.drop k1).drop (tkLen (s.toList.drop k1))))) :
    Calls Tryz.prog 181 #[.pointer (some ⟨rb, 0, none⟩), .int .i64 deep] w fun e w' => Ones w rb s k (.slice ao n cap) n cs o e w' := by
  obtain ⟨i0, hi, hz0, hz1, hz2⟩ := info_parts infoNode
  have HA : ∀ x : World, Calls Tryz.prog 262 #[.string (ofBs tx)] x fun e w' => e = .returned (.bool true) ∧ Below x.heap.size x w' := by
    intro x; have := refAtom_any (ofBs tx) x (by rw [ofBs_size]; exact htl); rw [ofBs_toList, hat] at this; exact this
  have HAT : Hid (atomS tx = true) := hat
  clear hat
  go_enter Tryz.func181, Tryz.ntmps181
  go_wp2_with (go_at_call 259; refine (skip_any s hs _ rb k _ h hk).mono ?_; rintro e w2 ⟨rfl, hk1, hg1, hr1⟩)
  rw [hk1e] at hr1
  have hrb := hr1.lt
  have hneb : w2.heap.size ≠ rb := by omega
  obtain ⟨⟨y0, y1, y2⟩, f1, f2⟩ := cells3R hr1
  have hi40 : ((s[k1].toNat : Int) == 40) = false := by rw [← h40]; exact ref_u8i s[k1] 40 (by omega)
  go_region
  have hr2 : ∀ o : Obj, RdIs (w2.alloc o).drew rb s k1 (.slice ao n cap) := fun o => by unfold RdIs; exact blk_alloc hr1 _
  all_goals (try go_wp2_with (go_at_call 260; refine (token_some s hs _ rb k1 _ (hr2 _) hlt hb).mono ?_))
  rintro e w3 ⟨rfl, k', hk', hks, hg3, hr3⟩
  have hkk : k < k' := by rw [hk']; have : 0 < tkLen (s.toList.drop k1) := by unfold tkLen; omega
                          omega
  have hok : o = some (Tr.mk (kindS tx) tx false [], s.toList.drop k') := by rw [ho, hk', skS, ← List.drop_drop, ← List.drop_drop]
  clear ho hk'
  rw [htx]
  replace hg3 := undrew hg3
  have hrb3 := hr3.lt
  have hnb : w3.heap[w2.heap.size]? = some (.cells #[.string ⟨#[]⟩, .bool false, .slice none 0 0, .int .u8 0] 359 (0, 0)) := blk_grown (blk_new w2 _) hg3 hneb
  have hsz3 := block_lt hnb
  obtain ⟨⟨z0, z1, z2, z3⟩, g0, g1, g2, g3⟩ := cells4 hnb
  have hem : (ofBs tx).toList.isEmpty = false := by rw [ofBs_toList]; cases tx with | nil => exact absurd rfl hne | cons => rfl
  go_wp2_with (go_at_call 262; refine (HA _).mono ?_; rintro e w4 ⟨rfl, hb4⟩; have hnb4 := blk_below (blk4_set0 hnb _) hb4; obtain ⟨⟨u0, u1, u2, u3⟩, v0, v1, v2, v3⟩ := cells4 hnb4; have hr4 := blk_below (blk_setOther hr3 hneb.symm 0 _) hb4)
  have hs1 := hg1.size
  have hs3 := hg3.size
  rw [World.size_alloc] at hs3
  have hs4 := hb4.size
  have hs4' : w3.heap.size ≤ w4.heap.size := by simpa [World.setCell] using hs4
  have K4 : ∀ g, g < w.heap.size → g ≠ rb → w4.heap[g]? = w.heap[g]? := by
    intro g h1 h2
    rw [hb4.block g (by simp [World.setCell]; omega), Below.heap_setCell _ _ _ _ (by show g ≠ w2.heap.size; omega), hg3.block g (by simp; omega) (by simpa using h2), Below.heap_alloc _ _ _ (by omega), hg1.block g h1 (by simpa using h2)]
  have own4 : w4.ownsRow (rb + 1) 359 4 (.slice ao n cap) n cs := owns_keep hown fun g hg => K4 g (hown.lt g hg).2 (by have := (hown.lt g hg).1; omega)
  have HOWN : ∀ o : Obj, (w4.drew.alloc o).ownsRow (rb + 1) 359 4 (.slice ao n cap) n cs := fun o => World.ownsRow.alloc (show w4.drew.ownsRow _ _ _ _ _ _ from own4) o
  have hrb4 := block_lt hr4
  have hvr : (Value.slice ao n cap).ownBlock ≠ some rb := fun e => by have := (hown.lt _ e).1; omega
  obtain ⟨⟨p0, p1, p2⟩, q1, q2⟩ := cells3R hr4
  go_region_law (refine step_append_lies _ rfl (.tmp 127) (.tmp 129) 240 rfl (rb + 1) 359 i0 _ 4 56 Tryz.underlying240 hi hz0 hz1 hz2 rfl (by decide) (.slice ao n cap) n cs (by simp [Act.eval]) (HOWN _) ⟨w4.heap.size, 0, none⟩ 1 1 [.string (ofBs tx), .bool false, .slice none 0 0, .int .u8 0] (by simp [Act.eval]) rfl (World.news_of_block (blk_new w4.drew _)) (by intro u hu; simp at hu; rcases hu with rfl | rfl | rfl | rfl <;> rfl) (by decide) (by unfold maxLen; omega) (by omega) (by simp; omega) (w4.heap.size + 1) (by simp) ?_; intro g5 cap5 w5 hown5 hgrow5 hat5 hlt5; have kR : w5.heap[rb]? = _ := (hgrow5.block rb (by simp; omega) hvr.symm).trans (blk_alloc hr4 _); have hrb5 := block_lt kR; obtain ⟨⟨r0, r1, r2⟩, t1, t2⟩ := cells3R kR)
  all_goals (go_wp2_with fail; go_ret)
  all_goals
    have F4 : Frm w w4 rb (Value.slice ao n cap).ownBlock := ⟨hb4.os.trans (hg3.os.trans hg1.os), hb4.tape.trans (hg3.tape.trans hg1.tape), hb4.output.trans (hg3.output.trans hg1.output), by omega, fun g h1 h2 _ => K4 g h1 h2⟩
    obtain ⟨A1, A2, A3, A4, A5⟩ := ones_fin (kindS tx) (ds := []) (v := .slice ao n cap) (is := []) (ops := []) h.lt F4 (.inl rfl) (by exact ⟨rfl, rfl, rfl, by simp, fun g hg => Below.heap_alloc _ _ _ hg⟩) (by rw [List.append_nil]; exact own4) hgrow5 (by rw [List.append_nil]; exact hown5) hat5 kR (World.ownsRow_nil _ _ _ _) (fun g hg => by cases hg) .nil (fun _ => ⟨rfl, HAT.out, rfl⟩) htl
    exact ⟨A1, .inr ⟨_, k', g5, cap5, n, _, hok, hkk, hks, Nat.le_refl _, by omega, rfl, A2, A3, A4, A5⟩⟩
end Go.Proofs.YtilfjpmeededmaaGreatDoor

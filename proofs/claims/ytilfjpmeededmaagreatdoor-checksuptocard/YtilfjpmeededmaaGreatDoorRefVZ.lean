import Derived.Test.YtilfjpmeededmaaGreatDoorRefOZ
import Derived.Deep.RegionWith
import Derived.Deep.CutRange
set_option linter.unusedVariables false
set_option linter.unusedSimpArgs false
namespace Go.Proofs.YtilfjpmeededmaaGreatDoor
open Go.RowKit
set_option maxHeartbeats 4000000 in
set_option maxRecDepth 100000 in
theorem one_bad (s : ByteArray) (hs : s.size ≤ 400) (w : World) (rb k deep n : Nat) (ao : Option Addr) (cap : Nat) (cs : List Value) (h : RdIs w rb s k (.slice ao n cap)) (hk : k ≤ s.size)
    (k1 : Nat) (hk1e : k + skN (s.toList.drop k) = k1) (hlt : k1 < s.size) (h40 : (s[k1] == 40) = false) (hb : bracketB s[k1].toNat = false) (tx : Bs) (htx : tkText (s.toList.drop k1) = tx) (hat : atomS tx = false) (htl : tx.length ≤ maxLen) :
    Calls Tryz.prog 181 #[.pointer (some ⟨rb, 0, none⟩), .int .i64 deep] w fun e w' => Ones w rb s k (.slice ao n cap) n cs none e w' := by
  have HA : ∀ x : World, Calls Tryz.prog 262 #[.string (ofBs tx)] x fun e w' => e = .returned (.bool false) ∧ Below x.heap.size x w' := by
    intro x; have := refAtom_any (ofBs tx) x (by rw [ofBs_size]; exact htl); rw [ofBs_toList, hat] at this; exact this
  clear hat
  go_enter Tryz.func181, Tryz.ntmps181
  go_wp2_with (go_at_call 259; refine (skip_any s hs _ rb k _ h hk).mono ?_; rintro e w2 ⟨rfl, hk1, hg1, hr1⟩)
  rw [hk1e] at hr1
  have hrb := hr1.lt
  have hneb : w2.heap.size ≠ rb := by omega
  obtain ⟨⟨y0, y1, y2⟩, f1, f2⟩ := cells3R hr1
  have hi40 : ((s[k1].toNat : Int) == 40) = false := by rw [← h40]; exact ref_u8i s[k1] 40 (by omega)
  have hr2 : ∀ o : Obj, RdIs (w2.alloc o).drew rb s k1 (.slice ao n cap) := fun o => by unfold RdIs; exact blk_alloc hr1 _
  go_region
  all_goals (try go_wp2_with (go_at_call 260; refine (token_some s hs _ rb k1 _ (hr2 _) hlt hb).mono ?_))
  rintro e w3 ⟨rfl, k', hk', hks, hg3, hr3⟩
  rw [htx]
  replace hg3 := undrew hg3
  have hrb3 := hr3.lt
  have hnb : w3.heap[w2.heap.size]? = some (.cells #[.string ⟨#[]⟩, .bool false, .slice none 0 0, .int .u8 0] 359 (0, 0)) := blk_grown (blk_new w2 _) hg3 hneb
  have hsz3 := block_lt hnb
  obtain ⟨⟨z0, z1, z2, z3⟩, g0, g1, g2, g3⟩ := cells4 hnb
  have G3 : w.grownBy w3 (some rb) := grown_trans (grown_alloc hg1 _) hg3
  have hs1 := hg1.size
  cases htx0 : tx with
  | nil =>
    subst htx0
    have hem : (ofBs ([] : Bs)).toList.isEmpty = true := by rw [ofBs_toList]; rfl
    go_wp2_with fail
    go_ret
    have G4 := grown_new G3 hs1 0 (.string (ofBs []))
    exact ⟨⟨G4.os, G4.tape, G4.output, G4.size, fun g h1 h2 _ => G4.block g h1 (by simpa using h2)⟩, .inl ⟨rfl, rfl, k', ao, n, cap, blk_setOther hr3 hneb.symm 0 _⟩⟩
  | cons c r =>
    have hem : (ofBs (c :: r)).toList.isEmpty = false := by rw [ofBs_toList]; rfl
    rw [htx0] at HA
    go_wp2_with (go_at_call 262; refine (HA _).mono ?_; rintro e w4 ⟨rfl, hb4⟩; have hnb4 := blk_below (blk4_set0 hnb _) hb4; obtain ⟨⟨u0, u1, u2, u3⟩, v0, v1, v2, v3⟩ := cells4 hnb4; have hr4 := blk_below (blk_setOther hr3 hneb.symm 0 _) hb4)
    go_ret
    have G4 := grown_trans (grown_new G3 hs1 0 (.string (ofBs (c :: r)))) (grown_below hb4 _)
    exact ⟨⟨G4.os, G4.tape, G4.output, G4.size, fun g h1 h2 _ => G4.block g h1 (by simpa using h2)⟩, .inl ⟨rfl, rfl, k', ao, n, cap, hr4⟩⟩
set_option maxHeartbeats 4000000 in
set_option maxRecDepth 100000 in
theorem one_none (s : ByteArray) (hs : s.size ≤ 400) (w : World) (rb k deep n : Nat) (ao : Option Addr) (cap : Nat) (cs : List Value) (h : RdIs w rb s k (.slice ao n cap)) (hk : k ≤ s.size)
    (k1 : Nat) (hk1e : k + skN (s.toList.drop k) = k1) (hn : k1 = s.size ∨ ∃ hlt : k1 < s.size, bracketB s[k1].toNat = true ∧ (s[k1] == 40) = false) :
    Calls Tryz.prog 181 #[.pointer (some ⟨rb, 0, none⟩), .int .i64 deep] w fun e w' => Ones w rb s k (.slice ao n cap) n cs none e w' := by
  have HT : ∀ x : World, RdIs x rb s k1 (.slice ao n cap) → Calls Tryz.prog 260 #[.pointer (some ⟨rb, 0, none⟩)] x fun e w' => e = .returned (.string ⟨#[]⟩) ∧ x = w' := by
    intro x hx
    refine (token_none s x rb k1 _ hx ?_ ?_).mono fun e w' h => ⟨h.1, h.2.symm⟩
    · rcases hn with h | ⟨h, _⟩ <;> omega
    · rcases hn with h | ⟨h, h2, _⟩
      · exact .inl h
      · exact .inr ⟨h, h2⟩
  go_enter Tryz.func181, Tryz.ntmps181
  go_wp2_with (go_at_call 259; refine (skip_any s hs _ rb k _ h hk).mono ?_; rintro e w2 ⟨rfl, hk1, hg1, hr1⟩)
  rw [hk1e] at hr1
  have hrb := hr1.lt
  have hneb : w2.heap.size ≠ rb := by omega
  obtain ⟨⟨y0, y1, y2⟩, f1, f2⟩ := cells3R hr1
  have hs1 := hg1.size
  have hr2 : ∀ o : Obj, RdIs (w2.alloc o).drew rb s k1 (.slice ao n cap) := fun o => by unfold RdIs; exact blk_alloc hr1 _
  have G4 : ∀ o : Obj, w.grownBy (w2.alloc o).drew (some rb) := fun o => grown_drew (grown_alloc hg1 _)
  rcases hn with hn | ⟨hlt, hbr, h40⟩
  · have hd1 : decide ((k1 : Int) < (s.size : Int)) = false := by simp; omega
    have hd2 : decide (k1 < s.size) = false := by simp; omega
    go_region
    all_goals (try go_wp2_with (go_at_call 260; refine (HT _ (hr2 _)).mono ?_; rintro e w3 ⟨rfl, rfl⟩))
    go_ret
    have G := G4 (.cells #[.string ⟨#[]⟩, .bool false, .slice none 0 0, .int .u8 0] 359)
    exact ⟨⟨G.os, G.tape, G.output, G.size, fun g h1 h2 _ => G.block g h1 (by simpa using h2)⟩, .inl ⟨rfl, rfl, k1, ao, n, cap, hr2 _⟩⟩
  · have hi40 : ((s[k1].toNat : Int) == 40) = false := by rw [← h40]; exact ref_u8i s[k1] 40 (by omega)
    go_region
    all_goals (try go_wp2_with (go_at_call 260; refine (HT _ (hr2 _)).mono ?_; rintro e w3 ⟨rfl, rfl⟩))
    go_ret
    have G := G4 (.cells #[.string ⟨#[]⟩, .bool false, .slice none 0 0, .int .u8 0] 359)
    exact ⟨⟨G.os, G.tape, G.output, G.size, fun g h1 h2 _ => G.block g h1 (by simpa using h2)⟩, .inl ⟨rfl, rfl, k1, ao, n, cap, hr2 _⟩⟩
end Go.Proofs.YtilfjpmeededmaaGreatDoor

namespace Go.Proofs.YtilfjpmeededmaaGreatDoor
open Go.RowKit
theorem blk4_set1 {x : World} {b : Nat} {a0 a1 a2 a3 : Value} {T : TypeId} (h : x.heap[b]? = some (.cells #[a0, a1, a2, a3] T (0, 0))) (v : Value) : (x.setCell ⟨b, 1, none⟩ v).heap[b]? = some (.cells #[a0, v, a2, a3] T (0, 0)) := by
  simp [World.setCell, Array.getElem?_modify, h]
theorem skN_le (l : Bs) : skN l ≤ l.length := by unfold skN; exact tw_le l isBl
theorem token_anyR (s : ByteArray) (hs : s.size ≤ 400) (k : Nat) (hk : k ≤ s.size) : ∃ tx k3, tokS (s.toList.drop k) = (tx, s.toList.drop k3) ∧ k ≤ k3 ∧ k3 ≤ s.size ∧ (tx ≠ [] → k < k3) ∧ tx.length ≤ maxLen ∧
    ∀ (w : World) (rb : Nat) (v : Value), RdIs w rb s k v → Calls Tryz.prog 260 #[.pointer (some ⟨rb, 0, none⟩)] w fun e w' => e = .returned (.string (ofBs tx)) ∧ w.grownBy w' (some rb) ∧ RdIs w' rb s k3 v := by
  by_cases hn : k = s.size ∨ ∃ hlt : k < s.size, bracketB s[k].toNat = true
  · refine ⟨[], k, ?_, Nat.le_refl _, hk, fun h => absurd rfl h, by simp, fun w rb v h => (token_none s w rb k v h hk hn).mono ?_⟩
    · unfold tokS
      rw [if_pos]
      rcases hn with h | ⟨h, hb⟩
      · left; rw [List.length_drop, toList_length]; omega
      · right; rw [not40 h]; exact hb
    · rintro e w' ⟨rfl, rfl⟩; exact ⟨rfl, grown_refl _ _, h⟩
  · have hlt : k < s.size := by
      rcases Nat.lt_or_ge k s.size with h | h
      · exact h
      · exact absurd (.inl (by omega)) hn
    have hb : bracketB s[k].toNat = false := by
      rw [Bool.eq_false_iff]; exact fun e => hn (.inr ⟨hlt, e⟩)
    have hle := tkLen_le (s.toList.drop k) (by rw [List.length_drop, toList_length]; omega)
    have hpos : 0 < tkLen (s.toList.drop k) := by unfold tkLen; omega
    rw [List.length_drop, toList_length] at hle
    have hsk := skN_le (s.toList.drop (k + tkLen (s.toList.drop k)))
    rw [List.length_drop, toList_length] at hsk
    refine ⟨tkText (s.toList.drop k), k + tkLen (s.toList.drop k) + skN (s.toList.drop (k + tkLen (s.toList.drop k))), ?_, by omega, by omega, fun _ => by omega, ?_, fun w rb v h => (token_some s hs w rb k v h hlt hb).mono ?_⟩
    · unfold tokS
      rw [if_neg, skS, ← List.drop_drop, ← List.drop_drop]
      rintro (h | h)
      · rw [List.length_drop, toList_length] at h; omega
      · rw [not40 hlt, hb] at h; cases h
    · unfold tkText
      split
      · rw [List.length_take, List.length_drop, toList_length]; unfold maxLen; omega
      · simp
    · rintro e w' ⟨rfl, k', rfl, _, hg, hr⟩; exact ⟨rfl, hg, hr⟩
set_option maxHeartbeats 4000000 in
set_option maxRecDepth 100000 in
theorem one_headbad (s : ByteArray) (hs : s.size ≤ 400) (w : World) (rb k deep n : Nat) (ao : Option Addr) (cap : Nat) (cs : List Value) (h : RdIs w rb s k (.slice ao n cap)) (hk : k ≤ s.size)
    (k1 : Nat) (hk1e : k + skN (s.toList.drop k) = k1) (hlt : k1 < s.size) (h40 : (s[k1] == 40) = true) (k2 : Nat) (hk2e : k1 + 1 + skN (s.toList.drop (k1 + 1)) = k2) (tx : Bs) (k3 : Nat)
    (HT : ∀ (w : World) (rb : Nat) (v : Value), RdIs w rb s k2 v → Calls Tryz.prog 260 #[.pointer (some ⟨rb, 0, none⟩)] w fun e w' => e = .returned (.string (ofBs tx)) ∧ w.grownBy w' (some rb) ∧ RdIs w' rb s k3 v)
    (htl : tx.length ≤ maxLen) (hbad : headR tx = false ∨ 20 ≤ deep) :
    Calls Tryz.prog 181 #[.pointer (some ⟨rb, 0, none⟩), .int .i64 deep] w fun e w' => Ones w rb s k (.slice ao n cap) n cs none e w' := by
  have HA : ∀ x : World, Calls Tryz.prog 261 #[.string (ofBs tx)] x fun e w' => e = .returned (.bool (headR tx)) ∧ Below x.heap.size x w' := by
    intro x; have := refHead_any (ofBs tx) x (by rw [ofBs_size]; exact htl); rw [ofBs_toList] at this; exact this
  obtain ⟨q, hq⟩ : ∃ q, q = headR tx := ⟨_, rfl⟩
  have hqd : q = false ∨ 20 ≤ deep := by rw [hq]; exact hbad
  rw [← hq] at HA
  clear hbad hq
  go_enter Tryz.func181, Tryz.ntmps181
  go_wp2_with (go_at_call 259; refine (skip_any s hs _ rb k _ h hk).mono ?_; rintro e w2 ⟨rfl, hk1, hg1, hr1⟩)
  rw [hk1e] at hr1
  have hrb := hr1.lt
  have hneb : w2.heap.size ≠ rb := by omega
  obtain ⟨⟨y0, y1, y2⟩, f1, f2⟩ := cells3R hr1
  have hi40 : ((s[k1].toNat : Int) == 40) = true := by rw [← h40]; exact ref_u8i s[k1] 40 (by omega)
  have hs1 := hg1.size
  have hr2 : ∀ o : Obj, RdIs ((w2.setCell ⟨rb, 1, none⟩ (.int .i64 ((k1 : Int) + 1))).alloc o).drew rb s (k1 + 1) (.slice ao n cap) := fun o => by unfold RdIs; exact blk_alloc hr1.inc _
  go_region
  go_wp2_with (first
    | (go_at_call 259; refine (skip_any s hs _ rb (k1 + 1) _ (hr2 _) (by omega)).mono ?_; rintro e w3 ⟨rfl, hk2, hg3, hr3⟩; replace hg3 := undrew hg3; rw [hk2e] at hr3; have hnb : w3.heap[w2.heap.size]? = some (.cells #[.string ⟨#[]⟩, .bool false, .slice none 0 0, .int .u8 0] 359 (0, 0)) := blk_grown (by simpa [World.setCell] using blk_new (w2.setCell ⟨rb, 1, none⟩ (.int .i64 ((k1 : Int) + 1))) (.cells #[.string ⟨#[]⟩, .bool false, .slice none 0 0, .int .u8 0] 359)) hg3 hneb; obtain ⟨⟨z0, z1, z2, z3⟩, g0, g1, g2, g3⟩ := cells4 hnb)
    | (go_at_call 260; refine (HT _ rb _ (blk_setOther hr3 hneb.symm 1 _)).mono ?_; rintro e w4 ⟨rfl, hg4, hr4⟩; have hnb4 := blk_grown (blk4_set1 hnb _) hg4 hneb; obtain ⟨⟨u0, u1, u2, u3⟩, v0, v1, v2, v3⟩ := cells4 hnb4)
    | (go_at_call 261; refine (HA _).mono ?_; rintro e w5 ⟨rfl, hb5⟩))
  all_goals first
    | (exfalso; rcases hqd with e | e; exact absurd ‹q = true› (by rw [e]; decide); omega)
    | (go_ret
       have G3 : w.grownBy w3 (some rb) := grown_trans (grown_alloc (grown_trans hg1 (grown_setCell _ _ _ _)) _) hg3
       have G4 := grown_trans (grown_new G3 hs1 1 (.bool true)) hg4
       have G5 := grown_trans (grown_new G4 hs1 0 (.string (ofBs tx))) (grown_below hb5 _)
       exact ⟨⟨G5.os, G5.tape, G5.output, G5.size, fun g h1 h2 _ => G5.block g h1 (by simpa using h2)⟩, .inl ⟨rfl, rfl, k3, ao, n, cap, blk_below (blk_setOther hr4 hneb.symm 0 _) hb5⟩⟩)
end Go.Proofs.YtilfjpmeededmaaGreatDoor

namespace Go.Proofs.YtilfjpmeededmaaGreatDoor
open Go.RowKit
theorem Frm.trans {w wr w6 : World} {rb : Nat} {o o' : Option Nat} (h : Frm w wr rb o) (h2 : Frm wr w6 rb o') (hv : o' = o ∨ ∃ g, o' = some g ∧ w.heap.size ≤ g) : Frm w w6 rb o := by
  refine ⟨h2.os.trans h.os, h2.tape.trans h.tape, h2.output.trans h.output, Nat.le_trans h.size h2.size, fun g h3 h4 h5 => ?_⟩
  rw [h2.block g (Nat.lt_of_lt_of_le h3 h.size) h4 ?_, h.block g h3 h4 h5]
  rcases hv with e | ⟨q, e, hq⟩
  · rw [e]; exact h5
  · rw [e]; intro e2; have := Option.some.inj e2; omega
theorem Frm.undrew {w w' : World} {rb : Nat} {o : Option Nat} (h : Frm w.drew w' rb o) : Frm w w' rb o := ⟨h.os, h.tape, h.output, h.size, h.block⟩
theorem Frm.ofGrown {w w' : World} {rb : Nat} (h : w.grownBy w' (some rb)) (o : Option Nat) : Frm w w' rb o := ⟨h.os, h.tape, h.output, h.size, fun g h1 h2 _ => h.block g h1 (by simpa using h2)⟩
theorem blk4_set2 {x : World} {b : Nat} {a0 a1 a2 a3 : Value} {T : TypeId} (h : x.heap[b]? = some (.cells #[a0, a1, a2, a3] T (0, 0))) (v : Value) : (x.setCell ⟨b, 2, none⟩ v).heap[b]? = some (.cells #[a0, a1, v, a3] T (0, 0)) := by
  simp [World.setCell, Array.getElem?_modify, h]
theorem RepL.snoc {w : World} {S : Nat → Prop} {cs : List Value} {is : List Nat} {xs : List Tr} {lo m i : Nat} {x : Tr} (h : RepL w S cs lo m is xs) (k : Rep w S cs m i x) : RepL w S cs lo (i + 1) (is ++ [i]) (xs ++ [x]) := by
  induction xs generalizing is lo with
  | nil => cases h; exact .cons k .nil
  | cons y ys ih => cases h with | cons a b => exact .cons a (ih b)
theorem ops_next {w wr w6 w7 : World} {o : Obj} {rb Nb n m n' k' g6 cap6 g7 cap7 : Nat} {v vL vA : Value} {s : ByteArray} {cs ds ds' : List Value} {tx : Bs} {xs : List Tr} {is : List Nat} {x : Tr}
    (hrb : rb < w.heap.size) (hNw : w.heap.size ≤ Nb) (hsN : Nb < wr.heap.size) (hF : Frm w wr rb v.ownBlock) (hvL : vL.ownBlock = v.ownBlock ∨ ∃ g, vL.ownBlock = some g ∧ w.heap.size ≤ g) (hvN : vL.ownBlock ≠ some Nb)
    (hoA : wr.ownsRow (Nb + 1) 3 1 vA xs.length (is.map fun j : Nat => Value.int .i64 (j : Int))) (hvA : ∀ g, vA.ownBlock = some g → vL.ownBlock ≠ some g) (hoL : wr.ownsRow (rb + 1) 359 4 vL m (cs ++ ds))
    (hrep : RepL wr (fun q => Nb < q ∧ vL.ownBlock ≠ some q ∧ vA.ownBlock ≠ some q) (cs ++ ds) n m is xs)
    (hNb : wr.heap[Nb]? = some (.cells #[.string (ofBs tx), .bool true, vA, .int .u8 0] 359 (0, 0)))
    (h6 : Frm wr w6 rb vL.ownBlock) (hR6 : RdIs w6 rb s k' (.slice (some ⟨g6, 0, none⟩) (n' + 1) cap6)) (hoL6 : w6.ownsRow (rb + 1) 359 4 (.slice (some ⟨g6, 0, none⟩) (n' + 1) cap6) (n' + 1) (cs ++ ds ++ ds'))
    (hg6 : vL.ownBlock = some g6 ∨ wr.heap.size ≤ g6) (hrep6 : Rep w6 (fun q => wr.heap.size ≤ q ∧ q ≠ g6) (cs ++ ds ++ ds') m n' x)
    (hgrow : (w6.alloc o).grownBy w7 vA.ownBlock) (hown7 : w7.ownsRow (Nb + 1) 3 1 (.slice (some ⟨g7, 0, none⟩) (xs.length + 1) cap7) (xs.length + 1) ((is.map fun j : Nat => Value.int .i64 (j : Int)) ++ [.int .i64 (n' : Int)]))
    (hat7 : vA.ownBlock = some g7 ∨ g7 = w6.heap.size + 1) :
    RdIs (w7.setCell ⟨Nb, 2, none⟩ (.slice (some ⟨g7, 0, none⟩) (xs.length + 1) cap7)) rb s k' (.slice (some ⟨g6, 0, none⟩) (n' + 1) cap6) ∧
    Frm w (w7.setCell ⟨Nb, 2, none⟩ (.slice (some ⟨g7, 0, none⟩) (xs.length + 1) cap7)) rb v.ownBlock ∧
    (w7.setCell ⟨Nb, 2, none⟩ (.slice (some ⟨g7, 0, none⟩) (xs.length + 1) cap7)).ownsRow (rb + 1) 359 4 (.slice (some ⟨g6, 0, none⟩) (n' + 1) cap6) (n' + 1) (cs ++ (ds ++ ds')) ∧
    (some g6 = v.ownBlock ∨ ∃ g, some g6 = some g ∧ w.heap.size ≤ g) ∧ some g6 ≠ some Nb ∧
    (w7.setCell ⟨Nb, 2, none⟩ (.slice (some ⟨g7, 0, none⟩) (xs.length + 1) cap7)).heap[Nb]? = some (.cells #[.string (ofBs tx), .bool true, .slice (some ⟨g7, 0, none⟩) (xs.length + 1) cap7, .int .u8 0] 359 (0, 0)) ∧
    (w7.setCell ⟨Nb, 2, none⟩ (.slice (some ⟨g7, 0, none⟩) (xs.length + 1) cap7)).ownsRow (Nb + 1) 3 1 (.slice (some ⟨g7, 0, none⟩) (xs.length + 1) cap7) (xs ++ [x]).length ((is ++ [n']).map fun j : Nat => Value.int .i64 (j : Int)) ∧
    (∀ g, some g7 = some g → some g6 ≠ some g) ∧
    RepL (w7.setCell ⟨Nb, 2, none⟩ (.slice (some ⟨g7, 0, none⟩) (xs.length + 1) cap7)) (fun q => Nb < q ∧ some g6 ≠ some q ∧ some g7 ≠ some q) (cs ++ (ds ++ ds')) n (n' + 1) (is ++ [n']) (xs ++ [x]) := by
  have s6 := h6.size
  have sF := hF.size
  have hA : ∀ g, vA.ownBlock = some g → Nb < g ∧ g < wr.heap.size := fun g hg => by have := hoA.lt g hg; omega
  have hL : ∀ g, vL.ownBlock = some g → rb < g ∧ g < wr.heap.size := fun g hg => by have := hoL.lt g hg; omega
  have h6lt : g6 < w6.heap.size := (hoL6.lt g6 rfl).2
  have keep : ∀ g, g < w6.heap.size → g ≠ Nb → vA.ownBlock ≠ some g → (w7.setCell ⟨Nb, 2, none⟩ (.slice (some ⟨g7, 0, none⟩) (xs.length + 1) cap7)).heap[g]? = w6.heap[g]? := by
    intro g h1 h2 h3
    rw [Below.heap_setCell _ _ _ _ h2, hgrow.block g (by simp; omega) (fun e => h3 e.symm), Below.heap_alloc _ _ _ h1]
  have g6A : vA.ownBlock ≠ some g6 := by
    intro e
    rcases hg6 with e2 | e2
    · exact hvA g6 e e2
    · have := hA g6 e; omega
  have g6N : g6 ≠ Nb := by
    intro e
    rcases hg6 with e2 | e2
    · exact hvN (by rw [e2, e])
    · omega
  have g67 : g6 ≠ g7 := by
    intro e
    rcases hat7 with e2 | e2
    · exact g6A (by rw [e2, e])
    · omega
  refine ⟨?_, ?_, ?_, ?_, (fun e => g6N (Option.some.inj e)), ?_, ?_, (fun g e e2 => g67 (by rw [Option.some.inj e, Option.some.inj e2])), ?_⟩
  · unfold RdIs; rw [keep rb (block_lt hR6) (by omega) (fun e => by have := hA rb e; omega)]; exact hR6
  · refine ⟨hgrow.os.trans (h6.os.trans hF.os), hgrow.tape.trans (h6.tape.trans hF.tape), hgrow.output.trans (h6.output.trans hF.output), ?_, fun g h1 h2 h3 => ?_⟩
    · have := hgrow.size; simp [World.setCell] at this ⊢; omega
    · rw [keep g (by omega) (by omega) (fun e => by have := hA g e; omega), (hF.trans h6 hvL).block g h1 h2 h3]
  · rw [← List.append_assoc]; exact owns_keep hoL6 fun g hg => by
      have : g6 = g := Option.some.inj hg
      subst this; exact keep g6 h6lt g6N g6A
  · rcases hg6 with e | e
    · rcases hvL with e2 | ⟨q, e2, hq⟩
      · exact .inl (by rw [← e2, e])
      · exact .inr ⟨g6, rfl, by rw [e] at e2; have := Option.some.inj e2; omega⟩
    · exact .inr ⟨g6, rfl, by omega⟩
  · refine blk4_set2 (a2 := vA) ?_ _
    rw [hgrow.block Nb (by simp; omega) (fun e => by have := hA Nb e.symm; omega), Below.heap_alloc _ _ _ (by omega), h6.block Nb hsN (by omega) hvN]; exact hNb
  · rw [List.map_append, List.length_append]; exact ownsRow_setCell_below hown7 (by show Nb < Nb + 1; omega) _
  · rw [← List.append_assoc]
    refine RepL.snoc (m := m) ?_ ?_
    · refine hrep.bounded.move ds' (fun q hq => ?_) (fun q hq => ⟨hq.1.1, ?_, ?_⟩)
      · have h1 := hq.1.1
        rw [keep q (by have := hq.2; omega) (by omega) hq.1.2.2, h6.block q hq.2 (by omega) hq.1.2.1]
      · intro e; have e := Option.some.inj e; subst e
        rcases hg6 with e2 | e2
        · exact hq.1.2.1 e2
        · have := hq.2; omega
      · intro e; have e := Option.some.inj e; subst e
        rcases hat7 with e2 | e2
        · exact hq.1.2.2 e2
        · have := hq.2; omega
    · have := hrep6.bounded.move (x := w7.setCell ⟨Nb, 2, none⟩ (.slice (some ⟨g7, 0, none⟩) (xs.length + 1) cap7)) (S' := fun q => Nb < q ∧ some g6 ≠ some q ∧ some g7 ≠ some q) [] (fun q hq => ?_) (fun q hq => ⟨by have := hq.1.1; omega, fun e => hq.1.2 (Option.some.inj e).symm, fun e => ?_⟩)
      · rwa [List.append_nil] at this
      · have h1 := hq.1.1
        exact keep q hq.2 (by omega) (fun e => by have := hA q e; omega)
      · have e := Option.some.inj e; subst e
        have h1 := hq.1.1
        have h2 := hq.2
        rcases hat7 with e2 | e2
        · have := hA g7 e2; omega
        · omega
end Go.Proofs.YtilfjpmeededmaaGreatDoor

namespace Go.Proofs.YtilfjpmeededmaaGreatDoor
open Go.RowKit
def opsStepR (g d : Nat) (o : Option (Tr × Bs)) : Option (List Tr × Bs) :=
  match o with
  | none => none
  | some (x, r) => (opsR g d r).map (fun p => (x :: p.1, p.2))
theorem infoInt : (Tryz.prog.info? 3).map (fun i => (i.zero, i.size, i.bytes)) = some (some (.int .i64 0), 1, 8) := by kernel_rfl
def OneSpec (s : ByteArray) (f : Nat) : Prop := ∀ (w : World) (rb k deep n : Nat) (ao : Option Addr) (cap : Nat) (cs : List Value), RdIs w rb s k (.slice ao n cap) → k ≤ s.size → 2 * (s.size - k) ≤ f → deep ≤ 20 →
  w.ownsRow (rb + 1) 359 4 (.slice ao n cap) n cs → n ≤ k →
    Calls Tryz.prog 181 #[.pointer (some ⟨rb, 0, none⟩), .int .i64 deep] w fun e w' => Ones w rb s k (.slice ao n cap) n cs (oneS f deep (s.toList.drop k)) e w'
def OpsInv (w : World) (rb Nb : Nat) (s : ByteArray) (k n k3 f d : Nat) (v : Value) (cs : List Value) (tx : Bs) (gk : Nat) (wr : World) : Prop :=
  ∃ (f' kk m : Nat) (xs : List Tr) (is : List Nat) (aoL : Option Addr) (capL : Nat) (ds : List Value) (aoA : Option Addr) (nA capA : Nat),
    gk = s.size - kk ∧ f' ≤ f ∧ kk ≤ s.size ∧ 2 * (s.size - kk) + 1 ≤ f' ∧ k + 1 ≤ kk ∧ n ≤ m ∧ m + k + 1 ≤ n + kk ∧ xs.length ≤ kk ∧
    Hid (opsR f d (s.toList.drop k3) = (opsR f' d (s.toList.drop kk)).map (fun p => (xs ++ p.1, p.2))) ∧
    RdIs wr rb s kk (.slice aoL m capL) ∧ Frm w wr rb v.ownBlock ∧ wr.ownsRow (rb + 1) 359 4 (.slice aoL m capL) m (cs ++ ds) ∧
    ((Value.slice aoL m capL).ownBlock = v.ownBlock ∨ ∃ g, (Value.slice aoL m capL).ownBlock = some g ∧ w.heap.size ≤ g) ∧ (Value.slice aoL m capL).ownBlock ≠ some Nb ∧
    wr.heap[Nb]? = some (.cells #[.string (ofBs tx), .bool true, .slice aoA nA capA, .int .u8 0] 359 (0, 0)) ∧
    wr.ownsRow (Nb + 1) 3 1 (.slice aoA nA capA) xs.length (is.map fun j : Nat => Value.int .i64 (j : Int)) ∧ (∀ g, (Value.slice aoA nA capA).ownBlock = some g → (Value.slice aoL m capL).ownBlock ≠ some g) ∧
    RepL wr (fun q => Nb < q ∧ (Value.slice aoL m capL).ownBlock ≠ some q ∧ (Value.slice aoA nA capA).ownBlock ≠ some q) (cs ++ ds) n m is xs
set_option maxHeartbeats 8000000 in
set_option maxRecDepth 100000 in
theorem one_list (s : ByteArray) (hs : s.size ≤ 400) (f : Nat) (IH : ∀ f', f' < f → OneSpec s f') (w : World) (rb k deep n : Nat) (ao : Option Addr) (cap : Nat) (cs : List Value) (h : RdIs w rb s k (.slice ao n cap)) (hk : k ≤ s.size)
    (hown : w.ownsRow (rb + 1) 359 4 (.slice ao n cap) n cs) (hnk : n ≤ k)
    (k1 : Nat) (hk1e : k + skN (s.toList.drop k) = k1) (hlt : k1 < s.size) (h40 : (s[k1] == 40) = true) (k2 : Nat) (hk2e : k1 + 1 + skN (s.toList.drop (k1 + 1)) = k2) (tx : Bs) (k3 : Nat) (hk23 : k2 < k3) (hk3 : k3 ≤ s.size)
    (HT : ∀ (w : World) (rb : Nat) (v : Value), RdIs w rb s k2 v → Calls Tryz.prog 260 #[.pointer (some ⟨rb, 0, none⟩)] w fun e w' => e = .returned (.string (ofBs tx)) ∧ w.grownBy w' (some rb) ∧ RdIs w' rb s k3 v)
    (htl : tx.length ≤ maxLen) (hh : headR tx = true) (hdeep : deep < 20) (hf : 2 * (s.size - k3) + 1 ≤ f) :
    Calls Tryz.prog 181 #[.pointer (some ⟨rb, 0, none⟩), .int .i64 deep] w fun e w' => Ones w rb s k (.slice ao n cap) n cs ((opsR f (deep + 1) (s.toList.drop k3)).map (fun p => (Tr.mk (kindS tx) tx true p.1, skS (p.2.drop 1)))) e w' := by
  have HA : ∀ x : World, Calls Tryz.prog 261 #[.string (ofBs tx)] x fun e w' => e = .returned (.bool true) ∧ Below x.heap.size x w' := by
    intro x; have := refHead_any (ofBs tx) x (by rw [ofBs_size]; exact htl); rw [ofBs_toList, hh] at this; exact this
  clear hh
  go_enter Tryz.func181, Tryz.ntmps181
  go_wp2_with (go_at_call 259; refine (skip_any s hs _ rb k _ h hk).mono ?_; rintro e w2 ⟨rfl, hk1, hg1, hr1⟩)
  rw [hk1e] at hr1
  have hrb := hr1.lt
  have hneb : w2.heap.size ≠ rb := by omega
  obtain ⟨⟨y0, y1, y2⟩, f1, f2⟩ := cells3R hr1
  have hi40 : ((s[k1].toNat : Int) == 40) = true := by rw [← h40]; exact ref_u8i s[k1] 40 (by omega)
  have hs1 := hg1.size
  have hr2 : ∀ o : Obj, RdIs ((w2.setCell ⟨rb, 1, none⟩ (.int .i64 ((k1 : Int) + 1))).alloc o).drew rb s (k1 + 1) (.slice ao n cap) := fun o => by unfold RdIs; exact blk_alloc hr1.inc _
  have hdd : decide ((20 : Int) ≤ (deep : Int)) = false := by simp; omega
  go_region
  go_wp2_with (first
    | (go_at_call 259; refine (skip_any s hs _ rb (k1 + 1) _ (hr2 _) (by omega)).mono ?_; rintro e w3 ⟨rfl, hk2, hg3, hr3⟩; replace hg3 := undrew hg3; rw [hk2e] at hr3; have hnb : w3.heap[w2.heap.size]? = some (.cells #[.string ⟨#[]⟩, .bool false, .slice none 0 0, .int .u8 0] 359 (0, 0)) := blk_grown (by simpa [World.setCell] using blk_new (w2.setCell ⟨rb, 1, none⟩ (.int .i64 ((k1 : Int) + 1))) (.cells #[.string ⟨#[]⟩, .bool false, .slice none 0 0, .int .u8 0] 359)) hg3 hneb; obtain ⟨⟨z0, z1, z2, z3⟩, g0, g1, g2, g3⟩ := cells4 hnb)
    | (go_at_call 260; refine (HT _ rb _ (blk_setOther hr3 hneb.symm 1 _)).mono ?_; rintro e w4 ⟨rfl, hg4, hr4⟩; have hnb4 := blk_grown (blk4_set1 hnb _) hg4 hneb; obtain ⟨⟨u0, u1, u2, u3⟩, v0, v1, v2, v3⟩ := cells4 hnb4)
    | (go_at_call 261; refine (HA _).mono ?_; rintro e w5 ⟨rfl, hb5⟩))
  have G3 : w.grownBy w3 (some rb) := grown_trans (grown_alloc (grown_trans hg1 (grown_setCell _ _ _ _)) _) hg3
  have G4 := grown_trans (grown_new G3 hs1 1 (.bool true)) hg4
  have G5 : w.grownBy w5 (some rb) := grown_trans (grown_new G4 hs1 0 (.string (ofBs tx))) (grown_below hb5 _)
  have hr5 : RdIs w5 rb s k3 (.slice ao n cap) := blk_below (blk_setOther hr4 hneb.symm 0 _) hb5
  have hnb5 := blk_below (blk4_set0 hnb4 (.string (ofBs tx))) hb5
  clear hg3 hr3 hnb z0 z1 z2 z3 g0 g1 g2 g3 hg4 hr4 hnb4 u0 u1 u2 u3 v0 v1 v2 v3 hb5 G3 G4 y0 y1 y2 f1 f2 HA HT hr2
  obtain ⟨Nb, hNb⟩ : ∃ Nb, Nb = w2.heap.size := ⟨_, rfl⟩
  rw [← hNb] at hnb5 hneb ⊢
  have hown5 : w5.ownsRow (rb + 1) 359 4 (.slice ao n cap) n (cs ++ []) := by
    rw [List.append_nil]
    exact owns_keep hown fun g hg => G5.block g (hown.lt g hg).2 (by have := (hown.lt g hg).1; simp; omega)
  have I0 : OpsInv w rb Nb s k n k3 f (deep + 1) (.slice ao n cap) cs tx (s.size - k3) w5 :=
    ⟨f, k3, n, [], [], ao, cap, [], none, 0, 0, rfl, Nat.le_refl _, hk3, hf, by omega, Nat.le_refl _, by omega, Nat.zero_le _, by rw [Hid]; simp, hr5, ⟨G5.os, G5.tape, G5.output, G5.size, fun g h1 h2 _ => G5.block g h1 (by simpa using h2)⟩, hown5, .inl rfl, (fun e => by have := (hown.lt _ e).2; omega), hnb5, World.ownsRow_nil _ _ _ _, (fun g hg => by cases hg), .nil⟩
  have hNw : w.heap.size ≤ Nb := by omega
  have hrbw := h.lt
  clear hown5 hnb5 hr5 G5 hNb
  go_loopg [7] (s.size - k3) (fun gk _ wr => OpsInv w rb Nb s k n k3 f (deep + 1) (.slice ao n cap) cs tx gk wr)
  case atStart => exact I0
  case round =>
    clear I0
    obtain ⟨f', kk, m, xs, is, aoL, capL, ds, aoA, nA, capA, hgk, hf1, hkk, hf2, hkk1, hnm, hmk, hxk, HO, hR, hF, hoL, hvL, hvN, hNbk, hoA, hvA, hrep⟩ := hrel
    subst hgk
    obtain ⟨g, rfl⟩ : ∃ g, f' = g + 1 := ⟨f' - 1, by omega⟩
    have hFs := hF.size
    have hsN := block_lt hNbk
    have hrbr := hR.lt
    obtain ⟨⟨y0, y1, y2⟩, f1, f2⟩ := cells3R hR
    obtain ⟨⟨z0, z1, z2, z3⟩, g0, g1, g2, g3⟩ := cells4 hNbk
    by_cases hlk : kk < s.size
    · cases h41 : (s[kk] == 41) with
      | true =>
        have h41i : ((s[kk].toNat : Int) == 41) = true := by rw [← h41]; exact ref_u8i s[kk] 41 (by omega)
        have hd2 : decide ((s.size : Int) ≤ (kk : Int)) = false := by simp; omega
        obtain ⟨k5, hk5e⟩ : ∃ k5, kk + 1 + skN (s.toList.drop (kk + 1)) = k5 := ⟨_, rfl⟩
        have HE : Hid (opsR f (deep + 1) (s.toList.drop k3) = some (xs, s.toList.drop kk)) := by
          rw [Hid, HO.out, opsR, if_neg (by rw [List.length_drop, toList_length]; omega), not40 hlk, h41, if_pos rfl]; simp
        have HD : Hid (skS ((s.toList.drop kk).drop 1) = s.toList.drop k5) := by
          have e : (s.toList.drop kk).drop 1 = s.toList.drop (kk + 1) := by rw [List.drop_drop]
          rw [Hid, e, skS, List.drop_drop, hk5e]
        clear HO
        have hr9 : RdIs (wr.setCell ⟨rb, 1, none⟩ (.int .i64 ((kk : Int) + 1))).drew.drew rb s (kk + 1) (.slice aoL m capL) := hR.inc
        obtain ⟨i0, hi, hz0, hz1, hz2⟩ := info_parts infoNode
        go_wp2_with fail
        go_region
        all_goals (try go_wp2_with fail)
        go_region
        all_goals (try go_wp2_with (go_at_call 259; refine (skip_any s hs _ rb (kk + 1) _ hr9 (by omega)).mono ?_; rintro e w6 ⟨rfl, hk5, hg6, hr6⟩))
        rw [hk5e] at hr6 hk5
        replace hg6 : wr.grownBy w6 (some rb) := grown_trans (grown_setCell wr rb 1 (.int .i64 ((kk : Int) + 1))) (undrew (undrew hg6))
        have hs6 := hg6.size
        have hnb6 := blk_grown hNbk hg6 hneb
        have hrb6 := hr6.lt
        have hsN6 := block_lt hnb6
        have own6 : w6.ownsRow (rb + 1) 359 4 (.slice aoL m capL) m (cs ++ ds) := owns_keep hoL fun q hq => hg6.block q (hoL.lt q hq).2 (by have := (hoL.lt q hq).1; simp; omega)
        have HOWN : ∀ o : Obj, (w6.drew.alloc o).ownsRow (rb + 1) 359 4 (.slice aoL m capL) m (cs ++ ds) := fun o => World.ownsRow.alloc (show w6.drew.ownsRow _ _ _ _ _ _ from own6) o
        have hvr : (Value.slice aoL m capL).ownBlock ≠ some rb := fun e => by have := (hoL.lt _ e).1; omega
        clear y0 y1 y2 f1 f2 z0 z1 z2 z3 g0 g1 g2 g3 hr9
        obtain ⟨⟨p0, p1, p2⟩, q1, q2⟩ := cells3R hr6
        obtain ⟨⟨x0, x1, x2, x3⟩, _, _, _, _⟩ := cells4 hnb6
        go_region_law (refine step_append_lies _ rfl (.tmp 127) (.tmp 129) 240 rfl (rb + 1) 359 i0 _ 4 56 Tryz.underlying240 hi hz0 hz1 hz2 rfl (by decide) (.slice aoL m capL) m (cs ++ ds) (by simp [Act.eval]) (HOWN _) ⟨w6.heap.size, 0, none⟩ 1 1 [.string (ofBs tx), .bool true, .slice aoA nA capA, .int .u8 0] (by simp [Act.eval]) rfl (World.news_of_block (blk_new w6.drew _)) (by intro u hu; simp at hu; rcases hu with rfl | rfl | rfl | rfl <;> rfl) (by decide) (by unfold maxLen; omega) (by omega) (by simp; omega) (w6.heap.size + 1) (by simp) ?_; intro g7 cap7 w7 hown7 hgrow7 hat7 hlt7; have kR : w7.heap[rb]? = _ := (hgrow7.block rb (by simp; omega) hvr.symm).trans (blk_alloc hr6 _); have hrb7 := block_lt kR; obtain ⟨⟨r0, r1, r2⟩, t1, t2⟩ := cells3R kR)
        all_goals (go_wp2_with fail; go_ret)
        all_goals
          have F6 : Frm w w6 rb (Value.slice ao n cap).ownBlock := hF.trans (Frm.ofGrown hg6 _) hvL
          have hoA6 : w6.ownsRow 0 3 1 (.slice aoA nA capA) xs.length (is.map fun j : Nat => Value.int .i64 (j : Int)) := owns_base (b := Nb + 1) (owns_keep hoA fun q hq => hg6.block q (hoA.lt q hq).2 (by have := (hoA.lt q hq).1; simp; omega)) (fun _ _ => Nat.zero_le _)
          have hrep6 : RepL w6 (fun q => w.heap.size ≤ q ∧ (Value.slice aoL m capL).ownBlock ≠ some q) (cs ++ ds) n m is xs := by
            have := hrep.bounded.move (x := w6) (S' := fun q => w.heap.size ≤ q ∧ (Value.slice aoL m capL).ownBlock ≠ some q) [] (fun q hq => hg6.block q hq.2 (by have := hq.1.1; simp; omega)) (fun q hq => ⟨by have := hq.1.1; omega, hq.1.2.1⟩)
            rwa [List.append_nil] at this
          obtain ⟨A1, A2, A3, A4, A5⟩ := ones_fin (kindS tx) (v := .slice ao n cap) hrbw F6 hvL (by exact ⟨rfl, rfl, rfl, by simp, fun g hg => Below.heap_alloc _ _ _ hg⟩) own6 hgrow7 hown7 hat7 kR hoA6 (fun q hq => ⟨by have := (hoA.lt q hq).1; omega, hvA q hq⟩) hrep6 (fun h => by cases h) htl
          exact ⟨A1, .inr ⟨_, k5, g7, cap7, m, _, by rw [HE.out, Option.map_some, HD.out], by omega, hk5, hnm, by omega, rfl, A2, A3, A4, A5⟩⟩
      | false =>
        have h41i : ((s[kk].toNat : Int) == 41) = false := by rw [← h41]; exact ref_u8i s[kk] 41 (by omega)
        have HO2 : Hid (opsR f (deep + 1) (s.toList.drop k3) = (opsStepR g (deep + 1) (oneS g (deep + 1) (s.toList.drop kk))).map (fun p => (xs ++ p.1, p.2))) := by
          rw [Hid, HO.out, opsR, if_neg (by rw [List.length_drop, toList_length]; omega), not40 hlk, h41, if_neg Bool.false_ne_true]; rfl
        clear HO
        have HC : Calls Tryz.prog 181 #[.pointer (some ⟨rb, 0, none⟩), .int .i64 ((deep : Int) + 1)] wr.drew fun e w' => Ones wr.drew rb s kk (.slice aoL m capL) m (cs ++ ds) (oneS g (deep + 1) (s.toList.drop kk)) e w' :=
          IH g (by omega) wr.drew rb kk (deep + 1) m aoL capL (cs ++ ds) hR hkk (by omega) (by omega) hoL (by omega)
        obtain ⟨i1, hj, hj0, hj1, hj2⟩ := info_parts infoInt
        go_wp2_with fail
        go_region
        go_wp2_with (go_at_call 181; refine HC.mono ?_)
        rintro e w6 ⟨hF6, hres⟩
        replace hF6 := hF6.undrew
        have hs6 := hF6.size
        have hnb6 : w6.heap[Nb]? = _ := (hF6.block Nb hsN hneb hvN).trans hNbk
        have hsN6 := block_lt hnb6
        obtain ⟨⟨x0, x1, x2, x3⟩, t0, t1, t2, t3⟩ := cells4 hnb6
        rcases hres with ⟨ho, rfl, k9, ao9, n9, cap9, hr9⟩ | ⟨x, k', g6, cap6, n', ds', ho, hkk', hk's, hnn, hnk', rfl, hr6, ho6, hg6, hrep6⟩
        · have HE : Hid (opsR f (deep + 1) (s.toList.drop k3) = none) := by rw [Hid, HO2.out, ho]; rfl
          clear HO2
          go_wp2_with fail
          go_ret
          exact ⟨hF.trans hF6 hvL, .inl ⟨by rw [HE.out]; rfl, rfl, k9, ao9, n9, cap9, hr9⟩⟩
        · have HE : Hid (opsR f (deep + 1) (s.toList.drop k3) = (opsR g (deep + 1) (s.toList.drop k')).map (fun p => ((xs ++ [x]) ++ p.1, p.2))) := by rw [Hid, HO2.out, ho, opsStepR]; cases opsR g (deep + 1) (s.toList.drop k') <;> simp
          clear HO2
          have hn0 : decide ((n' : Int) < 0) = false := by simp
          have hoA6 : w6.ownsRow (Nb + 1) 3 1 (.slice aoA nA capA) xs.length (is.map fun j : Nat => Value.int .i64 (j : Int)) := owns_keep hoA fun q hq => hF6.block q (hoA.lt q hq).2 (by have := (hoA.lt q hq).1; omega) (hvA q hq)
          have hxl : xs.length ≤ 400 := by omega
          have HREP : Hid _ := hrep
          have HREP6 : Hid _ := hrep6
          clear hrep hrep6
          go_wp2_with (at_builtin; refine wpList_append_lies _ rfl (.tmp 85) (.tmp 87) 30 rfl (Nb + 1) 3 i1 (.int .i64 0) 1 8 Tryz.underlying30 hj hj0 hj1 hj2 rfl (by decide) _ _ _ rfl (hoA6.alloc _) ⟨w6.heap.size, 0, none⟩ 1 1 [.int .i64 (n' : Int)] rfl rfl (World.news_of_block (blk_new w6 _)) ?d2 ?d3 ?d4 ?d5 ?d6 (w6.heap.size + 1) ?d7 ?_)
          case d2 => intro u hu; simp at hu; subst hu; rfl
          case d3 => decide
          case d4 => unfold maxLen; omega
          case d5 => omega
          case d6 => simp; omega
          case d7 => simp
          intro g7 cap7 w7 hown7 hgrow7 hat7 hlt7
          obtain ⟨B1, B2, B3, B4, B5, B6, B7, B8, B9⟩ := ops_next hrbw hNw hsN hF hvL hvN hoA hvA hoL HREP.out hNbk hF6 hr6 ho6 hg6 HREP6.out hgrow7 hown7 hat7
          have kN7 : w7.heap[Nb]? = _ := (hgrow7.block Nb (by simp; omega) (fun e => by have := (hoA.lt Nb e.symm).1; omega)).trans (blk_alloc hnb6 _)
          obtain ⟨⟨l0, l1, l2, l3⟩, m0, m1, m2, m3⟩ := cells4 kN7
          go_wp2_with fail
          go_roundg (s.size - k')
          case measure => omega
          case rel => exact ⟨g, k', n' + 1, xs ++ [x], is ++ [n'], _, cap6, ds ++ ds', _, _, cap7, rfl, by omega, hk's, by omega, by omega, by omega, by omega, by simp; omega, HE, B1, B2, B3, B4, B5, B6, B7, B8, B9⟩
    · have hd1 : decide ((kk : Int) < (s.size : Int)) = false := by simp; omega
      have hd2 : decide ((s.size : Int) ≤ (kk : Int)) = true := by simp; omega
      have HE : Hid (opsR f (deep + 1) (s.toList.drop k3) = none) := by
        rw [Hid, HO.out, List.drop_of_length_le (by rw [toList_length]; omega), opsR]; rfl
      clear HO hrep hoA hvA
      go_wp2_with fail
      go_region
      all_goals (try go_wp2_with fail)
      go_region
      all_goals (try go_wp2_with fail)
      go_ret
      exact ⟨⟨hF.os, hF.tape, hF.output, hF.size, hF.block⟩, .inl ⟨by rw [HE.out]; rfl, rfl, kk, aoL, m, capL, hR⟩⟩
end Go.Proofs.YtilfjpmeededmaaGreatDoor

namespace Go.Proofs.YtilfjpmeededmaaGreatDoor
open Go.RowKit
theorem one_any (s : ByteArray) (hs : s.size ≤ 400) (f : Nat) : OneSpec s f := by
  induction f using Nat.strongRecOn with
  | ind f ih =>
    intro w rb k deep n ao cap cs h hk hf hd hown hnk
    obtain ⟨k1, hk1e⟩ : ∃ k1, k + skN (s.toList.drop k) = k1 := ⟨_, rfl⟩
    have hk1 : k1 ≤ s.size := by have := skN_le (s.toList.drop k); rw [List.length_drop, toList_length] at this; omega
    have e1 : skS (s.toList.drop k) = s.toList.drop k1 := by rw [skS, List.drop_drop, hk1e]
    cases f with
    | zero =>
      rw [oneS]
      exact one_none s hs w rb k deep n ao cap cs h hk k1 hk1e (.inl (by omega))
    | succ f =>
      rw [oneS, e1]
      by_cases hlt : k1 < s.size
      · rw [not40 hlt]
        cases h40 : (s[k1] == 40) with
        | true =>
          rw [if_pos rfl]
          obtain ⟨k2, hk2e⟩ : ∃ k2, k1 + 1 + skN (s.toList.drop (k1 + 1)) = k2 := ⟨_, rfl⟩
          have hk2 : k2 ≤ s.size := by have := skN_le (s.toList.drop (k1 + 1)); rw [List.length_drop, toList_length] at this; omega
          have e2 : skS ((s.toList.drop k1).drop 1) = s.toList.drop k2 := by
            have e : (s.toList.drop k1).drop 1 = s.toList.drop (k1 + 1) := by rw [List.drop_drop]
            rw [e, skS, List.drop_drop, hk2e]
          rw [e2]
          obtain ⟨tx, k3, et, ha, hb, hc, htl, HT⟩ := token_anyR s hs k2 hk2
          rw [et]
          simp only
          cases hq : (headR tx && decide (deep < 20)) with
          | true =>
            rw [if_pos rfl]
            rw [Bool.and_eq_true, decide_eq_true_eq] at hq
            have hne : tx ≠ [] := by intro e; subst e; have := hq.1; cases this
            have h23 := hc hne
            exact one_list s hs f (fun f' h => ih f' (by omega)) w rb k deep n ao cap cs h hk hown hnk k1 hk1e hlt h40 k2 hk2e tx k3 h23 hb HT htl hq.1 hq.2 (by omega)
          | false =>
            rw [if_neg Bool.false_ne_true]
            refine one_headbad s hs w rb k deep n ao cap cs h hk k1 hk1e hlt h40 k2 hk2e tx k3 HT htl ?_
            rw [Bool.and_eq_false_iff, decide_eq_false_iff_not] at hq
            rcases hq with h | h
            · exact .inl h
            · exact .inr (by omega)
        | false =>
          rw [if_neg Bool.false_ne_true]
          cases hb : bracketB s[k1].toNat with
          | true =>
            have et : tokS (s.toList.drop k1) = ([], s.toList.drop k1) := by unfold tokS; rw [if_pos]; right; rw [not40 hlt]; exact hb
            rw [et]
            exact one_none s hs w rb k deep n ao cap cs h hk k1 hk1e (.inr ⟨hlt, hb, h40⟩)
          | false =>
            have et : tokS (s.toList.drop k1) = (tkText (s.toList.drop k1), skS ((s.toList.drop k1).drop (tkLen (s.toList.drop k1)))) := by
              unfold tokS; rw [if_neg]
              rintro (h | h)
              · rw [List.length_drop, toList_length] at h; omega
              · rw [not40 hlt, hb] at h; cases h
            rw [et]
            simp only
            obtain ⟨tx, htx⟩ : ∃ tx, tkText (s.toList.drop k1) = tx := ⟨_, rfl⟩
            have htl : tx.length ≤ maxLen := by
              rw [← htx]; unfold tkText; split
              · rw [List.length_take, List.length_drop, toList_length]; unfold maxLen; omega
              · simp
            rw [htx]
            cases hat : atomS tx with
            | true =>
              have hne : tx ≠ [] := by intro e; subst e; cases hat
              rw [if_pos rfl]
              exact one_leaf s hs w rb k deep n ao cap cs h hk hown (by omega) k1 hk1e hlt h40 hb tx hne htx hat htl _ rfl
            | false =>
              rw [if_neg Bool.false_ne_true]
              exact one_bad s hs w rb k deep n ao cap cs h hk k1 hk1e hlt h40 hb tx htx hat htl
      · have e0 : s.toList.drop k1 = [] := List.drop_of_length_le (by rw [toList_length]; omega)
        rw [e0]
        exact one_none s hs w rb k deep n ao cap cs h hk k1 hk1e (.inl (by omega))
end Go.Proofs.YtilfjpmeededmaaGreatDoor

namespace Go.Proofs.YtilfjpmeededmaaGreatDoor
open Go.RowKit
def Prsd (w : World) (o : Option Tr) (e : Ending) (w' : World) : Prop := Below w.heap.size w w' ∧
  ((o = none ∧ ∃ ao m cap, e = .returned (.tuple #[.agg #[.slice ao m cap], .bool false])) ∨
   (∃ g cap n cs t, o = some t ∧ n ≤ 400 ∧ e = .returned (.tuple #[.agg #[.slice (some ⟨g, 0, none⟩) (n + 1) cap], .bool true]) ∧
      w'.ownsRow w.heap.size 359 4 (.slice (some ⟨g, 0, none⟩) (n + 1) cap) (n + 1) cs ∧ Rep w' (fun _ => True) cs 0 n t))
def wholeO (o : Option (Tr × Bs)) : Option Tr := match o with | some (t, []) => some t | _ => none
theorem refS_whole (l : Bs) : refS l = wholeO (oneS (2 * l.length + 1) 0 l) := rfl
theorem below_frm {w w' : World} {o o' : Obj} (F : Frm ((w.alloc o).alloc o') w' (w.heap.size + 1) none) (v : Value) : Below w.heap.size w (w'.setCell ⟨w.heap.size, 0, none⟩ v) := by
  have h := F.size
  simp only [World.size_alloc] at h
  suffices hB : Below w.heap.size w w' from hB.setCell (Nat.le_refl _) _
  refine ⟨F.os, F.tape, F.output, by omega, fun g hg => ?_⟩
  rw [F.block g (by simp only [World.size_alloc]; omega) (by omega) (by intro h; cases h), Below.heap_alloc _ _ _ (by simp only [World.size_alloc]; omega), Below.heap_alloc _ _ _ hg]
theorem res_frm {w w' : World} {o o' : Obj} (F : Frm ((w.alloc o).alloc o') w' (w.heap.size + 1) none) : w'.heap[w.heap.size]? = some o := by
  rw [F.block _ (by simp only [World.size_alloc]; omega) (by omega) (by intro h; cases h), Below.heap_alloc _ _ _ (by simp only [World.size_alloc]; omega)]
  exact heap_alloc_new w o
theorem cells1 {x : World} {b : Nat} {a0 : Value} {T : TypeId} (h : x.heap[b]? = some (.cells #[a0] T (0, 0))) : x.cell? ⟨b, 0, none⟩ = some a0 ∧ x.frozen? ⟨b, 0, none⟩ = false := by
  simp [World.cell?, World.frozen?, h]
theorem new1_cell {x : World} {b : Nat} {a0 v : Value} {T : TypeId} (h : x.heap[b]? = some (.cells #[a0] T (0, 0))) : (x.setCell ⟨b, 0, none⟩ v).cell? ⟨b, 0, none⟩ = some v := by
  simp [World.cell?, World.setCell, Array.getElem?_modify, h]
theorem wholeO_some {t : Tr} {s : ByteArray} {k : Nat} (hk : k = s.size) : wholeO (some (t, s.toList.drop k)) = some t := by
  have e : s.toList.drop k = [] := List.drop_of_length_le (by rw [toList_length]; omega)
  rw [e]; rfl
theorem wholeO_none {t : Tr} {s : ByteArray} {k : Nat} (hk : k < s.size) : wholeO (some (t, s.toList.drop k)) = none := by
  rw [drop_cons s k hk]; rfl
set_option maxHeartbeats 4000000 in
set_option maxRecDepth 100000 in
theorem refParse_short (s : ByteArray) (w : World) (hs : s.size ≤ 400) (o : Option (Tr × Bs))
    (HC : ∀ (w : World) (rb : Nat), RdIs w rb s 0 (.slice none 0 0) → Calls Tryz.prog 181 #[.pointer (some ⟨rb, 0, none⟩), .int .i64 0] w fun e w' => Ones w rb s 0 (.slice none 0 0) 0 [] o e w') :
    Calls Tryz.prog 108 #[.string s] w fun e w' => Prsd w (wholeO o) e w' := by
  have hd : decide ((s.size : Int) ≤ 400) = true := by simp; omega
  have hrd : RdIs ((w.alloc (.cells #[.slice none 0 0] 242)).alloc (.cells #[.string s, .int .i64 0, .slice none 0 0] 357)) (w.heap.size + 1) s 0 (.slice none 0 0) := by
    have := blk_new (w.alloc (.cells #[.slice none 0 0] 242)) (.cells #[.string s, .int .i64 0, .slice none 0 0] 357)
    rw [World.size_alloc] at this; exact this
  go_enter Tryz.func108, Tryz.ntmps108
  go_wp2_with (go_at_call 181; refine (HC _ _ hrd).mono ?_)
  clear HC
  rintro e w2 ⟨F, ⟨rfl, rfl, k', ao, m, cap, hr⟩ | ⟨t, k', g, cap, n', ds, rfl, hk0, hk, hn0, hn, rfl, hr, hown, hg, hrep⟩⟩
  · obtain ⟨⟨y0, y1, y2⟩, f1, f2⟩ := cells3R hr
    obtain ⟨z0, g0⟩ := cells1 (res_frm F)
    have HB : Hid (Below w.heap.size w (w2.setCell ⟨w.heap.size, 0, none⟩ (.slice ao m cap))) := below_frm F _
    have q0 := new1_cell (res_frm F) (v := .slice ao m cap)
    clear hrd F
    go_wp2_with fail
    go_region
    go_wp2_with fail
    exact bodyPost_ret (v := .tuple #[.agg #[.slice ao m cap], .bool false]) (by simp [results, Tryz.results108, go_sem, q0]) rfl ⟨HB.out.drew, .inl ⟨rfl, _, _, _, rfl⟩⟩
  · obtain ⟨⟨y0, y1, y2⟩, f1, f2⟩ := cells3R hr
    obtain ⟨z0, g0⟩ := cells1 (res_frm F)
    have HB : Hid (Below w.heap.size w (w2.setCell ⟨w.heap.size, 0, none⟩ (.slice (some ⟨g, 0, none⟩) (n' + 1) cap))) := below_frm F _
    have q0 := new1_cell (res_frm F) (v := .slice (some ⟨g, 0, none⟩) (n' + 1) cap)
    have hnn : decide ((0 : Int) ≤ (n' : Int)) = true := by simp
    by_cases hks : k' = s.size
    · have HX : Hid (Prsd w (wholeO (some (t, s.toList.drop k'))) (.returned (.tuple #[.agg #[.slice (some ⟨g, 0, none⟩) (n' + 1) cap], .bool true])) (w2.setCell ⟨w.heap.size, 0, none⟩ (.slice (some ⟨g, 0, none⟩) (n' + 1) cap)).drew) := by
        rw [Hid, wholeO_some hks]
        have hs2 := F.size
        simp only [World.size_alloc] at hs2
        have hg2 : w.heap.size + 2 ≤ g := by
          rcases hg with h | h
          · cases h
          · simpa only [World.size_alloc] using h
        refine ⟨HB.out.drew, .inr ⟨g, cap, n', [] ++ ds, t, rfl, by omega, rfl, ?_, ?_⟩⟩
        · exact owns_base (ownsRow_setCell_below hown (by show w.heap.size < w.heap.size + 1 + 1; omega) _) fun q hq => by have : g = q := Option.some.inj hq; omega
        · have := hrep.move (x := (w2.setCell ⟨w.heap.size, 0, none⟩ (.slice (some ⟨g, 0, none⟩) (n' + 1) cap)).drew) (S' := fun _ => True) [] (fun q hq => Below.heap_setCell _ _ _ _ (by have := hq.1; simp only [World.size_alloc] at this; show q ≠ w.heap.size; omega)) (fun _ _ => trivial)
          rwa [List.append_nil] at this
      have hke : ((k' : Int) == (s.size : Int)) = true := by rw [hks]; simp
      clear hrd F hown hrep HB hg hks
      go_wp2_with fail
      go_region
      all_goals (try go_wp2_with fail)
      all_goals exact bodyPost_ret (v := .tuple #[.agg #[.slice (some ⟨g, 0, none⟩) (n' + 1) cap], .bool true]) (by simp [results, Tryz.results108, go_sem, q0]) rfl HX.out
    · have HX : Hid (Prsd w (wholeO (some (t, s.toList.drop k'))) (.returned (.tuple #[.agg #[.slice (some ⟨g, 0, none⟩) (n' + 1) cap], .bool false])) (w2.setCell ⟨w.heap.size, 0, none⟩ (.slice (some ⟨g, 0, none⟩) (n' + 1) cap)).drew) := by
        rw [Hid, wholeO_none (by omega)]
        exact ⟨HB.out.drew, .inl ⟨rfl, _, _, _, rfl⟩⟩
      have hke : ((k' : Int) == (s.size : Int)) = false := by simp; omega
      clear hrd F hown hrep HB hg hks
      go_wp2_with fail
      go_region
      all_goals (try go_wp2_with fail)
      all_goals exact bodyPost_ret (v := .tuple #[.agg #[.slice (some ⟨g, 0, none⟩) (n' + 1) cap], .bool false]) (by simp [results, Tryz.results108, go_sem, q0]) rfl HX.out
theorem long_frm (w : World) (o o' : Obj) : Frm ((w.alloc o).alloc o') ((w.alloc o).alloc o') (w.heap.size + 1) none := ⟨rfl, rfl, rfl, Nat.le_refl _, fun _ _ _ _ => rfl⟩
set_option maxHeartbeats 4000000 in
set_option maxRecDepth 100000 in
theorem refParse_long (s : ByteArray) (w : World) (h4 : 400 < s.size) :
    Calls Tryz.prog 108 #[.string s] w fun e w' => Prsd w none e w' := by
  have hd : decide ((s.size : Int) ≤ 400) = false := by simp; omega
  obtain ⟨w2, hw2⟩ : ∃ w2, w2 = (w.alloc (.cells #[.slice none 0 0] 242)).alloc (.cells #[.string s, .int .i64 0, .slice none 0 0] 357) := ⟨_, rfl⟩
  have F := long_frm w (.cells #[.slice none 0 0] 242) (.cells #[.string s, .int .i64 0, .slice none 0 0] 357)
  have hrd : RdIs ((w.alloc (.cells #[.slice none 0 0] 242)).alloc (.cells #[.string s, .int .i64 0, .slice none 0 0] 357)) (w.heap.size + 1) s 0 (.slice none 0 0) := by
    have := blk_new (w.alloc (.cells #[.slice none 0 0] 242)) (.cells #[.string s, .int .i64 0, .slice none 0 0] 357)
    rw [World.size_alloc] at this; exact this
  obtain ⟨⟨y0, y1, y2⟩, f1, f2⟩ := cells3R hrd
  obtain ⟨z0, g0⟩ := cells1 (res_frm F)
  clear hrd F
  go_enter Tryz.func108, Tryz.ntmps108
  go_wp2_with fail
  go_region
  all_goals (try go_wp2_with fail)
  all_goals exact bodyPost_ret (v := .tuple #[.agg #[.slice none 0 0], .bool false]) (by simp [results, Tryz.results108, go_sem]) rfl ⟨(((Below.refl _ w).alloc (Nat.le_refl _) _).alloc (by simp [World.size_alloc]) _).drew, .inl ⟨rfl, _, _, _, rfl⟩⟩
theorem refParse_any (s : ByteArray) (w : World) : Calls Tryz.prog 108 #[.string s] w fun e w' => Prsd w (parseS s.toList) e w' := by
  by_cases h : s.size ≤ 400
  · rw [← ref_same _ (by rw [toList_length]; exact h), refS_whole]
    refine refParse_short s w h _ fun w rb hr => ?_
    have := one_any s h (2 * s.toList.length + 1) w rb 0 0 0 none 0 [] hr (Nat.zero_le _) (by rw [toList_length]; omega) (by omega) ⟨rfl, .inl ⟨rfl, rfl⟩⟩ (Nat.le_refl _)
    exact this
  · have e : parseS s.toList = none := by unfold parseS; rw [if_pos (by rw [toList_length]; omega)]
    rw [e]
    exact refParse_long s w (by omega)
end Go.Proofs.YtilfjpmeededmaaGreatDoor

namespace Go.Proofs.YtilfjpmeededmaaGreatDoor
open Go.RowKit
end Go.Proofs.YtilfjpmeededmaaGreatDoor

namespace Go.Proofs.YtilfjpmeededmaaGreatDoor
open Go.RowKit
end Go.Proofs.YtilfjpmeededmaaGreatDoor

/- What one of package curtainref's reader reads: no bracket stands next, and no token either. -/
import Derived.Test.YtilfjpmeededmaaGreatDoorRefO
namespace Go.Proofs.YtilfjpmeededmaaGreatDoor
open Go.RowKit

set_option maxHeartbeats 4000000 in
set_option maxRecDepth 100000 in
theorem one_bad (s : ByteArray) (hs : s.size ≤ 400) (w : World) (rb k deep n : Nat) (ao : Option Addr) (cap : Nat) (cs : List Value) (h : RdIs w rb s k (.slice ao n cap)) (hk : k ≤ s.size)
    (k1 : Nat) (hk1e : k + skN (s.toList.drop k) = k1) (hlt : k1 < s.size) (h40 : (s[k1] == 40) = false) (hb : bracketB s[k1].toNat = false) (tx : Bs) (htx : tkText (s.toList.drop k1) = tx) (hat : atomS tx = false) (htl : tx.length ≤ maxLen) :
    Calls Tryz.prog 181 #[.pointer (some ⟨rb, 0, none⟩), .int .i64 deep] w fun e w' => Ones w rb s k (.slice ao n cap) n cs none e w' := by
  have HA : ∀ x : World, Calls Tryz.prog 262 #[.string (ofBs tx)] x fun e w' => e = .returned (.bool false) ∧ Below x.heap.size x w' := by
    intro x; have := refAtom_any (ofBs tx) x (by rw [ofBs_size]; exact htl); rw [ofBs_toList, hat] at this; exact this
  clear hat
  go_enter Tryz.func181, Tryz.ntmps181
  go_wp2_with (go_at_call 259; refine (skip_any s hs _ rb k _ h hk).mono ?_; rintro e w2 ⟨rfl, hk1, hg1, hr1⟩)
  rw [hk1e] at hr1
  have hrb := hr1.lt
  have hneb : w2.heap.size ≠ rb := by omega
  obtain ⟨⟨y0, y1, y2⟩, f1, f2⟩ := cells3 hr1
  have hi40 : ((s[k1].toNat : Int) == 40) = false := by rw [← h40]; exact ref_u8i s[k1] 40 (by omega)
  have hr2 : ∀ o : Obj, RdIs (w2.alloc o).drew rb s k1 (.slice ao n cap) := fun o => by unfold RdIs; exact blk_alloc hr1 _
  go_region
  all_goals (try go_wp2_with (go_at_call 260; refine (token_some s hs _ rb k1 _ (hr2 _) hlt hb).mono ?_))
  rintro e w3 ⟨rfl, k', hk', hks, hg3, hr3⟩
  rw [htx]
  replace hg3 := undrew hg3
  have hrb3 := hr3.lt
  have hnb : w3.heap[w2.heap.size]? = some (.cells #[.string ⟨#[]⟩, .bool false, .slice none 0 0, .int .u8 0] 359 (0, 0)) := blk_grown (blk_new w2 _) hg3 hneb
  have hsz3 := block_lt hnb
  obtain ⟨⟨z0, z1, z2, z3⟩, g0, g1, g2, g3⟩ := cells4 hnb
  have G3 : w.grownBy w3 (some rb) := grown_trans (grown_alloc hg1 _) hg3
  have hs1 := hg1.size
  cases htx0 : tx with
  | nil =>
    subst htx0
    have hem : (ofBs ([] : Bs)).toList.isEmpty = true := by rw [ofBs_toList]; rfl
    go_wp2_with fail
    go_ret
    have G4 := grown_new G3 hs1 0 (.string (ofBs []))
    exact ⟨⟨G4.os, G4.tape, G4.output, G4.size, fun g h1 h2 _ => G4.block g h1 (by simpa using h2)⟩, .inl ⟨rfl, rfl, k', ao, n, cap, blk_setOther hr3 hneb.symm 0 _⟩⟩
  | cons c r =>
    have hem : (ofBs (c :: r)).toList.isEmpty = false := by rw [ofBs_toList]; rfl
    rw [htx0] at HA
    go_wp2_with (go_at_call 262; refine (HA _).mono ?_; rintro e w4 ⟨rfl, hb4⟩; have hnb4 := blk_below (blk4_set0 hnb _) hb4; obtain ⟨⟨u0, u1, u2, u3⟩, v0, v1, v2, v3⟩ := cells4 hnb4; have hr4 := blk_below (blk_setOther hr3 hneb.symm 0 _) hb4)
    go_ret
    have G4 := grown_trans (grown_new G3 hs1 0 (.string (ofBs (c :: r)))) (grown_below hb4 _)
    exact ⟨⟨G4.os, G4.tape, G4.output, G4.size, fun g h1 h2 _ => G4.block g h1 (by simpa using h2)⟩, .inl ⟨rfl, rfl, k', ao, n, cap, hr4⟩⟩

set_option maxHeartbeats 4000000 in
set_option maxRecDepth 100000 in
theorem one_none (s : ByteArray) (hs : s.size ≤ 400) (w : World) (rb k deep n : Nat) (ao : Option Addr) (cap : Nat) (cs : List Value) (h : RdIs w rb s k (.slice ao n cap)) (hk : k ≤ s.size)
    (k1 : Nat) (hk1e : k + skN (s.toList.drop k) = k1) (hn : k1 = s.size ∨ ∃ hlt : k1 < s.size, bracketB s[k1].toNat = true ∧ (s[k1] == 40) = false) :
    Calls Tryz.prog 181 #[.pointer (some ⟨rb, 0, none⟩), .int .i64 deep] w fun e w' => Ones w rb s k (.slice ao n cap) n cs none e w' := by
  have HT : ∀ x : World, RdIs x rb s k1 (.slice ao n cap) → Calls Tryz.prog 260 #[.pointer (some ⟨rb, 0, none⟩)] x fun e w' => e = .returned (.string ⟨#[]⟩) ∧ x = w' := by
    intro x hx
    refine (token_none s x rb k1 _ hx ?_ ?_).mono fun e w' h => ⟨h.1, h.2.symm⟩
    · rcases hn with h | ⟨h, _⟩ <;> omega
    · rcases hn with h | ⟨h, h2, _⟩
      · exact .inl h
      · exact .inr ⟨h, h2⟩
  go_enter Tryz.func181, Tryz.ntmps181
  go_wp2_with (go_at_call 259; refine (skip_any s hs _ rb k _ h hk).mono ?_; rintro e w2 ⟨rfl, hk1, hg1, hr1⟩)
  rw [hk1e] at hr1
  have hrb := hr1.lt
  have hneb : w2.heap.size ≠ rb := by omega
  obtain ⟨⟨y0, y1, y2⟩, f1, f2⟩ := cells3 hr1
  have hs1 := hg1.size
  have hr2 : ∀ o : Obj, RdIs (w2.alloc o).drew rb s k1 (.slice ao n cap) := fun o => by unfold RdIs; exact blk_alloc hr1 _
  have G4 : ∀ o : Obj, w.grownBy (w2.alloc o).drew (some rb) := fun o => grown_drew (grown_alloc hg1 _)
  rcases hn with hn | ⟨hlt, hbr, h40⟩
  · have hd1 : decide ((k1 : Int) < (s.size : Int)) = false := by simp; omega
    have hd2 : decide (k1 < s.size) = false := by simp; omega
    go_region
    all_goals (try go_wp2_with (go_at_call 260; refine (HT _ (hr2 _)).mono ?_; rintro e w3 ⟨rfl, rfl⟩))
    go_ret
    have G := G4 (.cells #[.string ⟨#[]⟩, .bool false, .slice none 0 0, .int .u8 0] 359)
    exact ⟨⟨G.os, G.tape, G.output, G.size, fun g h1 h2 _ => G.block g h1 (by simpa using h2)⟩, .inl ⟨rfl, rfl, k1, ao, n, cap, hr2 _⟩⟩
  · have hi40 : ((s[k1].toNat : Int) == 40) = false := by rw [← h40]; exact ref_u8i s[k1] 40 (by omega)
    go_region
    all_goals (try go_wp2_with (go_at_call 260; refine (HT _ (hr2 _)).mono ?_; rintro e w3 ⟨rfl, rfl⟩))
    go_ret
    have G := G4 (.cells #[.string ⟨#[]⟩, .bool false, .slice none 0 0, .int .u8 0] 359)
    exact ⟨⟨G.os, G.tape, G.output, G.size, fun g h1 h2 _ => G.block g h1 (by simpa using h2)⟩, .inl ⟨rfl, rfl, k1, ao, n, cap, hr2 _⟩⟩
end Go.Proofs.YtilfjpmeededmaaGreatDoor

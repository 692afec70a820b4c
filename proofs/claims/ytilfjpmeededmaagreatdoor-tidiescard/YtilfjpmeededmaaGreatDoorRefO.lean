/- What one of package curtainref's reader reads: no bracket stands next. -/
import Derived.Test.YtilfjpmeededmaaGreatDoorRefN
namespace Go.Proofs.YtilfjpmeededmaaGreatDoor
open Go.RowKit

theorem undrew {a b : World} {row : Option Nat} (h : a.drew.grownBy b row) : a.grownBy b row := ⟨h.os, h.tape, h.output, h.size, h.block⟩
theorem not40 {s : ByteArray} {k : Nat} (h : k < s.size) : (s.toList.drop k).headD 0 = s[k] := (ref_head s k h).2

theorem blk4_set0 {x : World} {b : Nat} {a0 a1 a2 a3 : Value} {T : TypeId} (h : x.heap[b]? = some (.cells #[a0, a1, a2, a3] T (0, 0))) (v : Value) : (x.setCell ⟨b, 0, none⟩ v).heap[b]? = some (.cells #[v, a1, a2, a3] T (0, 0)) := by
  simp [World.setCell, Array.getElem?_modify, h]
theorem blk_setOther {x : World} {b b' : Nat} {o : Obj} (h : x.heap[b]? = some o) (hne : b ≠ b') (off : Nat) (v : Value) : (x.setCell ⟨b', off, none⟩ v).heap[b]? = some o := by
  rw [Below.heap_setCell _ _ _ _ hne]; exact h

set_option maxHeartbeats 4000000 in
set_option maxRecDepth 100000 in
theorem one_leaf (s : ByteArray) (hs : s.size ≤ 400) (w : World) (rb k deep n : Nat) (ao : Option Addr) (cap : Nat) (cs : List Value) (h : RdIs w rb s k (.slice ao n cap)) (hk : k ≤ s.size)
    (hown : w.ownsRow (rb + 1) 359 4 (.slice ao n cap) n cs) (hn : n ≤ 1000)
    (k1 : Nat) (hk1e : k + skN (s.toList.drop k) = k1) (hlt : k1 < s.size) (h40 : (s[k1] == 40) = false) (hb : bracketB s[k1].toNat = false) (tx : Bs) (hne : tx ≠ []) (htx : tkText (s.toList.drop k1) = tx) (hat : atomS tx = true) (htl : tx.length ≤ maxLen) (o : Option (Tr × Bs))
    (ho : o = some (Tr.mk (kindS tx) tx false [], skS ((s.toList.drop k1).drop (tkLen (s.toList.drop k1))))) :
    Calls Tryz.prog 181 #[.pointer (some ⟨rb, 0, none⟩), .int .i64 deep] w fun e w' => Ones w rb s k (.slice ao n cap) n cs o e w' := by
  obtain ⟨i0, hi, hz0, hz1, hz2⟩ := info_parts infoNode
  have HA : ∀ x : World, Calls Tryz.prog 262 #[.string (ofBs tx)] x fun e w' => e = .returned (.bool true) ∧ Below x.heap.size x w' := by
    intro x; have := refAtom_any (ofBs tx) x (by rw [ofBs_size]; exact htl); rw [ofBs_toList, hat] at this; exact this
  clear hat
  go_enter Tryz.func181, Tryz.ntmps181
  go_wp2_with (go_at_call 259; refine (skip_any s hs _ rb k _ h hk).mono ?_; rintro e w2 ⟨rfl, hk1, hg1, hr1⟩)
  rw [hk1e] at hr1
  have hrb := hr1.lt
  have hneb : w2.heap.size ≠ rb := by omega
  obtain ⟨⟨y0, y1, y2⟩, f1, f2⟩ := cells3 hr1
  have hi40 : ((s[k1].toNat : Int) == 40) = false := by rw [← h40]; exact ref_u8i s[k1] 40 (by omega)
  go_region
  have hr2 : ∀ o : Obj, RdIs (w2.alloc o).drew rb s k1 (.slice ao n cap) := fun o => by unfold RdIs; exact blk_alloc hr1 _
  all_goals (try go_wp2_with (go_at_call 260; refine (token_some s hs _ rb k1 _ (hr2 _) hlt hb).mono ?_))
  rintro e w3 ⟨rfl, k', hk', hks, hg3, hr3⟩
  have hkk : k < k' := by rw [hk']; have : 0 < tkLen (s.toList.drop k1) := by unfold tkLen; omega
                          omega
  have hok : o = some (Tr.mk (kindS tx) tx false [], s.toList.drop k') := by rw [ho, hk', skS, ← List.drop_drop, ← List.drop_drop]
  clear ho hk'
  rw [htx]
  replace hg3 := undrew hg3
  have hrb3 := hr3.lt
  have hnb : w3.heap[w2.heap.size]? = some (.cells #[.string ⟨#[]⟩, .bool false, .slice none 0 0, .int .u8 0] 359 (0, 0)) := blk_grown (blk_new w2 _) hg3 hneb
  have hsz3 := block_lt hnb
  obtain ⟨⟨z0, z1, z2, z3⟩, g0, g1, g2, g3⟩ := cells4 hnb
  have hem : (ofBs tx).toList.isEmpty = false := by rw [ofBs_toList]; cases tx with | nil => exact absurd rfl hne | cons => rfl
  go_wp2_with (go_at_call 262; refine (HA _).mono ?_; rintro e w4 ⟨rfl, hb4⟩; have hnb4 := blk_below (blk4_set0 hnb _) hb4; obtain ⟨⟨u0, u1, u2, u3⟩, v0, v1, v2, v3⟩ := cells4 hnb4; have hr4 := blk_below (blk_setOther hr3 hneb.symm 0 _) hb4)
  have hs1 := hg1.size
  have hs3 := hg3.size
  rw [World.size_alloc] at hs3
  have hs4 := hb4.size
  have hs4' : w3.heap.size ≤ w4.heap.size := by simpa [World.setCell] using hs4
  have K4 : ∀ g, g < w.heap.size → g ≠ rb → w4.heap[g]? = w.heap[g]? := by
    intro g h1 h2
    rw [hb4.block g (by simp [World.setCell]; omega), Below.heap_setCell _ _ _ _ (by show g ≠ w2.heap.size; omega), hg3.block g (by simp; omega) (by simpa using h2), Below.heap_alloc _ _ _ (by omega), hg1.block g h1 (by simpa using h2)]
  have own4 : w4.ownsRow (rb + 1) 359 4 (.slice ao n cap) n cs := owns_keep hown fun g hg => K4 g (hown.lt g hg).2 (by have := (hown.lt g hg).1; omega)
  have HOWN : ∀ o : Obj, (w4.drew.alloc o).ownsRow (rb + 1) 359 4 (.slice ao n cap) n cs := fun o => World.ownsRow.alloc (show w4.drew.ownsRow _ _ _ _ _ _ from own4) o
  have hrb4 := block_lt hr4
  have hvr : (Value.slice ao n cap).ownBlock ≠ some rb := fun e => by have := (hown.lt _ e).1; omega
  obtain ⟨⟨p0, p1, p2⟩, q1, q2⟩ := cells3 hr4
  go_region_law (refine step_append_lies _ rfl (.tmp 127) (.tmp 129) 240 rfl (rb + 1) 359 i0 _ 4 56 Tryz.underlying240 hi hz0 hz1 hz2 rfl (by decide) (.slice ao n cap) n cs (by simp [Act.eval]) (HOWN _) ⟨w4.heap.size, 0, none⟩ 1 1 [.string (ofBs tx), .bool false, .slice none 0 0, .int .u8 0] (by simp [Act.eval]) rfl (World.news_of_block (blk_new w4.drew _)) (by intro u hu; simp at hu; rcases hu with rfl | rfl | rfl | rfl <;> rfl) (by decide) (by unfold maxLen; omega) (by omega) (by simp; omega) (w4.heap.size + 1) (by simp) ?_; intro g5 cap5 w5 hown5 hgrow5 hat5 hlt5; have kR : w5.heap[rb]? = _ := (hgrow5.block rb (by simp; omega) hvr.symm).trans (blk_alloc hr4 _); have hrb5 := block_lt kR; obtain ⟨⟨r0, r1, r2⟩, t1, t2⟩ := cells3 kR)
  all_goals (go_wp2_with fail; go_ret)
  all_goals
    have F4 : Frm w w4 rb (Value.slice ao n cap).ownBlock := ⟨hb4.os.trans (hg3.os.trans hg1.os), hb4.tape.trans (hg3.tape.trans hg1.tape), hb4.output.trans (hg3.output.trans hg1.output), by omega, fun g h1 h2 _ => K4 g h1 h2⟩
    obtain ⟨A1, A2, A3, A4, A5⟩ := ones_fin (kindS tx) (ds := []) (v := .slice ao n cap) (is := []) (ops := []) h.lt F4 (.inl rfl) (by exact ⟨rfl, rfl, rfl, by simp, fun g hg => Below.heap_alloc _ _ _ hg⟩) (by rw [List.append_nil]; exact own4) hgrow5 (by rw [List.append_nil]; exact hown5) hat5 kR (World.ownsRow_nil _ _ _ _) (fun g hg => by cases hg) .nil
    exact ⟨A1, .inr ⟨_, k', g5, cap5, n, _, hok, hkk, hks, Nat.le_refl _, by omega, rfl, A2, A3, A4, A5⟩⟩
end Go.Proofs.YtilfjpmeededmaaGreatDoor

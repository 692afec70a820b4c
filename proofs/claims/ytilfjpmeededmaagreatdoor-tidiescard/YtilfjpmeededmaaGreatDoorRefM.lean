/- What one of package curtainref's reader reads: a bracket stands next, with a head: the loop over the operands. -/
import Derived.Test.YtilfjpmeededmaaGreatDoorRefM0
namespace Go.Proofs.YtilfjpmeededmaaGreatDoor
open Go.RowKit

def opsStepR (g d : Nat) (o : Option (Tr × Bs)) : Option (List Tr × Bs) :=
  match o with
  | none => none
  | some (x, r) => (opsR g d r).map (fun p => (x :: p.1, p.2))
theorem infoInt : (Tryz.prog.info? 3).map (fun i => (i.zero, i.size, i.bytes)) = some (some (.int .i64 0), 1, 8) := by kernel_rfl
def OneSpec (s : ByteArray) (f : Nat) : Prop := ∀ (w : World) (rb k deep n : Nat) (ao : Option Addr) (cap : Nat) (cs : List Value), RdIs w rb s k (.slice ao n cap) → k ≤ s.size → 2 * (s.size - k) ≤ f → deep ≤ 20 →
  w.ownsRow (rb + 1) 359 4 (.slice ao n cap) n cs → n ≤ k →
    Calls Tryz.prog 181 #[.pointer (some ⟨rb, 0, none⟩), .int .i64 deep] w fun e w' => Ones w rb s k (.slice ao n cap) n cs (oneS f deep (s.toList.drop k)) e w'

/-- What holds at each round of the loop over the operands. -/
def OpsInv (w : World) (rb Nb : Nat) (s : ByteArray) (k n k3 f d : Nat) (v : Value) (cs : List Value) (tx : Bs) (gk : Nat) (wr : World) : Prop :=
  ∃ (f' kk m : Nat) (xs : List Tr) (is : List Nat) (aoL : Option Addr) (capL : Nat) (ds : List Value) (aoA : Option Addr) (nA capA : Nat),
    gk = s.size - kk ∧ f' ≤ f ∧ kk ≤ s.size ∧ 2 * (s.size - kk) + 1 ≤ f' ∧ k + 1 ≤ kk ∧ n ≤ m ∧ m + k + 1 ≤ n + kk ∧ xs.length ≤ kk ∧
    Hid (opsR f d (s.toList.drop k3) = (opsR f' d (s.toList.drop kk)).map (fun p => (xs ++ p.1, p.2))) ∧
    RdIs wr rb s kk (.slice aoL m capL) ∧ Frm w wr rb v.ownBlock ∧ wr.ownsRow (rb + 1) 359 4 (.slice aoL m capL) m (cs ++ ds) ∧
    ((Value.slice aoL m capL).ownBlock = v.ownBlock ∨ ∃ g, (Value.slice aoL m capL).ownBlock = some g ∧ w.heap.size ≤ g) ∧ (Value.slice aoL m capL).ownBlock ≠ some Nb ∧
    wr.heap[Nb]? = some (.cells #[.string (ofBs tx), .bool true, .slice aoA nA capA, .int .u8 0] 359 (0, 0)) ∧
    wr.ownsRow (Nb + 1) 3 1 (.slice aoA nA capA) xs.length (is.map fun j : Nat => Value.int .i64 (j : Int)) ∧ (∀ g, (Value.slice aoA nA capA).ownBlock = some g → (Value.slice aoL m capL).ownBlock ≠ some g) ∧
    RepL wr (fun q => Nb < q ∧ (Value.slice aoL m capL).ownBlock ≠ some q ∧ (Value.slice aoA nA capA).ownBlock ≠ some q) (cs ++ ds) is xs

set_option maxHeartbeats 8000000 in
set_option maxRecDepth 100000 in
theorem one_list (s : ByteArray) (hs : s.size ≤ 400) (f : Nat) (IH : ∀ f', f' < f → OneSpec s f') (w : World) (rb k deep n : Nat) (ao : Option Addr) (cap : Nat) (cs : List Value) (h : RdIs w rb s k (.slice ao n cap)) (hk : k ≤ s.size)
    (hown : w.ownsRow (rb + 1) 359 4 (.slice ao n cap) n cs) (hnk : n ≤ k)
    (k1 : Nat) (hk1e : k + skN (s.toList.drop k) = k1) (hlt : k1 < s.size) (h40 : (s[k1] == 40) = true) (k2 : Nat) (hk2e : k1 + 1 + skN (s.toList.drop (k1 + 1)) = k2) (tx : Bs) (k3 : Nat) (hk23 : k2 < k3) (hk3 : k3 ≤ s.size)
    (HT : ∀ (w : World) (rb : Nat) (v : Value), RdIs w rb s k2 v → Calls Tryz.prog 260 #[.pointer (some ⟨rb, 0, none⟩)] w fun e w' => e = .returned (.string (ofBs tx)) ∧ w.grownBy w' (some rb) ∧ RdIs w' rb s k3 v)
    (htl : tx.length ≤ maxLen) (hh : headR tx = true) (hdeep : deep < 20) (hf : 2 * (s.size - k3) + 1 ≤ f) :
    Calls Tryz.prog 181 #[.pointer (some ⟨rb, 0, none⟩), .int .i64 deep] w fun e w' => Ones w rb s k (.slice ao n cap) n cs ((opsR f (deep + 1) (s.toList.drop k3)).map (fun p => (Tr.mk (kindS tx) tx true p.1, skS (p.2.drop 1)))) e w' := by
  have HA : ∀ x : World, Calls Tryz.prog 261 #[.string (ofBs tx)] x fun e w' => e = .returned (.bool true) ∧ Below x.heap.size x w' := by
    intro x; have := refHead_any (ofBs tx) x (by rw [ofBs_size]; exact htl); rw [ofBs_toList, hh] at this; exact this
  clear hh
  go_enter Tryz.func181, Tryz.ntmps181
  go_wp2_with (go_at_call 259; refine (skip_any s hs _ rb k _ h hk).mono ?_; rintro e w2 ⟨rfl, hk1, hg1, hr1⟩)
  rw [hk1e] at hr1
  have hrb := hr1.lt
  have hneb : w2.heap.size ≠ rb := by omega
  obtain ⟨⟨y0, y1, y2⟩, f1, f2⟩ := cells3 hr1
  have hi40 : ((s[k1].toNat : Int) == 40) = true := by rw [← h40]; exact ref_u8i s[k1] 40 (by omega)
  have hs1 := hg1.size
  have hr2 : ∀ o : Obj, RdIs ((w2.setCell ⟨rb, 1, none⟩ (.int .i64 ((k1 : Int) + 1))).alloc o).drew rb s (k1 + 1) (.slice ao n cap) := fun o => by unfold RdIs; exact blk_alloc hr1.inc _
  have hdd : decide ((20 : Int) ≤ (deep : Int)) = false := by simp; omega
  go_region
  go_wp2_with (first
    | (go_at_call 259; refine (skip_any s hs _ rb (k1 + 1) _ (hr2 _) (by omega)).mono ?_; rintro e w3 ⟨rfl, hk2, hg3, hr3⟩; replace hg3 := undrew hg3; rw [hk2e] at hr3; have hnb : w3.heap[w2.heap.size]? = some (.cells #[.string ⟨#[]⟩, .bool false, .slice none 0 0, .int .u8 0] 359 (0, 0)) := blk_grown (by simpa [World.setCell] using blk_new (w2.setCell ⟨rb, 1, none⟩ (.int .i64 ((k1 : Int) + 1))) (.cells #[.string ⟨#[]⟩, .bool false, .slice none 0 0, .int .u8 0] 359)) hg3 hneb; obtain ⟨⟨z0, z1, z2, z3⟩, g0, g1, g2, g3⟩ := cells4 hnb)
    | (go_at_call 260; refine (HT _ rb _ (blk_setOther hr3 hneb.symm 1 _)).mono ?_; rintro e w4 ⟨rfl, hg4, hr4⟩; have hnb4 := blk_grown (blk4_set1 hnb _) hg4 hneb; obtain ⟨⟨u0, u1, u2, u3⟩, v0, v1, v2, v3⟩ := cells4 hnb4)
    | (go_at_call 261; refine (HA _).mono ?_; rintro e w5 ⟨rfl, hb5⟩))
  have G3 : w.grownBy w3 (some rb) := grown_trans (grown_alloc (grown_trans hg1 (grown_setCell _ _ _ _)) _) hg3
  have G4 := grown_trans (grown_new G3 hs1 1 (.bool true)) hg4
  have G5 : w.grownBy w5 (some rb) := grown_trans (grown_new G4 hs1 0 (.string (ofBs tx))) (grown_below hb5 _)
  have hr5 : RdIs w5 rb s k3 (.slice ao n cap) := blk_below (blk_setOther hr4 hneb.symm 0 _) hb5
  have hnb5 := blk_below (blk4_set0 hnb4 (.string (ofBs tx))) hb5
  clear hg3 hr3 hnb z0 z1 z2 z3 g0 g1 g2 g3 hg4 hr4 hnb4 u0 u1 u2 u3 v0 v1 v2 v3 hb5 G3 G4 y0 y1 y2 f1 f2 HA HT hr2
  obtain ⟨Nb, hNb⟩ : ∃ Nb, Nb = w2.heap.size := ⟨_, rfl⟩
  rw [← hNb] at hnb5 hneb ⊢
  have hown5 : w5.ownsRow (rb + 1) 359 4 (.slice ao n cap) n (cs ++ []) := by
    rw [List.append_nil]
    exact owns_keep hown fun g hg => G5.block g (hown.lt g hg).2 (by have := (hown.lt g hg).1; simp; omega)
  have I0 : OpsInv w rb Nb s k n k3 f (deep + 1) (.slice ao n cap) cs tx (s.size - k3) w5 :=
    ⟨f, k3, n, [], [], ao, cap, [], none, 0, 0, rfl, Nat.le_refl _, hk3, hf, by omega, Nat.le_refl _, by omega, Nat.zero_le _, by rw [Hid]; simp, hr5, ⟨G5.os, G5.tape, G5.output, G5.size, fun g h1 h2 _ => G5.block g h1 (by simpa using h2)⟩, hown5, .inl rfl, (fun e => by have := (hown.lt _ e).2; omega), hnb5, World.ownsRow_nil _ _ _ _, (fun g hg => by cases hg), .nil⟩
  have hNw : w.heap.size ≤ Nb := by omega
  have hrbw := h.lt
  clear hown5 hnb5 hr5 G5 hNb
  go_loopg [7] (s.size - k3) (fun gk _ wr => OpsInv w rb Nb s k n k3 f (deep + 1) (.slice ao n cap) cs tx gk wr)
  case atStart => exact I0
  case round =>
    clear I0
    obtain ⟨f', kk, m, xs, is, aoL, capL, ds, aoA, nA, capA, hgk, hf1, hkk, hf2, hkk1, hnm, hmk, hxk, HO, hR, hF, hoL, hvL, hvN, hNbk, hoA, hvA, hrep⟩ := hrel
    subst hgk
    obtain ⟨g, rfl⟩ : ∃ g, f' = g + 1 := ⟨f' - 1, by omega⟩
    have hFs := hF.size
    have hsN := block_lt hNbk
    have hrbr := hR.lt
    obtain ⟨⟨y0, y1, y2⟩, f1, f2⟩ := cells3 hR
    obtain ⟨⟨z0, z1, z2, z3⟩, g0, g1, g2, g3⟩ := cells4 hNbk
    by_cases hlk : kk < s.size
    · cases h41 : (s[kk] == 41) with
      | true =>
        have h41i : ((s[kk].toNat : Int) == 41) = true := by rw [← h41]; exact ref_u8i s[kk] 41 (by omega)
        have hd2 : decide ((s.size : Int) ≤ (kk : Int)) = false := by simp; omega
        obtain ⟨k5, hk5e⟩ : ∃ k5, kk + 1 + skN (s.toList.drop (kk + 1)) = k5 := ⟨_, rfl⟩
        have HE : Hid (opsR f (deep + 1) (s.toList.drop k3) = some (xs, s.toList.drop kk)) := by
          rw [Hid, HO.out, opsR, if_neg (by rw [List.length_drop, toList_length]; omega), not40 hlk, h41, if_pos rfl]; simp
        have HD : Hid (skS ((s.toList.drop kk).drop 1) = s.toList.drop k5) := by
          have e : (s.toList.drop kk).drop 1 = s.toList.drop (kk + 1) := by rw [List.drop_drop]
          rw [Hid, e, skS, List.drop_drop, hk5e]
        clear HO
        have hr9 : RdIs (wr.setCell ⟨rb, 1, none⟩ (.int .i64 ((kk : Int) + 1))).drew.drew rb s (kk + 1) (.slice aoL m capL) := hR.inc
        obtain ⟨i0, hi, hz0, hz1, hz2⟩ := info_parts infoNode
        go_wp2_with fail
        go_region
        all_goals (try go_wp2_with fail)
        go_region
        all_goals (try go_wp2_with (go_at_call 259; refine (skip_any s hs _ rb (kk + 1) _ hr9 (by omega)).mono ?_; rintro e w6 ⟨rfl, hk5, hg6, hr6⟩))
        rw [hk5e] at hr6 hk5
        replace hg6 : wr.grownBy w6 (some rb) := grown_trans (grown_setCell wr rb 1 (.int .i64 ((kk : Int) + 1))) (undrew (undrew hg6))
        have hs6 := hg6.size
        have hnb6 := blk_grown hNbk hg6 hneb
        have hrb6 := hr6.lt
        have hsN6 := block_lt hnb6
        have own6 : w6.ownsRow (rb + 1) 359 4 (.slice aoL m capL) m (cs ++ ds) := owns_keep hoL fun q hq => hg6.block q (hoL.lt q hq).2 (by have := (hoL.lt q hq).1; simp; omega)
        have HOWN : ∀ o : Obj, (w6.drew.alloc o).ownsRow (rb + 1) 359 4 (.slice aoL m capL) m (cs ++ ds) := fun o => World.ownsRow.alloc (show w6.drew.ownsRow _ _ _ _ _ _ from own6) o
        have hvr : (Value.slice aoL m capL).ownBlock ≠ some rb := fun e => by have := (hoL.lt _ e).1; omega
        clear y0 y1 y2 f1 f2 z0 z1 z2 z3 g0 g1 g2 g3 hr9
        obtain ⟨⟨p0, p1, p2⟩, q1, q2⟩ := cells3 hr6
        obtain ⟨⟨x0, x1, x2, x3⟩, _, _, _, _⟩ := cells4 hnb6
        go_region_law (refine step_append_lies _ rfl (.tmp 127) (.tmp 129) 240 rfl (rb + 1) 359 i0 _ 4 56 Tryz.underlying240 hi hz0 hz1 hz2 rfl (by decide) (.slice aoL m capL) m (cs ++ ds) (by simp [Act.eval]) (HOWN _) ⟨w6.heap.size, 0, none⟩ 1 1 [.string (ofBs tx), .bool true, .slice aoA nA capA, .int .u8 0] (by simp [Act.eval]) rfl (World.news_of_block (blk_new w6.drew _)) (by intro u hu; simp at hu; rcases hu with rfl | rfl | rfl | rfl <;> rfl) (by decide) (by unfold maxLen; omega) (by omega) (by simp; omega) (w6.heap.size + 1) (by simp) ?_; intro g7 cap7 w7 hown7 hgrow7 hat7 hlt7; have kR : w7.heap[rb]? = _ := (hgrow7.block rb (by simp; omega) hvr.symm).trans (blk_alloc hr6 _); have hrb7 := block_lt kR; obtain ⟨⟨r0, r1, r2⟩, t1, t2⟩ := cells3 kR)
        all_goals (go_wp2_with fail; go_ret)
        all_goals
          have F6 : Frm w w6 rb (Value.slice ao n cap).ownBlock := hF.trans (Frm.ofGrown hg6 _) hvL
          have hoA6 : w6.ownsRow 0 3 1 (.slice aoA nA capA) xs.length (is.map fun j : Nat => Value.int .i64 (j : Int)) := owns_base (b := Nb + 1) (owns_keep hoA fun q hq => hg6.block q (hoA.lt q hq).2 (by have := (hoA.lt q hq).1; simp; omega)) (fun _ _ => Nat.zero_le _)
          have hrep6 : RepL w6 (fun q => w.heap.size ≤ q ∧ (Value.slice aoL m capL).ownBlock ≠ some q) (cs ++ ds) is xs := by
            have := hrep.bounded.move (x := w6) (S' := fun q => w.heap.size ≤ q ∧ (Value.slice aoL m capL).ownBlock ≠ some q) [] (fun q hq => hg6.block q hq.2 (by have := hq.1.1; simp; omega)) (fun q hq => ⟨by have := hq.1.1; omega, hq.1.2.1⟩)
            rwa [List.append_nil] at this
          obtain ⟨A1, A2, A3, A4, A5⟩ := ones_fin (kindS tx) (v := .slice ao n cap) hrbw F6 hvL (by exact ⟨rfl, rfl, rfl, by simp, fun g hg => Below.heap_alloc _ _ _ hg⟩) own6 hgrow7 hown7 hat7 kR hoA6 (fun q hq => ⟨by have := (hoA.lt q hq).1; omega, hvA q hq⟩) hrep6
          exact ⟨A1, .inr ⟨_, k5, g7, cap7, m, _, by rw [HE.out, Option.map_some, HD.out], by omega, hk5, hnm, by omega, rfl, A2, A3, A4, A5⟩⟩
      | false =>
        have h41i : ((s[kk].toNat : Int) == 41) = false := by rw [← h41]; exact ref_u8i s[kk] 41 (by omega)
        have HO2 : Hid (opsR f (deep + 1) (s.toList.drop k3) = (opsStepR g (deep + 1) (oneS g (deep + 1) (s.toList.drop kk))).map (fun p => (xs ++ p.1, p.2))) := by
          rw [Hid, HO.out, opsR, if_neg (by rw [List.length_drop, toList_length]; omega), not40 hlk, h41, if_neg Bool.false_ne_true]; rfl
        clear HO
        have HC : Calls Tryz.prog 181 #[.pointer (some ⟨rb, 0, none⟩), .int .i64 ((deep : Int) + 1)] wr.drew fun e w' => Ones wr.drew rb s kk (.slice aoL m capL) m (cs ++ ds) (oneS g (deep + 1) (s.toList.drop kk)) e w' :=
          IH g (by omega) wr.drew rb kk (deep + 1) m aoL capL (cs ++ ds) hR hkk (by omega) (by omega) hoL (by omega)
        obtain ⟨i1, hj, hj0, hj1, hj2⟩ := info_parts infoInt
        go_wp2_with fail
        go_region
        go_wp2_with (go_at_call 181; refine HC.mono ?_)
        rintro e w6 ⟨hF6, hres⟩
        replace hF6 := hF6.undrew
        have hs6 := hF6.size
        have hnb6 : w6.heap[Nb]? = _ := (hF6.block Nb hsN hneb hvN).trans hNbk
        have hsN6 := block_lt hnb6
        obtain ⟨⟨x0, x1, x2, x3⟩, t0, t1, t2, t3⟩ := cells4 hnb6
        rcases hres with ⟨ho, rfl, k9, ao9, n9, cap9, hr9⟩ | ⟨x, k', g6, cap6, n', ds', ho, hkk', hk's, hnn, hnk', rfl, hr6, ho6, hg6, hrep6⟩
        · have HE : Hid (opsR f (deep + 1) (s.toList.drop k3) = none) := by rw [Hid, HO2.out, ho]; rfl
          clear HO2
          go_wp2_with fail
          go_ret
          exact ⟨hF.trans hF6 hvL, .inl ⟨by rw [HE.out]; rfl, rfl, k9, ao9, n9, cap9, hr9⟩⟩
        · have HE : Hid (opsR f (deep + 1) (s.toList.drop k3) = (opsR g (deep + 1) (s.toList.drop k')).map (fun p => ((xs ++ [x]) ++ p.1, p.2))) := by rw [Hid, HO2.out, ho, opsStepR]; cases opsR g (deep + 1) (s.toList.drop k') <;> simp
          clear HO2
          have hn0 : decide ((n' : Int) < 0) = false := by simp
          have hoA6 : w6.ownsRow (Nb + 1) 3 1 (.slice aoA nA capA) xs.length (is.map fun j : Nat => Value.int .i64 (j : Int)) := owns_keep hoA fun q hq => hF6.block q (hoA.lt q hq).2 (by have := (hoA.lt q hq).1; omega) (hvA q hq)
          have hxl : xs.length ≤ 400 := by omega
          have HREP : Hid _ := hrep
          have HREP6 : Hid _ := hrep6
          clear hrep hrep6
          go_wp2_with (at_builtin; refine wpList_append_lies _ rfl (.tmp 85) (.tmp 87) 30 rfl (Nb + 1) 3 i1 (.int .i64 0) 1 8 Tryz.underlying30 hj hj0 hj1 hj2 rfl (by decide) _ _ _ rfl (hoA6.alloc _) ⟨w6.heap.size, 0, none⟩ 1 1 [.int .i64 (n' : Int)] rfl rfl (World.news_of_block (blk_new w6 _)) ?d2 ?d3 ?d4 ?d5 ?d6 (w6.heap.size + 1) ?d7 ?_)
          case d2 => intro u hu; simp at hu; subst hu; rfl
          case d3 => decide
          case d4 => unfold maxLen; omega
          case d5 => omega
          case d6 => simp; omega
          case d7 => simp
          intro g7 cap7 w7 hown7 hgrow7 hat7 hlt7
          obtain ⟨B1, B2, B3, B4, B5, B6, B7, B8, B9⟩ := ops_next hrbw hNw hsN hF hvL hvN hoA hvA hoL HREP.out hNbk hF6 hr6 ho6 hg6 HREP6.out hgrow7 hown7 hat7
          have kN7 : w7.heap[Nb]? = _ := (hgrow7.block Nb (by simp; omega) (fun e => by have := (hoA.lt Nb e.symm).1; omega)).trans (blk_alloc hnb6 _)
          obtain ⟨⟨l0, l1, l2, l3⟩, m0, m1, m2, m3⟩ := cells4 kN7
          go_wp2_with fail
          go_roundg (s.size - k')
          case measure => omega
          case rel => exact ⟨g, k', n' + 1, xs ++ [x], is ++ [n'], _, cap6, ds ++ ds', _, _, cap7, rfl, by omega, hk's, by omega, by omega, by omega, by omega, by simp; omega, HE, B1, B2, B3, B4, B5, B6, B7, B8, B9⟩
    · have hd1 : decide ((kk : Int) < (s.size : Int)) = false := by simp; omega
      have hd2 : decide ((s.size : Int) ≤ (kk : Int)) = true := by simp; omega
      have HE : Hid (opsR f (deep + 1) (s.toList.drop k3) = none) := by
        rw [Hid, HO.out, List.drop_of_length_le (by rw [toList_length]; omega), opsR]; rfl
      clear HO hrep hoA hvA
      go_wp2_with fail
      go_region
      all_goals (try go_wp2_with fail)
      go_region
      all_goals (try go_wp2_with fail)
      go_ret
      exact ⟨⟨hF.os, hF.tape, hF.output, hF.size, hF.block⟩, .inl ⟨by rw [HE.out]; rfl, rfl, kk, aoL, m, capL, hR⟩⟩
end Go.Proofs.YtilfjpmeededmaaGreatDoor

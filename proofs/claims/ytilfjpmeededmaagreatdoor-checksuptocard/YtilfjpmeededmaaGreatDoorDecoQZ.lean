import Derived.Test.YtilfjpmeededmaaGreatDoorTreeZ
import Derived.Test.YtilfjpmeededmaaGreatDoorColZ
import Derived.Shelf.Strings.BuilderK
set_option linter.unusedVariables false
set_option linter.unusedSimpArgs false
namespace Go.Proofs.YtilfjpmeededmaaGreatDoor
open Go.RowKit
set_option maxHeartbeats 1600000 in
set_option maxRecDepth 100000 in
theorem bracket_nil (w : World) (rb deep : Nat) (h : RestIs w rb []) :
    Calls Tryz.prog 255 #[.pointer (some ⟨rb, 0, none⟩), .int .i64 deep] w fun e w' => Reads w rb [] none e w' := by
  have hlt := h.lt
  have hne : w.heap.size ≠ rb := by omega
  have hA : headS 0 [] = false := by rfl
  have hr := h
  clear h
  by_cases hd : deep ≤ 20
  · go_enter Tryz.func255, Tryz.ntmps255
    go_wp2_with (first
      | (go_at_call 254; refine (next_nil _ _ (hr.alloc _)).mono ?_; rintro e w2 ⟨rfl, hb2⟩; have hk2 := blk_below (blk_new w _) hb2)
      | (go_at_call 331; refine (isHead_any _ _ _).mono ?_; rintro e w3 ⟨rfl, hb3⟩; have hk3 := blk_below (blk_alloc hk2 _) hb3; obtain ⟨⟨z0, z1, z2, z3⟩, f0, f1, f2, f3⟩ := cells4 hk3))
    have G3 : w.grownBy w3 (some rb) := grown_trans (grown_alloc (grown_trans (grown_alloc (grown_refl w _) _) (grown_below hb2 _)) _) (grown_below hb3 _)
    refine bodyPost_ret (v := .tuple #[.agg #[.int .i64 0, .string ⟨#[]⟩, .bool false, .slice none 0 0], .bool false]) (by simp [results, Tryz.results255, go_sem, z0, z1, z2, z3]) rfl ⟨?_, .inl ⟨rfl, rfl⟩⟩
    repeat (refine grown_new ?_ (Nat.le_refl _) _ _)
    exact G3
  · go_enter Tryz.func255, Tryz.ntmps255
    go_wp2_with (first
      | (go_at_call 254; refine (next_nil _ _ (hr.alloc _)).mono ?_; rintro e w2 ⟨rfl, hb2⟩; have hk2 := blk_below (blk_new w _) hb2; have hs2 := block_lt hk2; obtain ⟨⟨z0, z1, z2, z3⟩, f0, f1, f2, f3⟩ := cells4 hk2))
    have G3 : w.grownBy w2 (some rb) := grown_trans (grown_alloc (grown_refl w _) _) (grown_below hb2 _)
    refine bodyPost_ret (v := .tuple #[.agg #[.int .i64 0, .string ⟨#[]⟩, .bool false, .slice none 0 0], .bool false]) (by simp [results, Tryz.results255, go_sem, z0, z1, z2, z3, hs2]) rfl ⟨?_, .inl ⟨rfl, rfl⟩⟩
    refine grown_alloc ?_ _
    repeat (refine grown_new ?_ (Nat.le_refl _) _ _)
    exact G3
set_option maxHeartbeats 1600000 in
set_option maxRecDepth 100000 in
theorem bracket_bad (w : World) (rb deep : Nat) (t : Tk) (ts : List Tk) (h : RestIs w rb (t :: ts)) (hbad : 20 < deep ∨ headS t.1 t.2 = false) :
    Calls Tryz.prog 255 #[.pointer (some ⟨rb, 0, none⟩), .int .i64 deep] w fun e w' => Reads w rb (t :: ts) none e w' := by
  have hlt := h.lt
  have hne : w.heap.size ≠ rb := by omega
  have hr := h
  clear h
  by_cases hd : deep ≤ 20
  · have hA : headS t.1 t.2 = false := by rcases hbad with h | h; omega; exact h
    have HS : ∀ x : World, Calls Tryz.prog 331 #[.agg #[.int .i64 t.1, .string (ofBs t.2)]] x fun e w' => e = .returned (.bool false) ∧ Below x.heap.size x w' := by
      intro x; rw [← hA, ← ofBs_toList t.2]; simpa only [ofBs_toList] using isHead_any t.1 (ofBs t.2) x
    clear hA hbad
    go_enter Tryz.func255, Tryz.ntmps255
    go_wp2_with (first
      | (go_at_call 254; refine (next_cons _ _ t ts (hr.alloc _)).mono ?_; rintro e w2 ⟨rfl, hg2, hr2⟩; have hk2 := blk_grown (blk_new w _) hg2 hne)
      | (go_at_call 331; refine (HS _).mono ?_; rintro e w3 ⟨rfl, hb3⟩; have hk3 := blk_below (blk_alloc hk2 _) hb3; obtain ⟨⟨z0, z1, z2, z3⟩, f0, f1, f2, f3⟩ := cells4 hk3))
    have G3 : w.grownBy w3 (some rb) := grown_trans (grown_alloc (grown_trans (grown_alloc (grown_refl w _) _) hg2) _) (grown_below hb3 _)
    refine bodyPost_ret (v := .tuple #[.agg #[.int .i64 0, .string ⟨#[]⟩, .bool false, .slice none 0 0], .bool false]) (by simp [results, Tryz.results255, go_sem, z0, z1, z2, z3]) rfl ⟨?_, .inl ⟨rfl, rfl⟩⟩
    repeat (refine grown_new ?_ (Nat.le_refl _) _ _)
    exact G3
  · clear hbad
    go_enter Tryz.func255, Tryz.ntmps255
    go_wp2_with (first
      | (go_at_call 254; refine (next_cons _ _ t ts (hr.alloc _)).mono ?_; rintro e w2 ⟨rfl, hg2, hr2⟩; have hk2 := blk_grown (blk_new w _) hg2 hne; have hs2 := block_lt hk2; obtain ⟨⟨z0, z1, z2, z3⟩, f0, f1, f2, f3⟩ := cells4 hk2))
    have G3 : w.grownBy w2 (some rb) := grown_trans (grown_alloc (grown_refl w _) _) hg2
    refine bodyPost_ret (v := .tuple #[.agg #[.int .i64 0, .string ⟨#[]⟩, .bool false, .slice none 0 0], .bool false]) (by simp [results, Tryz.results255, go_sem, z0, z1, z2, z3, hs2]) rfl ⟨?_, .inl ⟨rfl, rfl⟩⟩
    refine grown_alloc ?_ _
    repeat (refine grown_new ?_ (Nat.le_refl _) _ _)
    exact G3
end Go.Proofs.YtilfjpmeededmaaGreatDoor

namespace Go.Proofs.YtilfjpmeededmaaGreatDoor
open Go.RowKit
theorem infoTree : (Tryz.prog.info? 236).map (fun i => (i.zero, i.size, i.bytes)) = some (some (.agg #[.int .i64 0, .string ⟨#[]⟩, .bool false, .slice none 0 0]), 4, 56) := by kernel_rfl
def restLen (w : World) (rb : Nat) : Nat := match w.cell? ⟨rb, 0, none⟩ with | some (.slice _ n _) => n | _ => 0
theorem RestIs.restLen {w : World} {rb : Nat} {ts : List Tk} (h : RestIs w rb ts) : restLen w rb = ts.length := by
  obtain ⟨v, hb, h⟩ := h
  have hc : w.cell? ⟨rb, 0, none⟩ = some v := by simp [World.cell?, hb]
  rcases h with ⟨rfl, ao, cap, rfl⟩ | ⟨g, off, cap, rfl, _⟩ <;> simp [YtilfjpmeededmaaGreatDoor.restLen, hc]
theorem map_snoc (o : Option (List Tr × List Tk)) (xs : List Tr) (x : Tr) : (o.map (fun p => (x :: p.1, p.2))).map (fun p => (xs ++ p.1, p.2)) = o.map (fun p => ((xs ++ [x]) ++ p.1, p.2)) := by
  cases o <;> simp
theorem block_set3 {x : World} {b : Nat} {a0 a1 a2 a3 : Value} {T : TypeId} (h : x.heap[b]? = some (.cells #[a0, a1, a2, a3] T (0, 0))) (v : Value) : (x.setCell ⟨b, 3, none⟩ v).heap[b]? = some (.cells #[a0, a1, a2, v] T (0, 0)) := by
  simp [World.setCell, Array.getElem?_modify, h]
def opsStep (g deep : Nat) (o : Option (Tr × List Tk)) : Option (List Tr × List Tk) :=
  match o with
  | none => none
  | some (x, r') => (opsF g deep r').map (fun p => (x :: p.1, p.2))
set_option maxHeartbeats 4000000 in
set_option maxRecDepth 100000 in
theorem bracket_good (f : Nat) (hT : ∀ f', f' < f → TreeSpec f') (w : World) (rb deep : Nat) (t : Tk) (ts : List Tk) (h : RestIs w rb (t :: ts)) (hl : 2 * ts.length + 1 ≤ f) (hl4 : ts.length ≤ 400)
    (hd : deep ≤ 20) (hA : headS t.1 t.2 = true) :
    Calls Tryz.prog 255 #[.pointer (some ⟨rb, 0, none⟩), .int .i64 deep] w fun e w' => Reads w rb (t :: ts) ((opsF f deep ts).map (fun p => (.mk t.1 t.2 true p.1, p.2))) e w' := by
  obtain ⟨i0, hi, hz0, hz1, hz2⟩ := info_parts infoTree
  have hlt := h.lt
  have hne : w.heap.size ≠ rb := by omega
  have hr := h
  clear h
  have HS : ∀ x : World, Calls Tryz.prog 331 #[.agg #[.int .i64 t.1, .string (ofBs t.2)]] x fun e w' => e = .returned (.bool true) ∧ Below x.heap.size x w' := by
    intro x; rw [← hA, ← ofBs_toList t.2]; simpa only [ofBs_toList] using isHead_any t.1 (ofBs t.2) x
  clear hA
  go_enter Tryz.func255, Tryz.ntmps255
  go_wp2_with (first
    | (go_at_call 254; refine (next_cons _ _ t ts (hr.alloc _)).mono ?_; rintro e w2 ⟨rfl, hg2, hr2⟩; have hk2 := blk_grown (blk_new w _) hg2 hne)
    | (go_at_call 331; refine (HS _).mono ?_; rintro e w3 ⟨rfl, hb3⟩; have hk3 := blk_below (blk_alloc hk2 _) hb3; have hk4 := blk_below (blk_new w2 _) hb3; obtain ⟨⟨y0, y1⟩, _, _⟩ := cells2 hk4))
  have hs2 := block_lt hk2
  have hs3 := block_lt hk4
  have G3 : w.grownBy w3 (some rb) := grown_trans (grown_alloc (grown_trans (grown_alloc (grown_refl w _) _) hg2) _) (grown_below hb3 _)
  have R3 : RestIs w3 rb ts := (hr2.alloc _).below hb3
  clear hg2 hr2 hb3 hk2 hk4 y0 y1 HS hr
  obtain ⟨Tb, hTbe⟩ : ∃ Tb, Tb = w3.heap.size := ⟨_, rfl⟩
  go_loopw [22] (fun _ wr => ∃ (f' : Nat) (xs : List Tr) (rest : List Tk) (ao : Option Addr) (n cap : Nat) (cs : List Value), f' ≤ f ∧ 2 * rest.length + 1 ≤ f' ∧ xs.length + rest.length ≤ ts.length ∧
      Hid (opsF f deep ts = (opsF f' deep rest).map (fun p => (xs ++ p.1, p.2))) ∧ RestIs wr rb rest ∧ w.grownBy wr (some rb) ∧
      wr.heap[w.heap.size]? = some (.cells #[.int .i64 0, .string ⟨#[]⟩, .bool false, .slice none 0 0] 236 (0, 0)) ∧
      wr.heap[w3.heap.size]? = some (.cells #[.int .i64 t.1, .string (ofBs t.2), .bool true, .slice ao n cap] 236 (0, 0)) ∧
      wr.ownsRow (w3.heap.size + 1) 236 4 (.slice ao n cap) xs.length cs ∧ IsTrs wr (fun g => w3.heap.size < g ∧ (Value.slice ao n cap).ownBlock ≠ some g) cs xs)
    (fun _ wr => restLen wr rb)
  case atStart => exact ⟨f, [], ts, none, 0, 0, [], Nat.le_refl _, hl, by simp, by rw [Hid]; simp, R3.alloc _, grown_alloc G3 _, blk_alloc hk3 _, blk_new w3 _, World.ownsRow_nil _ _ _ _, .nil⟩
  case round =>
    obtain ⟨f', xs, rest, ao, n, cap, cs, hf1, hf2, hx1, HO, hRr, hGr, hkA, hkT, hown, hxs⟩ := hrel
    obtain ⟨g, rfl⟩ : ∃ g, f' = g + 1 := ⟨f' - 1, by omega⟩
    have hsT := block_lt hkT
    have hsA := block_lt hkA
    by_cases hcl : ∃ c r, rest = c :: r ∧ c.1 = 2
    · obtain ⟨c, r, rfl, hc2⟩ := hcl
      have HE : Hid (opsF f deep ts = some (xs, r)) := by rw [Hid, HO.out, opsF, if_pos hc2]; simp
      clear HO
      go_wp2_with (go_at_call 332; refine (closes_yes _ _ c r hRr hc2).mono ?_; rintro e w5 ⟨rfl, hg5, hr5⟩; have hkA5 := blk_grown hkA hg5 hne; have hkT5 := blk_grown hkT hg5 (by omega); obtain ⟨⟨z0, z1, z2, z3⟩, f0, f1, f2, f3⟩ := cells4 hkA5; obtain ⟨⟨y0, y1, y2, y3⟩, _⟩ := cells4 hkT5)
      have hGs := hGr.size
      refine bodyPost_ret (v := .tuple #[.agg #[.int .i64 t.1, .string (ofBs t.2), .bool true, .slice ao n cap], .bool true]) (by simp [results, Tryz.results255, go_sem, z0, z1, z2, z3]) rfl ⟨?_, .inr ⟨_, _, _, _, _, _, .mk t.1 t.2 true xs, r, by rw [HE.out]; rfl, by simp at hx1 ⊢; omega, rfl, ?_, ?_⟩⟩
      · repeat (refine grown_new ?_ (Nat.le_refl _) _ _)
        exact grown_trans hGr hg5
      · repeat (refine RestIs.setCell ?_ hlt _ _)
        exact hr5
      · refine .mk (cs := cs) (hxs.bounded.move (fun g hg => ?_) (fun g hg => by have := hg.1.1; omega)) (owns_base (b := w3.heap.size + 1) (owns_keep hown fun g hg => ?_) (fun _ _ => Nat.zero_le _)) (fun g hg => by have := (hown.lt g hg).1; omega)
        · have h1 := hg.1.1
          repeat rw [Below.heap_setCell _ _ _ _ (by show g ≠ w.heap.size; omega)]
          exact hg5.block g hg.2 (by simp; omega)
        · have h1 := hown.lt g hg
          repeat rw [Below.heap_setCell _ _ _ _ (by show g ≠ w.heap.size; omega)]
          exact hg5.block g h1.2 (by simp; omega)
    · have HC : ∀ x : World, RestIs x rb rest → Calls Tryz.prog 332 #[.pointer (some ⟨rb, 0, none⟩)] x fun e w' => e = .returned (.bool false) ∧ x = w' := by
        intro x hx
        cases rest with
        | nil => exact (closes_nil x rb hx).mono fun e w' h => ⟨h.1, h.2.symm⟩
        | cons c r => exact (closes_no x rb c r hx (fun e => hcl ⟨c, r, rfl, e⟩)).mono fun e w' h => ⟨h.1, h.2.symm⟩
      have HO2 : Hid (opsF f deep ts = (opsStep g deep (treeF g deep rest)).map (fun p => (xs ++ p.1, p.2))) := by
        rw [Hid, HO.out]
        cases rest with
        | nil => rw [opsF]; cases g <;> rfl
        | cons c r => rw [opsF, if_neg (fun e => hcl ⟨c, r, rfl, e⟩)]; rfl
      clear HO hcl
      have HT : ∀ x : World, RestIs x rb rest → Calls Tryz.prog 178 #[.pointer (some ⟨rb, 0, none⟩), .int .i64 deep] x fun e w' => Reads x rb rest (treeF g deep rest) e w' :=
        fun x hx => hT g (by omega) x rb deep rest hx (by omega) (by omega) (by omega)
      go_wp2_with (first
        | (go_at_call 332; refine (HC _ hRr).mono ?_; rintro e w4 ⟨rfl, rfl⟩)
        | (go_at_call 178; refine (HT _ hRr).mono ?_))
      rintro e w5 ⟨hg5, hres⟩
      have hkA5 := blk_grown hkA hg5 hne
      have hkT5 := blk_grown hkT hg5 (by omega)
      have hsA5 := block_lt hkA5
      have hsT5 := block_lt hkT5
      obtain ⟨⟨z0, z1, z2, z3⟩, f0, f1, f2, f3⟩ := cells4 hkA5
      obtain ⟨⟨y0, y1, y2, y3⟩, x0, x1, x2, x3⟩ := cells4 hkT5
      rcases hres with ⟨ho, rfl⟩ | ⟨k, tx, br, ao5, n5, cap5, x, r, ho, hrl, rfl, hr5, hx⟩
      · have HE : Hid (opsF f deep ts = none) := by rw [Hid, HO2.out, ho]; rfl
        clear ho HO2 HC HT
        go_wp2
        refine bodyPost_ret (v := .tuple #[.agg #[.int .i64 0, .string ⟨#[]⟩, .bool false, .slice none 0 0], .bool false]) (by simp [results, Tryz.results255, go_sem, z0, z1, z2, z3, hsA5]) rfl ⟨?_, .inl ⟨by rw [HE.out]; rfl, rfl⟩⟩
        refine grown_alloc ?_ _
        repeat (refine grown_new ?_ (Nat.le_refl _) _ _)
        exact grown_trans hGr hg5
      · have HE : Hid (opsF f deep ts = (opsF g deep r).map (fun p => ((xs ++ [x]) ++ p.1, p.2))) := by rw [Hid, HO2.out, ho, opsStep, map_snoc]
        clear ho HO2 HC HT
        have HX : Hid _ := hx
        clear hx
        go_wp2_with (at_builtin; refine wpList_append_own_at _ rfl (.tmp 35) (.tmp 37) 234 rfl (w3.heap.size + 1) 236 i0 (.agg #[.int .i64 0, .string ⟨#[]⟩, .bool false, .slice none 0 0]) 4 56 Tryz.underlying234 hi hz0 hz1 hz2 rfl (by decide) _ _ _ rfl ((owns_keep hown (x := w5) ?c0).alloc _ |>.alloc _) ⟨w5.heap.size + 1, 0, none⟩ 1 1 [.int .i64 k, .string (ofBs tx), .bool br, .slice ao5 n5 cap5] rfl rfl ?c1 ?c2 ?c3 ?c4 ?c5 ?_)
        case c0 => intro q hq; have h1 := hown.lt q hq; exact hg5.block q h1.2 (by simp; omega)
        case c1 =>
          intro j u hj
          match j, hj with
          | 0, hj => simp at hj; subst hj; simp [Addr.add]
          | 1, hj => simp at hj; subst hj; simp [Addr.add]
          | 2, hj => simp at hj; subst hj; simp [Addr.add]
          | 3, hj => simp at hj; subst hj; simp [Addr.add]
        case c2 => intro u hu; simp at hu; rcases hu with rfl | rfl | rfl | rfl <;> rfl
        case c3 => unfold maxLen; omega
        case c4 => omega
        case c5 => simp; omega
        · intro v' w6 hown' hgrow _ hat
          obtain ⟨ao', n', cap', rfl⟩ : ∃ ao' n' cap', v' = .slice ao' n' cap' := by
            rcases hown'.2 with ⟨e, _⟩ | ⟨q, cap', cur, e, _⟩
            · exact ⟨_, _, _, e⟩
            · exact ⟨_, _, _, e⟩
          have hvT : (Value.slice ao n cap).ownBlock ≠ some w3.heap.size := fun e => by have := (hown.lt _ e).1; omega
          have hvA : (Value.slice ao n cap).ownBlock ≠ some w.heap.size := fun e => by have := (hown.lt _ e).1; omega
          obtain ⟨S1, S2, S3, S4⟩ := ops_step _ _ (by omega) hsT hown hxs hg5 HX.out hown' hgrow (by simpa using hat)
          have kT : w6.heap[w3.heap.size]? = _ := (S3 _ hsT (by omega) hvT).trans hkT
          have kA : w6.heap[w.heap.size]? = _ := (S3 _ hsA (by omega) hvA).trans hkA
          have R6 : RestIs w6 rb r := hr5.keep fun q hq => S4 q (by omega) (fun e => by have := (hown.lt _ e).1; omega)
          have G6 : w.grownBy w6 (some rb) := by
            refine grown_on hGr hg5 (row := (Value.slice ao n cap).ownBlock) ?_ hgrow (fun q e => by have := (hown.lt _ e).1; omega) S3
            exact ⟨rfl, rfl, rfl, by simp; omega⟩
          have M6 : Hid (restLen wr rb = rest.length) := hRr.restLen
          have kA7 := kA
          obtain ⟨⟨u0, u1, u2, u3⟩, v0, v1, v2, v3⟩ := cells4 kT
          clear hown' hgrow hat hown hxs HX hkA hkT hkA5 hkT5 z0 z1 z2 z3 f0 f1 f2 f3 y0 y1 y2 y3 x0 x1 x2 x3
          go_wp2
          go_roundw
          case rel => exact ⟨g, xs ++ [x], r, ao', n', cap', _, by omega, by omega, by simp; omega, HE, R6.setCell (by omega) _ _, grown_new G6 (by omega) _ _, (Below.heap_setCell _ _ _ _ (by show w.heap.size ≠ w3.heap.size; omega)).trans kA, block_set3 kT _, S2, S1⟩
          case measure => show restLen _ rb < restLen wr rb; rw [M6.out, (R6.setCell (b := w3.heap.size) (by omega) 3 (.slice ao' n' cap')).restLen]; exact hrl
theorem bracket_any (f : Nat) (hT : ∀ f', f' < f → TreeSpec f') : BrSpec f := by
  intro w rb deep ts h hl hl4 hd
  cases f with
  | zero => omega
  | succ f =>
    cases ts with
    | nil => rw [brF]; exact bracket_nil w rb deep h
    | cons t ts =>
      simp only [List.length_cons] at hl hl4
      by_cases hdeep : 20 < deep
      · rw [brF, if_pos hdeep]; exact bracket_bad w rb deep t ts h (.inl hdeep)
      · cases hA : headS t.1 t.2 with
        | false => rw [brF, if_neg hdeep, hA]; exact bracket_bad w rb deep t ts h (.inr hA)
        | true => rw [brF, if_neg hdeep, hA, if_pos rfl]; exact bracket_good f (fun f' h => hT f' (by omega)) w rb deep t ts h (by omega) (by omega) (by omega) hA
theorem tree_any (f : Nat) : TreeSpec f := by
  induction f using Nat.strongRecOn with
  | ind f ih =>
    intro w rb deep ts h hl hl4 hd
    cases f with
    | zero =>
      have : ts = [] := List.length_eq_zero_iff.mp (by omega)
      subst this; rw [treeF]; exact tree_nil w rb deep h
    | succ f =>
      cases ts with
      | nil => rw [treeF]; exact tree_nil w rb deep h
      | cons t ts =>
        simp only [List.length_cons] at hl hl4
        by_cases hk : t.1 = 1
        · rw [treeF, if_pos hk]
          exact tree_open f (bracket_any f fun f' h => ih f' (by omega)) w rb deep t ts h (by omega) (by omega) hd hk
        · rw [treeF, if_neg hk]; exact tree_leaf w rb deep t ts h hk
end Go.Proofs.YtilfjpmeededmaaGreatDoor

namespace Go.Proofs.YtilfjpmeededmaaGreatDoor
open Go.RowKit
def parseT (ts : List Tk) : Option Tr := match treeF (2 * ts.length) 0 ts with | some (t, []) => some t | _ => none
def parseS (l : Bs) : Option Tr := if 400 < l.length then none else (scanS l).bind parseT
theorem rest_new {w : World} {b : Nat} {v : Value} {ts : List Tk} (h : w.ownsRow b 233 2 v ts.length (toksCells ts)) : RestIs (w.alloc (.cells #[v] 347)) w.heap.size ts := by
  refine ⟨v, blk_new w _, ?_⟩
  rcases h.2 with ⟨rfl, h0⟩ | ⟨g, cap, cur, rfl, _, hg, hn, hm, hc, ht⟩
  · exact .inl ⟨List.length_eq_zero_iff.mp h0, _, _, rfl⟩
  · have hlt := block_lt hg
    refine .inr ⟨g, 0, cap, rfl, hlt, hn, hm, fun j u hj => ?_⟩
    rw [World.cell?_of_block (w := w) (Below.heap_alloc _ _ _ hlt)]
    have := h.cells (g := g) rfl j u hj
    rw [Addr.add_lit] at this; exact this
theorem below_grown {B : Nat} {a x y : World} {rb : Nat} (h : Below B a x) (hg : x.grownBy y (some rb)) (hB : B ≤ rb) (hx : B ≤ x.heap.size) : Below B a y :=
  h.trans ⟨hg.os, hg.tape, hg.output, hg.size, fun k hk => hg.block k (by omega) (by simp; omega)⟩
theorem RestIs.cell {w : World} {rb : Nat} {ts : List Tk} (h : RestIs w rb ts) : ∃ ao cap, w.cell? ⟨rb, 0, none⟩ = some (.slice ao ts.length cap) := by
  obtain ⟨v, hb, h⟩ := h
  have hc : w.cell? ⟨rb, 0, none⟩ = some v := by simp [World.cell?, hb]
  rcases h with ⟨rfl, ao, cap, rfl⟩ | ⟨g, off, cap, rfl, _⟩
  · exact ⟨_, _, hc⟩
  · exact ⟨_, _, hc⟩
def Parsed (w : World) (o : Option Tr) (e : Ending) (w' : World) : Prop :=
  Below w.heap.size w w' ∧
    ((o = none ∧ e = .returned (.tuple #[.agg #[.int .i64 0, .string ⟨#[]⟩, .bool false, .slice none 0 0], .int .i64 1])) ∨
     (∃ k tx br ao n cap t, o = some t ∧ e = .returned (.tuple #[.agg #[.int .i64 k, .string (ofBs tx), .bool br, .slice ao n cap], .int .i64 0]) ∧
        IsTr w' (fun g => w.heap.size ≤ g) [.int .i64 k, .string (ofBs tx), .bool br, .slice ao n cap] t))
theorem below_new {B : Nat} {a w : World} (h : Below B a w) {b : Nat} (hb : B ≤ b) (o : Nat) (v : Value) : Below B a (w.setCell ⟨b, o, none⟩ v) := h.setCell (p := ⟨b, o, none⟩) hb v
set_option maxHeartbeats 1600000 in
set_option maxRecDepth 100000 in
theorem parse_long (s : ByteArray) (w : World) (hs : s.size ≤ maxLen) (hl : 400 < s.size) :
    Calls Tryz.prog 106 #[.string s] w fun e w' => Parsed w none e w' := by
  unfold maxLen at hs
  go_enter Tryz.func106, Tryz.ntmps106
  go_wp2_with fail
  exact bodyPost_ret (v := .tuple #[.agg #[.int .i64 0, .string ⟨#[]⟩, .bool false, .slice none 0 0], .int .i64 1]) (by simp [results, Tryz.results106, go_sem]) rfl ⟨(Below.refl _ _).alloc (Nat.le_refl _) _, .inl ⟨rfl, rfl⟩⟩
set_option maxHeartbeats 1600000 in
set_option maxRecDepth 100000 in
theorem parse_short (s : ByteArray) (w : World) (hl : s.size ≤ 400) :
    Calls Tryz.prog 106 #[.string s] w fun e w' => Parsed w ((scanS s.toList).bind parseT) e w' := by
  go_enter Tryz.func106, Tryz.ntmps106
  go_wp2_with (go_at_call 177; refine (scan_any s _ hl).mono ?_)
  rintro e w2 ⟨hb2, hres⟩
  have hk2 := blk_below (blk_new w _) hb2
  have hs2 := block_lt hk2
  have B2 : Below w.heap.size w w2 := ((Below.refl _ _).alloc (Nat.le_refl _) _).trans (hb2.mono (by simp))
  obtain ⟨⟨z0, z1, z2, z3⟩, f0, f1, f2, f3⟩ := cells4 hk2
  rcases hres with ⟨ho, rfl⟩ | ⟨ts, v, ho, hl4, rfl, hown⟩
  · have HO : Hid ((scanS s.toList).bind parseT = none) := by rw [Hid, ho]; rfl
    clear ho
    go_wp2_with fail
    refine bodyPost_ret (v := .tuple #[.agg #[.int .i64 0, .string ⟨#[]⟩, .bool false, .slice none 0 0], .int .i64 1]) (by simp [results, Tryz.results106, go_sem, z0, z1, z2, z3]) rfl ⟨?_, .inl ⟨HO.out, rfl⟩⟩
    repeat (refine below_new ?_ (Nat.le_refl _) _ _)
    exact B2
  · have HO : Hid ((scanS s.toList).bind parseT = parseT ts) := by rw [Hid, ho]; rfl
    clear ho
    obtain ⟨ao0, n0, cap0, rfl⟩ : ∃ ao n cap, v = .slice ao n cap := by
      rcases hown.2 with ⟨e, _⟩ | ⟨q, cap, cur, e, _⟩
      · exact ⟨_, _, _, e⟩
      · exact ⟨_, _, _, e⟩
    have hR := rest_new hown
    clear hown
    have HT : ∀ x : World, RestIs x w2.heap.size ts → Calls Tryz.prog 178 #[.pointer (some ⟨w2.heap.size, 0, none⟩), .int .i64 0] x fun e w' => Reads x w2.heap.size ts (treeF (2 * ts.length) 0 ts) e w' :=
      fun x hx => tree_any (2 * ts.length) x w2.heap.size 0 ts hx (by omega) hl4 (by omega)
    go_wp2_with (go_at_call 178; refine (HT _ hR).mono ?_)
    rintro e w3 ⟨hg3, hres⟩
    have hk3 := blk_grown (blk_alloc hk2 _) hg3 (by omega)
    have hs3 := block_lt hk3
    obtain ⟨⟨z0, z1, z2, z3⟩, f0, f1, f2, f3⟩ := cells4 hk3
    have B3 : Below w.heap.size w w3 := below_grown (B2.alloc (by omega) _) hg3 (by omega) (by simp; omega)
    rcases hres with ⟨ho, rfl⟩ | ⟨k, tx, br, ao, n, cap, x, r, ho, hrl, rfl, hr3, hx⟩
    · have HP : Hid (parseT ts = none) := by rw [Hid, parseT, ho]
      clear ho HT
      go_wp2_with fail
      refine bodyPost_ret (v := .tuple #[.agg #[.int .i64 0, .string ⟨#[]⟩, .bool false, .slice none 0 0], .int .i64 1]) (by simp [results, Tryz.results106, go_sem, z0, z1, z2, z3, hs3]) rfl ⟨?_, .inl ⟨by rw [HO.out, HP.out], rfl⟩⟩
      refine Below.alloc ?_ (by simp [World.setCell]; omega) _
      repeat (refine below_new ?_ (Nat.le_refl _) _ _)
      exact B3
    · obtain ⟨ar, cr, hcr⟩ := hr3.cell
      have hgs := hg3.size
      simp only [World.size_alloc] at hgs
      have hgs2 : w2.heap.size < w3.heap.size := by omega
      cases r with
      | nil =>
        have HP : Hid (parseT ts = some x) := by rw [Hid, parseT, ho]
        have HX : Hid _ := hx
        clear ho HT hx
        simp only [List.length_nil] at hcr
        go_wp2_with fail
        refine bodyPost_ret (v := .tuple #[.agg #[.int .i64 k, .string (ofBs tx), .bool br, .slice ao n cap], .int .i64 0]) (by simp [results, Tryz.results106, go_sem, z0, z1, z2, z3, hs3]) rfl ⟨?_, .inr ⟨_, _, _, _, _, _, x, by rw [HO.out, HP.out], rfl, HX.out.bounded.move (fun g hg => ?_) (fun g hg => by have := hg.1; simp at this; omega)⟩⟩
        · refine Below.alloc ?_ (by simp [World.setCell]; omega) _
          repeat (refine below_new ?_ (Nat.le_refl _) _ _)
          exact B3
        · have h1 := hg.1; simp at h1
          rw [Below.heap_alloc _ _ _ (by simp [World.setCell]; exact hg.2)]
          repeat rw [Below.heap_setCell _ _ _ _ (by show g ≠ w.heap.size; omega)]
      | cons c r =>
        have HP : Hid (parseT ts = none) := by rw [Hid, parseT, ho]
        have hcr2 : w3.cell? ⟨w2.heap.size, 0, none⟩ = some (.slice ar (r.length + 1) cr) := hcr
        clear ho HT hx hcr
        go_wp2_with fail
        refine bodyPost_ret (v := .tuple #[.agg #[.int .i64 0, .string ⟨#[]⟩, .bool false, .slice none 0 0], .int .i64 1]) (by simp [results, Tryz.results106, go_sem, z0, z1, z2, z3, hs3]) rfl ⟨?_, .inl ⟨by rw [HO.out, HP.out], rfl⟩⟩
        refine Below.alloc ?_ (by simp [World.setCell]; omega) _
        repeat (refine below_new ?_ (Nat.le_refl _) _ _)
        exact B3
theorem parse_any (s : ByteArray) (w : World) (hs : s.size ≤ maxLen) :
    Calls Tryz.prog 106 #[.string s] w fun e w' => Parsed w (parseS s.toList) e w' := by
  unfold parseS
  rw [toList_length]
  by_cases hl : 400 < s.size
  · rw [if_pos hl]; exact parse_long s w hs hl
  · rw [if_neg hl]; exact parse_short s w (by omega)
end Go.Proofs.YtilfjpmeededmaaGreatDoor

namespace Go.Proofs.YtilfjpmeededmaaGreatDoor
open Go.RowKit
end Go.Proofs.YtilfjpmeededmaaGreatDoor

namespace Go.Proofs.YtilfjpmeededmaaGreatDoor
open Go.RowKit
theorem IsTrs.get {w : World} {S : Nat → Prop} {cs : List Value} {ts : List Tr} (h : IsTrs w S cs ts) (i : Nat) (hi : i < ts.length) : ∃ c, IsTr w S c ts[i] ∧ ∀ j, j < 4 → cs[i * 4 + j]? = c[j]? := by
  induction ts generalizing cs i with
  | nil => simp at hi
  | cons t ts ih =>
    cases h with
    | @cons c cs _ _ a b =>
      cases i with
      | zero => exact ⟨c, a, fun j hj => by rw [List.getElem?_append_left (by rw [a.four]; omega)]; simp⟩
      | succ i =>
        obtain ⟨d, hd, hj⟩ := ih b i (by simpa using hi)
        refine ⟨d, hd, fun j hj4 => ?_⟩
        rw [← hj j hj4, List.getElem?_append_right (by rw [a.four]; omega), a.four]
        congr 1; omega
theorem IsTr.inv {w : World} {S : Nat → Prop} {c : List Value} {t : Tr} (h : IsTr w S c t) : ∃ k tx br ops ao n cap cs, t = .mk k tx br ops ∧ c = [.int .i64 k, .string (ofBs tx), .bool br, .slice ao n cap] ∧ n = ops.length ∧ IsTrs w S cs ops ∧
    w.ownsRow 0 236 4 (.slice ao n cap) ops.length cs ∧ ∀ g, (Value.slice ao n cap).ownBlock = some g → S g := by
  cases h with
  | @mk k tx br ops v cs a b d =>
    rcases b.2 with ⟨rfl, h0⟩ | ⟨g, cap, cur, rfl, hr⟩
    · exact ⟨k, tx, br, ops, none, 0, 0, cs, rfl, rfl, h0.symm, a, b, d⟩
    · exact ⟨k, tx, br, ops, _, _, _, cs, rfl, rfl, rfl, a, b, d⟩
end Go.Proofs.YtilfjpmeededmaaGreatDoor

namespace Go.Proofs.YtilfjpmeededmaaGreatDoor
open Go.RowKit
end Go.Proofs.YtilfjpmeededmaaGreatDoor

namespace Go.Proofs.YtilfjpmeededmaaGreatDoor
mutual
def dep : Tr → Nat
  | .mk _ _ br ops => if br then 1 + depL ops else 0
def depL : List Tr → Nat
  | [] => 0
  | t :: ts => max (dep t) (depL ts)
end
def blanksB (l : Bs) : Bool := l.all fun c => blankB c.toNat
def sepB (c : UInt8) : Bool := blankB c.toNat || bracketB c.toNat
def endOK (r : Bs) : Prop := r = [] ∨ sepB (r.headD 0) = true
def Good (tx : Bs) : Prop := (tx ≠ [] ∧ tx.all (fun c => !sepB c && c != 39) = true) ∨ (∃ inner : Bs, tx = 39 :: (inner ++ [39]) ∧ inner.all (fun c => c != 39) = true)
theorem blanksB_cons (c : UInt8) (l : Bs) : blanksB (c :: l) = (blankB c.toNat && blanksB l) := rfl
theorem scan_blanks (b l : Bs) (h : blanksB b = true) : scanS (b ++ l) = scanS l := by
  induction b with
  | nil => rfl
  | cons c r ih =>
    rw [blanksB_cons, Bool.and_eq_true] at h
    rw [scanS_eq _ (by simp)]
    simp only [List.cons_append, List.headD_cons, h.1, if_true, List.drop_succ_cons, List.drop_zero]
    exact ih h.2
theorem scan_one (tx r : Bs) (h0 : 0 < tx.length) (hb : blankB (tx.headD 0).toNat = false) (hp : plen (tx ++ r) = tx.length) : scanS (tx ++ r) = if kindS tx = 0 then none else (scanS r).map ((kindS tx, tx) :: ·) := by
  have hh : (tx ++ r).headD 0 = tx.headD 0 := by cases tx with | nil => simp at h0 | cons _ _ => rfl
  rw [scanS_eq _ (by simp; omega), hh, hb, if_neg Bool.false_ne_true, hp, List.take_left, List.drop_left]
theorem sep_notSep (c : UInt8) : notSep c = !sepB c := by simp [notSep, sepB]
theorem tw_end2 (r : Bs) (h : endOK r) : r.takeWhile notSep = [] := by
  rcases h with rfl | h
  · rfl
  · cases r with
    | nil => rfl
    | cons c r =>
      have : notSep c = false := by rw [sep_notSep]; simp only [List.headD_cons] at h; rw [h]; rfl
      rw [List.takeWhile_cons, this]; rfl
theorem tw_all (tx r : Bs) (h : tx.all notSep = true) (he : endOK r) : (tx ++ r).takeWhile notSep = tx := by
  induction tx with
  | nil => exact tw_end2 r he
  | cons c t ih =>
    rw [List.all_cons, Bool.and_eq_true] at h
    rw [List.cons_append, List.takeWhile_cons, h.1, if_pos rfl, ih h.2]
theorem tw39 (inner r : Bs) (h : inner.all (fun c => c != 39) = true) : (inner ++ 39 :: r).takeWhile (· != 39) = inner := by
  induction inner with
  | nil => rfl
  | cons c t ih =>
    rw [List.all_cons, Bool.and_eq_true] at h
    rw [List.cons_append, List.takeWhile_cons, h.1, if_pos rfl, ih h.2]
theorem good_pos {tx : Bs} (h : Good tx) : 0 < tx.length := by
  rcases h with ⟨h, _⟩ | ⟨i, rfl, _⟩
  · exact List.length_pos_iff.mpr h
  · simp
theorem good_head {tx : Bs} (h : Good tx) : sepB (tx.headD 0) = false := by
  rcases h with ⟨h, h2⟩ | ⟨i, rfl, _⟩
  · cases tx with
    | nil => exact absurd rfl h
    | cons c t => rw [List.all_cons, Bool.and_eq_true] at h2; have := h2.1; simp at this; simpa using this.1
  · rfl
theorem sep_split {c : UInt8} (h : sepB c = false) : blankB c.toNat = false ∧ bracketB c.toNat = false := by
  unfold sepB at h; simpa using h
theorem good_plen {tx r : Bs} (h : Good tx) (he : endOK r) : plen (tx ++ r) = tx.length := by
  have hh := good_head h
  have hl := good_pos h
  have hhd : (tx ++ r).headD 0 = tx.headD 0 := by cases tx with | nil => simp at hl | cons _ _ => rfl
  unfold plen
  rw [hhd, (sep_split hh).2, if_neg Bool.false_ne_true]
  rcases h with ⟨h, h2⟩ | ⟨i, rfl, h2⟩
  · have hq : qlen (tx ++ r) = 0 := by
      unfold qlen
      rw [hhd]
      cases tx with
      | nil => exact absurd rfl h
      | cons c t =>
        rw [List.all_cons, Bool.and_eq_true] at h2
        have := h2.1; simp at this
        rw [List.headD_cons, if_neg]; simpa using this.2
    have ha : tx.all notSep = true := by
      rw [List.all_eq_true] at h2 ⊢
      intro c hc; have := h2 c hc; simp at this; rw [sep_notSep, this.1]; rfl
    rw [hq, List.drop_zero, tw_all tx r ha he, Nat.zero_add]
  · have e : ((39 :: (i ++ [39])) ++ r).drop 1 = i ++ 39 :: r := by simp
    have hq : qlen ((39 :: (i ++ [39])) ++ r) = i.length + 2 := by
      unfold qlen
      rw [e, tw39 i r h2, if_pos (by rfl), if_pos]
      rw [List.contains_iff_mem]; simp
    rw [hq]
    have d : ((39 :: (i ++ [39])) ++ r).drop (i.length + 2) = r := by
      have : (39 :: (i ++ [39])).length = i.length + 2 := by simp
      rw [← this, List.drop_left]
    rw [d, tw_end2 r he]; simp
mutual
def toks : Tr → List Tk
  | .mk k tx br ops => if br then (1, [40]) :: (k, tx) :: (toksL ops ++ [(2, [41])]) else [(k, tx)]
def toksL : List Tr → List Tk
  | [] => []
  | t :: ts => toks t ++ toksL ts
end
mutual
inductive Wf : Tr → Prop
  | leaf {k : Int} {tx : Bs} : kindS tx = k → k ≠ 0 → ¬ k = 1 → ¬ k = 2 → Good tx → aloneS k tx = true → Wf (.mk k tx false [])
  | node {k : Int} {tx : Bs} {ops : List Tr} : kindS tx = k → k ≠ 0 → Good tx → headS k tx = true → WfL ops → Wf (.mk k tx true ops)
inductive WfL : List Tr → Prop
  | nil : WfL []
  | cons {t : Tr} {ts : List Tr} : Wf t → WfL ts → WfL (t :: ts)
end
theorem first_kind {x : Tr} (h : Wf x) : ∃ t r, toks x = t :: r ∧ ¬ t.1 = 2 := by
  cases h with
  | leaf h1 h2 h3 h4 h5 h6 => exact ⟨_, [], by rw [toks]; rfl, h4⟩
  | node h1 h2 h3 h4 h5 => exact ⟨(1, [40]), _, by rw [toks]; rfl, by decide⟩
mutual
theorem parse_tree : ∀ {x : Tr} {f deep : Nat} {r : List Tk}, Wf x → deep + dep x ≤ 20 → 2 * (toks x).length ≤ f → treeF f deep (toks x ++ r) = some (x, r)
  | _, f, deep, r, .leaf h1 h2 h3 h4 h5 h6, _, hf => by
    rw [toks] at hf ⊢
    simp at hf
    obtain ⟨g, rfl⟩ : ∃ g, f = g + 1 := ⟨f - 1, by omega⟩
    simp only [Bool.false_eq_true, if_false, List.cons_append, List.nil_append]
    rw [treeF, if_neg h3, h6, if_pos rfl]
  | _, f, deep, r, @Wf.node k tx ops h1 h2 h3 h4 h5, hd, hf => by
    rw [dep, if_pos rfl] at hd
    rw [toks, if_pos rfl] at hf ⊢
    simp only [List.length_cons, List.length_append, List.length_nil] at hf
    obtain ⟨g, rfl⟩ : ∃ g, f = g + 2 := ⟨f - 2, by omega⟩
    have := parse_trees (r := r) (f := g) (deep := deep + 1) h5 (by omega) (by omega)
    simp only [List.cons_append, List.append_assoc, List.nil_append]
    rw [treeF, if_pos rfl, brF, if_neg (by omega), h4, if_pos rfl, this]; rfl
theorem parse_trees : ∀ {xs : List Tr} {f deep : Nat} {r : List Tk}, WfL xs → deep + depL xs ≤ 20 → 2 * (toksL xs).length + 1 ≤ f → opsF f deep (toksL xs ++ (2, [41]) :: r) = some (xs, r)
  | _, f, deep, r, .nil, _, hf => by
    obtain ⟨g, rfl⟩ : ∃ g, f = g + 1 := ⟨f - 1, by omega⟩
    rw [toksL, List.nil_append, opsF, if_pos rfl]
  | _, f, deep, r, @WfL.cons t ts h1 h2, hd, hf => by
    rw [depL] at hd
    rw [toksL, List.length_append] at hf
    obtain ⟨a, b, he, hk⟩ := first_kind h1
    obtain ⟨g, rfl⟩ : ∃ g, f = g + 1 := ⟨f - 1, by omega⟩
    have hl : 1 ≤ (toks t).length := by rw [he]; simp
    have i1 := parse_tree (f := g) (deep := deep) (r := toksL ts ++ (2, [41]) :: r) h1 (by omega) (by omega)
    have i2 := parse_trees (f := g) (deep := deep) (r := r) h2 (by omega) (by omega)
    rw [toksL, List.append_assoc]
    rw [he, List.cons_append] at i1
    rw [he, List.cons_append, opsF, if_neg hk, i1]
    simp only
    rw [i2]; rfl
end
end Go.Proofs.YtilfjpmeededmaaGreatDoor

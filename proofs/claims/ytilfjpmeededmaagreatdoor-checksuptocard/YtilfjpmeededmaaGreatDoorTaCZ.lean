import Derived.Test.YtilfjpmeededmaaGreatDoorBaBZ
import Derived.Test.YtilfjpmeededmaaGreatDoorWkFZ
set_option linter.unusedVariables false
set_option linter.unusedSimpArgs false
namespace Go.Proofs.YtilfjpmeededmaaGreatDoor
open Go.RowKit
abbrev ColT := Bs × Bs × Int
def colTyS (c : ColT) : Int := match c.2.1 with
  | [x] => typeB x.toNat
  | _ => 0
set_option maxHeartbeats 800000 in
set_option maxRecDepth 100000 in
theorem columnType_any (c : ColT) (w : World) : Calls Tryz.prog 214 #[.agg #[.string (ofBs c.1), .string (ofBs c.2.1), .int .i64 c.2.2]] w fun e w' => e = .returned (.int .i64 (colTyS c)) ∧ Below w.heap.size w w' := by
  obtain ⟨n, t, d⟩ := c
  have hbx := below_box w (.cells #[.string (ofBs n), .string (ofBs t), .int .i64 d] 162)
  have hsz : (ofBs t).size = t.length := ofBs_size t
  match t, hsz with
  | [], hsz =>
    have e0 : ofBs ([] : Bs) = ⟨#[]⟩ := rfl
    simp only [e0] at hbx ⊢
    go_enter Tryz.func214, Tryz.ntmps214
    go_wp2_with fail
    go_ret
    exact ⟨rfl, hbx⟩
  | [x], hsz =>
    have e0 : ofBs [x] = ⟨#[x]⟩ := rfl
    have HT := fun y : World => typeOfB_any (x.toNat : Int) y
    have HR : Hid (colTyS (n, [x], d) = typeB x.toNat) := rfl
    simp only [e0] at hbx hsz ⊢
    go_enter Tryz.func214, Tryz.ntmps214
    go_wp2_with (go_at_call 208; refine (HT _).mono ?_; rintro e w2 ⟨rfl, rfl⟩)
    go_ret
    exact ⟨by rw [HR.out]; rfl, hbx⟩
  | x :: y :: r, hsz =>
    have HR : Hid (colTyS (n, x :: y :: r, d) = 0) := rfl
    have hne : ((((ofBs (x :: y :: r)).size : Nat) : Int) == 1) = false := by
      rw [hsz]; simp; omega
    obtain ⟨t, ht⟩ : ∃ t, t = ofBs (x :: y :: r) := ⟨_, rfl⟩
    simp only [← ht] at hbx hne ⊢
    clear hsz ht
    go_enter Tryz.func214, Tryz.ntmps214
    go_wp2_with fail
    go_ret
    exact ⟨by rw [HR.out]; rfl, hbx⟩
def isColS (c : ColT) : Bool := wordS c.1 && !(colTyS c == 0) && decide (1 ≤ c.2.2) && decide (c.2.2 ≤ 1000000)
set_option maxHeartbeats 1600000 in
set_option maxRecDepth 100000 in
theorem tabColumn_any (c : ColT) (w : World) (hn : c.1.length ≤ maxLen) : Calls Tryz.prog 294 #[.agg #[.string (ofBs c.1), .string (ofBs c.2.1), .int .i64 c.2.2]] w fun e w' => e = .returned (.bool (isColS c)) ∧ Below w.heap.size w w' := by
  have HT := fun y : World => columnType_any c y
  have HR : Hid (isColS c = (wordS c.1 && !(colTyS c == 0) && decide (1 ≤ c.2.2) && decide (c.2.2 ≤ 1000000))) := rfl
  obtain ⟨ty, hty⟩ : ∃ t, t = colTyS c := ⟨_, rfl⟩
  rw [← hty] at HR
  simp only [← hty] at HT
  clear hty
  obtain ⟨n, t, d⟩ := c
  simp only at HT HR hn ⊢
  have hs : (ofBs n).size ≤ maxLen := by rw [ofBs_size]; exact hn
  have hbx := below_box w (.cells #[.string (ofBs n), .string (ofBs t), .int .i64 d] 162)
  have k0 := heap_alloc_new w (.cells #[.string (ofBs n), .string (ofBs t), .int .i64 d] 162)
  have HW : ∀ y : World, Calls Tryz.prog 138 #[.string (ofBs n)] y fun e w' => e = .returned (.bool (wordS n)) ∧ w' = y := by
    intro y; have := isWord_any (ofBs n) y hs; rw [ofBs_toList] at this; exact this
  obtain ⟨a, ha⟩ : ∃ a, a = wordS n := ⟨_, rfl⟩
  rw [← ha] at HR
  simp only [← ha] at HW
  clear ha
  cases a
  · go_enter Tryz.func294, Tryz.ntmps294
    go_wp2_with (go_at_call 138; refine (HW _).mono ?_; rintro e w2 ⟨rfl, rfl⟩)
    go_ret
    exact ⟨by rw [HR.out]; rfl, hbx⟩
  · cases h0 : (ty == 0)
    · rw [h0] at HR
      have h0' : (ty != 0) = true := by rw [bne, h0]; rfl
      clear h0
      by_cases h1 : 1 ≤ d
      · have h1' : decide (1 ≤ d) = true := by simpa using h1
        rw [h1'] at HR
        go_enter Tryz.func294, Tryz.ntmps294
        go_wp2_with (first
          | (go_at_call 138; refine (HW _).mono ?_; rintro e w2 ⟨rfl, rfl⟩)
          | (go_at_call 214; refine (HT _).mono ?_; rintro e w3 ⟨rfl, hb3⟩; obtain ⟨⟨a0, a1, a2⟩, _⟩ := cells3w ((hb3.block _ (by simp [World.size_alloc])).trans k0)))
        go_ret
        exact ⟨by rw [HR.out]; simp, hbx.trans (hb3.mono hbx.size)⟩
      · have h1' : decide (1 ≤ d) = false := by simpa using h1
        rw [h1'] at HR
        go_enter Tryz.func294, Tryz.ntmps294
        go_wp2_with (first
          | (go_at_call 138; refine (HW _).mono ?_; rintro e w2 ⟨rfl, rfl⟩)
          | (go_at_call 214; refine (HT _).mono ?_; rintro e w3 ⟨rfl, hb3⟩; obtain ⟨⟨a0, a1, a2⟩, _⟩ := cells3w ((hb3.block _ (by simp [World.size_alloc])).trans k0)))
        go_ret
        exact ⟨by rw [HR.out]; rfl, hbx.trans (hb3.mono hbx.size)⟩
    · rw [h0] at HR
      have h0' : (ty != 0) = false := by rw [bne, h0]; rfl
      clear h0
      go_enter Tryz.func294, Tryz.ntmps294
      go_wp2_with (first
        | (go_at_call 138; refine (HW _).mono ?_; rintro e w2 ⟨rfl, rfl⟩)
        | (go_at_call 214; refine (HT _).mono ?_; rintro e w3 ⟨rfl, hb3⟩; obtain ⟨⟨a0, a1, a2⟩, _⟩ := cells3w ((hb3.block _ (by simp [World.size_alloc])).trans k0)))
      go_ret
      exact ⟨by rw [HR.out]; rfl, hbx.trans (hb3.mono hbx.size)⟩
def ColsIn (w : World) (v : Value) (cs : List ColT) : Prop := ∃ ao cap, v = .slice ao cs.length cap ∧ cs.length ≤ cap ∧ cs.length ≤ maxLen ∧ (cs = [] ∨ ∃ b off, ao = some ⟨b, off, none⟩ ∧ b < w.heap.size ∧ ∀ (i : Nat) (c : ColT), cs[i]? = some c →
  (w.cell? ⟨b, off + i * 3, none⟩ = some (.string (ofBs c.1)) ∧ w.cell? ⟨b, off + i * 3 + 1, none⟩ = some (.string (ofBs c.2.1)) ∧ w.cell? ⟨b, off + i * 3 + 2, none⟩ = some (.int .i64 c.2.2)) ∧ c.1.length ≤ maxLen ∧ c.2.1.length ≤ maxLen)
theorem ColsIn.keep {w x : World} {v : Value} {cs : List ColT} (h : ColsIn w v cs) (hb : Below w.heap.size w x) : ColsIn x v cs := by
  obtain ⟨ao, cap, h1, h1', h2, h3⟩ := h
  refine ⟨ao, cap, h1, h1', h2, ?_⟩
  rcases h3 with h | ⟨b, off, e, hl, hc⟩
  · exact .inl h
  · refine .inr ⟨b, off, e, by have := hb.size; omega, fun i f hf => ?_⟩
    obtain ⟨⟨a, b', c⟩, d⟩ := hc i f hf
    exact ⟨⟨(hb.cell (p := ⟨b, _, none⟩) hl).trans a, (hb.cell (p := ⟨b, _, none⟩) hl).trans b', (hb.cell (p := ⟨b, _, none⟩) hl).trans c⟩, d⟩
def likeS (l : Bs) (cs : List ColT) : Bool := cs.any fun c => c.1 == l
set_option maxHeartbeats 800000 in
set_option maxRecDepth 100000 in
theorem like1_any (w : World) (nb : Nat) (c : ColT) (l : Bs) (hnl : nb < w.heap.size) (hn : w.cell? ⟨nb, 0, none⟩ = some (.string (ofBs l))) :
    Calls Tryz.prog 293 #[.agg #[.string (ofBs c.1), .string (ofBs c.2.1), .int .i64 c.2.2], .pointer (some ⟨nb, 0, none⟩)] w fun e w' => e = .returned (.bool (c.1 == l)) ∧ Below w.heap.size w w' := by
  have HR : Hid ((c.1 == l) = ((ofBs c.1).toList == (ofBs l).toList)) := by rw [Hid, ofBs_toList, ofBs_toList]
  have hb := below_box w (.cells #[.string (ofBs c.1), .string (ofBs c.2.1), .int .i64 c.2.2] 162)
  have hn2 := (hb.cell (p := ⟨nb, 0, none⟩) hnl).trans hn
  go_enter Tryz.func293, Tryz.ntmps293
  go_upto_region 1 with fail
  first
    | (go_region; go_wp2_with fail; go_ret; exact ⟨by rw [HR.out]; rfl, hb.drew⟩)
    | (go_wp2_with fail; go_ret; exact ⟨by rw [HR.out]; rfl, hb⟩)
set_option maxHeartbeats 1600000 in
set_option maxRecDepth 100000 in
theorem colsIndexFunc_any (w : World) (v : Value) (cs : List ColT) (nb : Nat) (l : Bs) (h : ColsIn w v cs) (hnl : nb < w.heap.size) (hn : w.cell? ⟨nb, 0, none⟩ = some (.string (ofBs l))) :
    Calls Tryz.prog 355 #[v, .func (Fn.func 293) #[] #[.pointer (some ⟨nb, 0, none⟩)]] w fun e w' => (∃ k : Int, e = .returned (.int .i64 k) ∧ decide (0 ≤ k) = likeS l cs) ∧ Below w.heap.size w w' := by
  obtain ⟨ao, cap, rfl, _, hl, hz⟩ := h
  unfold maxLen at hl
  go_enter Tryz.func355, Tryz.ntmps355
  go_wp2_with fail
  go_loopw [8] (fun iv wx => ∃ i : Nat, i ≤ cs.length ∧ iv = .int .i64 i ∧ Below w.heap.size w wx ∧ Hid (likeS l cs = likeS l (cs.drop i))) (fun iv _ => cs.length - (intOf iv).toNat)
  case atStart => exact ⟨0, Nat.zero_le _, rfl, Below.refl _ _, rfl⟩
  case round =>
    obtain ⟨i, hi, rfl, hB, HE⟩ := hrel
    have hsB := hB.size
    by_cases hlt : i < cs.length
    · obtain ⟨b, off, rfl, hb, hc⟩ : ∃ b off, ao = some ⟨b, off, none⟩ ∧ b < w.heap.size ∧ ∀ (i : Nat) (c : ColT), cs[i]? = some c → (w.cell? ⟨b, off + i * 3, none⟩ = some (.string (ofBs c.1)) ∧ w.cell? ⟨b, off + i * 3 + 1, none⟩ = some (.string (ofBs c.2.1)) ∧ w.cell? ⟨b, off + i * 3 + 2, none⟩ = some (.int .i64 c.2.2)) ∧ c.1.length ≤ maxLen ∧ c.2.1.length ≤ maxLen := by
        rcases hz with h | h
        · subst h; simp at hlt
        · exact h
      obtain ⟨⟨p0, p1, p2⟩, _⟩ := hc i cs[i] (List.getElem?_eq_getElem hlt)
      have q0 := (hB.cell (p := ⟨b, off + i * 3, none⟩) hb).trans p0
      have q1 := (hB.cell (p := ⟨b, off + i * 3 + 1, none⟩) hb).trans p1
      have q2 := (hB.cell (p := ⟨b, off + i * 3 + 2, none⟩) hb).trans p2
      have HA : Hid (likeS l cs = ((cs[i].1 == l) || likeS l (cs.drop (i + 1)))) := by rw [Hid, HE.out, List.drop_eq_getElem_cons hlt]; rfl
      have hn' := (hB.cell (p := ⟨nb, 0, none⟩) hnl).trans hn
      obtain ⟨c, hck⟩ : ∃ c, c = cs[i] := ⟨_, rfl⟩
      rw [← hck] at q0 q1 q2 HA
      have hnr : nb < wr.heap.size := by omega
      have hbr : b < wr.heap.size := by omega
      have HC := like1_any wr nb c l hnr hn'
      clear hc hz hck HE p0 p1 p2
      obtain ⟨d, hd⟩ : ∃ d, d = (c.1 == l) := ⟨_, rfl⟩
      rw [← hd] at HC HA
      clear hd
      cases d with
      | false =>
        have HN : Hid (likeS l cs = likeS l (cs.drop (i + 1))) := by rw [Hid, HA.out]; rfl
        clear HA
        go_wp2_with (go_at_call 293; refine HC.mono ?_; rintro e w2 ⟨rfl, hb2⟩)
        go_roundw
        case rel => exact ⟨i + 1, by omega, by go_num, hB.trans (hb2.mono hsB), HN⟩
        case measure => simp [intOf]; omega
      | true =>
        have HN : Hid (likeS l cs = true) := by rw [Hid, HA.out]; rfl
        clear HA
        go_wp2_with (go_at_call 293; refine HC.mono ?_; rintro e w2 ⟨rfl, hb2⟩)
        go_ret
        exact ⟨⟨_, rfl, by rw [HN.out]; simp⟩, hB.trans (hb2.mono hsB)⟩
    · have HN : Hid (likeS l cs = false) := by rw [Hid, HE.out, List.drop_of_length_le (by omega)]; rfl
      clear HE hz
      go_wp2_with fail
      go_ret
      exact ⟨⟨_, rfl, by rw [HN.out]; rfl⟩, hB⟩
set_option maxHeartbeats 400000 in
set_option maxRecDepth 100000 in
theorem colsContainsFunc_any (w : World) (v : Value) (cs : List ColT) (nb : Nat) (l : Bs) (h : ColsIn w v cs) (hnl : nb < w.heap.size) (hn : w.cell? ⟨nb, 0, none⟩ = some (.string (ofBs l))) :
    Calls Tryz.prog 295 #[v, .func (Fn.func 293) #[] #[.pointer (some ⟨nb, 0, none⟩)]] w fun e w' => e = .returned (.bool (likeS l cs)) ∧ Below w.heap.size w w' := by
  have HC := colsIndexFunc_any w v cs nb l h hnl hn
  go_enter Tryz.func295, Tryz.ntmps295
  go_wp2_with (go_at_call 355; refine HC.mono ?_; rintro e w2 ⟨⟨i, rfl, hi⟩, hb2⟩)
  go_ret
  exact ⟨rfl, hb2⟩
end Go.Proofs.YtilfjpmeededmaaGreatDoor

namespace Go.Proofs.YtilfjpmeededmaaGreatDoor
open Go.RowKit
def colsFrom (prev : List ColT) : List ColT → Bool
  | [] => true
  | c :: r => isColS c && !likeS c.1 prev && colsFrom (prev ++ [c]) r
def areColsS (cs : List ColT) : Bool := !(decide (cs.length < 1) || decide (4 < cs.length)) && colsFrom [] cs
theorem ColsIn.take {w : World} {ao : Option Addr} {n cap : Nat} {cs : List ColT} (h : ColsIn w (.slice ao n cap) cs) (i : Nat) (hi : i ≤ cs.length) : ColsIn w (.slice ao i cap) (cs.take i) := by
  obtain ⟨ao', cap', e, h1, h2, h3⟩ := h
  cases e
  have hl : (cs.take i).length = i := by rw [List.length_take]; omega
  refine ⟨ao, cap, by rw [hl], by omega, by omega, ?_⟩
  rcases h3 with h | ⟨b, off, e, hlt, hc⟩
  · subst h; exact .inl (by simp)
  · exact .inr ⟨b, off, e, hlt, fun j c hj => hc j c (by
      have hji : j < i := by have := (List.getElem?_eq_some_iff.mp hj).1; omega
      rw [List.getElem?_take_of_lt hji] at hj; exact hj)⟩
set_option maxHeartbeats 4000000 in
set_option maxRecDepth 100000 in
theorem areColumns_any (w : World) (v : Value) (cs : List ColT) (h : ColsIn w v cs) :
    Calls Tryz.prog 212 #[v] w fun e w' => e = .returned (.bool (areColsS cs)) ∧ Below w.heap.size w w' := by
  have hI := h
  obtain ⟨ao, cap, rfl, hcap, hl, hz⟩ := h
  unfold maxLen at hl
  by_cases h0 : cs.length < 1
  · have HR : Hid (areColsS cs = false) := by rw [Hid, areColsS, decide_eq_true h0]; rfl
    have hd : decide ((cs.length : Int) < 1) = true := decide_eq_true (by omega)
    clear hz hI
    go_enter Tryz.func212, Tryz.ntmps212
    go_wp2_with fail
    go_ret
    exact ⟨by rw [HR.out]; rfl, Below.refl _ _⟩
  · have hd : decide ((cs.length : Int) < 1) = false := decide_eq_false (by omega)
    by_cases h4 : 4 < cs.length
    · have HR : Hid (areColsS cs = false) := by rw [Hid, areColsS, decide_eq_true h4]; simp
      have hd4 : decide ((4 : Int) < (cs.length : Int)) = true := decide_eq_true (by omega)
      clear hz hI
      go_enter Tryz.func212, Tryz.ntmps212
      go_wp2_with fail
      go_ret
      exact ⟨by rw [HR.out]; rfl, Below.refl _ _⟩
    · have hd4 : decide ((4 : Int) < (cs.length : Int)) = false := decide_eq_false (by omega)
      have HR : Hid (areColsS cs = colsFrom (cs.take 0) (cs.drop 0)) := by rw [Hid, areColsS, decide_eq_false h0, decide_eq_false h4]; simp
      obtain ⟨b, off, rfl, hb, hc⟩ : ∃ b off, ao = some ⟨b, off, none⟩ ∧ b < w.heap.size ∧ ∀ (i : Nat) (c : ColT), cs[i]? = some c → (w.cell? ⟨b, off + i * 3, none⟩ = some (.string (ofBs c.1)) ∧ w.cell? ⟨b, off + i * 3 + 1, none⟩ = some (.string (ofBs c.2.1)) ∧ w.cell? ⟨b, off + i * 3 + 2, none⟩ = some (.int .i64 c.2.2)) ∧ c.1.length ≤ maxLen ∧ c.2.1.length ≤ maxLen := by
        rcases hz with h | h
        · subst h; simp at h0
        · exact h
      go_enter Tryz.func212, Tryz.ntmps212
      go_wp2_with fail
      go_loopw [16] (fun iv wx => ∃ i : Nat, i ≤ cs.length ∧ iv = .int .i64 i ∧ Below w.heap.size w wx ∧ Hid (areColsS cs = colsFrom (cs.take i) (cs.drop i))) (fun iv _ => cs.length - (intOf iv).toNat)
      case atStart => exact ⟨0, Nat.zero_le _, rfl, Below.refl _ _, HR⟩
      case round =>
        obtain ⟨i, hi, rfl, hB, HE⟩ := hrel
        have hsB := hB.size
        by_cases hlt : i < cs.length
        · obtain ⟨⟨p0, p1, p2⟩, hnl, _⟩ := hc i cs[i] (List.getElem?_eq_getElem hlt)
          have q0 := (hB.cell (p := ⟨b, off + i * 3, none⟩) hb).trans p0
          have q1 := (hB.cell (p := ⟨b, off + i * 3 + 1, none⟩) hb).trans p1
          have q2 := (hB.cell (p := ⟨b, off + i * 3 + 2, none⟩) hb).trans p2
          have HA : Hid (areColsS cs = (isColS cs[i] && !likeS cs[i].1 (cs.take i) && colsFrom (cs.take (i + 1)) (cs.drop (i + 1)))) := by
            rw [Hid, HE.out, List.drop_eq_getElem_cons hlt, colsFrom, List.take_succ_eq_append_getElem hlt]
          obtain ⟨c, hck⟩ : ∃ c, c = cs[i] := ⟨_, rfl⟩
          rw [← hck] at q0 q1 q2 HA hnl
          have hbr : b < wr.heap.size := by omega
          have hbx := below_box wr (.cells #[.string (ofBs c.1), .string (ofBs c.2.1), .int .i64 c.2.2] 162)
          have k0 := heap_alloc_new wr (.cells #[.string (ofBs c.1), .string (ofBs c.2.1), .int .i64 c.2.2] 162)
          have HI := tabColumn_any c (wr.alloc (.cells #[.string (ofBs c.1), .string (ofBs c.2.1), .int .i64 c.2.2] 162)) hnl
          have HK := fun (x : World) (hx : Below w.heap.size w x) => (hI.keep hx).take i (by omega)
          clear hc HE p0 p1 p2 hck HR
          cases hco : isColS c with
          | false =>
            have HN : Hid (areColsS cs = false) := by rw [Hid, HA.out, hco]; rfl
            rw [hco] at HI
            clear HA HK
            go_wp2_with (go_at_call 294; refine HI.mono ?_; rintro e w2 ⟨rfl, hb2⟩)
            go_ret
            exact ⟨by rw [HN.out]; rfl, (hB.trans (hbx.mono hsB)).trans (hb2.mono (by rw [World.size_alloc]; omega))⟩
          | true =>
            rw [hco] at HI HA
            have HL : ∀ x : World, Below (wr.alloc (.cells #[.string (ofBs c.1), .string (ofBs c.2.1), .int .i64 c.2.2] 162)).heap.size (wr.alloc (.cells #[.string (ofBs c.1), .string (ofBs c.2.1), .int .i64 c.2.2] 162)) x → Calls Tryz.prog 295 #[.slice (some ⟨b, off, none⟩) i cap, .func (Fn.func 293) #[] #[.pointer (some ⟨wr.heap.size, 0, none⟩)]] x fun e w' => e = .returned (.bool (likeS c.1 (cs.take i))) ∧ Below x.heap.size x w' := by
              intro x hx
              have hBx : Below w.heap.size w x := (hB.trans (hbx.mono hsB)).trans (hx.mono (by rw [World.size_alloc]; omega))
              have hs := hx.size
              rw [World.size_alloc] at hs
              exact colsContainsFunc_any x _ _ wr.heap.size c.1 (HK x hBx) (by omega) ((blk_at ((hx.block wr.heap.size (by rw [World.size_alloc]; omega)).trans k0)).trans rfl)
            obtain ⟨lk, hlk⟩ : ∃ l, l = likeS c.1 (cs.take i) := ⟨_, rfl⟩
            rw [← hlk] at HA
            simp only [← hlk] at HL
            clear hlk HK hco
            cases lk with
            | true =>
              have HN : Hid (areColsS cs = false) := by rw [Hid, HA.out]; rfl
              clear HA
              go_wp2_with (first
                | (go_at_call 294; refine HI.mono ?_; rintro e w2 ⟨rfl, hb2⟩)
                | (go_at_call 295; refine (HL _ hb2).mono ?_; rintro e w3 ⟨rfl, hb3⟩))
              go_ret
              have hs2 := hb2.size
              rw [World.size_alloc] at hs2
              exact ⟨by rw [HN.out]; rfl, ((hB.trans (hbx.mono hsB)).trans (hb2.mono (by rw [World.size_alloc]; omega))).trans (hb3.mono (by omega))⟩
            | false =>
              have HN : Hid (areColsS cs = colsFrom (cs.take (i + 1)) (cs.drop (i + 1))) := by rw [Hid, HA.out]; rfl
              clear HA
              go_wp2_with (first
                | (go_at_call 294; refine HI.mono ?_; rintro e w2 ⟨rfl, hb2⟩)
                | (go_at_call 295; refine (HL _ hb2).mono ?_; rintro e w3 ⟨rfl, hb3⟩))
              have hs2 := hb2.size
              rw [World.size_alloc] at hs2
              go_roundw
              case rel => exact ⟨i + 1, by omega, by go_num, ((hB.trans (hbx.mono hsB)).trans (hb2.mono (by rw [World.size_alloc]; omega))).trans (hb3.mono (by omega)), HN⟩
              case measure => simp [intOf]; omega
        · have HN : Hid (areColsS cs = true) := by rw [Hid, HE.out, List.drop_of_length_le (by omega)]; rfl
          clear HE hc HR
          go_wp2_with fail
          go_ret
          exact ⟨by rw [HN.out]; rfl, hB⟩
end Go.Proofs.YtilfjpmeededmaaGreatDoor

namespace Go.Proofs.YtilfjpmeededmaaGreatDoor
open Go.RowKit
set_option maxHeartbeats 1600000 in
set_option maxRecDepth 100000 in
theorem rowFit_any (c : CellT) (d : ColT) (w : World) :
    Calls Tryz.prog 356 #[.agg #[.int .i64 c.1, .int .i64 c.2.1, .string (ofBs c.2.2)], .agg #[.string (ofBs d.1), .string (ofBs d.2.1), .int .i64 d.2.2]] w fun e w' => e = .returned (.bool (fitsS c (colTyS d))) ∧ Below w.heap.size w w' := by
  obtain ⟨k, n, l⟩ := c
  have HT := fun y : World => columnType_any d y
  obtain ⟨t, ht⟩ : ∃ t, t = colTyS d := ⟨_, rfl⟩
  simp only [← ht] at HT ⊢
  clear ht
  have HF := fun y : World => fits_any k n l t y
  obtain ⟨r, hr⟩ : ∃ r, r = fitsS (k, n, l) t := ⟨_, rfl⟩
  simp only [← hr] at HF ⊢
  clear hr
  have hb0 := below_box2 w (.cells #[.int .i64 k, .int .i64 n, .string (ofBs l)] 50) (.cells #[.string (ofBs d.1), .string (ofBs d.2.1), .int .i64 d.2.2] 162)
  have k0 : ((w.alloc (.cells #[.int .i64 k, .int .i64 n, .string (ofBs l)] 50)).alloc (.cells #[.string (ofBs d.1), .string (ofBs d.2.1), .int .i64 d.2.2] 162)).heap[w.heap.size]? = some (.cells #[.int .i64 k, .int .i64 n, .string (ofBs l)] 50) := (Below.heap_alloc _ _ _ (by simp [World.size_alloc])).trans (heap_alloc_new w _)
  go_enter Tryz.func356, Tryz.ntmps356
  go_upto_region 1 with fail
  go_region_with (first
    | (go_at_call 214; refine (HT _).mono ?_; rintro e w2 ⟨rfl, hb2⟩; replace hb2 := undrewB hb2; have B2 := hb0.trans (hb2.mono hb0.size); obtain ⟨⟨a0, a1, a2⟩, _⟩ := cells3w ((hb2.block _ (by simp [World.size_alloc]; omega)).trans k0))
    | (go_at_call 81; refine (HF _).mono ?_; rintro e w3 ⟨rfl, hb3⟩))
  all_goals (go_wp2_with fail; go_ret)
  all_goals exact ⟨rfl, B2.trans (hb3.mono B2.size)⟩
def rowS : List CellT → List ColT → Bool
  | [], [] => true
  | c :: cs, d :: ds => fitsS c (colTyS d) && rowS cs ds
  | _, _ => false
theorem rowS_len : ∀ (cs : List CellT) (ds : List ColT), cs.length ≠ ds.length → rowS cs ds = false
  | [], [], h => absurd rfl h
  | [], _ :: _, _ => rfl
  | _ :: _, [], _ => rfl
  | c :: cs, d :: ds, h => by rw [rowS, rowS_len cs ds (by simpa using h)]; simp
set_option maxHeartbeats 4000000 in
set_option maxRecDepth 100000 in
theorem rowEqualFunc_any (w : World) (v1 v2 : Value) (cs : List CellT) (ds : List ColT) (h1 : CellsIn w v1 cs) (h2 : ColsIn w v2 ds) :
    Calls Tryz.prog 357 #[v1, v2, .func (Fn.func 356) #[] #[]] w fun e w' => e = .returned (.bool (rowS cs ds)) ∧ Below w.heap.size w w' := by
  obtain ⟨a1, c1, rfl, l1, r1⟩ := h1
  obtain ⟨a2, c2, rfl, _, l2, r2⟩ := h2
  unfold maxLen at l1 l2
  by_cases hlen : cs.length = ds.length
  · obtain ⟨m, hm⟩ : ∃ m, m = cs.length := ⟨_, rfl⟩
    have HL1 : Hid (cs.length = m) := hm.symm
    have HL2 : Hid (ds.length = m) := by rw [Hid, ← hlen, hm]
    rw [← hlen, ← hm]
    rw [← hm] at l1
    clear hlen hm l2
    go_enter Tryz.func357, Tryz.ntmps357
    go_wp2_with fail
    go_loopw [17] (fun iv wx => ∃ i : Nat, i ≤ m ∧ iv = .int .i64 i ∧ Below w.heap.size w wx ∧ Hid (rowS cs ds = rowS (cs.drop i) (ds.drop i))) (fun iv _ => m - (intOf iv).toNat)
    case atStart => exact ⟨0, Nat.zero_le _, rfl, Below.refl _ _, rfl⟩
    case round =>
      obtain ⟨i, hi, rfl, hB, HE⟩ := hrel
      have hsB := hB.size
      by_cases hltm : i < m
      · have hlt : i < cs.length := by have := HL1.out; omega
        have hlt2 : i < ds.length := by have := HL2.out; omega
        obtain ⟨b1, o1, rfl, hb1, hc1⟩ : ∃ b off, a1 = some ⟨b, off, none⟩ ∧ b < w.heap.size ∧ ∀ (i : Nat) (c : CellT), cs[i]? = some c → w.cell? ⟨b, off + i * 3, none⟩ = some (.int .i64 c.1) ∧ w.cell? ⟨b, off + i * 3 + 1, none⟩ = some (.int .i64 c.2.1) ∧ w.cell? ⟨b, off + i * 3 + 2, none⟩ = some (.string (ofBs c.2.2)) := by
          rcases r1 with h | h
          · subst h; simp at hlt
          · exact h
        obtain ⟨b2, o2, rfl, hb2, hc2⟩ : ∃ b off, a2 = some ⟨b, off, none⟩ ∧ b < w.heap.size ∧ ∀ (i : Nat) (c : ColT), ds[i]? = some c → (w.cell? ⟨b, off + i * 3, none⟩ = some (.string (ofBs c.1)) ∧ w.cell? ⟨b, off + i * 3 + 1, none⟩ = some (.string (ofBs c.2.1)) ∧ w.cell? ⟨b, off + i * 3 + 2, none⟩ = some (.int .i64 c.2.2)) ∧ c.1.length ≤ maxLen ∧ c.2.1.length ≤ maxLen := by
          rcases r2 with h | h
          · subst h; simp at hlt2
          · exact h
        obtain ⟨p0, p1, p2⟩ := hc1 i cs[i] (List.getElem?_eq_getElem hlt)
        obtain ⟨⟨p3, p4, p5⟩, -⟩ := hc2 i ds[i] (List.getElem?_eq_getElem hlt2)
        have q0 := (hB.cell (p := ⟨b1, o1 + i * 3, none⟩) hb1).trans p0
        have q1 := (hB.cell (p := ⟨b1, o1 + i * 3 + 1, none⟩) hb1).trans p1
        have q2 := (hB.cell (p := ⟨b1, o1 + i * 3 + 2, none⟩) hb1).trans p2
        have q3 := (hB.cell (p := ⟨b2, o2 + i * 3, none⟩) hb2).trans p3
        have q4 := (hB.cell (p := ⟨b2, o2 + i * 3 + 1, none⟩) hb2).trans p4
        have q5 := (hB.cell (p := ⟨b2, o2 + i * 3 + 2, none⟩) hb2).trans p5
        have HA : Hid (rowS cs ds = (fitsS cs[i] (colTyS ds[i]) && rowS (cs.drop (i + 1)) (ds.drop (i + 1)))) := by
          rw [Hid, HE.out, List.drop_eq_getElem_cons hlt, List.drop_eq_getElem_cons hlt2, rowS]
        obtain ⟨ck, hck⟩ : ∃ c, c = cs[i] := ⟨_, rfl⟩
        obtain ⟨dk, hdk⟩ : ∃ d, d = ds[i] := ⟨_, rfl⟩
        rw [← hck] at q0 q1 q2 HA
        rw [← hdk] at q3 q4 q5 HA
        have HF := fun x : World => rowFit_any ck dk x
        obtain ⟨d, hd⟩ : ∃ d, d = fitsS ck (colTyS dk) := ⟨_, rfl⟩
        rw [← hd] at HA
        simp only [← hd] at HF
        have hbr1 : b1 < wr.heap.size := by omega
        have hbr2 : b2 < wr.heap.size := by omega
        clear HE hc1 hc2 r1 r2 p0 p1 p2 p3 p4 p5 hck hdk hd hlt hlt2
        cases d
        · have HN : Hid (rowS cs ds = false) := by rw [Hid, HA.out]; rfl
          clear HA
          go_wp2_with (go_at_call 356; refine (HF _).mono ?_; rintro e w2 ⟨rfl, hb2'⟩)
          go_ret
          have hb3 : Below wr.heap.size wr w2 := by
            first | exact (below_box2 wr _ _).trans (hb2'.mono (by simp [World.size_alloc]; omega)) | exact (below_box wr _).trans (hb2'.mono (by simp [World.size_alloc])) | exact hb2'
          exact ⟨ret_bool HN.out.symm, hB.trans (hb3.mono hsB)⟩
        · have HN : Hid (rowS cs ds = rowS (cs.drop (i + 1)) (ds.drop (i + 1))) := by rw [Hid, HA.out]; rfl
          clear HA
          go_wp2_with (go_at_call 356; refine (HF _).mono ?_; rintro e w2 ⟨rfl, hb2'⟩)
          have hb3 : Below wr.heap.size wr w2 := by
            first | exact (below_box2 wr _ _).trans (hb2'.mono (by simp [World.size_alloc]; omega)) | exact (below_box wr _).trans (hb2'.mono (by simp [World.size_alloc])) | exact hb2'
          go_roundw
          case rel => exact ⟨i + 1, by omega, by go_num, hB.trans (hb3.mono hsB), HN⟩
          case measure => simp [intOf]; omega
      · have HN : Hid (rowS cs ds = true) := by rw [Hid, HE.out, List.drop_of_length_le (by have := HL1.out; omega), List.drop_of_length_le (by have := HL2.out; omega)]; rfl
        clear HE r1 r2
        go_wp2_with fail
        go_ret
        exact ⟨ret_bool HN.out.symm, hB⟩
  · have hnb : ((cs.length : Int) == (ds.length : Int)) = false := by simp; omega
    have HN : Hid (rowS cs ds = false) := rowS_len cs ds hlen
    clear r1 r2
    go_enter Tryz.func357, Tryz.ntmps357
    go_wp2_with fail
    go_ret
    exact ⟨ret_bool HN.out.symm, Below.refl _ _⟩
set_option maxHeartbeats 400000 in
set_option maxRecDepth 100000 in
theorem isRow_any (w : World) (v1 v2 : Value) (cs : List CellT) (ds : List ColT) (h1 : CellsIn w v1 cs) (h2 : ColsIn w v2 ds) :
    Calls Tryz.prog 296 #[v1, v2] w fun e w' => e = .returned (.bool (rowS cs ds)) ∧ Below w.heap.size w w' := by
  have HC := rowEqualFunc_any w v1 v2 cs ds h1 h2
  obtain ⟨a1, c1, rfl, _, _⟩ := h1
  obtain ⟨a2, c2, rfl, _, _, _⟩ := h2
  go_enter Tryz.func296, Tryz.ntmps296
  go_wp2_with (go_at_call 357; refine HC.mono ?_; rintro e w2 ⟨rfl, hb2⟩)
  go_ret
  exact ⟨rfl, hb2⟩
def RowsIn (w : World) (v : Value) (rs : List (List CellT)) : Prop := ∃ ao cap, v = .slice ao rs.length cap ∧ rs.length ≤ maxLen ∧ (rs = [] ∨ ∃ b off, ao = some ⟨b, off, none⟩ ∧ b < w.heap.size ∧ ∀ (i : Nat) (r : List CellT), rs[i]? = some r → ∃ ro rn rc, w.cell? ⟨b, off + i, none⟩ = some (.slice ro rn rc) ∧ CellsIn w (.slice ro rn rc) r)
theorem RowsIn.keep {w x : World} {v : Value} {rs : List (List CellT)} (h : RowsIn w v rs) (hb : Below w.heap.size w x) : RowsIn x v rs := by
  obtain ⟨ao, cap, h1, h2, h3⟩ := h
  refine ⟨ao, cap, h1, h2, ?_⟩
  rcases h3 with h | ⟨b, off, e, hl, hc⟩
  · exact .inl h
  · refine .inr ⟨b, off, e, by have := hb.size; omega, fun i r hr => ?_⟩
    obtain ⟨ro, rn, rc, a, c⟩ := hc i r hr
    exact ⟨ro, rn, rc, (hb.cell (p := ⟨b, _, none⟩) hl).trans a, c.keep hb⟩
def areRowsS (rs : List (List CellT)) (ds : List ColT) : Bool := !decide (10 < rs.length) && rs.all fun r => rowS r ds
set_option maxHeartbeats 1600000 in
set_option maxRecDepth 100000 in
theorem areRows_any (w : World) (v : Value) (do' : Option Addr) (dn dc : Nat) (rs : List (List CellT)) (ds : List ColT) (h1 : RowsIn w v rs) (h2 : ColsIn w (.slice do' dn dc) ds) :
    Calls Tryz.prog 213 #[v, .slice do' dn dc] w fun e w' => e = .returned (.bool (areRowsS rs ds)) ∧ Below w.heap.size w w' := by
  obtain ⟨ao, cap, rfl, hl, hz⟩ := h1
  unfold maxLen at hl
  by_cases h10 : 10 < rs.length
  · have hd : decide ((10 : Int) < (rs.length : Int)) = true := decide_eq_true (by omega)
    have HN : Hid (areRowsS rs ds = false) := by rw [Hid, areRowsS, decide_eq_true h10]; rfl
    clear hz h2
    go_enter Tryz.func213, Tryz.ntmps213
    go_wp2_with fail
    go_ret
    exact ⟨by rw [HN.out]; rfl, Below.refl _ _⟩
  · have hd : decide ((10 : Int) < (rs.length : Int)) = false := decide_eq_false (by omega)
    have HR : Hid (areRowsS rs ds = (rs.drop 0).all fun r => rowS r ds) := by rw [Hid, areRowsS, decide_eq_false h10]; simp
    go_enter Tryz.func213, Tryz.ntmps213
    go_wp2_with fail
    go_loopw [12] (fun iv wx => ∃ i : Nat, i ≤ rs.length ∧ iv = .int .i64 i ∧ Below w.heap.size w wx ∧ Hid (areRowsS rs ds = (rs.drop i).all fun r => rowS r ds)) (fun iv _ => rs.length - (intOf iv).toNat)
    case atStart => exact ⟨0, Nat.zero_le _, rfl, Below.refl _ _, HR⟩
    case round =>
      obtain ⟨i, hi, rfl, hB, HE⟩ := hrel
      have hsB := hB.size
      by_cases hlt : i < rs.length
      · obtain ⟨b, off, rfl, hb, hc⟩ : ∃ b off, ao = some ⟨b, off, none⟩ ∧ b < w.heap.size ∧ ∀ (i : Nat) (r : List CellT), rs[i]? = some r → ∃ ro rn rc, w.cell? ⟨b, off + i, none⟩ = some (.slice ro rn rc) ∧ CellsIn w (.slice ro rn rc) r := by
          rcases hz with h | h
          · subst h; simp at hlt
          · exact h
        obtain ⟨ro, rn, rc, p0, hr⟩ := hc i rs[i] (List.getElem?_eq_getElem hlt)
        have q0 := (hB.cell (p := ⟨b, off + i, none⟩) hb).trans p0
        have HA : Hid (areRowsS rs ds = (rowS rs[i] ds && (rs.drop (i + 1)).all fun r => rowS r ds)) := by rw [Hid, HE.out, List.drop_eq_getElem_cons hlt]; rfl
        have HF := isRow_any wr _ _ rs[i] ds (hr.keep hB) (h2.keep hB)
        obtain ⟨d, hdd⟩ : ∃ d, d = rowS rs[i] ds := ⟨_, rfl⟩
        rw [← hdd] at HA HF
        have hbr : b < wr.heap.size := by omega
        clear HE hc hz p0 hdd hr HR h2
        cases d
        · have HN : Hid (areRowsS rs ds = false) := by rw [Hid, HA.out]; rfl
          clear HA
          go_wp2_with (go_at_call 296; refine HF.mono ?_; rintro e w2 ⟨rfl, hb2⟩)
          go_ret
          exact ⟨by rw [HN.out]; rfl, hB.trans (hb2.mono hsB)⟩
        · have HN : Hid (areRowsS rs ds = (rs.drop (i + 1)).all fun r => rowS r ds) := by rw [Hid, HA.out]; rfl
          clear HA
          go_wp2_with (go_at_call 296; refine HF.mono ?_; rintro e w2 ⟨rfl, hb2⟩)
          go_roundw
          case rel => exact ⟨i + 1, by omega, by go_num, hB.trans (hb2.mono hsB), HN⟩
          case measure => simp [intOf]; omega
      · have HN : Hid (areRowsS rs ds = true) := by rw [Hid, HE.out, List.drop_of_length_le (by omega)]; rfl
        clear HE hz HR h2
        go_wp2_with fail
        go_ret
        exact ⟨by rw [HN.out]; rfl, hB⟩
end Go.Proofs.YtilfjpmeededmaaGreatDoor

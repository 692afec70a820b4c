/- The text taken apart into tokens, as a plain function. -/
/- What scan answers: the tokens, in a slice of the call's own. -/
/- What the reader's next and closes do: the tokens handed out one after the other. -/
import Derived.Test.YtilfjpmeededmaaGreatDoorPieceZ
namespace Go.Proofs.YtilfjpmeededmaaGreatDoor
open Go.RowKit

abbrev Tk := Int × Bs
def ofBs (l : Bs) : ByteArray := ⟨l.toArray⟩
theorem ofBs_toList (l : Bs) : (ofBs l).toList = l := mk_toList l
theorem ba_eq (s : ByteArray) : s = ofBs s.toList := by
  unfold ofBs; rw [ByteArray.toList_eq]
theorem ofBs_size (l : Bs) : (ofBs l).size = l.length := mk_size l
def tokCells (t : Tk) : List Value := [.int .i64 t.1, .string (ofBs t.2)]
def toksCells (ts : List Tk) : List Value := ts.flatMap tokCells
theorem toksCells_length (ts : List Tk) : (toksCells ts).length = ts.length * 2 := by
  induction ts with
  | nil => rfl
  | cons t r ih => simp only [toksCells, List.flatMap_cons, List.length_append] at ih ⊢; rw [ih]; simp [tokCells]; omega
theorem toksCells_append (a b : List Tk) : toksCells (a ++ b) = toksCells a ++ toksCells b := by simp [toksCells]
theorem toksCells_one (t : Tk) : toksCells [t] = tokCells t := by simp [toksCells]

def scanF : Nat → Bs → Option (List Tk)
  | 0, _ => some []
  | f + 1, l => if l.length = 0 then some [] else if blankB (l.headD 0).toNat then scanF f (l.drop 1) else
      if kindS (l.take (plen l)) = 0 then none else (scanF f (l.drop (plen l))).map ((kindS (l.take (plen l)), l.take (plen l)) :: ·)
def scanS (l : Bs) : Option (List Tk) := scanF l.length l

theorem qlen_pos (l : Bs) : plen l = 1 ∨ plen l = qlen l + ((l.drop (qlen l)).takeWhile notSep).length := by
  unfold plen; split
  · exact .inl rfl
  · exact .inr rfl
theorem plen_pos (l : Bs) (h : 0 < l.length) (hb : blankB (l.headD 0).toNat = false) : 0 < plen l := by
  unfold plen
  split
  · omega
  · next hbr =>
    rw [Bool.not_eq_true] at hbr
    by_cases hq : qlen l = 0
    · rw [hq]
      cases l with
      | nil => simp at h
      | cons c r =>
        have : notSep c = true := by simp only [List.headD_cons] at hb hbr; simp [notSep, hb, hbr]
        rw [List.drop_zero, List.takeWhile_cons, this]; simp
    · omega
theorem plen_le (l : Bs) (h : 0 < l.length) : plen l ≤ l.length := by
  rcases qlen_pos l with e | e
  · omega
  · have := tw_le (l.drop (qlen l)) notSep
    have hq := qlen_le l
    rw [List.length_drop] at this
    omega
theorem scanF_fuel : ∀ (f : Nat) (l : Bs), l.length ≤ f → scanF f l = scanS l := by
  have key : ∀ (n f g : Nat) (l : Bs), l.length ≤ n → l.length ≤ f → l.length ≤ g → scanF f l = scanF g l := by
    intro n
    induction n with
    | zero =>
      intro f g l h _ _
      have hl : l.length = 0 := by omega
      cases f <;> cases g <;> simp [scanF, hl]
    | succ n ih =>
      intro f g l h hf hg
      cases f with
      | zero =>
        have hl : l.length = 0 := by omega
        cases g <;> simp [scanF, hl]
      | succ f =>
        cases g with
        | zero =>
          have hl : l.length = 0 := by omega
          simp [scanF, hl]
        | succ g =>
          rw [scanF, scanF]
          by_cases hl : l.length = 0
          · rw [if_pos hl, if_pos hl]
          · rw [if_neg hl, if_neg hl]
            cases hb : blankB (l.headD 0).toNat with
            | true => rw [if_pos rfl, if_pos rfl]; exact ih f g _ (by simp; omega) (by simp; omega) (by simp; omega)
            | false =>
              have hp := plen_pos l (by omega) hb
              rw [if_neg Bool.false_ne_true, if_neg Bool.false_ne_true, ih f g (l.drop (plen l)) (by simp; omega) (by simp; omega) (by simp; omega)]
  intro f l h
  exact key l.length f l.length l (Nat.le_refl _) h (Nat.le_refl _)
theorem scanS_nil (l : Bs) (h : l.length = 0) : scanS l = some [] := by rw [scanS, h, scanF]
theorem scanS_eq (l : Bs) (h : 0 < l.length) : scanS l = if blankB (l.headD 0).toNat then scanS (l.drop 1) else
      if kindS (l.take (plen l)) = 0 then none else (scanS (l.drop (plen l))).map ((kindS (l.take (plen l)), l.take (plen l)) :: ·) := by
  obtain ⟨n, hn⟩ : ∃ n, l.length = n + 1 := ⟨l.length - 1, by omega⟩
  rw [scanS, hn, scanF, if_neg (by omega)]
  cases hb : blankB (l.headD 0).toNat with
  | true => rw [if_pos rfl, if_pos rfl]; exact scanF_fuel _ _ (by simp; omega)
  | false =>
    have hp := plen_pos l (by omega) hb
    rw [if_neg Bool.false_ne_true, if_neg Bool.false_ne_true, scanF_fuel n (l.drop (plen l)) (by simp; omega)]
theorem map_cons_append (o : Option (List Tk)) (a : List Tk) (t : Tk) : (o.map (t :: ·)).map (a ++ ·) = o.map ((a ++ [t]) ++ ·) := by
  cases o <;> simp

theorem ownsRow_below {w w' : World} {base n : Nat} {e : TypeId} {size : Nat} {v : Value} {xs : List Value} (h : w.ownsRow base e size v n xs) (hb : Below w.heap.size w w') : w'.ownsRow base e size v n xs :=
  h.kept (row := none) ⟨hb.os, hb.tape, hb.output, hb.size, fun k hk _ => hb.block k hk⟩ (by
    cases hv : v.ownBlock with
    | none => exact .inl rfl
    | some k => exact .inr (by simp))
end Go.Proofs.YtilfjpmeededmaaGreatDoor

namespace Go.Proofs.YtilfjpmeededmaaGreatDoor
open Go.RowKit

theorem infoTok : (Tryz.prog.info? 233).map (fun i => (i.zero, i.size, i.bytes)) = some (some (.agg #[.int .i64 0, .string ⟨#[]⟩]), 2, 24) := by kernel_rfl

set_option maxHeartbeats 1600000 in
set_option maxRecDepth 100000 in
theorem scan_any (s0 : ByteArray) (w : World) (hs0 : s0.size ≤ 400) :
    Calls Tryz.prog 177 #[.string s0] w fun e w' => Below w.heap.size w w' ∧
      ((scanS s0.toList = none ∧ e = .returned (.tuple #[.slice none 0 0, .bool false])) ∨
       (∃ ts v, scanS s0.toList = some ts ∧ ts.length ≤ 400 ∧ e = .returned (.tuple #[v, .bool true]) ∧ w'.ownsRow w.heap.size 233 2 v ts.length (toksCells ts))) := by
  obtain ⟨i0, hi, hz0, hz1, hz2⟩ := info_parts infoTok
  go_enter Tryz.func177, Tryz.ntmps177
  go_wp2_with fail
  go_loopw [0, 4] (fun sv tv wr => ∃ (s : ByteArray) (ts : List Tk), sv = .string s ∧ s.size + ts.length ≤ 400 ∧ wr.ownsRow w.heap.size 233 2 tv ts.length (toksCells ts) ∧ Below w.heap.size w wr ∧ Hid (scanS s0.toList = (scanS s.toList).map (ts ++ ·))) (fun sv _ _ => match sv with | .string s => s.size | _ => 0)
  case atStart => exact ⟨s0, [], rfl, by simpa using hs0, World.ownsRow_nil _ _ _ _, Below.refl _ _, by rw [Hid]; simp⟩
  case round =>
    obtain ⟨s, ts, rfl, hlen, hown, hbel, HA⟩ := hrel
    have hsz : s.size ≤ 400 := by omega
    have hsm : s.size ≤ maxLen := by unfold maxLen; omega
    by_cases h0 : s.size = 0
    · have HE : Hid (scanS s0.toList = some ts) := by rw [Hid, HA.out, scanS_nil _ (by rw [toList_length, h0])]; simp
      go_wp2_with fail
      go_ret2
      exact ⟨hbel, .inr ⟨ts, _, HE.out, by omega, rfl, hown⟩⟩
    · have hpos : 0 < s.size := by omega
      have HS := scanS_eq s.toList (by rw [toList_length]; exact hpos)
      rw [head_get s hpos] at HS
      replace HS : Hid _ := HS
      by_cases hb : blankB s[0].toNat = true
      · have HN : Hid (scanS s0.toList = (scanS (s.extract 1 s.size).toList).map (ts ++ ·)) := by
          rw [Hid, HA.out, HS.out, if_pos hb, ext_drop]
        go_wp2_with (go_at_call 251; refine (isBlank_any _ _).mono ?_; rintro e w2 ⟨rfl, rfl⟩)
        go_roundw
        case rel => exact ⟨s.extract 1 s.size, ts, rfl, by simp; omega, hown, hbel, HN⟩
        case measure => simp; omega
      · rw [Bool.not_eq_true] at hb
        have hp1 := plen_pos s.toList (by rw [toList_length]; exact hpos) (by rw [head_get s hpos]; exact hb)
        have hp2 := plen_le s.toList (by rw [toList_length]; exact hpos)
        rw [toList_length] at hp2
        obtain ⟨n, hn⟩ : ∃ n, n = plen s.toList := ⟨_, rfl⟩
        have HPL : ∀ w : World, Calls Tryz.prog 252 #[.string s] w fun e w' => e = .returned (.int .i64 n) ∧ w' = w := by
          intro w; rw [hn]; exact pieceLength_any s w hsm hpos
        obtain ⟨k, hk⟩ : ∃ k, k = kindS (s.toList.take n) := ⟨_, rfl⟩
        have HKO : ∀ w : World, Calls Tryz.prog 253 #[.string (s.extract 0 n)] w fun e w' => e = .returned (.int .i64 k) ∧ Below w.heap.size w w' := by
          intro w; rw [hk, ← ext_take]; exact kindOf_any _ _ (by simp; unfold maxLen; omega)
        have HS2 : Hid (scanS s0.toList = if k = 0 then none else (scanS (s.extract n s.size).toList).map ((ts ++ [(k, s.toList.take n)]) ++ ·)) := by
          rw [Hid, HA.out, HS.out, if_neg (by rw [hb]; simp), ← hn, ← hk, ext_drop]
          by_cases hk0 : k = 0
          · rw [if_pos hk0, if_pos hk0]; rfl
          · rw [if_neg hk0, if_neg hk0, map_cons_append]
        rw [← hn] at hp1 hp2
        have HX : Hid (Value.string (s.extract 0 n) = .string (ofBs (s.toList.take n))) := by
          rw [Hid]; congr 1; rw [← ext_take]; exact ba_eq _
        clear HA HS hn hk
        by_cases hk0 : k = 0
        · have HF : Hid (scanS s0.toList = none) := by rw [Hid, HS2.out, if_pos hk0]
          subst hk0
          go_wp2_with (first | (go_at_call 251; refine (isBlank_any _ _).mono ?_; rintro e w2 ⟨rfl, rfl⟩) | (go_at_call 252; refine (HPL _).mono ?_; rintro e w2 ⟨rfl, rfl⟩) | (go_at_call 253; refine (HKO _).mono ?_; rintro e w2 ⟨rfl, hb2⟩))
          go_ret2
          exact ⟨hbel.trans (hb2.mono hbel.size), .inl ⟨HF.out, rfl⟩⟩
        · have HF : Hid (scanS s0.toList = (scanS (s.extract n s.size).toList).map ((ts ++ [(k, s.toList.take n)]) ++ ·)) := by rw [Hid, HS2.out, if_neg hk0]
          clear HS2
          have hkb : (k == 0) = false := by simpa using hk0
          clear hk0
          go_wp2_with (first
            | (go_at_call 251; refine (isBlank_any _ _).mono ?_; rintro e w2 ⟨rfl, rfl⟩)
            | (go_at_call 252; refine (HPL _).mono ?_; rintro e w2 ⟨rfl, rfl⟩)
            | (go_at_call 253; refine (HKO _).mono ?_; rintro e w2 ⟨rfl, hb2⟩)
            | (at_builtin; refine wpList_append_own _ rfl (.tmp 23) (.tmp 27) 343 rfl w.heap.size 233 i0 (.agg #[.int .i64 0, .string ⟨#[]⟩]) 2 24 Tryz.underlying343 hi hz0 hz1 hz2 rfl (by decide) _ _ _ rfl ((ownsRow_below hown hb2).alloc _) ⟨w2.heap.size, 0, none⟩ 1 1 [.int .i64 k, .string (s.extract 0 n)] rfl rfl ?c1 ?c2 ?c3 ?c4 ?c5 ?_))
          case c1 =>
            intro j u hj
            match j, hj with
            | 0, hj => simp at hj; subst hj; simp [Addr.add]
            | 1, hj => simp at hj; subst hj; simp [Addr.add]
          case c2 => intro u hu; simp at hu; rcases hu with rfl | rfl <;> rfl
          case c3 => unfold maxLen; omega
          case c4 => omega
          case c5 => have := hbel.size; have := hb2.size; simp; omega
          · intro v' w3 hown' hgrow _
            have R : w3.ownsRow w.heap.size 233 2 v' (ts ++ [(k, s.toList.take n)]).length (toksCells (ts ++ [(k, s.toList.take n)])) := by
              rw [toksCells_append, toksCells_one, tokCells, ← HX.out]; simpa using hown'
            have hz := hbel.size
            have hz2 := hb2.size
            have RB : Below w.heap.size w w3 := ((hbel.trans (hb2.mono hz)).alloc (by omega) _).grown hgrow (by simp; omega) (fun k hk => (hown.lt k hk).1)
            clear hown' hgrow hown hb2 HPL HKO HX
            go_wp2
            go_roundw
            case rel => exact ⟨s.extract n s.size, _, rfl, by simp; omega, R, RB, HF⟩
            case measure => simp; omega
end Go.Proofs.YtilfjpmeededmaaGreatDoor

namespace Go.Proofs.YtilfjpmeededmaaGreatDoor
open Go.RowKit

theorem grown_refl (w : World) (row : Option Nat) : w.grownBy w row := ⟨rfl, rfl, rfl, Nat.le_refl _, fun _ _ _ => rfl⟩
theorem grown_trans {a b c : World} {row : Option Nat} (h : a.grownBy b row) (k : b.grownBy c row) : a.grownBy c row :=
  ⟨k.os.trans h.os, k.tape.trans h.tape, k.output.trans h.output, Nat.le_trans h.size k.size, fun i hi hr => (k.block i (Nat.lt_of_lt_of_le hi h.size) hr).trans (h.block i hi hr)⟩
theorem grown_below {a b : World} (h : Below a.heap.size a b) (row : Option Nat) : a.grownBy b row :=
  ⟨h.os, h.tape, h.output, h.size, fun k hk _ => h.block k hk⟩
theorem grown_alloc {a b : World} {row : Option Nat} (h : a.grownBy b row) (o : Obj) : a.grownBy (b.alloc o) row :=
  grown_trans h (grown_below ((Below.refl _ _).alloc (Nat.le_refl _) _) _)

/-- Block rb holds a reader whose tokens are ts, in another block. -/
def RestIs (w : World) (rb : Nat) (ts : List Tk) : Prop :=
  ∃ v, w.heap[rb]? = some (.cells #[v] 347 (0, 0)) ∧
    ((ts = [] ∧ ∃ ao cap, v = .slice ao 0 cap) ∨
     (∃ g off cap, v = .slice (some ⟨g, off, none⟩) ts.length cap ∧ g < rb ∧ ts.length ≤ cap ∧ cap ≤ maxLen ∧ ∀ j u, (toksCells ts)[j]? = some u → w.cell? ⟨g, off + j, none⟩ = some u))

set_option maxHeartbeats 800000 in
set_option maxRecDepth 100000 in
theorem next_nil (w : World) (rb : Nat) (h : RestIs w rb []) :
    Calls Tryz.prog 254 #[.pointer (some ⟨rb, 0, none⟩)] w fun e w' => e = .returned (.agg #[.int .i64 0, .string ⟨#[]⟩]) ∧ Below w.heap.size w w' := by
  obtain ⟨ao, cap, hc⟩ : ∃ ao cap, w.cell? ⟨rb, 0, none⟩ = some (.slice ao 0 cap) := by
    obtain ⟨v, hb, h⟩ := h
    have hc : w.cell? ⟨rb, 0, none⟩ = some v := by simp [World.cell?, hb]
    rcases h with ⟨_, ao, cap, rfl⟩ | ⟨g, off, cap, rfl, _⟩
    · exact ⟨_, _, hc⟩
    · exact ⟨_, _, hc⟩
  have hlt : rb < w.heap.size := by
    obtain ⟨v, hb, _⟩ := h
    rcases Nat.lt_or_ge rb w.heap.size with h' | h'
    · exact h'
    · simp [Array.getElem?_eq_none h'] at hb
  clear h
  go_enter Tryz.func254, Tryz.ntmps254
  go_wp2
  exact bodyPost_ret (v := .agg #[.int .i64 0, .string ⟨#[]⟩]) (by simp [results, Tryz.results254, go_sem]) rfl ⟨rfl, (Below.refl _ _).alloc (Nat.le_refl _) _⟩

theorem grown_setCell (w : World) (rb : Nat) (off : Nat) (v : Value) : w.grownBy (w.setCell ⟨rb, off, none⟩ v) (some rb) :=
  ⟨rfl, rfl, rfl, by simp [World.setCell], fun k _ hk => Below.heap_setCell _ _ _ _ (fun e => hk (by simp [e]))⟩
theorem block_setCell (w : World) (rb : Nat) (v v' : Value) (T : TypeId) (h : w.heap[rb]? = some (.cells #[v] T (0, 0))) : (w.setCell ⟨rb, 0, none⟩ v').heap[rb]? = some (.cells #[v'] T (0, 0)) := by
  simp [World.setCell, Array.getElem?_modify, h]
theorem block_lt {w : World} {k : Nat} {o : Obj} (h : w.heap[k]? = some o) : k < w.heap.size := by
  rcases Nat.lt_or_ge k w.heap.size with h' | h'
  · exact h'
  · simp [Array.getElem?_eq_none h'] at h
theorem grown_cell {w w' : World} {rb : Nat} (h : w.grownBy w' (some rb)) {p : Addr} (h1 : p.block < w.heap.size) (h2 : p.block ≠ rb) : w'.cell? p = w.cell? p :=
  World.cell?_of_block (h.block p.block h1 (by simpa using h2))
theorem rest_step {w : World} {rb g off off' cap cap' : Nat} {t : Tk} {ts : List Tk} (o1 o2 : Obj) {v : Value} (hb : w.heap[rb]? = some (.cells #[v] 347 (0, 0)))
    (hg : g < rb) (hcap : ts.length + 1 ≤ cap) (hmax : cap ≤ 2 ^ 63 - 1)
    (hcells : ∀ j u, (toksCells (t :: ts))[j]? = some u → w.cell? ⟨g, off + j, none⟩ = some u) (hcase : (ts = [] ∧ cap' ≤ maxLen) ∨ (off' = off + 2 ∧ cap' = cap - 1)) :
    w.grownBy (((w.setCell ⟨rb, 0, none⟩ (.slice (some ⟨g, off', none⟩) ts.length cap')).alloc o1).alloc o2) (some rb) ∧
      RestIs (((w.setCell ⟨rb, 0, none⟩ (.slice (some ⟨g, off', none⟩) ts.length cap')).alloc o1).alloc o2) rb ts := by
  have hlt := block_lt hb
  have G := grown_alloc (grown_alloc (grown_setCell w rb 0 (.slice (some ⟨g, off', none⟩) ts.length cap')) o1) o2
  refine ⟨G, .slice (some ⟨g, off', none⟩) ts.length cap', ?_, ?_⟩
  · rw [Below.heap_alloc _ _ _ (by simp [World.setCell]; omega), Below.heap_alloc _ _ _ (by simp [World.setCell]; omega)]
    exact block_setCell w rb v _ _ hb
  · rcases hcase with ⟨rfl, _⟩ | ⟨rfl, rfl⟩
    · exact .inl ⟨rfl, _, _, rfl⟩
    · refine .inr ⟨g, off + 2, cap - 1, rfl, hg, by omega, by unfold maxLen; omega, fun j u hj => ?_⟩
      rw [grown_cell G (p := ⟨g, off + 2 + j, none⟩) (by show g < _; omega) (by show g ≠ _; omega)]
      have := hcells (j + 2) u (by rw [toksCells, List.flatMap_cons]; simpa [tokCells, toksCells] using hj)
      rw [← this]; congr 2; omega

set_option maxHeartbeats 800000 in
set_option maxRecDepth 100000 in
theorem next_cons (w : World) (rb : Nat) (t : Tk) (ts : List Tk) (h : RestIs w rb (t :: ts)) :
    Calls Tryz.prog 254 #[.pointer (some ⟨rb, 0, none⟩)] w fun e w' => e = .returned (.agg #[.int .i64 t.1, .string (ofBs t.2)]) ∧ w.grownBy w' (some rb) ∧ RestIs w' rb ts := by
  obtain ⟨v, hb, h⟩ := h
  rcases h with ⟨h, _⟩ | ⟨g, off, cap, rfl, hg, hcap, hmax, hcells⟩
  · cases h
  have hc : w.cell? ⟨rb, 0, none⟩ = some (.slice (some ⟨g, off, none⟩) (ts.length + 1) cap) := by simp [World.cell?, hb]
  have hf : w.frozen? ⟨rb, 0, none⟩ = false := by simp [World.frozen?, hb]
  have hlt : rb < w.heap.size := block_lt hb
  have hgs : g < w.heap.size := by omega
  have hgn : g ≠ rb := by omega
  have c0 : w.cell? ⟨g, off, none⟩ = some (.int .i64 t.1) := hcells 0 _ (by simp [toksCells, tokCells])
  have c1 : w.cell? ⟨g, off + 1, none⟩ = some (.string (ofBs t.2)) := hcells 1 _ (by simp [toksCells, tokCells])
  simp only [List.length_cons] at hcap
  unfold maxLen at hmax
  have HC : Hid _ := hcells
  have HB : Hid _ := hb
  clear hcells hb
  go_enter Tryz.func254, Tryz.ntmps254
  go_wp2
  · have h0 : ts = [] := List.length_eq_zero_iff.mp (by omega)
    obtain ⟨R1, R2⟩ := rest_step (o1 := .cells #[.int .i64 t.1, .string (ofBs t.2)] 233) (o2 := .cells #[.int .i64 t.1, .string (ofBs t.2)] 233) (off' := off) (cap' := 0) HB.out hg hcap hmax HC.out (.inl ⟨h0, by unfold maxLen; omega⟩)
    exact bodyPost_ret (v := .agg #[.int .i64 t.1, .string (ofBs t.2)]) (by simp [results, Tryz.results254, go_sem]) rfl ⟨rfl, R1, R2⟩
  · obtain ⟨R1, R2⟩ := rest_step (o1 := .cells #[.int .i64 t.1, .string (ofBs t.2)] 233) (o2 := .cells #[.int .i64 t.1, .string (ofBs t.2)] 233) (off' := off + 2) (cap' := cap - 1) HB.out hg hcap hmax HC.out (.inr ⟨rfl, rfl⟩)
    exact bodyPost_ret (v := .agg #[.int .i64 t.1, .string (ofBs t.2)]) (by simp [results, Tryz.results254, go_sem]) rfl ⟨rfl, R1, R2⟩

set_option maxHeartbeats 800000 in
set_option maxRecDepth 100000 in
theorem closes_nil (w : World) (rb : Nat) (h : RestIs w rb []) :
    Calls Tryz.prog 332 #[.pointer (some ⟨rb, 0, none⟩)] w fun e w' => e = .returned (.bool false) ∧ w' = w := by
  obtain ⟨ao, cap, hc⟩ : ∃ ao cap, w.cell? ⟨rb, 0, none⟩ = some (.slice ao 0 cap) := by
    obtain ⟨v, hb, h⟩ := h
    have hc : w.cell? ⟨rb, 0, none⟩ = some v := by simp [World.cell?, hb]
    rcases h with ⟨_, ao, cap, rfl⟩ | ⟨g, off, cap, rfl, _⟩
    · exact ⟨_, _, hc⟩
    · exact ⟨_, _, hc⟩
  clear h
  go_enter Tryz.func332, Tryz.ntmps332
  go_wp2_with fail
  go_ret
  exact ⟨rfl, rfl⟩

set_option maxHeartbeats 800000 in
set_option maxRecDepth 100000 in
theorem closes_no (w : World) (rb : Nat) (t : Tk) (ts : List Tk) (h : RestIs w rb (t :: ts)) (hk : ¬ t.1 = 2) :
    Calls Tryz.prog 332 #[.pointer (some ⟨rb, 0, none⟩)] w fun e w' => e = .returned (.bool false) ∧ w' = w := by
  obtain ⟨v, hb, h⟩ := h
  rcases h with ⟨h, _⟩ | ⟨g, off, cap, rfl, hg, hcap, hmax, hcells⟩
  · cases h
  have hc : w.cell? ⟨rb, 0, none⟩ = some (.slice (some ⟨g, off, none⟩) (ts.length + 1) cap) := by simp [World.cell?, hb]
  have c0 : w.cell? ⟨g, off, none⟩ = some (.int .i64 t.1) := hcells 0 _ (by simp [toksCells, tokCells])
  have hkb : (t.1 != 2) = true := by simpa using hk
  simp only [List.length_cons] at hcap
  unfold maxLen at hmax
  clear hcells hb hk
  go_enter Tryz.func332, Tryz.ntmps332
  go_wp2_with fail
  go_ret
  exact ⟨rfl, rfl⟩

set_option maxHeartbeats 800000 in
set_option maxRecDepth 100000 in
theorem closes_yes (w : World) (rb : Nat) (t : Tk) (ts : List Tk) (h : RestIs w rb (t :: ts)) (hk : t.1 = 2) :
    Calls Tryz.prog 332 #[.pointer (some ⟨rb, 0, none⟩)] w fun e w' => e = .returned (.bool true) ∧ w.grownBy w' (some rb) ∧ RestIs w' rb ts := by
  have hh := h
  obtain ⟨v, hb, h⟩ := h
  rcases h with ⟨h, _⟩ | ⟨g, off, cap, rfl, hg, hcap, hmax, hcells⟩
  · cases h
  have hc : w.cell? ⟨rb, 0, none⟩ = some (.slice (some ⟨g, off, none⟩) (ts.length + 1) cap) := by simp [World.cell?, hb]
  have c0 : w.cell? ⟨g, off, none⟩ = some (.int .i64 t.1) := hcells 0 _ (by simp [toksCells, tokCells])
  have hkb : (t.1 != 2) = false := by simpa using hk
  simp only [List.length_cons] at hcap
  unfold maxLen at hmax
  clear hcells hb hk
  go_enter Tryz.func332, Tryz.ntmps332
  go_wp2_with (go_at_call 254; refine (next_cons _ _ t ts hh).mono ?_; rintro e w2 ⟨rfl, hg2, hr2⟩)
  go_ret
  exact ⟨rfl, hg2, hr2⟩

theorem RestIs.lt {w : World} {rb : Nat} {ts : List Tk} (h : RestIs w rb ts) : rb < w.heap.size := by
  obtain ⟨v, hb, _⟩ := h; exact block_lt hb
theorem RestIs.keep {w x : World} {rb : Nat} {ts : List Tk} (h : RestIs w rb ts) (hk : ∀ k, k ≤ rb → x.heap[k]? = w.heap[k]?) : RestIs x rb ts := by
  obtain ⟨v, hb, h⟩ := h
  refine ⟨v, by rw [hk rb (Nat.le_refl _)]; exact hb, ?_⟩
  rcases h with h | ⟨g, off, cap, hv, hg, hcap, hmax, hcells⟩
  · exact .inl h
  · refine .inr ⟨g, off, cap, hv, hg, hcap, hmax, fun j u hj => ?_⟩
    rw [World.cell?_of_block (w := w) (hk g (by omega))]; exact hcells j u hj
theorem RestIs.setCell {w : World} {rb : Nat} {ts : List Tk} (h : RestIs w rb ts) {b : Nat} (hb : rb < b) (o : Nat) (v : Value) : RestIs (w.setCell ⟨b, o, none⟩ v) rb ts :=
  h.keep fun k hk => Below.heap_setCell _ _ _ _ (fun e => by simp at e; omega)
theorem RestIs.alloc {w : World} {rb : Nat} {ts : List Tk} (h : RestIs w rb ts) (o : Obj) : RestIs (w.alloc o) rb ts :=
  h.keep fun k hk => Below.heap_alloc _ _ _ (by have := h.lt; omega)
theorem RestIs.below {w x : World} {rb : Nat} {ts : List Tk} (h : RestIs w rb ts) (hb : Below w.heap.size w x) : RestIs x rb ts :=
  h.keep fun k hk => hb.block k (by have := h.lt; omega)
theorem grown_new {a b : World} {row : Option Nat} (h : a.grownBy b row) {k : Nat} (hk : a.heap.size ≤ k) (o : Nat) (v : Value) : a.grownBy (b.setCell ⟨k, o, none⟩ v) row :=
  ⟨h.os, h.tape, h.output, by simpa [World.setCell] using h.size, fun i hi hr => (Below.heap_setCell _ _ _ _ (fun e => by simp at e; omega)).trans (h.block i hi hr)⟩
theorem gcell {W w1 : World} {rb : Nat} (h : W.grownBy w1 (some rb)) : (∀ b o, b < W.heap.size → b ≠ rb → w1.cell? ⟨b, o, none⟩ = W.cell? ⟨b, o, none⟩) ∧ (∀ b o, b < W.heap.size → b ≠ rb → w1.frozen? ⟨b, o, none⟩ = W.frozen? ⟨b, o, none⟩) :=
  ⟨fun b o h1 h2 => World.cell?_of_block (h.block b h1 (by simpa using h2)), fun b o h1 h2 => World.frozen?_of_block (h.block b h1 (by simpa using h2))⟩
theorem bcell {W w1 : World} (hb : Below W.heap.size W w1) : (∀ b o, b < W.heap.size → w1.cell? ⟨b, o, none⟩ = W.cell? ⟨b, o, none⟩) ∧ (∀ b o, b < W.heap.size → w1.frozen? ⟨b, o, none⟩ = W.frozen? ⟨b, o, none⟩) :=
  ⟨fun b o h => hb.cell (p := ⟨b, o, none⟩) h, fun b o h => hb.frozen (p := ⟨b, o, none⟩) h⟩
end Go.Proofs.YtilfjpmeededmaaGreatDoor

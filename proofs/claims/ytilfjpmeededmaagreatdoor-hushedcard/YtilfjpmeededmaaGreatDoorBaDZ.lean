/- A base without tables, read. -/
/- base.Base.Func, base.ReadFor, curtain.Quiet, of a base without tables. -/
import Derived.Test.YtilfjpmeededmaaGreatDoorBaB
namespace Go.Proofs.YtilfjpmeededmaaGreatDoor
open Go.RowKit

abbrev FnT := Bs × Bs × Bs
def nextFs (k : Fn → Except Int (List Fn)) (o : Except Int Fn) : Except Int (List Fn) := match o with
  | .error n => .error n
  | .ok fn => k fn
def readFs : List Fn → List FnT → Except Int (List Fn)
  | acc, [] => .ok acc
  | acc, f :: r => nextFs (fun fn => readFs (acc ++ [fn]) r) (addS acc f.1 f.2.1 f.2.2)
theorem addS_size {fns : List Fn} (hf : ∀ fn ∈ fns, 0 ≤ fn.body.size ∧ fn.body.size ≤ 300) {a b c : Bs} {fn : Fn} (h : addS fns a b c = .ok fn) : 0 ≤ fn.body.size ∧ fn.body.size ≤ 300 := by
  unfold addS at h
  split at h
  · cases h
  · split at h
    · cases h
    · next x hx => cases h; exact readS_size hf hx
theorem addS_err {fns : List Fn} {a b c : Bs} {n : Int} (h : addS fns a b c = .error n) (r : List FnT) : readFs fns ((a, b, c) :: r) = .error n := by rw [readFs, h]; rfl
theorem addS_ok {fns : List Fn} {a b c : Bs} {fn : Fn} (h : addS fns a b c = .ok fn) (r : List FnT) : readFs fns ((a, b, c) :: r) = readFs (fns ++ [fn]) r := by rw [readFs, h]; rfl
theorem BaseIs.keep {w x : World} {bb : Nat} {FB : List Nat} {fns : List Fn} (h : BaseIs w bb FB fns) (hb : Below w.heap.size w x) : BaseIs x bb FB fns := by
  obtain ⟨fo, fnn, fc, h1, h2, h3, h4, h5⟩ := h
  exact ⟨fo, fnn, fc, (hb.block bb (block_lt h1)).trans h1, owns_keep h2 fun g hg => hb.block g (h2.lt g hg).2, h3, h4, fun i q fn a b => (h5 i q fn a b).keep hb⟩
/-- The list v holds these functions, as texts. -/
def TextsIn (w : World) (v : Value) (fs : List FnT) : Prop := ∃ ao cap, v = .slice ao fs.length cap ∧ fs.length ≤ maxLen ∧ (fs = [] ∨ ∃ b off, ao = some ⟨b, off, none⟩ ∧ b < w.heap.size ∧ ∀ (i : Nat) (f : FnT), fs[i]? = some f →
  (w.cell? ⟨b, off + i * 3, none⟩ = some (.string (ofBs f.1)) ∧ w.cell? ⟨b, off + i * 3 + 1, none⟩ = some (.string (ofBs f.2.1)) ∧ w.cell? ⟨b, off + i * 3 + 2, none⟩ = some (.string (ofBs f.2.2))) ∧ f.1.length ≤ maxLen ∧ f.2.2.length ≤ maxLen)
theorem set2_other (x : World) (b g : Nat) (a0 a1 : Value) (h : g ≠ b) : ((x.setCell ⟨b, 0, none⟩ a0).setCell ⟨b, 1, none⟩ a1).heap[g]? = x.heap[g]? := by
  rw [Below.heap_setCell _ _ _ _ h, Below.heap_setCell _ _ _ _ h]
/-- What a read base is. -/
def ReadRes (w : World) (o : Except Int (List Fn)) (e : Ending) (w' : World) : Prop := Below w.heap.size w w' ∧
  ((∃ n : Int, o = .error n ∧ n ≠ 0 ∧ e = .returned (.tuple #[.agg #[.slice none 0 0, .slice none 0 0], .int .i64 n])) ∨
   (∃ (fns : List Fn) (FB : List Nat) (fo : Option Addr) (fnn fc : Nat), o = .ok fns ∧ e = .returned (.tuple #[.agg #[.slice fo fnn fc, .slice none 0 0], .int .i64 0]) ∧ FnsIn w' FB (.slice fo fnn fc) fns ∧ ∀ fn ∈ fns, 0 ≤ fn.body.size ∧ fn.body.size ≤ 300))

set_option maxHeartbeats 8000000 in
set_option maxRecDepth 100000 in
theorem baseRead_any (w : World) (fs : List FnT) (h8 : fs.length ≤ 8) (v : Value) (hv : TextsIn w v fs) (tro : Option Addr) (tc : Nat) :
    Calls Tryz.prog 44 #[.agg #[v, .slice tro 0 tc]] w fun e w' => ReadRes w (readFs [] fs) e w' := by
  obtain ⟨ao, cap, rfl, hml, hz⟩ := hv
  go_enter Tryz.func44, Tryz.ntmps44
  go_wp2_with fail
  go_loopw [25] (fun iv wr => ∃ (i : Nat) (FB : List Nat) (acc : List Fn), i ≤ fs.length ∧ iv = .int .i64 i ∧ acc.length = i ∧ BaseIs wr (w.heap.size + 2) FB acc ∧ (∀ fn ∈ acc, 0 ≤ fn.body.size ∧ fn.body.size ≤ 300) ∧ Hid (readFs [] fs = readFs acc (fs.drop i)) ∧
      Below (w.heap.size + 2) (((w.alloc (.cells #[.slice ao fs.length cap, .slice tro 0 tc] 43)).alloc (.cells #[.slice none 0 0, .slice none 0 0] 112)).alloc (.cells #[.slice none 0 0, .slice none 0 0] 112)) wr) (fun iv _ => fs.length - (intOf iv).toNat)
  case atStart => exact ⟨0, [], [], Nat.zero_le _, rfl, rfl, ⟨none, 0, 0, (res_box3 (Below.refl _ _)).2.2.1, World.ownsRow_nil _ _ _ _, rfl, by simp, fun i q fn h => by simp at h⟩, fun fn h => by simp at h, rfl, Below.refl _ _⟩
  case round =>
    obtain ⟨i, FB, acc, hi, rfl, hal, hBI, hsz, HI, hB⟩ := hrel
    have hbbl : w.heap.size + 2 < wr.heap.size := by obtain ⟨_, _, _, h1, _⟩ := hBI; exact block_lt h1
    have hW0 := box3_below w (.cells #[.slice ao fs.length cap, .slice tro 0 tc] 43) (.cells #[.slice none 0 0, .slice none 0 0] 112) (.cells #[.slice none 0 0, .slice none 0 0] 112)
    have hR : wr.heap[w.heap.size + 1]? = some (.cells #[.slice none 0 0, .slice none 0 0] 112 (0, 0)) := (hB.block _ (by omega)).trans (res_box3 (Below.refl _ _)).2.1
    have hBx : wr.heap[w.heap.size]? = some (.cells #[.slice ao fs.length cap, .slice tro 0 tc] 43 (0, 0)) := (hB.block _ (by omega)).trans (res_box3 (Below.refl _ _)).1
    by_cases hlt : i < fs.length
    · obtain ⟨b, off, rfl, hb, hc⟩ : ∃ b off, ao = some ⟨b, off, none⟩ ∧ b < w.heap.size ∧ ∀ (i : Nat) (f : FnT), fs[i]? = some f → (w.cell? ⟨b, off + i * 3, none⟩ = some (.string (ofBs f.1)) ∧ w.cell? ⟨b, off + i * 3 + 1, none⟩ = some (.string (ofBs f.2.1)) ∧ w.cell? ⟨b, off + i * 3 + 2, none⟩ = some (.string (ofBs f.2.2))) ∧ f.1.length ≤ maxLen ∧ f.2.2.length ≤ maxLen := by
        rcases hz with h | h
        · subst h; simp at hlt
        · exact h
      obtain ⟨⟨c0, c1, c2⟩, hl1, hl2⟩ := hc i fs[i] (List.getElem?_eq_getElem hlt)
      have cl : ∀ j, wr.cell? ⟨b, j, none⟩ = w.cell? ⟨b, j, none⟩ := fun j => (hB.cell (p := ⟨b, j, none⟩) (by show b < w.heap.size + 2; omega)).trans (hW0.cell (p := ⟨b, j, none⟩) hb)
      have q0 := (cl _).trans c0
      have q1 := (cl _).trans c1
      have q2 := (cl _).trans c2
      have hd : fs.drop i = (fs[i].1, fs[i].2.1, fs[i].2.2) :: fs.drop (i + 1) := List.drop_eq_getElem_cons hlt
      rw [hd] at HI
      obtain ⟨x1, hx1⟩ : ∃ x, x = fs[i].1 := ⟨_, rfl⟩
      obtain ⟨x2, hx2⟩ : ∃ x, x = fs[i].2.1 := ⟨_, rfl⟩
      obtain ⟨x3, hx3⟩ : ∃ x, x = fs[i].2.2 := ⟨_, rfl⟩
      rw [← hx1] at q0 HI hl1
      rw [← hx2] at q1 HI
      rw [← hx3] at q2 HI hl2
      have hbr : b < wr.heap.size := by omega
      have HC := addFunc_any _ (w.heap.size + 2) FB acc (hBI.keep (below_box wr (.cells #[.string (ofBs x1), .string (ofBs x2), .string (ofBs x3)] 39))) (by omega) hsz x1 x2 x3 hl1 hl2
      clear cl c0 c1 c2 hc hz hd hx1 hx2 hx3 hl1 hl2 hBI
      go_wp2_with (go_at_call 76; refine HC.mono ?_)
      rintro e w5 (⟨n, ho, hn, rfl, hb5⟩ | ⟨fn, q, ho, rfl, hB5, hb5⟩)
      · have HE : Hid (readFs [] fs = .error n) := by rw [Hid, HI.out]; exact addS_err ho _
        have hB5 : Below wr.heap.size wr w5 := (below_box wr _).trans (hb5.mono (by simp [World.size_alloc]))
        have hs5 := hB5.size
        have BX : Below w.heap.size w w5 := (hW0.trans (hB.mono (by omega))).trans (hB5.mono (by omega))
        obtain ⟨z0, g0, z1, g1⟩ := cellsB ((hB5.block _ (by omega)).trans hR)
        have hRl : w.heap.size + 1 < w5.heap.size := by omega
        have hne : (n == 0) = false := by simpa using hn
        clear HC HI hB hR hBx hb5 hB5 hW0 q0 q1 q2
        go_wp2_with fail
        exact bodyPost_ret (v := .tuple #[.agg #[.slice none 0 0, .slice none 0 0], .int .i64 n]) (by simp [results, Tryz.results44, go_sem, z0, z1]) rfl ⟨(BX.setCell (by simp) _).setCell (by simp) _, .inl ⟨n, HE.out, hn, rfl⟩⟩
      · have HN : Hid (readFs [] fs = readFs (acc ++ [fn]) (fs.drop (i + 1))) := by rw [Hid, HI.out]; exact addS_ok ho _
        have hsz' : ∀ f ∈ acc ++ [fn], 0 ≤ f.body.size ∧ f.body.size ≤ 300 := by
          intro f hf
          rcases List.mem_append.mp hf with h | h
          · exact hsz f h
          · rw [List.mem_singleton.mp h]; exact addS_size hsz ho
        have RB : Below (w.heap.size + 2) (((w.alloc (.cells #[.slice (some ⟨b, off, none⟩) fs.length cap, .slice tro 0 tc] 43)).alloc (.cells #[.slice none 0 0, .slice none 0 0] 112)).alloc (.cells #[.slice none 0 0, .slice none 0 0] 112)) w5 := hB.trans (((below_box wr _).mono (by omega)).trans hb5)
        clear HC HI hB hR hBx hb5 hW0 q0 q1 q2 ho
        go_wp2
        go_roundw
        case rel => exact ⟨i + 1, FB ++ [q], acc ++ [fn], by omega, by go_num, by simp [hal], hB5, hsz', HN, RB⟩
        case measure => simp [intOf]; omega
    · have HE : Hid (readFs [] fs = .ok acc) := by rw [Hid, HI.out, List.drop_of_length_le (by omega)]; rfl
      obtain ⟨fo, fnn, fc, hbk, hown, hlen, h8', hfn⟩ := hBI
      have HF : Hid (FnsIn ((wr.setCell ⟨w.heap.size + 1, 0, none⟩ (.slice fo fnn fc)).setCell ⟨w.heap.size + 1, 1, none⟩ (.slice none 0 0)) FB (.slice fo fnn fc) acc) :=
        fnsIn_own (ownsRow_setCell_below (ownsRow_setCell_below hown (by show w.heap.size + 1 < w.heap.size + 2 + 1; omega) _) (by show w.heap.size + 1 < w.heap.size + 2 + 1; omega) _) hlen h8' fun i q fn a b => (hfn i q fn a b).grow fun g cur T fz he hT => set2_other _ _ _ _ _ fun e => by
          have e' : g = w.heap.size + 1 := e
          subst e'; rw [hR] at he; cases he; revert hT; decide
      have BX : Below w.heap.size w wr := hW0.trans (hB.mono (by omega))
      obtain ⟨z0, g0, z1, g1⟩ := cellsB hR
      obtain ⟨e0, _, e1, _⟩ := cellsB hbk
      have b1 : wr.cell? ⟨w.heap.size, 1, none⟩ = some (.slice tro 0 tc) := (blk_at hBx).trans rfl
      have hne1 : w.heap.size + 2 ≠ w.heap.size + 1 := by omega
      clear HI hB hR hBx hW0 hbk hown hfn hz
      obtain ⟨W, hW⟩ : ∃ W, W = wr := ⟨_, rfl⟩
      go_wp2_with fail
      go_loopw [39] (fun iv wx => iv = .int .i64 0 ∧ wx = W) (fun _ _ => 0)
      case atStart => exact ⟨rfl, hW.symm⟩
      case round =>
        obtain ⟨rfl, hwx⟩ := hrel
        rw [hW] at hwx
        subst hwx
        clear hW
        go_wp2_with fail
        exact bodyPost_ret (v := .tuple #[.agg #[.slice fo fnn fc, .slice none 0 0], .int .i64 0]) (by simp [results, Tryz.results44, go_sem, z0, z1]) rfl ⟨(BX.setCell (by simp) _).setCell (by simp) _, .inr ⟨acc, FB, fo, fnn, fc, HE.out, rfl, HF.out, hsz⟩⟩
end Go.Proofs.YtilfjpmeededmaaGreatDoor

namespace Go.Proofs.YtilfjpmeededmaaGreatDoor
open Go.RowKit

theorem fnsIn_nil (w : World) : FnsIn w [] (.slice none 0 0) [] := ⟨none, 0, rfl, rfl, by simp, .inl rfl, fun i q fn h => by simp at h⟩
theorem TextsIn.keep {w x : World} {v : Value} {fs : List FnT} (h : TextsIn w v fs) (hb : Below w.heap.size w x) : TextsIn x v fs := by
  obtain ⟨ao, cap, h1, h2, h3⟩ := h
  refine ⟨ao, cap, h1, h2, ?_⟩
  rcases h3 with h | ⟨b, off, e, hl, hc⟩
  · exact .inl h
  · refine .inr ⟨b, off, e, by have := hb.size; omega, fun i f hf => ?_⟩
    obtain ⟨⟨a, b', c⟩, d⟩ := hc i f hf
    exact ⟨⟨(hb.cell (p := ⟨b, _, none⟩) hl).trans a, (hb.cell (p := ⟨b, _, none⟩) hl).trans b', (hb.cell (p := ⟨b, _, none⟩) hl).trans c⟩, d⟩
def noneS (o : Option Nat) : Int := gvS o.isNone 2
set_option maxHeartbeats 1600000 in
set_option maxRecDepth 100000 in
theorem baseFunc_any (w : World) (FB : List Nat) (fns : List Fn) (fo : Option Addr) (fnn fc : Nat) (h : FnsIn w FB (.slice fo fnn fc) fns) (name : Bs) :
    Calls Tryz.prog 45 #[.agg #[.slice fo fnn fc, .slice none 0 0], .string (ofBs name)] w fun e w' => (∃ p, e = .returned (.tuple #[.pointer p, .int .i64 (noneS (findS fns name))]) ∧ FpIs FB (findS fns name) p) ∧ Below w.heap.size w w' := by
  have HFd := find_any _ FB _ fns name (h.keep (below_box w (.cells #[.slice fo fnn fc, .slice none 0 0] 112)))
  have hbx := below_box w (.cells #[.slice fo fnn fc, .slice none 0 0] 112)
  cases hf : findS fns name with
  | none =>
    rw [hf] at HFd
    clear h
    go_enter Tryz.func45, Tryz.ntmps45
    go_wp2_with (first
      | (go_at_call 78; refine HFd.mono ?_; rintro e w2 ⟨⟨p, rfl, hp⟩, hb2⟩; have hp' : p = none := hp; subst hp')
      | (go_at_call 79; refine (when_any _ _ _).mono ?_; rintro e w4 ⟨rfl, rfl⟩))
    go_ret2
    exact ⟨⟨none, rfl, rfl⟩, hbx.trans (hb2.mono hbx.size)⟩
  | some i =>
    rw [hf] at HFd
    clear h
    go_enter Tryz.func45, Tryz.ntmps45
    go_wp2_with (first
      | (go_at_call 78; refine HFd.mono ?_; rintro e w2 ⟨⟨p, rfl, hp⟩, hb2⟩; obtain ⟨q, hq, rfl⟩ : ∃ q, FB[i]? = some q ∧ p = some ⟨q, 0, none⟩ := hp)
      | (go_at_call 79; refine (when_any _ _ _).mono ?_; rintro e w4 ⟨rfl, rfl⟩))
    go_ret2
    exact ⟨⟨_, rfl, q, hq, rfl⟩, hbx.trans (hb2.mono hbx.size)⟩
theorem FnsIn.other {w x : World} {FB : List Nat} {v : Value} {fns : List Fn} (h : FnsIn w FB v fns) {b : Nat} {fz : Nat × Nat} {s0 s1 : Option Addr} {n0 n1 c0 c1 : Nat} (hb : w.heap[b]? = some (.cells #[.slice s0 n0 c0, .slice s1 n1 c1] 112 fz)) (hs : w.heap.size ≤ x.heap.size) (hk : ∀ g, g ≠ b → x.heap[g]? = w.heap[g]?) : FnsIn x FB v fns := by
  obtain ⟨ao, cap, h1, h2, h3, h4, h5⟩ := h
  refine ⟨ao, cap, h1, h2, h3, ?_, fun i q fn a c => (h5 i q fn a c).grow fun g cur T fz' he hT => hk g fun e => ?_⟩
  · rcases h4 with h | ⟨b', e, hl, hc⟩
    · exact .inl h
    · refine .inr ⟨b', e, by omega, fun i q hj => ?_⟩
      have hne : b' ≠ b := fun e' => by
        subst e'
        have := hc i q hj
        rw [blk_at hb] at this
        match i, this with
        | 0, this => simp at this
        | 1, this => simp at this
        | (i + 2), this => simp at this
      rw [World.cell?_of_block (w := w) (hk b' hne)]; exact hc i q hj
  · subst e; rw [hb] at he; cases he; revert hT; decide

set_option maxHeartbeats 4000000 in
set_option maxRecDepth 100000 in
theorem readFor_any (w : World) (fs : List FnT) (h8 : fs.length ≤ 8) (ao : Option Addr) (an cap : Nat) (hv : TextsIn w (.slice ao an cap) fs) (tro : Option Addr) (tc : Nat) (user : Bs) (hu : user.length ≤ 30) :
    Calls Tryz.prog 47 #[.agg #[.slice ao an cap, .slice tro 0 tc], .string (ofBs user)] w fun e w' => ReadRes w (readFs [] fs) e w' := by
  have hsz : (ofBs user).size ≤ 30 := by rw [ofBs_size]; exact hu
  have hd : decide ((30 : Int) < ((ofBs user).size : Int)) = false := by simp; omega
  have HC := baseRead_any _ fs h8 _ (hv.keep (below_box2 w (.cells #[.slice ao an cap, .slice tro 0 tc] 43) (.cells #[.slice none 0 0, .slice none 0 0] 112))) tro tc
  clear hv
  go_enter Tryz.func47, Tryz.ntmps47
  go_wp2_with (go_at_call 44; refine HC.mono ?_)
  clear HC
  rintro e w2 ⟨hb2, hres⟩
  obtain ⟨hR, B2, hs2⟩ := res_box2 hb2
  obtain ⟨z0, g0, z1, g1⟩ := cellsB hR
  have hlt : w.heap.size + 1 < w2.heap.size := by omega
  rcases hres with ⟨n, ho, hn, rfl⟩ | ⟨fns, FB, fo, fnn, fc, ho, rfl, hF, hsz'⟩
  · have HN : Hid (readFs [] fs = .error n) := ho
    clear ho hb2 hR
    go_wp2_with fail
    exact bodyPost_ret (v := .tuple #[.agg #[.slice none 0 0, .slice none 0 0], .int .i64 n]) (by simp [results, Tryz.results47, go_sem, z0, z1]) rfl ⟨(B2.setCell (by simp) _).setCell (by simp) _, .inl ⟨n, HN.out, hn, rfl⟩⟩
  · have HN : Hid (readFs [] fs = .ok fns) := ho
    have HF : Hid (FnsIn ((w2.setCell ⟨w.heap.size + 1, 0, none⟩ (.slice fo fnn fc)).setCell ⟨w.heap.size + 1, 1, none⟩ (.slice none 0 0)) FB (.slice fo fnn fc) fns) :=
      hF.other hR (by simp [World.size_setCell]) fun g hg => set2_other _ _ _ _ _ hg
    clear ho hb2 hR hF
    go_wp2_with fail
    exact bodyPost_ret (v := .tuple #[.agg #[.slice fo fnn fc, .slice none 0 0], .int .i64 0]) (by simp [results, Tryz.results47, go_sem, z0, z1]) rfl ⟨(B2.setCell (by simp) _).setCell (by simp) _, .inr ⟨fns, FB, fo, fnn, fc, HN.out, rfl, HF.out, hsz'⟩⟩

/-- What Quiet answers. -/
def quietS (fs : List FnT) (name : Bs) : Bool × Int := match readFs [] fs with
  | .error n => (false, n)
  | .ok fns => match findS fns name with
    | none => (false, 2)
    | some i => match fns[i]? with
      | none => (false, 2)
      | some fn => (fn.body.quiet, 0)
set_option maxHeartbeats 4000000 in
set_option maxRecDepth 100000 in
theorem quiet_any (w : World) (fs : List FnT) (h8 : fs.length ≤ 8) (ao : Option Addr) (an cap : Nat) (hv : TextsIn w (.slice ao an cap) fs) (tro : Option Addr) (tc : Nat) (name : Bs) :
    Calls Tryz.prog 17 #[.agg #[.slice ao an cap, .slice tro 0 tc], .string (ofBs name)] w fun e w' => e = .returned (.tuple #[.bool (quietS fs name).1, .int .i64 (quietS fs name).2]) ∧ Below w.heap.size w w' := by
  have HC := baseRead_any _ fs h8 _ (hv.keep (below_box w (.cells #[.slice ao an cap, .slice tro 0 tc] 43))) tro tc
  clear hv
  go_enter Tryz.func17, Tryz.ntmps17
  go_wp2_with (go_at_call 44; refine HC.mono ?_)
  clear HC
  rintro e w2 ⟨hb2, ⟨n, ho, hn, rfl⟩ | ⟨fns, FB, fo, fnn, fc, ho, rfl, hF, hsz⟩⟩
  · have B2 : Below w.heap.size w w2 := (below_box w _).trans (hb2.mono (by simp [World.size_alloc]))
    have HFd := baseFunc_any (w2.alloc (.cells #[.slice none 0 0, .slice none 0 0] 112)) [] [] none 0 0 (fnsIn_nil _) name
    have HFi : Hid (firstS [n, 2] = n) := by rw [Hid, firstS, if_neg hn]
    have HR : Hid (quietS fs name = (false, n)) := by rw [Hid, quietS, ho]
    have hne : (n == 0) = false := by simpa using hn
    clear ho hb2
    go_wp2_with (go_at_call 45; refine HFd.mono ?_)
    clear HFd
    rintro e w3 ⟨⟨p, rfl, hp⟩, hb3⟩
    have hp' : p = none := hp
    subst hp'
    have HC1 := first2n_any w3 n 2
    rw [HFi.out] at HC1
    have hn2 : noneS (findS [] name) = 2 := rfl
    rw [hn2]
    clear HFi hp hn2
    go_wp2_with (go_at_call 46; refine HC1.mono ?_; rintro e w4 ⟨rfl, rfl⟩)
    go_ret2
    have B3 := B2.trans (((below_box w2 _).trans (hb3.mono (by simp [World.size_alloc]))).mono B2.size)
    exact ⟨by rw [HR.out]; rfl, B3.alloc B3.size _⟩
  · have B2 : Below w.heap.size w w2 := (below_box w _).trans (hb2.mono (by simp [World.size_alloc]))
    have HFd := baseFunc_any (w2.alloc (.cells #[.slice fo fnn fc, .slice none 0 0] 112)) FB fns fo fnn fc (hF.keep (below_box w2 _)) name
    clear hb2
    cases hfd : findS fns name with
    | none =>
      rw [hfd] at HFd
      have HR : Hid (quietS fs name = (false, 2)) := by rw [Hid, quietS, ho]; simp only [hfd]
      have hn2 : noneS none = 2 := rfl
      rw [hn2] at HFd
      clear hfd ho hn2
      go_wp2_with (go_at_call 45; refine HFd.mono ?_)
      clear HFd
      rintro e w3 ⟨⟨p, rfl, hp⟩, hb3⟩
      have hp' : p = none := hp
      subst hp'
      have HC1 := first2n_any w3 0 2
      rw [show firstS [0, 2] = 2 from rfl] at HC1
      clear hp
      go_wp2_with (go_at_call 46; refine HC1.mono ?_; rintro e w4 ⟨rfl, rfl⟩)
      go_ret2
      have B3 := B2.trans (((below_box w2 _).trans (hb3.mono (by simp [World.size_alloc]))).mono B2.size)
      exact ⟨by rw [HR.out]; rfl, B3.alloc B3.size _⟩
    | some i =>
      rw [hfd] at HFd
      have hlt := findS_lt hfd
      have hfn := List.getElem?_eq_getElem hlt
      have HR : Hid (quietS fs name = (fns[i].body.quiet, 0)) := by rw [Hid, quietS, ho]; simp only [hfd, hfn]
      have hn2 : noneS (some i) = 0 := rfl
      rw [hn2] at HFd
      clear hfd ho hn2
      go_wp2_with (go_at_call 45; refine HFd.mono ?_)
      clear HFd
      rintro e w3 ⟨⟨p, rfl, hp⟩, hb3⟩
      obtain ⟨q, hq, rfl⟩ : ∃ q, FB[i]? = some q ∧ p = some ⟨q, 0, none⟩ := hp
      have HC1 := first2n_any w3 0 0
      rw [show firstS [0, 0] = 0 from rfl] at HC1
      have hB3 : Below w2.heap.size w2 w3 := (below_box w2 _).trans (hb3.mono (by simp [World.size_alloc]))
      have hA := ((hF.choose_spec.choose_spec.2.2.2.2 i q _ hq hfn).keep hB3).keep (below_box w3 (.cells #[.int .i64 0, .int .i64 0] 44))
      obtain ⟨_, _, _, _, _, _, u5⟩ := hA.cells
      obtain ⟨bq, hbq⟩ : ∃ x, x = fns[i].body.quiet := ⟨_, rfl⟩
      rw [← hbq] at u5 HR
      have hql : q < w3.heap.size := by
        obtain ⟨av, c, h1, _⟩ := (hF.choose_spec.choose_spec.2.2.2.2 i q _ hq hfn).keep hB3
        exact block_lt h1
      clear hA hfn hbq hsz hF
      go_wp2_with (go_at_call 46; refine HC1.mono ?_; rintro e w4 ⟨rfl, rfl⟩)
      go_ret2
      have B3 := B2.trans (hB3.mono B2.size)
      exact ⟨by rw [HR.out]; rfl, B3.alloc B3.size _⟩
end Go.Proofs.YtilfjpmeededmaaGreatDoor

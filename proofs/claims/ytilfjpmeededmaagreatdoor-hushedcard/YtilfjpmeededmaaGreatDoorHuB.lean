/- curtain.Call of a base without tables. -/
import Derived.Test.YtilfjpmeededmaaGreatDoorHuAZ
import Derived.Test.YtilfjpmeededmaaGreatDoorBaDZ
namespace Go.Proofs.YtilfjpmeededmaaGreatDoor
open Go.RowKit

def cntQ (q : Bool) (m : Nat) : Nat := match q with
  | true => 0
  | false => m
theorem Kp.notes {q : Bool} {wb : Nat} {user : Bs} {m : Nat} {w w' : World} (h : Kp q wb user m w w') (hk : w.heap[wb]? = some (.cells #[.string (ofBs user), .slice none 0 0] 128 (0, 0))) : ∃ no nc, w'.heap[wb]? = some (.cells #[.string (ofBs user), .slice no (cntQ q m) nc] 128 (0, 0)) := by
  cases q with
  | true => exact ⟨none, 0, (h.2.2.1 rfl).trans hk⟩
  | false => exact h.2.2.2 rfl
theorem blk_keep {w x : World} {g : Nat} {o : Obj} (hb : Below w.heap.size w x) (h : w.heap[g]? = some o) (hg : g < w.heap.size) : x.heap[g]? = some o := (hb.block g hg).trans h

set_option maxHeartbeats 8000000 in
set_option maxRecDepth 100000 in
theorem curtainCall_any (q : Bool) (m : Nat) (w : World) (fs : List FnT) (h8 : fs.length ≤ 8) (ao : Option Addr) (an cap : Nat) (hv : TextsIn w (.slice ao an cap) fs) (tro : Option Addr) (tc : Nat) (user : Bs) (hu : user.length ≤ 30) (name : Bs) (fns : List Fn) (hr : readFs [] fs = .ok fns) (i : Nat) (hfd : findS fns name = some i) (fn : Fn) (hfn : fns[i]? = some fn)
    (args : List CellT) (aro : Option Addr) (arn arc : Nat) (ha : CellsIn w (.slice aro arn arc) args) (ht : takesS args fn.args = true) (r : CellT) (hlr : r.2.2.length ≤ 1000)
    (HV : ∀ (x : World) (FB : List Nat) (wb : Nat) (c : Array Value), Below w.heap.size w x → w.heap.size ≤ wb → EnvIn x FB fns user wb → WkIs x wb user none 0 0 [] → IsEx x FB (fun _ => True) c.toList fn.body → Calls Tryz.prog 82 #[frV wb none 0 0 aro arn arc, .agg c] x fun e w' => Noted q wb user m r x e w') :
    Calls Tryz.prog 19 #[.agg #[.slice ao an cap, .slice tro 0 tc], .string (ofBs user), .string (ofBs name), .slice aro arn arc] w fun e w' => (∃ no nc, e = .returned (.tuple #[.agg #[.int .i64 r.1, .int .i64 r.2.1, .string (ofBs r.2.2)], .slice no (cntQ q m) nc, .int .i64 0])) ∧ Below w.heap.size w w' := by
  have hbx := below_box2 w (.cells #[.slice ao an cap, .slice tro 0 tc] 43) (cellO 0 0 ⟨#[]⟩)
  have k1 : ((w.alloc (.cells #[.slice ao an cap, .slice tro 0 tc] 43)).alloc (cellO 0 0 ⟨#[]⟩)).heap[w.heap.size + 1]? = some (cellO 0 0 ⟨#[]⟩) := by
    have := heap_alloc_new (w.alloc (.cells #[.slice ao an cap, .slice tro 0 tc] 43)) (cellO 0 0 ⟨#[]⟩)
    rw [World.size_alloc] at this; exact this
  have HR := readFor_any _ fs h8 ao an cap (hv.keep hbx) tro tc user hu
  rw [hr] at HR
  clear hv hr
  go_enter Tryz.func19, Tryz.ntmps19
  go_wp2_with (go_at_call 47; refine HR.mono ?_)
  clear HR
  rintro e w2 ⟨hb2, ⟨n, ho, _, _⟩ | ⟨fns', FB, fo, fnn, fc, ho, rfl, hF, _⟩⟩
  · cases ho
  have hff : fns = fns' := by cases ho; rfl
  subst hff
  clear ho
  have hs2 := hb2.size
  simp only [World.size_alloc] at hs2
  have B2 : Below w.heap.size w w2 := hbx.trans (hb2.mono (by simp only [World.size_alloc]; omega))
  have k2 : w2.heap[w.heap.size + 1]? = some (cellO 0 0 ⟨#[]⟩) := (hb2.block _ (by simp only [World.size_alloc]; omega)).trans k1
  have HFd := baseFunc_any (w2.alloc (.cells #[.slice fo fnn fc, .slice none 0 0] 112)) FB fns fo fnn fc (hF.keep (below_box w2 _)) name
  rw [hfd] at HFd
  rw [show noneS (some i) = 0 from rfl] at HFd
  clear hb2 hbx k1
  go_wp2_with (go_at_call 45; refine HFd.mono ?_)
  clear HFd
  rintro e w3 ⟨⟨p, rfl, hp⟩, hb3⟩
  obtain ⟨fb, hfb, rfl⟩ : ∃ b, FB[i]? = some b ∧ p = some ⟨b, 0, none⟩ := hp
  have hB3 : Below w2.heap.size w2 w3 := (below_box w2 _).trans (hb3.mono (by simp [World.size_alloc]))
  have B3 := B2.trans (hB3.mono B2.size)
  have HC1 := first2n_any w3 0 0
  rw [show firstS [0, 0] = 0 from rfl] at HC1
  clear hb3 hfd
  go_wp2_with (go_at_call 46; refine HC1.mono ?_; rintro e w4 ⟨rfl, rfl⟩)
  have hbe := below_box w3 (.cells #[.int .i64 0, .int .i64 0] 44)
  have hB4 := hB3.trans (hbe.mono hB3.size)
  have B4 := B3.trans (hbe.mono B3.size)
  have hFA : ∀ x : World, Below w2.heap.size w2 x → ∀ (j q : Nat) (f : Fn), FB[j]? = some q → fns[j]? = some f → FnAt x FB q f := fun x hx j q f h1 h2 => (hF.choose_spec.choose_spec.2.2.2.2 j q f h1 h2).keep hx
  have hlen : FB.length = fns.length := hF.choose_spec.choose_spec.2.1
  have HTk := takes_any _ FB fb fn (hFA _ hB4 i fb fn hfb hfn) aro arn arc args (ha.keep B4)
  rw [ht] at HTk
  go_wp2_with (go_at_call 48; refine HTk.mono ?_; rintro e w5 ⟨rfl, hb5⟩)
  have hB5 := hB4.trans (hb5.mono hB4.size)
  have B5 := B4.trans (hb5.mono B4.size)
  have hs5 := hB5.size
  clear HTk hb5 hB4 B4 hbe hB3 B3
  have hbk := below_box w5 (.cells #[.string (ofBs user), .slice none 0 0] 128)
  have kw := heap_alloc_new w5 (.cells #[.string (ofBs user), .slice none 0 0] 128)
  have hs6 : (w5.alloc (.cells #[.string (ofBs user), .slice none 0 0] 128)).heap.size = w5.heap.size + 1 := World.size_alloc _ _
  obtain ⟨W, hW⟩ : ∃ W, W = w5.alloc (.cells #[.string (ofBs user), .slice none 0 0] 128) := ⟨_, rfl⟩
  have HW : Calls Tryz.prog 49 #[.pointer (some ⟨w5.heap.size, 0, none⟩), .pointer (some ⟨fb, 0, none⟩), .slice aro arn arc] (w5.alloc (.cells #[.string (ofBs user), .slice none 0 0] 128)) fun e w' => Noted q w5.heap.size user m r (w5.alloc (.cells #[.string (ofBs user), .slice none 0 0] 128)) e w' := by
    refine workerCall_any q m user r _ w5.heap.size (by rw [hs6]; omega) FB fb fn ((hFA _ hB5 i fb fn hfb hfn).keep hbk) aro arn arc fun x c hx hxc => ?_
    have hbx := hbk.trans (hx.mono hbk.size)
    have hkx := (hx.block _ (by rw [hs6]; omega)).trans kw
    refine HV x FB w5.heap.size c (B5.trans (hbx.mono B5.size)) B5.size ⟨⟨none, 0, 0, hkx⟩, hlen, fun j p f h1 h2 => hFA x (hB5.trans (hbx.mono hB5.size)) j p f h1 h2⟩ ⟨hkx, World.ownsRow_nil _ _ _ _⟩ hxc
  clear HV
  go_wp2_with (go_at_call 49; refine HW.mono ?_; rintro e w6 ⟨rfl, hk6⟩)
  obtain ⟨no, nc, kn⟩ := hk6.notes kw
  have B6 : Below w.heap.size w w6 := (B5.trans (hbk.mono B5.size)).trans (hk6.1.mono B5.size)
  have hs5' := B5.size
  have kR : w6.heap[w.heap.size + 1]? = some (cellO 0 0 ⟨#[]⟩) := (hk6.2.1 _ (by rw [hs6]; omega) (by omega)).trans ((hbk.block _ (by omega)).trans ((hB5.block _ (by omega)).trans k2))
  have ln := block_lt kn
  have lR := block_lt kR
  obtain ⟨n0, n00, n1, n11⟩ := cellsB kn
  obtain ⟨⟨z0, z1, z2⟩, zf0, zf1, zf2⟩ := cells3 kR
  have hso : (ofBs r.2.2).size ≤ 281474976710656 := by rw [ofBs_size]; omega
  have HO := fun x : World => own_any r.1 r.2.1 (ofBs r.2.2) x hso
  clear HW hk6 kw hbk hB5 B5 hF hFA ha ht hfn hfb hW hs6
  go_region_with (go_at_call 50; refine (HO _).mono ?_; rintro e w7 ⟨rfl, hb7⟩; replace hb7 := undrewB hb7; obtain ⟨m0, m00, m1, m11⟩ := cellsB ((hb7.block _ (by simp only [World.size_alloc]; omega)).trans ((Below.heap_alloc _ _ _ ln).trans kn)); obtain ⟨⟨r0, r1, r2⟩, rf0, rf1, rf2⟩ := cells3 ((hb7.block _ (by simp only [World.size_alloc]; omega)).trans ((Below.heap_alloc _ _ _ lR).trans kR)); have B7 : Below w6.heap.size w6 w7 := (below_box w6 _).trans (hb7.mono (by simp [World.size_alloc])); have lR7 := Nat.lt_of_lt_of_le lR B7.size; have ln7 := Nat.lt_of_lt_of_le ln B7.size)
  all_goals (go_wp2_with fail)
  all_goals
    refine bodyPost_ret (v := .tuple #[.agg #[.int .i64 r.1, .int .i64 r.2.1, .string (ofBs r.2.2)], .slice no (cntQ q m) nc, .int .i64 0]) (by simp [results, Tryz.results19, go_sem, r0, r1, r2]) rfl ⟨⟨no, nc, rfl⟩, ?_⟩
    have B8 := set3_below (B6.trans (B7.mono B6.size)) (b := w.heap.size + 1) (by omega) (.int .i64 r.1) (.int .i64 r.2.1) (.string (ofBs r.2.2))
    first | exact B8 | exact B8.drew
end Go.Proofs.YtilfjpmeededmaaGreatDoor

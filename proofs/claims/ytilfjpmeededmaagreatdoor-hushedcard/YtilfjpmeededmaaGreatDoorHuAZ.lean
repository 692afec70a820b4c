/- Package work: what is quiet is worked out as the plain function says. -/
/- The two functions of the promise, worked out. -/
import Derived.Test.YtilfjpmeededmaaGreatDoorWvJZ
import Derived.Test.YtilfjpmeededmaaGreatDoorEvGZ
namespace Go.Proofs.YtilfjpmeededmaaGreatDoor
open Go.RowKit

set_option maxHeartbeats 4000000 in
set_option maxRecDepth 100000 in
theorem call_step (r : CellT) (cs : List CellT) (w : World) (wb : Nat) (co : Option Addr) (cn cc : Nat) (ao : Option Addr) (an ac : Nat) (sort ty size : Int) (quiet : Bool) (vk vn : Int) (vs : Bs) (place : Int) (head : Bs) (fb : Nat) (oo : Option Addr) (on oc : Nat)
    (HV : ∀ x : World, Below w.heap.size w x → Calls Tryz.prog 219 #[frV wb co cn cc ao an ac, .slice oo on oc] x fun e w' => ∃ ro rn rc, e = .returned (.tuple #[.slice ro rn rc, .int .i64 0]) ∧ CellsIn w' (.slice ro rn rc) cs ∧ Below x.heap.size x w')
    (HC : ∀ (x : World) (ro : Option Addr) (rn rc : Nat), Below w.heap.size w x → CellsIn x (.slice ro rn rc) cs → Calls Tryz.prog 49 #[.pointer (some ⟨wb, 0, none⟩), .pointer (some ⟨fb, 0, none⟩), .slice ro rn rc] x fun e w' => Vald x r e w') :
    Calls Tryz.prog 147 #[frV wb co cn cc ao an ac, exV sort ty size quiet vk vn vs place head (some ⟨fb, 0, none⟩) oo on oc] w fun e w' => Vald w r e w' := by
  have hb0 := below3 w (frB wb co cn cc ao an ac) (exB sort ty size quiet vk vn vs place head (some ⟨fb, 0, none⟩) oo on oc) (cellO 0 0 ⟨#[]⟩)
  have HV0 := HV _ hb0
  clear HV
  go_enter Tryz.func147, Tryz.ntmps147
  go_wp2_with (first
    | (go_at_call 219; refine HV0.mono ?_; rintro e w2 ⟨ro, rn, rc, rfl, hcs, hb2⟩; obtain ⟨B2, ⟨k0, k1, k2⟩, l0, l1, l2⟩ := bi_box hb2; obtain ⟨⟨y0, y1, y2, y3, y4, y5, y6, y7, y8, y9, y10⟩, _⟩ := cells11 k1; obtain ⟨⟨f0, f1, f2⟩, _⟩ := cells3 k0)
    | (go_at_call 49; refine (HC _ _ _ _ B2 hcs).mono ?_; rintro e w3 ⟨rfl, hb3⟩; obtain ⟨⟨r0, r1, r2⟩, rf0, rf1, rf2⟩ := cells3 ((hb3.block _ l2).trans k2); have l3 := Nat.lt_of_lt_of_le l2 hb3.size))
  refine bodyPost_ret (v := .tuple #[.agg #[.int .i64 r.1, .int .i64 r.2.1, .string (ofBs r.2.2)], .int .i64 0]) (by simp [results, Tryz.results147, go_sem, r0, r1, r2]) rfl ⟨rfl, ?_⟩
  exact set3_below (B2.trans (hb3.mono B2.size)) (by omega) _ _ _

theorem Vald.noted {wb : Nat} {user : Bs} {m : Nat} {v : CellT} {w : World} {e : Ending} {w' : World} (h : Vald w v e w') (hw : wb < w.heap.size) : Noted true wb user m v w e w' := ⟨h.1, Below.kp h.2 hw⟩
theorem Noted.vald {wb : Nat} {user : Bs} {m : Nat} {v : CellT} {w : World} {e : Ending} {w' : World} (h : Noted true wb user m v w e w') : Vald w v e w' := ⟨h.1, h.2.below⟩
theorem exs_at (j : Nat) {w : World} {FB : List Nat} {oo : Option Addr} {on oc : Nat} {es : List Ex} (h : ExsIn w FB (.slice oo on oc) es) (hi : j < es.length) : ∃ g sort ty size quiet vk vn vs place head fp xo xn xc, oo = some ⟨g, 0, none⟩ ∧ g < w.heap.size ∧
    IsEx w FB (fun _ => True) [.int .i64 sort, .int .i64 ty, .int .i64 size, .bool quiet, .int .i64 vk, .int .i64 vn, .string (ofBs vs), .int .i64 place, .string (ofBs head), .pointer fp, .slice xo xn xc] es[j] ∧
    At11 w g (j * 11) (j * 11 + 1) (j * 11 + 2) (j * 11 + 3) (j * 11 + 4) (j * 11 + 5) (j * 11 + 6) (j * 11 + 7) (j * 11 + 8) (j * 11 + 9) (j * 11 + 10) sort ty size quiet vk vn vs place head fp xo xn xc := by
  obtain ⟨g, sort, ty, size, quiet, vk, vn, vs, place, head, fp, xo, xn, xc, e, hg, hx, hc⟩ := exs_cell h j hi
  exact ⟨g, sort, ty, size, quiet, vk, vn, vs, place, head, fp, xo, xn, xc, e, hg, hx, hc w fun _ _ => rfl⟩
theorem place_cells {w : World} {ao : Option Addr} {an ac : Nat} {args : List CellT} (h : CellsIn w (.slice ao an ac) args) {p : Int} {v : CellT} (hp : placeQ args p = some v) : ∃ (b off k : Nat), ao = some ⟨b, off, none⟩ ∧ an = args.length ∧ b < w.heap.size ∧ p = (k : Int) ∧ args[k]? = some v ∧ w.cell? ⟨b, off + k * 3, none⟩ = some (.int .i64 v.1) ∧ w.cell? ⟨b, off + k * 3 + 1, none⟩ = some (.int .i64 v.2.1) ∧ w.cell? ⟨b, off + k * 3 + 2, none⟩ = some (.string (ofBs v.2.2)) := by
  obtain ⟨ao', cap', e, hl, h3⟩ := h
  cases e
  unfold placeQ at hp
  split at hp
  · next h0 =>
    rcases h3 with h | ⟨b, off, rfl, hb, hc⟩
    · subst h; simp at hp
    · obtain ⟨p0, p1, p2⟩ := hc p.toNat v hp
      exact ⟨b, off, p.toNat, rfl, rfl, hb, by omega, hp, p0, p1, p2⟩
  · cases hp
theorem IsEx.ops {w : World} {FB : List Nat} {S : Nat → Prop} {c : List Value} {sort ty size : Int} {quiet : Bool} {vk vn : Int} {vs : Bs} {place : Int} {head : Bs} {fi : Option Nat} {es : List Ex} (h : IsEx w FB S c (.mk sort ty size quiet vk vn vs place head fi es)) : ∃ fp oo on oc, c = [.int .i64 sort, .int .i64 ty, .int .i64 size, .bool quiet, .int .i64 vk, .int .i64 vn, .string (ofBs vs), .int .i64 place, .string (ofBs head), .pointer fp, .slice oo on oc] ∧ ExsIn w FB (.slice oo on oc) es ∧ FpIs FB fi fp := by
  cases h with
  | mk a b d f =>
    rcases b.2 with ⟨rfl, h0⟩ | ⟨g, cap, cur, rfl, hr⟩
    · exact ⟨_, _, _, _, rfl, ⟨_, _, _, by rw [h0], b, a.move (fun _ _ => rfl) fun _ _ => trivial⟩, f⟩
    · exact ⟨_, _, _, _, rfl, ⟨_, _, _, rfl, b, a.move (fun _ _ => rfl) fun _ _ => trivial⟩, f⟩
theorem exs_ne_worker {w : World} {FB : List Nat} {fns : List Fn} {user : Bs} {wb g on oc : Nat} {es : List Ex} (he : EnvIn w FB fns user wb) (h : ExsIn w FB (.slice (some ⟨g, 0, none⟩) on oc) es) : g ≠ wb := by
  intro e
  subst e
  obtain ⟨⟨no, nn, nc, hk⟩, _, _⟩ := he
  obtain ⟨cs, ao, cap, e, hown, _⟩ := h
  rcases hown.2 with ⟨h, _⟩ | ⟨g', cap', cur, h, _, hr, _⟩
  · cases h
  · cases h; rw [hk] at hr; cases hr

theorem headQ_ops {f : Ex → Option CellT} {h : Bs} {es : List Ex} {v : CellT} (n1 : h ≠ hAnd) (n2 : h ≠ hOr) (n3 : h ≠ hIf) (hq : headQ f h es = some v) : ∃ cs, valsQ f es = some cs ∧ appQ h cs = some v := by
  rw [headQ, if_neg n1, if_neg n2, if_neg n3] at hq
  split at hq
  · cases hq
  · next cs hcs => exact ⟨cs, hcs, hq⟩
theorem appQ_note (cs : List CellT) : appQ hNote cs = none := by
  match cs with
  | [] => rfl
  | [_] => rw [appQ, if_neg (by decide)]
  | [_, _] => rw [appQ, app2, if_neg (by decide)]
  | _ :: _ :: _ :: _ => rfl

/-- builtIn of what is quiet. -/
theorem workBuiltIn_any (fns : List Fn) (user : Bs) (N : Nat) (HV : ValSpec fns user N) (w : World) (FB : List Nat) (wb : Nat) (cols args : List CellT) (co : Option Addr) (cn cc : Nat) (ao : Option Addr) (an ac : Nat)
    (hF : FrIn w FB fns user wb (.slice co cn cc) (.slice ao an ac) cols args) (sort ty size : Int) (quiet : Bool) (vk vn : Int) (vs : Bs) (place : Int) (head : Bs) (fp oo : Option Addr) (on oc : Nat) (es : List Ex) (hE : ExsIn w FB (.slice oo on oc) es) (hl : es.length ≤ 1000) (v : CellT) (hq : headQ (evQ fns user N cols args) head es = some v) :
    Calls Tryz.prog 146 #[frV wb co cn cc ao an ac, exV sort ty size quiet vk vn vs place head fp oo on oc] w fun e w' => Vald w v e w' := by
  by_cases n1 : head = hAnd
  · subst n1
    rw [headQ, if_pos rfl] at hq
    exact builtIn_and w wb co cn cc ao an ac v sort ty size quiet vk vn vs place fp oo on oc fun x hx => and_any fns user N HV x FB wb cols args co cn cc ao an ac (hF.keep hx) oo on oc es (hE.keep hx) hl v hq
  by_cases n2 : head = hOr
  · subst n2
    rw [headQ, if_neg (by decide), if_pos rfl] at hq
    exact builtIn_or w wb co cn cc ao an ac v sort ty size quiet vk vn vs place fp oo on oc fun x hx => or_any fns user N HV x FB wb cols args co cn cc ao an ac (hF.keep hx) oo on oc es (hE.keep hx) hl v hq
  by_cases n3 : head = hIf
  · subst n3
    rw [headQ, if_neg (by decide), if_neg (by decide), if_pos rfl] at hq
    have h3 : ∃ a b c, es = [a, b, c] := by
      match es, hq with
      | [a, b, c], _ => exact ⟨a, b, c, rfl⟩
    obtain ⟨a, b, c, rfl⟩ := h3
    obtain ⟨g, sort0, ty0, size0, quiet0, vk0, vn0, vs0, place0, head0, fp0, xo0, xn0, xc0, rfl, hg, hx0, hc0⟩ := exs_at 0 hE (by simp)
    obtain ⟨g1, sort1, ty1, size1, quiet1, vk1, vn1, vs1, place1, head1, fp1, xo1, xn1, xc1, e1, hg1, hx1, hc1⟩ := exs_at 1 hE (by simp)
    obtain ⟨g2, sort2, ty2, size2, quiet2, vk2, vn2, vs2, place2, head2, fp2, xo2, xn2, xc2, e2, hg2, hx2, hc2⟩ := exs_at 2 hE (by simp)
    cases e1
    cases e2
    have hon : on = 3 := by obtain ⟨_, _, _, e, _⟩ := hE; cases e; rfl
    subst hon
    have hwl := hF.lt
    have va : ∃ u, evQ fns user N cols args a = some u := by
      rw [ifQ] at hq
      cases h : evQ fns user N cols args a with
      | none => rw [h] at hq; cases hq
      | some u => exact ⟨u, rfl⟩
    obtain ⟨u, hu⟩ := va
    rw [ifQ, hu] at hq
    simp only at hq
    refine (builtIn_if true 0 user w wb hwl co cn cc ao an ac v sort ty size quiet vk vn vs place fp g oc hg (exs_ne_worker hF.env hE) hc0 hc1 hc2 fun x hx => ?_).mono fun e w' h => h.vald
    refine choose_any true 0 user x wb (by have := hx.size; omega) co cn cc ao an ac u v (fun y hy => ?_) (fun ht y hy => ?_) (fun hn y hy => ?_)
    · have hB := hx.trans (hy.mono hx.size)
      exact HV a u y FB wb cols args co cn cc ao an ac _ hu (hF.keep hB) (hx0.keep hB)
    · have hB := hx.trans (hy.mono hx.size)
      rw [if_pos ht] at hq
      exact (HV b v y FB wb cols args co cn cc ao an ac _ hq (hF.keep hB) (hx1.keep hB)).mono fun e w' h => h.noted (by have := hB.size; omega)
    · have hB := hx.trans (hy.mono hx.size)
      rw [if_neg hn] at hq
      exact (HV c v y FB wb cols args co cn cc ao an ac _ hq (hF.keep hB) (hx2.keep hB)).mono fun e w' h => h.noted (by have := hB.size; omega)
  obtain ⟨cs, hcs, ha⟩ := headQ_ops n1 n2 n3 hq
  have n4 : head ≠ hNote := fun e => by subst e; rw [appQ_note] at ha; cases ha
  exact builtIn_ops w wb co cn cc ao an ac v cs sort ty size quiet vk vn vs place head fp oo on oc n1 n2 n3 n4 (fun x hx => values_any fns user N HV x FB wb cols args co cn cc ao an ac (hF.keep hx) oo on oc es (hE.keep hx) hl cs hcs) ha

theorem valSpec (fns : List Fn) (user : Bs) : ∀ N, ValSpec fns user N
  | 0 => fun e v w FB wb cols args co cn cc ao an ac c hev => by cases hev
  | N + 1 => by
    have HV := valSpec fns user N
    intro e v w FB wb cols args co cn cc ao an ac c hev hF hx
    obtain ⟨sort, ty, size, quiet, vk, vn, vs, place, head, fi, es⟩ := e
    obtain ⟨fp, oo, on, oc, hc, hE, hfp⟩ := hx.ops
    have hc' : c = #[.int .i64 sort, .int .i64 ty, .int .i64 size, .bool quiet, .int .i64 vk, .int .i64 vn, .string (ofBs vs), .int .i64 place, .string (ofBs head), .pointer fp, .slice oo on oc] := by rw [← Array.toList_inj]; exact hc
    subst hc'
    unfold evQ at hev
    by_cases hl : 1000 < es.length
    · rw [if_pos hl] at hev; cases hev
    rw [if_neg hl] at hev
    have hwl := hF.lt
    by_cases s1 : sort = 1
    · subst s1
      rw [if_pos rfl] at hev; cases hev
      obtain ⟨no, nn, nc, hk⟩ := hF.env.wk
      exact value_user w wb user ((blk_at hk).trans rfl) hwl co cn cc ao an ac ty size quiet vk vn vs place head fp oo on oc
    rw [if_neg s1] at hev
    by_cases s2 : sort = 2
    · subst s2
      rw [if_pos rfl] at hev
      obtain ⟨b, off, k, rfl, rfl, hb, rfl, hk, q0, q1, q2⟩ := place_cells hF.cols hev
      exact value_col w wb ao an ac b off cc cols hb k v hk q0 q1 q2 ty size quiet vk vn vs head fp oo on oc
    rw [if_neg s2] at hev
    by_cases s3 : sort = 3
    · subst s3
      rw [if_pos rfl] at hev
      obtain ⟨b, off, k, rfl, rfl, hb, rfl, hk, q0, q1, q2⟩ := place_cells hF.args hev
      exact value_par w wb co cn cc b off ac args hb k v hk q0 q1 q2 ty size quiet vk vn vs head fp oo on oc
    rw [if_neg s3] at hev
    by_cases s4 : sort = 4
    · subst s4
      rw [if_pos rfl] at hev
      refine (value_built true 0 user v w wb hwl co cn cc ao an ac ty size quiet vk vn vs place head fp oo on oc fun x hx' => ?_).mono fun e w' h => h.vald
      exact (workBuiltIn_any fns user N HV x FB wb cols args co cn cc ao an ac (hF.keep hx') 4 ty size quiet vk vn vs place head fp oo on oc es (hE.keep hx') (by omega) v hev).mono fun e w' h => h.noted (by have := hx'.size; omega)
    rw [if_neg s4] at hev
    by_cases s5 : sort = 5
    · subst s5
      rw [if_pos rfl] at hev
      cases fi with
      | none => cases hev
      | some i =>
        simp only at hev
        cases hfn : fns[i]? with
        | none => rw [hfn] at hev; cases hev
        | some fn =>
          rw [hfn] at hev
          simp only at hev
          cases hcs : valsQ (evQ fns user N cols args) es with
          | none => rw [hcs] at hev; cases hev
          | some cs =>
            rw [hcs] at hev
            simp only at hev
            obtain ⟨fb, hfb, rfl⟩ : ∃ b, FB[i]? = some b ∧ fp = some ⟨b, 0, none⟩ := hfp
            have hfa := hF.env.fn i fb fn hfb hfn
            refine value_calls v w wb co cn cc ao an ac ty size quiet vk vn vs place head (some ⟨fb, 0, none⟩) oo on oc fun x hx' => ?_
            refine call_step v cs x wb co cn cc ao an ac 5 ty size quiet vk vn vs place head fb oo on oc (fun y hy => ?_) (fun y ro rn rc hy hcy => ?_)
            · have hB := hx'.trans (hy.mono hx'.size)
              exact values_any fns user N HV y FB wb cols args co cn cc ao an ac (hF.keep hB) oo on oc es (hE.keep hB) (by omega) cs hcs
            · have hB := hx'.trans (hy.mono hx'.size)
              refine (workerCall_any true 0 user v y wb (by have := hB.size; omega) FB fb fn (hfa.keep hB) ro rn rc fun z c' hz hxz => ?_).mono fun e w' h => h.vald
              have hB2 := hB.trans (hz.mono hB.size)
              refine (HV fn.body v z FB wb [] cs none 0 0 ro rn rc c' hev ⟨hF.env.keep hB2, ⟨none, 0, rfl, by simp, .inl rfl⟩, hcy.keep hz⟩ hxz).mono fun e w' h => h.noted (by have := hB2.size; omega)
    rw [if_neg s5] at hev; cases hev
    exact value_const w wb co cn cc ao an ac sort ty size s1 s2 s3 s4 s5 quiet vk vn vs place head fp oo on oc
end Go.Proofs.YtilfjpmeededmaaGreatDoor

namespace Go.Proofs.YtilfjpmeededmaaGreatDoor
open Go.RowKit

theorem evQ_pars (fns : List Fn) (user : Bs) (N : Nat) (a b c d : CellT) : valsQ (evQ fns user (N + 1) [] [a, b, c, d]) pars = some [a, b, c, d] := by
  simp [pars, valsQ, parEx, evQ, placeQ]
theorem evQ_call {fns : List Fn} {user : Bs} {N : Nat} {a b c d v : CellT} {e : Ex} (hf : fns[0]? = some (fnF e)) (hv : evQ fns user (N + 1) [] [a, b, c, d] e = some v) : evQ fns user (N + 2) [] [a, b, c, d] (callE e) = some v := by
  rw [callE]
  unfold evQ
  rw [if_neg (by decide), if_neg (by decide), if_neg (by decide), if_neg (by decide), if_neg (by decide), if_pos rfl]
  simp only [hf, evQ_pars]
  exact hv
theorem evQ_null (fns : List Fn) (user : Bs) (N : Nat) (a b c d : CellT) : evQ fns user (N + 2) [] [a, b, c, d] nullE = some (truC (a.1 == 0)) := by
  rw [nullE]
  unfold evQ
  rw [if_neg (by decide), if_neg (by decide), if_neg (by decide), if_neg (by decide), if_pos rfl, headQ, if_neg (by decide), if_neg (by decide), if_neg (by decide)]
  have : valsQ (evQ fns user (N + 1) [] [a, b, c, d]) [parEx 1 0] = some [a] := by simp [valsQ, parEx, evQ, placeQ]
  rw [this]
  rfl
theorem truC_inj {b : Bool} (h : truC b = truC true) : b = true := by
  cases b
  · have := congrArg (fun p : CellT => p.2.1) h; simp [truC, truN] at this
  · rfl
theorem WkIs.keep0 {w x : World} {wb : Nat} {user : Bs} (h : WkIs w wb user none 0 0 []) (hb : Below w.heap.size w x) : WkIs x wb user none 0 0 [] :=
  ⟨(hb.block wb (block_lt h.1)).trans h.1, World.ownsRow_nil _ _ _ _⟩

set_option maxHeartbeats 1000000 in
theorem value_g (e : Ex) (fns : List Fn) (user : Bs) (N : Nat) (a b c d v : CellT) (hf : fns[0]? = some (fnF e)) (hv : evQ fns user (N + 1) [] [a, b, c, d] e = some v) (hbd : Bd v) (w : World) (FB : List Nat) (wb : Nat) (ao : Option Addr) (an ac : Nat) (cs : Array Value)
    (hF : FrIn w FB fns user wb (.slice none 0 0) (.slice ao an ac) [] [a, b, c, d]) (hx : IsEx w FB (fun _ => True) cs.toList (gE e)) (hk : WkIs w wb user none 0 0 []) (hT : TabP w) :
    Calls Tryz.prog 82 #[frV wb none 0 0 ao an ac, .agg cs] w fun e w' => Noted (!(a.1 == 0)) wb user 1 v w e w' := by
  have HV := valSpec fns user (N + 2)
  obtain ⟨fp, oo, on, oc, hc, hE, _⟩ := hx.ops
  have hc' : cs = #[.int .i64 4, .int .i64 e.ty, .int .i64 (1 + sumSize [nullE, noteE e, callE e]), .bool false, .int .i64 0, .int .i64 0, .string (ofBs []), .int .i64 0, .string (ofBs hIf), .pointer fp, .slice oo on oc] := by rw [← Array.toList_inj]; exact hc
  subst hc'
  have hwl := hF.lt
  refine value_built (!(a.1 == 0)) 1 user v w wb hwl none 0 0 ao an ac e.ty _ false 0 0 [] 0 hIf fp oo on oc fun x hx' => ?_
  have hEx := hE.keep hx'
  have hFx := hF.keep hx'
  obtain ⟨g, sort0, ty0, size0, quiet0, vk0, vn0, vs0, place0, head0, fp0, xo0, xn0, xc0, rfl, hg, hx0, hc0⟩ := exs_at 0 hEx (by simp)
  obtain ⟨g1, sort1, ty1, size1, quiet1, vk1, vn1, vs1, place1, head1, fp1, xo1, xn1, xc1, e1, hg1, hx1, hc1⟩ := exs_at 1 hEx (by simp)
  obtain ⟨g2, sort2, ty2, size2, quiet2, vk2, vn2, vs2, place2, head2, fp2, xo2, xn2, xc2, e2, hg2, hx2, hc2⟩ := exs_at 2 hEx (by simp)
  cases e1
  cases e2
  have hon : on = 3 := by obtain ⟨_, _, _, e, _⟩ := hE; cases e; rfl
  subst hon
  have hxl : wb < x.heap.size := by have := hx'.size; omega
  refine builtIn_if (!(a.1 == 0)) 1 user x wb hxl none 0 0 ao an ac v 4 e.ty _ false 0 0 [] 0 fp g oc hg (exs_ne_worker hFx.env hEx) hc0 hc1 hc2 fun y hy => ?_
  have hyl : wb < y.heap.size := by have := hy.size; omega
  have hB := hx'.trans (hy.mono hx'.size)
  refine choose_any (!(a.1 == 0)) 1 user y wb hyl none 0 0 ao an ac (truC (a.1 == 0)) v (fun z hz => ?_) (fun ht z hz => ?_) (fun hn z hz => ?_)
  · have hB' := hy.trans (hz.mono hy.size)
    exact HV nullE _ z FB wb [] [a, b, c, d] none 0 0 ao an ac _ (evQ_null fns user N a b c d) (hFx.keep hB') (hx0.keep hB')
  · have hB' := hy.trans (hz.mono hy.size)
    have hBw := hx'.trans (hB'.mono hx'.size)
    have ha : (a.1 == 0) = true := truC_inj ht
    rw [ha]
    have hzl : wb < z.heap.size := by have := hBw.size; omega
    obtain ⟨fpn, oon, onn, ocn, hcn, hEn, _⟩ := (hx1.keep hB').ops
    have hex : exO sort1 ty1 size1 quiet1 vk1 vn1 vs1 place1 head1 fp1 xo1 xn1 xc1 = #[.int .i64 4, .int .i64 e.ty, .int .i64 (1 + sumSize [callE e]), .bool false, .int .i64 0, .int .i64 0, .string (ofBs []), .int .i64 0, .string (ofBs hNote), .pointer fpn, .slice oon onn ocn] := by rw [← Array.toList_inj]; exact hcn
    rw [hex]
    refine value_built false 1 user v z wb hzl none 0 0 ao an ac e.ty _ false 0 0 [] 0 hNote fpn oon onn ocn fun u hu => ?_
    have hBu := hBw.trans (hu.mono hBw.size)
    refine builtIn_note u wb user (hk.keep0 hBu) (tabP_keep hT hBu) none 0 0 ao an ac v hbd.1 hbd.2.1 hbd.2.2 4 e.ty _ false 0 0 [] 0 fpn oon onn ocn fun t ht' => ?_
    have hBt := hBu.trans (ht'.mono hBu.size)
    have hut := hu.trans (ht'.mono hu.size)
    exact values_any fns user (N + 2) HV t FB wb [] [a, b, c, d] none 0 0 ao an ac (hF.keep hBt) oon onn ocn [callE e] (hEn.keep hut) (by simp) [v] (by rw [valsQ, evQ_call hf hv]; rfl)
  · have hB' := hy.trans (hz.mono hy.size)
    have hBw := hx'.trans (hB'.mono hx'.size)
    have ha : (a.1 == 0) = false := by
      cases h : (a.1 == 0)
      · rfl
      · rw [h] at hn; exact absurd rfl hn
    rw [ha]
    exact (HV (callE e) v z FB wb [] [a, b, c, d] none 0 0 ao an ac _ (evQ_call hf hv) (hFx.keep hB') (hx2.keep hB')).mono fun e w' h => h.noted (by have := hBw.size; omega)
end Go.Proofs.YtilfjpmeededmaaGreatDoor

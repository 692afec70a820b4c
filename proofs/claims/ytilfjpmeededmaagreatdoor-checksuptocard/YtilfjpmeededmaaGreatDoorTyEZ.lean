import Derived.Test.YtilfjpmeededmaaGreatDoorTyBZ
import Derived.Deep.RegionWith
import Derived.Deep.CutRange
import Derived.Deep.DeepCutAuto
set_option linter.unusedVariables false
set_option linter.unusedSimpArgs false
namespace Go.Proofs.YtilfjpmeededmaaGreatDoor
open Go.RowKit
def constEx (k n : Int) (s : Bs) : Ex := .mk 0 k 1 true k n s 0 [] none []
def userEx : Ex := .mk 1 2 1 true 0 0 [] 0 [] none []
def parEx (t p : Int) : Ex := .mk 3 t 1 true 0 0 [] p [] none []
def singleS (atoi : Bs → Int) (k : Int) (l : Bs) : Ex :=
  if k = 3 then constEx 1 (atoi l) [] else if k = 4 then constEx 2 0 ((l.drop 1).take (l.length - 1 - 1)) else if l = [117, 115, 101, 114] then userEx else constEx 3 (truN (l == [116, 114, 117, 101])) []
theorem isEx_leaf (w : World) (FB : List Nat) (S : Nat → Prop) (sort ty size : Int) (quiet : Bool) (vk vn : Int) (vs : Bs) (place : Int) (head : Bs) :
    IsEx w FB S [.int .i64 sort, .int .i64 ty, .int .i64 size, .bool quiet, .int .i64 vk, .int .i64 vn, .string (ofBs vs), .int .i64 place, .string (ofBs head), .pointer none, .slice none 0 0] (.mk sort ty size quiet vk vn vs place head none []) :=
  .mk .nil (World.ownsRow_nil _ _ _ _) (fun g hg => by cases hg) rfl
theorem cells11 {x : World} {b : Nat} {a0 a1 a2 a3 a4 a5 a6 a7 a8 a9 a10 : Value} {T : TypeId} (h : x.heap[b]? = some (.cells #[a0, a1, a2, a3, a4, a5, a6, a7, a8, a9, a10] T (0, 0))) :
    (x.cell? ⟨b, 0, none⟩ = some a0 ∧ x.cell? ⟨b, 1, none⟩ = some a1 ∧ x.cell? ⟨b, 2, none⟩ = some a2 ∧ x.cell? ⟨b, 3, none⟩ = some a3 ∧ x.cell? ⟨b, 4, none⟩ = some a4 ∧ x.cell? ⟨b, 5, none⟩ = some a5 ∧ x.cell? ⟨b, 6, none⟩ = some a6 ∧ x.cell? ⟨b, 7, none⟩ = some a7 ∧ x.cell? ⟨b, 8, none⟩ = some a8 ∧ x.cell? ⟨b, 9, none⟩ = some a9 ∧ x.cell? ⟨b, 10, none⟩ = some a10) ∧
    (x.frozen? ⟨b, 0, none⟩ = false ∧ x.frozen? ⟨b, 1, none⟩ = false ∧ x.frozen? ⟨b, 2, none⟩ = false ∧ x.frozen? ⟨b, 3, none⟩ = false ∧ x.frozen? ⟨b, 4, none⟩ = false ∧ x.frozen? ⟨b, 5, none⟩ = false ∧ x.frozen? ⟨b, 6, none⟩ = false ∧ x.frozen? ⟨b, 7, none⟩ = false ∧ x.frozen? ⟨b, 8, none⟩ = false ∧ x.frozen? ⟨b, 9, none⟩ = false ∧ x.frozen? ⟨b, 10, none⟩ = false) := by
  simp [World.cell?, World.frozen?, h]
abbrev ex0 : Obj := .cells #[.int .i64 0, .int .i64 0, .int .i64 0, .bool false, .int .i64 0, .int .i64 0, .string ⟨#[]⟩, .int .i64 0, .string ⟨#[]⟩, .pointer none, .slice none 0 0] 122
def Typd (w : World) (FB : List Nat) (o : Except Int Ex) (e : Ending) (w' : World) : Prop := Below w.heap.size w w' ∧
  ((∃ n : Int, o = .error n ∧ n ≠ 0 ∧ e = .returned (.tuple #[.agg #[.int .i64 0, .int .i64 0, .int .i64 0, .bool false, .int .i64 0, .int .i64 0, .string ⟨#[]⟩, .int .i64 0, .string ⟨#[]⟩, .pointer none, .slice none 0 0], .int .i64 n])) ∨
   (∃ (x : Ex) (c : Array Value), o = .ok x ∧ e = .returned (.tuple #[.agg c, .int .i64 0]) ∧ IsEx w' FB (fun g => w.heap.size ≤ g) c.toList x))
theorem ofBs_extract (l : Bs) (a b : Nat) : (ofBs l).extract a b = ofBs ((l.drop a).take (b - a)) := by
  apply ByteArray.ext; simp [ofBs, ByteArray.data_extract]
theorem below_box2 (w : World) (o o' : Obj) : Below w.heap.size w ((w.alloc o).alloc o') := ((Below.refl _ w).alloc (Nat.le_refl _) _).alloc (by simp [World.size_alloc]) _
theorem res_box2 {w w2 : World} {o o' : Obj} (h : Below ((w.alloc o).alloc o').heap.size ((w.alloc o).alloc o') w2) : w2.heap[w.heap.size + 1]? = some o' ∧ Below w.heap.size w w2 ∧ w.heap.size + 2 ≤ w2.heap.size := by
  have hs := h.size
  have := heap_alloc_new (w.alloc o) o'
  rw [World.size_alloc] at this
  refine ⟨(h.block _ (by simp [World.size_alloc])).trans this, (below_box2 w o o').trans (h.mono (by simp only [World.size_alloc]; omega)), ?_⟩
  simp only [World.size_alloc] at hs; omega
set_option maxHeartbeats 1600000 in
set_option maxRecDepth 100000 in
theorem single_any (atoi : Bs → Int) (k : Int) (l : Bs) (w : World) (FB : List Nat)
    (HAt : k = 3 → ∀ x : World, Calls Tryz.prog 353 #[.string (ofBs l)] x fun e w' => e = .returned (.tuple #[.int .i64 (atoi l), .nilIface]) ∧ Below x.heap.size x w') (h4 : k = 4 → 2 ≤ l.length ∧ l.length ≤ 32) :
    Calls Tryz.prog 292 #[.agg #[.int .i64 k, .string (ofBs l)]] w fun e w' => Below w.heap.size w w' ∧ ∃ c : Array Value, e = .returned (.agg c) ∧ IsEx w' FB (fun g => w.heap.size ≤ g) c.toList (singleS atoi k l) := by
  by_cases h3 : k = 3
  · subst h3
    have HE : Hid (singleS atoi 3 l = constEx 1 (atoi l) []) := by rw [Hid, singleS, if_pos rfl]
    have HA := HAt rfl
    clear HAt h4
    go_enter Tryz.func292, Tryz.ntmps292
    go_wp2_with (first
      | (go_at_call 353; refine (HA _).mono ?_; rintro e w2 ⟨rfl, hb2⟩; obtain ⟨hR2, B2, hs2⟩ := res_box2 hb2)
      | (go_at_call 302; refine (cellNumber_any _ _).mono ?_; rintro e w3 ⟨rfl, hb3⟩)
      | (go_at_call 354; refine (constant_any _ _ _ _).mono ?_; rintro e w4 ⟨rfl, hb4⟩; have hs3 := hb3.size; have hs4 := hb4.size; have B4 : Below w.heap.size w w4 := (B2.trans (hb3.mono B2.size)).trans (hb4.mono (by omega)); obtain ⟨⟨y0, y1, y2, y3, y4, y5, y6, y7, y8, y9, y10⟩, f0, f1, f2, f3, f4, f5, f6, f7, f8, f9, f10⟩ := cells11 ((hb4.block _ (by omega)).trans ((hb3.block _ (by omega)).trans hR2))))
    refine bodyPost_ret (v := .agg #[.int .i64 0, .int .i64 1, .int .i64 1, .bool true, .int .i64 1, .int .i64 (atoi l), .string ⟨#[]⟩, .int .i64 0, .string ⟨#[]⟩, .pointer none, .slice none 0 0]) (by simp [results, Tryz.results292, go_sem, y0, y1, y2, y3, y4, y5, y6, y7, y8, y9, y10]) rfl ⟨?_, _, rfl, ?_⟩
    · repeat (refine Below.setCell ?_ (by show w.heap.size ≤ w.heap.size + 1; omega) _)
      exact B4
    · rw [HE.out]; exact isEx_leaf _ _ _ 0 1 1 true 1 (atoi l) [] 0 []
  · have h3b : (k == 3) = false := by simpa using h3
    clear HAt
    by_cases hk4 : k = 4
    · subst hk4
      have HE : Hid (singleS atoi 4 l = constEx 2 0 ((l.drop 1).take (l.length - 1 - 1))) := by rw [Hid, singleS, if_neg (by omega), if_pos rfl]
      obtain ⟨hl2, hl3⟩ := h4 rfl
      have hsz : (ofBs l).size = l.length := ofBs_size l
      have hx := ofBs_extract l 1 (l.length - 1)
      clear h4
      go_enter Tryz.func292, Tryz.ntmps292
      go_wp2_with (first
        | (go_at_call 145; refine (cellText_any _ _).mono ?_; rintro e w3 ⟨rfl, hb3⟩; obtain ⟨hR2, B2, hs2⟩ := res_box2 hb3)
        | (go_at_call 354; refine (constant_any _ _ _ _).mono ?_; rintro e w4 ⟨rfl, hb4⟩; have hs4 := hb4.size; have B4 : Below w.heap.size w w4 := B2.trans (hb4.mono B2.size); obtain ⟨⟨y0, y1, y2, y3, y4, y5, y6, y7, y8, y9, y10⟩, f0, f1, f2, f3, f4, f5, f6, f7, f8, f9, f10⟩ := cells11 ((hb4.block _ (by omega)).trans hR2)))
      refine bodyPost_ret (v := .agg #[.int .i64 0, .int .i64 2, .int .i64 1, .bool true, .int .i64 2, .int .i64 0, .string (ofBs ((l.drop 1).take (l.length - 1 - 1))), .int .i64 0, .string ⟨#[]⟩, .pointer none, .slice none 0 0]) (by simp [results, Tryz.results292, go_sem, y0, y1, y2, y3, y4, y5, y6, y7, y8, y9, y10]) rfl ⟨?_, _, rfl, ?_⟩
      · repeat (refine Below.setCell ?_ (by show w.heap.size ≤ w.heap.size + 1; omega) _)
        exact B4
      · rw [HE.out]; exact isEx_leaf _ _ _ 0 2 1 true 2 0 ((l.drop 1).take (l.length - 1 - 1)) 0 []
    · have h4b : (k == 4) = false := by simpa using hk4
      clear h4
      by_cases hu : l = [117, 115, 101, 114]
      · subst hu
        have HE : Hid (singleS atoi k [117, 115, 101, 114] = userEx) := by rw [Hid, singleS, if_neg h3, if_neg hk4, if_pos rfl]
        have hlit : ofBs [117, 115, 101, 114] = ⟨#[117, 115, 101, 114]⟩ := rfl
        rw [hlit]
        go_enter Tryz.func292, Tryz.ntmps292
        go_wp2_with fail
        refine bodyPost_ret (v := .agg #[.int .i64 1, .int .i64 2, .int .i64 1, .bool true, .int .i64 0, .int .i64 0, .string ⟨#[]⟩, .int .i64 0, .string ⟨#[]⟩, .pointer none, .slice none 0 0]) (by simp [results, Tryz.results292, go_sem]) rfl ⟨below_box2 _ _ _, _, rfl, ?_⟩
        rw [HE.out]; exact isEx_leaf _ _ _ 1 2 1 true 0 0 [] 0 []
      · have hub : ((ofBs l).toList == [117, 115, 101, 114]) = false := by rw [ofBs_toList]; simpa using hu
        have HE : Hid (singleS atoi k l = constEx 3 (truN (l == [116, 114, 117, 101])) []) := by rw [Hid, singleS, if_neg h3, if_neg hk4, if_neg hu]
        go_enter Tryz.func292, Tryz.ntmps292
        go_wp2_with (first
          | (go_at_call 105; refine (cellTruth_any _ _).mono ?_; rintro e w3 ⟨rfl, hb3⟩; obtain ⟨hR2, B2, hs2⟩ := res_box2 hb3)
          | (go_at_call 354; refine (constant_any _ _ _ _).mono ?_; rintro e w4 ⟨rfl, hb4⟩; have hs4 := hb4.size; have B4 : Below w.heap.size w w4 := B2.trans (hb4.mono B2.size); obtain ⟨⟨y0, y1, y2, y3, y4, y5, y6, y7, y8, y9, y10⟩, f0, f1, f2, f3, f4, f5, f6, f7, f8, f9, f10⟩ := cells11 ((hb4.block _ (by omega)).trans hR2)))
        rw [ofBs_toList] at *
        refine bodyPost_ret (v := .agg #[.int .i64 0, .int .i64 3, .int .i64 1, .bool true, .int .i64 3, .int .i64 (truN (l == [116, 114, 117, 101])), .string ⟨#[]⟩, .int .i64 0, .string ⟨#[]⟩, .pointer none, .slice none 0 0]) (by simp [results, Tryz.results292, go_sem, y0, y1, y2, y3, y4, y5, y6, y7, y8, y9, y10]) rfl ⟨?_, _, rfl, ?_⟩
        · repeat (refine Below.setCell ?_ (by show w.heap.size ≤ w.heap.size + 1; omega) _)
          exact B4
        · rw [HE.out]; exact isEx_leaf _ _ _ 0 3 1 true 3 (truN (l == [116, 114, 117, 101])) [] 0 []
end Go.Proofs.YtilfjpmeededmaaGreatDoor

namespace Go.Proofs.YtilfjpmeededmaaGreatDoor
open Go.RowKit
structure Fn where
  name : Bs
  args : List Int
  body : Ex
def FnAt (w : World) (FB : List Nat) (b : Nat) (fn : Fn) : Prop := ∃ (av : Value) (c : List Value), w.heap[b]? = some (.cells (.string (ofBs fn.name) :: av :: c).toArray 124 (0, 0)) ∧ w.ownsRow 0 3 1 av fn.args.length (intCells fn.args) ∧ fn.args.length ≤ 1000 ∧ IsEx w FB (fun _ => True) c fn.body
theorem FnAt.keep {w x : World} {FB : List Nat} {b : Nat} {fn : Fn} (h : FnAt w FB b fn) (hb : Below w.heap.size w x) : FnAt x FB b fn := by
  obtain ⟨av, c, h1, h2, h2', h3⟩ := h
  exact ⟨av, c, (hb.block b (block_lt h1)).trans h1, owns_keep h2 fun g hg => hb.block g (h2.lt g hg).2, h2', h3.keep hb⟩
mutual
theorem IsEx.typed {w : World} {FB : List Nat} {S : Nat → Prop} : ∀ {c : List Value} {t : Ex}, IsEx w FB S c t → IsEx w FB (fun g => S g ∧ ∃ cur fz, w.heap[g]? = some (.cells cur 122 fz)) c t
  | _, _, .mk a b d f => .mk (IsExs.typed a) b (fun g hg => ⟨d g hg, by
      rcases b.2 with ⟨rfl, _⟩ | ⟨g', cap, cur, rfl, _, h, _⟩
      · cases hg
      · cases hg; exact ⟨cur, _, h⟩⟩) f
theorem IsExs.typed {w : World} {FB : List Nat} {S : Nat → Prop} : ∀ {c : List Value} {t : List Ex}, IsExs w FB S c t → IsExs w FB (fun g => S g ∧ ∃ cur fz, w.heap[g]? = some (.cells cur 122 fz)) c t
  | _, _, .nil => .nil
  | _, _, .cons a b => .cons (IsEx.typed a) (IsExs.typed b)
end
theorem FnAt.grow {w x : World} {FB : List Nat} {b : Nat} {fn : Fn} (h : FnAt w FB b fn) (hk : ∀ (g : Nat) (cur : Array Value) (T : TypeId) (fz : Nat × Nat), w.heap[g]? = some (.cells cur T fz) → T = 124 ∨ T = 3 ∨ T = 122 → x.heap[g]? = w.heap[g]?) : FnAt x FB b fn := by
  obtain ⟨av, c, h1, h2, h2', h3⟩ := h
  refine ⟨av, c, (hk b _ _ _ h1 (.inl rfl)).trans h1, owns_keep h2 fun g hg => ?_, h2', h3.typed.move (fun g hg => ?_) (fun _ _ => trivial)⟩
  · rcases h2.2 with ⟨rfl, _⟩ | ⟨g', cap, cur, rfl, _, h, _⟩
    · cases hg
    · cases hg; exact hk _ _ _ _ h (.inr (.inl rfl))
  · obtain ⟨_, cur, fz, he⟩ := hg
    exact hk g cur _ fz he (.inr (.inr rfl))
def FnsIn (w : World) (FB : List Nat) (v : Value) (fns : List Fn) : Prop := ∃ ao cap, v = .slice ao fns.length cap ∧ FB.length = fns.length ∧ fns.length ≤ 100 ∧
  (fns = [] ∨ ∃ b, ao = some ⟨b, 0, none⟩ ∧ b < w.heap.size ∧ ∀ (i q : Nat), FB[i]? = some q → w.cell? ⟨b, i, none⟩ = some (.pointer (some ⟨q, 0, none⟩))) ∧ ∀ (i q : Nat) (fn : Fn), FB[i]? = some q → fns[i]? = some fn → FnAt w FB q fn
theorem FnsIn.keep {w x : World} {FB : List Nat} {v : Value} {fns : List Fn} (h : FnsIn w FB v fns) (hb : Below w.heap.size w x) : FnsIn x FB v fns := by
  obtain ⟨ao, cap, h1, h2, h3, h4, h5⟩ := h
  refine ⟨ao, cap, h1, h2, h3, ?_, fun i q fn a b => (h5 i q fn a b).keep hb⟩
  rcases h4 with h | ⟨b, e, hl, hc⟩
  · exact .inl h
  · exact .inr ⟨b, e, by have := hb.size; omega, fun i q hj => (hb.cell (p := ⟨b, i, none⟩) hl).trans (hc i q hj)⟩
def findS (fns : List Fn) (l : Bs) : Option Nat := fns.findIdx? (fun f => f.name == l)
set_option maxHeartbeats 800000 in
set_option maxRecDepth 100000 in
theorem find1_any (w : World) (FB : List Nat) (q nb : Nat) (fn : Fn) (l : Bs) (h : FnAt w FB q fn) (hn : w.cell? ⟨nb, 0, none⟩ = some (.string (ofBs l))) :
    Calls Tryz.prog 142 #[.pointer (some ⟨q, 0, none⟩), .pointer (some ⟨nb, 0, none⟩)] w fun e w' => e = .returned (.bool (fn.name == l)) ∧ Below w.heap.size w w' := by
  obtain ⟨av, c, h1, _, _, _⟩ := h
  have c0 : w.cell? ⟨q, 0, none⟩ = some (.string (ofBs fn.name)) := by simp [World.cell?, h1]
  have HR : Hid ((fn.name == l) = ((ofBs fn.name).toList == (ofBs l).toList)) := by rw [Hid, ofBs_toList, ofBs_toList]
  clear h1
  go_enter Tryz.func142, Tryz.ntmps142
  go_wp2_with fail
  go_region
  go_wp2_with fail
  go_ret
  exact ⟨by rw [HR.out]; rfl, (Below.refl _ _).drew⟩
set_option maxHeartbeats 1600000 in
set_option maxRecDepth 100000 in
theorem funcsIndexFunc_any (w : World) (FB : List Nat) (v : Value) (fns : List Fn) (nb : Nat) (l : Bs) (h : FnsIn w FB v fns) (hnl : nb < w.heap.size) (hn : w.cell? ⟨nb, 0, none⟩ = some (.string (ofBs l))) :
    Calls Tryz.prog 141 #[v, .func (Fn.func 142) #[] #[.pointer (some ⟨nb, 0, none⟩)]] w fun e w' => (∃ k : Int, e = .returned (.int .i64 k) ∧ ((findS fns l = none ∧ k = -1) ∨ ∃ i : Nat, findS fns l = some i ∧ k = i ∧ i < fns.length)) ∧ Below w.heap.size w w' := by
  obtain ⟨ao, cap, rfl, hlen, hl, hz, hf⟩ := h
  go_enter Tryz.func141, Tryz.ntmps141
  go_wp2_with fail
  go_loopw [8] (fun iv wx => ∃ i : Nat, i ≤ fns.length ∧ iv = .int .i64 i ∧ Below w.heap.size w wx ∧ Hid (findS fns l = ((fns.drop i).findIdx? (fun f => f.name == l)).map (· + i))) (fun iv _ => fns.length - (intOf iv).toNat)
  case atStart => exact ⟨0, Nat.zero_le _, rfl, Below.refl _ _, by rw [Hid]; simp [findS]⟩
  case round =>
    obtain ⟨i, hi, rfl, hB, HE⟩ := hrel
    by_cases hlt : i < fns.length
    · obtain ⟨b, rfl, hb, hc⟩ : ∃ b, ao = some ⟨b, 0, none⟩ ∧ b < w.heap.size ∧ ∀ (i q : Nat), FB[i]? = some q → w.cell? ⟨b, i, none⟩ = some (.pointer (some ⟨q, 0, none⟩)) := by
        rcases hz with h | h
        · subst h; simp at hlt
        · exact h
      have hltF : i < FB.length := by omega
      have hq : FB[i]? = some FB[i] := List.getElem?_eq_getElem hltF
      have c0 := (hB.cell (p := ⟨b, i, none⟩) hb).trans (hc i FB[i] hq)
      have hF := (hf i FB[i] fns[i] hq (List.getElem?_eq_getElem hlt)).keep hB
      have hn' := (hB.cell (p := ⟨nb, 0, none⟩) hnl).trans hn
      have hd : fns.drop i = fns[i] :: fns.drop (i + 1) := List.drop_eq_getElem_cons hlt
      have HA : Hid (findS fns l = if (fns[i].name == l) then some i else ((fns.drop (i + 1)).findIdx? (fun f => f.name == l)).map (· + (i + 1))) := by
        rw [Hid, HE.out, hd, List.findIdx?_cons]
        cases (fns[i].name == l)
        · simp only [Bool.false_eq_true, if_false, Option.map_map]; congr 1; funext x; simp; omega
        · simp
      obtain ⟨q, hqe⟩ : ∃ q, q = FB[i] := ⟨_, rfl⟩
      obtain ⟨fn, hfn⟩ : ∃ fn, fn = fns[i] := ⟨_, rfl⟩
      rw [← hqe] at c0 hF
      rw [← hfn] at hF HA
      have HC := find1_any wr FB q nb fn l hF hn'
      clear hc hd hz hf HE hF hqe hfn hq
      obtain ⟨d, hde⟩ : ∃ d, d = (fn.name == l) := ⟨_, rfl⟩
      rw [← hde] at HC HA
      clear hde
      cases d with
      | true =>
        have HN : Hid (findS fns l = some i) := by rw [Hid, HA.out, if_pos rfl]
        clear HA
        go_wp2_with (go_at_call 142; refine HC.mono ?_; rintro e w2 ⟨rfl, hb2⟩)
        go_ret
        exact ⟨⟨_, rfl, .inr ⟨i, HN.out, rfl, hlt⟩⟩, hB.trans (hb2.mono hB.size)⟩
      | false =>
        have HN : Hid (findS fns l = ((fns.drop (i + 1)).findIdx? (fun f => f.name == l)).map (· + (i + 1))) := by rw [Hid, HA.out, if_neg Bool.false_ne_true]
        clear HA
        go_wp2_with (go_at_call 142; refine HC.mono ?_; rintro e w2 ⟨rfl, hb2⟩)
        go_roundw
        case rel => exact ⟨i + 1, by omega, by go_num, hB.trans (hb2.mono hB.size), HN⟩
        case measure => simp [intOf]; omega
    · have HN : Hid (findS fns l = none) := by rw [Hid, HE.out, List.drop_of_length_le (by omega)]; rfl
      clear HE hz hf
      go_wp2_with fail
      go_ret
      exact ⟨⟨_, rfl, .inl ⟨HN.out, rfl⟩⟩, hB⟩
set_option maxHeartbeats 1600000 in
set_option maxRecDepth 100000 in
theorem find_any (w : World) (FB : List Nat) (v : Value) (fns : List Fn) (l : Bs) (h : FnsIn w FB v fns) :
    Calls Tryz.prog 78 #[v, .string (ofBs l)] w fun e w' => (∃ p, e = .returned (.pointer p) ∧ FpIs FB (findS fns l) p) ∧ Below w.heap.size w w' := by
  have hbx := below_box w (.cells #[.string (ofBs l)] 9)
  have HC := funcsIndexFunc_any _ FB v fns w.heap.size l (h.keep hbx) (by simp [World.size_alloc]) ((blk_at (heap_alloc_new w (.cells #[.string (ofBs l)] 9))).trans rfl)
  obtain ⟨ao, cap, rfl, hlen, hl, hz, hf⟩ := h
  clear hf
  go_enter Tryz.func78, Tryz.ntmps78
  go_wp2_with (go_at_call 141; refine HC.mono ?_)
  rintro e w2 ⟨⟨k, rfl, ⟨hN, rfl⟩ | ⟨i, hN, rfl, hlt⟩⟩, hb2⟩
  · have HN : Hid (findS fns l = none) := hN
    clear hN HC
    go_wp2_with fail
    go_ret
    exact ⟨⟨_, rfl, by rw [HN.out]; rfl⟩, hbx.trans (hb2.mono hbx.size)⟩
  · have HN : Hid (findS fns l = some i) := hN
    obtain ⟨b, rfl, hb, hc⟩ : ∃ b, ao = some ⟨b, 0, none⟩ ∧ b < w.heap.size ∧ ∀ (i q : Nat), FB[i]? = some q → w.cell? ⟨b, i, none⟩ = some (.pointer (some ⟨q, 0, none⟩)) := by
      rcases hz with h | h
      · subst h; simp at hlt
      · exact h
    have B2 := hbx.trans (hb2.mono hbx.size)
    have hq : FB[i]? = some (FB[i]'(by omega)) := List.getElem?_eq_getElem (by omega)
    have c0 := (B2.cell (p := ⟨b, i, none⟩) hb).trans (hc i _ hq)
    obtain ⟨q, hqe⟩ : ∃ q, q = FB[i]'(by omega) := ⟨_, rfl⟩
    rw [← hqe] at c0 hq
    clear hN HC hc hz hqe hb2 hbx
    go_wp2_with fail
    go_ret
    exact ⟨⟨_, rfl, by rw [HN.out]; exact ⟨q, hq, rfl⟩⟩, B2⟩
end Go.Proofs.YtilfjpmeededmaaGreatDoor

namespace Go.Proofs.YtilfjpmeededmaaGreatDoor
open Go.RowKit
def BuiltRes (w : World) (l : Bs) (size : Int) (q : Bool) (v : Value) (t : Int) (e : Ending) (w' : World) : Prop := Below w.heap.size w w' ∧
  ((t = 0 ∧ e = .returned (.tuple #[.agg #[.int .i64 0, .int .i64 0, .int .i64 0, .bool false, .int .i64 0, .int .i64 0, .string ⟨#[]⟩, .int .i64 0, .string ⟨#[]⟩, .pointer none, .slice none 0 0], .int .i64 3])) ∨
   (t ≠ 0 ∧ e = .returned (.tuple #[.agg #[.int .i64 4, .int .i64 t, .int .i64 size, .bool (q && !loudS l), .int .i64 0, .int .i64 0, .string ⟨#[]⟩, .int .i64 0, .string (ofBs l), .pointer none, v], .int .i64 0])))
theorem undrewB {w w2 : World} (h : Below w.drew.heap.size w.drew w2) : Below w.heap.size w w2 := ⟨h.os, h.tape, h.output, h.size, h.block⟩
theorem res_box2f {w w2 : World} {o o' : Obj} (h : Below ((w.alloc o).alloc o').heap.size ((w.alloc o).alloc o') w2) : w2.heap[w.heap.size]? = some o :=
  (h.block _ (by simp only [World.size_alloc]; omega)).trans ((Below.heap_alloc _ _ _ (by simp only [World.size_alloc]; omega)).trans (heap_alloc_new w o))
set_option maxHeartbeats 4000000 in
set_option maxRecDepth 100000 in
theorem builtIn_any (w : World) (FB : List Nat) (l : Bs) (hl : builtS l = true) (size : Int) (q : Bool) (ao : Option Addr) (n cap : Nat) (es : List Ex) (h : ExsIn w FB (.slice ao n cap) es) (hle : es.length ≤ 1000) :
    Calls Tryz.prog 349 #[.agg #[.int .i64 0, .int .i64 0, .int .i64 size, .bool q, .int .i64 0, .int .i64 0, .string ⟨#[]⟩, .int .i64 0, .string (ofBs l), .pointer none, .slice ao n cap]] w fun e w' =>
      BuiltRes w l size q (.slice ao n cap) (typeS l (es.map Ex.ty)) e w' := by
  have HT : ∀ x : World, Below w.heap.size w x → Calls Tryz.prog 378 #[.slice ao n cap] x fun e w' => ∃ v', e = .returned v' ∧ IntsIn w' v' (es.map Ex.ty) ∧ Below x.heap.size x w' :=
    fun x hx => types_any x FB _ es (h.keep hx) hle
  have HO : ∀ (x : World) (v' : Value), IntsIn x v' (es.map Ex.ty) → Calls Tryz.prog 377 #[.string (ofBs l), v'] x fun e w' => e = .returned (.int .i64 (typeS l (es.map Ex.ty))) ∧ Below x.heap.size x w' :=
    fun x v' hv => typeOf_any l hl x v' _ hv
  have HQ : ∀ x : World, Calls Tryz.prog 379 #[.string (ofBs l)] x fun e w' => e = .returned (.bool (!loudS l)) ∧ w' = x := by
    intro x; have := isQuiet_any (ofBs l) x; rw [ofBs_toList] at this; exact this
  obtain ⟨t, ht⟩ : ∃ t, t = typeS l (es.map Ex.ty) := ⟨_, rfl⟩
  obtain ⟨ks, hks⟩ : ∃ ks, ks = es.map Ex.ty := ⟨_, rfl⟩
  rw [← ht] at HO ⊢
  rw [← hks] at HT HO
  obtain ⟨u, hu⟩ : ∃ u, u = loudS l := ⟨_, rfl⟩
  rw [← hu] at HQ
  have HU : Hid (loudS l = u) := hu.symm
  clear ht hks hu h hl
  go_enter Tryz.func349, Tryz.ntmps349
  go_upto_region 2 with fail
  go_cut [] (fun wx => Below w.heap.size w wx ∧ wx.heap[w.heap.size]? = some (.cells #[.int .i64 4, .int .i64 t, .int .i64 size, .bool q, .int .i64 0, .int .i64 0, .string ⟨#[]⟩, .int .i64 0, .string (ofBs l), .pointer none, .slice ao n cap] 122 (0, 0)) ∧ wx.heap[w.heap.size + 1]? = some ex0)
  case first =>
    go_region_with (first
      | (go_at_call 378; refine (HT _ ?_).mono ?_; exact (below_box2 w _ _).drew; rintro e w2 ⟨v', rfl, hi2, hb2⟩; replace hb2 := undrewB hb2; obtain ⟨ko, kc, rfl⟩ := hi2.form; have hE2 := res_box2f hb2; obtain ⟨hR2, B2, hs2⟩ := res_box2 hb2; obtain ⟨⟨y0, y1, y2, y3, y4, y5, y6, y7, y8, y9, y10⟩, f0, f1, f2, f3, f4, f5, f6, f7, f8, f9, f10⟩ := cells11 hE2)
      | (go_at_call 377; refine (HO _ _ hi2).mono ?_; rintro e w3 ⟨rfl, hb3⟩; have hE3 := (hb3.block _ (by omega)).trans hE2; obtain ⟨⟨z0, z1, z2, z3, z4, z5, z6, z7, z8, z9, z10⟩, g0, g1, g2, g3, g4, g5, g6, g7, g8, g9, g10⟩ := cells11 hE3))
    all_goals (go_wp2_with fail; go_meet)
    all_goals exact ⟨((B2.trans (hb3.mono B2.size)).setCell (Nat.le_refl _) _), by simp [World.setCell, Array.getElem?_modify, hE3], (Below.heap_setCell _ _ _ _ (by simp)).trans ((hb3.block _ (by omega)).trans hR2)⟩
  case rest =>
    obtain ⟨B2, hE, hR⟩ := hcut
    have hs2 := block_lt hR
    obtain ⟨⟨y0, y1, y2, y3, y4, y5, y6, y7, y8, y9, y10⟩, f0, f1, f2, f3, f4, f5, f6, f7, f8, f9, f10⟩ := cells11 hE
    obtain ⟨⟨z0, z1, z2, z3, z4, z5, z6, z7, z8, z9, z10⟩, g0, g1, g2, g3, g4, g5, g6, g7, g8, g9, g10⟩ := cells11 hR
    clear hE hR HT HO
    by_cases h0 : t = 0
    · subst h0
      cases q
      · go_wp2_with (go_at_call 379; refine (HQ _).mono ?_; rintro e w4 ⟨rfl, rfl⟩)
        refine bodyPost_ret (v := .tuple #[.agg #[.int .i64 0, .int .i64 0, .int .i64 0, .bool false, .int .i64 0, .int .i64 0, .string ⟨#[]⟩, .int .i64 0, .string ⟨#[]⟩, .pointer none, .slice none 0 0], .int .i64 3]) (by simp [results, Tryz.results349, go_sem, z0, z1, z2, z3, z4, z5, z6, z7, z8, z9, z10]) rfl ⟨?_, .inl ⟨rfl, rfl⟩⟩
        repeat (refine Below.setCell ?_ (by simp) _)
        exact B2
      · go_wp2_with (go_at_call 379; refine (HQ _).mono ?_; rintro e w4 ⟨rfl, rfl⟩)
        refine bodyPost_ret (v := .tuple #[.agg #[.int .i64 0, .int .i64 0, .int .i64 0, .bool false, .int .i64 0, .int .i64 0, .string ⟨#[]⟩, .int .i64 0, .string ⟨#[]⟩, .pointer none, .slice none 0 0], .int .i64 3]) (by simp [results, Tryz.results349, go_sem, z0, z1, z2, z3, z4, z5, z6, z7, z8, z9, z10]) rfl ⟨?_, .inl ⟨rfl, rfl⟩⟩
        repeat (refine Below.setCell ?_ (by simp) _)
        exact B2
    · have hne : (t == 0) = false := by simpa using h0
      cases q
      · go_wp2_with (go_at_call 379; refine (HQ _).mono ?_; rintro e w4 ⟨rfl, rfl⟩)
        refine bodyPost_ret (v := .tuple #[.agg #[.int .i64 4, .int .i64 t, .int .i64 size, .bool (false), .int .i64 0, .int .i64 0, .string ⟨#[]⟩, .int .i64 0, .string (ofBs l), .pointer none, .slice ao n cap], .int .i64 0]) (by simp [results, Tryz.results349, go_sem, z0, z1, z2, z3, z4, z5, z6, z7, z8, z9, z10]) rfl ⟨?_, .inr ⟨h0, by rw [HU.out]; rfl⟩⟩
        repeat (refine Below.setCell ?_ (by simp) _)
        exact B2
      · go_wp2_with (go_at_call 379; refine (HQ _).mono ?_; rintro e w4 ⟨rfl, rfl⟩)
        refine bodyPost_ret (v := .tuple #[.agg #[.int .i64 4, .int .i64 t, .int .i64 size, .bool (!u), .int .i64 0, .int .i64 0, .string ⟨#[]⟩, .int .i64 0, .string (ofBs l), .pointer none, .slice ao n cap], .int .i64 0]) (by simp [results, Tryz.results349, go_sem, z0, z1, z2, z3, z4, z5, z6, z7, z8, z9, z10]) rfl ⟨?_, .inr ⟨h0, by rw [HU.out]; rfl⟩⟩
        repeat (refine Below.setCell ?_ (by simp) _)
        exact B2
end Go.Proofs.YtilfjpmeededmaaGreatDoor

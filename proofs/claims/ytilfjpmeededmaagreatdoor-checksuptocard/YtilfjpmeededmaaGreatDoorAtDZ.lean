import Derived.Test.YtilfjpmeededmaaGreatDoorTaGZ
import Derived.Test.YtilfjpmeededmaaGreatDoorBaDZ
import Derived.Deep.RegionHeld2
import Derived.Deep.QuietTactic
import Derived.Deep.RegionLaw
set_option linter.unusedVariables false
set_option linter.unusedSimpArgs false
namespace Go.Proofs.YtilfjpmeededmaaGreatDoor
open Go.RowKit
def tabN (ts : List (TabT × Ex)) (l : Bs) : Int := gvS (tabIx ts l).isNone 2
def One17 (a0 a1 a2 a3 a4 a5 a6 a7 a8 a9 a10 a11 a12 a13 a14 a15 a16 : Value) : Prop := a0.oneCell' = true ∧ a1.oneCell' = true ∧ a2.oneCell' = true ∧ a3.oneCell' = true ∧ a4.oneCell' = true ∧ a5.oneCell' = true ∧ a6.oneCell' = true ∧ a7.oneCell' = true ∧ a8.oneCell' = true ∧ a9.oneCell' = true ∧ a10.oneCell' = true ∧ a11.oneCell' = true ∧ a12.oneCell' = true ∧ a13.oneCell' = true ∧ a14.oneCell' = true ∧ a15.oneCell' = true ∧ a16.oneCell' = true
theorem baseTable_lt (w : World) (FB : List Nat) (ts : List (TabT × Ex)) (fo : Option Addr) (fnn fc : Nat) (to' : Option Addr) (tn tc : Nat) (h : TabsIn w FB (.slice to' tn tc) ts) (l : Bs) :
    Calls Tryz.prog 62 #[.agg #[.slice fo fnn fc, .slice to' tn tc], .string (ofBs l)] w fun e w' => Below w.heap.size w w' ∧ ∃ a0 a1 a2 a3 a4 a5 a6 a7 a8 a9 a10 a11 a12 a13 a14 a15 a16, One17 a0 a1 a2 a3 a4 a5 a6 a7 a8 a9 a10 a11 a12 a13 a14 a15 a16 ∧ e = .returned (.tuple #[.agg #[a0, a1, a2, a3, a4, a5, a6, a7, a8, a9, a10, a11, a12, a13, a14, a15, a16], .int .i64 (tabN ts l)]) := by
  refine (baseTable_any w FB ts fo fnn fc to' tn tc h l).mono ?_
  rintro e w' ⟨hb, ⟨ho, rfl⟩ | ⟨i, te, r, ho, _, rfl, _⟩⟩
  · exact ⟨hb, _, _, _, _, _, _, _, _, _, _, _, _, _, _, _, _, _, ⟨rfl, rfl, rfl, rfl, rfl, rfl, rfl, rfl, rfl, rfl, rfl, rfl, rfl, rfl, rfl, rfl, rfl⟩, by rw [tabN, ho]; rfl⟩
  · exact ⟨hb, _, _, _, _, _, _, _, _, _, _, _, _, _, _, _, _, _, ⟨rfl, rfl, rfl, rfl, rfl, rfl, rfl, rfl, rfl, rfl, rfl, rfl, rfl, rfl, rfl, rfl, rfl⟩, by rw [tabN, ho]; rfl⟩
theorem blk_B {W w2 : World} {Z : Obj} {n : Nat} (hb : Below (W.alloc Z).drew.heap.size (W.alloc Z).drew w2) (hn : W.heap.size = n) : w2.heap[n]? = some Z := by
  subst hn
  exact (hb.block W.heap.size (by simp [World.size_alloc])).trans (heap_alloc_new W _)
theorem store_ex {P : Program} {x : World} {b j : Nat} {arr : Array Value} {T : TypeId} {v : Value} (h : x.heap[b]? = some (.cells arr T (0, 0))) (hj : j < arr.size) (hv : v.oneCell' = true) : ∃ x' : World, (store ⟨b, j, none⟩ v).run P x = .ok () x' ∧ x'.heap[b]? = some (.cells (arr.set! j v) T (0, 0)) ∧ ∀ (B : Nat) (y : World), B ≤ b → Below B y x → Below B y x' := by
  obtain ⟨h1, h2⟩ := store_step (P := P) h hj hv
  exact ⟨_, h1, h2, fun B y hB hb => hb.setCell (p := ⟨b, j, none⟩) hB _⟩
theorem stores_ex {P : Program} {x : World} {b : Nat} (m0 : x.heap[b]? = some (.cells #[.string ⟨#[]⟩, .slice none 0 0, .slice none 0 0, .int .i64 0, .string ⟨#[]⟩, .slice none 0 0, .int .i64 0, .int .i64 0, .int .i64 0, .bool false, .int .i64 0, .int .i64 0, .string ⟨#[]⟩, .int .i64 0, .string ⟨#[]⟩, .pointer none, .slice none 0 0] 155)) (a0 a1 a2 a3 a4 a5 a6 a7 a8 a9 a10 a11 a12 a13 a14 a15 a16 : Value) (o0 : a0.oneCell' = true) (o1 : a1.oneCell' = true) (o2 : a2.oneCell' = true) (o3 : a3.oneCell' = true) (o4 : a4.oneCell' = true) (o5 : a5.oneCell' = true) (o6 : a6.oneCell' = true) (o7 : a7.oneCell' = true) (o8 : a8.oneCell' = true) (o9 : a9.oneCell' = true) (o10 : a10.oneCell' = true) (o11 : a11.oneCell' = true) (o12 : a12.oneCell' = true) (o13 : a13.oneCell' = true) (o14 : a14.oneCell' = true) (o15 : a15.oneCell' = true) (o16 : a16.oneCell' = true) :
    ∃ x1 x2 x3 x4 x5 x6 x7 x8 x9 x10 x11 x12 x13 x14 x15 x16 x17 : World, (store ⟨b, 0, none⟩ a0).run P x = .ok () x1 ∧ (store ⟨b, 1, none⟩ a1).run P x1 = .ok () x2 ∧ (store ⟨b, 2, none⟩ a2).run P x2 = .ok () x3 ∧ (store ⟨b, 3, none⟩ a3).run P x3 = .ok () x4 ∧ (store ⟨b, 4, none⟩ a4).run P x4 = .ok () x5 ∧ (store ⟨b, 5, none⟩ a5).run P x5 = .ok () x6 ∧ (store ⟨b, 6, none⟩ a6).run P x6 = .ok () x7 ∧ (store ⟨b, 7, none⟩ a7).run P x7 = .ok () x8 ∧ (store ⟨b, 8, none⟩ a8).run P x8 = .ok () x9 ∧ (store ⟨b, 9, none⟩ a9).run P x9 = .ok () x10 ∧ (store ⟨b, 10, none⟩ a10).run P x10 = .ok () x11 ∧ (store ⟨b, 11, none⟩ a11).run P x11 = .ok () x12 ∧ (store ⟨b, 12, none⟩ a12).run P x12 = .ok () x13 ∧ (store ⟨b, 13, none⟩ a13).run P x13 = .ok () x14 ∧ (store ⟨b, 14, none⟩ a14).run P x14 = .ok () x15 ∧ (store ⟨b, 15, none⟩ a15).run P x15 = .ok () x16 ∧ (store ⟨b, 16, none⟩ a16).run P x16 = .ok () x17 ∧ ∀ (B : Nat) (y : World), B ≤ b → Below B y x → Below B y x17 := by
  obtain ⟨x1, r0, m1, b0⟩ := store_ex (P := P) (j := 0) m0 (by simp) o0
  obtain ⟨x2, r1, m2, b1⟩ := store_ex (P := P) (j := 1) m1 (by simp) o1
  obtain ⟨x3, r2, m3, b2⟩ := store_ex (P := P) (j := 2) m2 (by simp) o2
  obtain ⟨x4, r3, m4, b3⟩ := store_ex (P := P) (j := 3) m3 (by simp) o3
  obtain ⟨x5, r4, m5, b4⟩ := store_ex (P := P) (j := 4) m4 (by simp) o4
  obtain ⟨x6, r5, m6, b5⟩ := store_ex (P := P) (j := 5) m5 (by simp) o5
  obtain ⟨x7, r6, m7, b6⟩ := store_ex (P := P) (j := 6) m6 (by simp) o6
  obtain ⟨x8, r7, m8, b7⟩ := store_ex (P := P) (j := 7) m7 (by simp) o7
  obtain ⟨x9, r8, m9, b8⟩ := store_ex (P := P) (j := 8) m8 (by simp) o8
  obtain ⟨x10, r9, m10, b9⟩ := store_ex (P := P) (j := 9) m9 (by simp) o9
  obtain ⟨x11, r10, m11, b10⟩ := store_ex (P := P) (j := 10) m10 (by simp) o10
  obtain ⟨x12, r11, m12, b11⟩ := store_ex (P := P) (j := 11) m11 (by simp) o11
  obtain ⟨x13, r12, m13, b12⟩ := store_ex (P := P) (j := 12) m12 (by simp) o12
  obtain ⟨x14, r13, m14, b13⟩ := store_ex (P := P) (j := 13) m13 (by simp) o13
  obtain ⟨x15, r14, m15, b14⟩ := store_ex (P := P) (j := 14) m14 (by simp) o14
  obtain ⟨x16, r15, m16, b15⟩ := store_ex (P := P) (j := 15) m15 (by simp) o15
  obtain ⟨x17, r16, m17, b16⟩ := store_ex (P := P) (j := 16) m16 (by simp) o16
  exact ⟨x1, x2, x3, x4, x5, x6, x7, x8, x9, x10, x11, x12, x13, x14, x15, x16, x17, r0, r1, r2, r3, r4, r5, r6, r7, r8, r9, r10, r11, r12, r13, r14, r15, r16, fun B y hB h => b16 B y hB (b15 B y hB (b14 B y hB (b13 B y hB (b12 B y hB (b11 B y hB (b10 B y hB (b9 B y hB (b8 B y hB (b7 B y hB (b6 B y hB (b5 B y hB (b4 B y hB (b3 B y hB (b2 B y hB (b1 B y hB (b0 B y hB (h)))))))))))))))))⟩
theorem colsFrom_word : ∀ (cs prev : List ColT), colsFrom prev cs = true → ∀ c ∈ cs, isColS c = true
  | [], _, _, c, hc => by simp at hc
  | d :: r, prev, h, c, hc => by
    rw [colsFrom, Bool.and_eq_true, Bool.and_eq_true] at h
    rcases List.mem_cons.mp hc with rfl | hc
    · exact h.1.1
    · exact colsFrom_word r _ h.2 c hc
theorem isTab_cols {t : TabT} (h : isTabS t = true) : areColsS t.cols = true := by
  unfold isTabS at h; simp only [Bool.and_eq_true] at h; exact h.1.1.1
theorem word_len {l : Bs} (h : wordS l = true) : l.length ≤ 12 := by
  unfold wordS at h; simp only [Bool.and_eq_true, decide_eq_true_eq] at h; exact h.1.1.2
theorem cols_small {cs : List ColT} (h : areColsS cs = true) : cs.length ≤ 1000 ∧ ∀ c ∈ cs, c.1.length ≤ 1000 := by
  unfold areColsS at h
  rw [Bool.and_eq_true, Bool.not_eq_true', Bool.or_eq_false_iff, decide_eq_false_iff_not, decide_eq_false_iff_not] at h
  refine ⟨by omega, fun c hc => ?_⟩
  have := colsFrom_word cs [] h.2 c hc
  unfold isColS at this
  simp only [Bool.and_eq_true] at this
  have := word_len this.1.1.1
  omega
theorem blk_V1 {W w2 w3 : World} {Z : Obj} (hb2 : Below (W.alloc Z).drew.heap.size (W.alloc Z).drew w2) (hb3 : Below w2.heap.size w2 w3) : w3.heap[W.heap.size]? = some Z ∧ W.heap.size < w2.heap.size := by
  have hs := hb2.size
  have hs' : W.heap.size + 1 ≤ w2.heap.size := by simpa [World.size_alloc] using hs
  exact ⟨(hb3.block _ (by omega)).trans ((hb2.block W.heap.size (by simp [World.size_alloc])).trans (heap_alloc_new W _)), by omega⟩
theorem blk_V2 {w2 w3 : World} {Z : Obj} (hb3 : Below (w2.alloc Z).heap.size (w2.alloc Z) w3) : w3.heap[w2.heap.size]? = some Z := (hb3.block w2.heap.size (by simp [World.size_alloc])).trans (heap_alloc_new w2 _)
theorem ex_moved {w3 x : World} {FB : List Nat} {c : List Value} {y : Ex} {B lo : Nat} (h : IsEx w3 FB (fun g => lo ≤ g) c y) (hm : ∀ g, lo ≤ g → g < w3.heap.size → x.heap[g]? = w3.heap[g]?) (hlo : B ≤ lo) : IsEx x FB (fun g => B ≤ g) c y :=
  h.bounded.move (fun g hg => hm g hg.1 hg.2) (fun g hg => by have := hg.1; omega)
theorem store_ex' {P : Program} {x : World} {b : Nat} (j : Nat) {arr : Array Value} (arr' : Array Value) {T : TypeId} {v : Value} (h : x.heap[b]? = some (.cells arr T (0, 0))) (hj : j < arr.size) (hv : v.oneCell' = true) (he : arr.set! j v = arr') : ∃ x' : World, (store ⟨b, j, none⟩ v).run P x = .ok () x' ∧ x'.heap[b]? = some (.cells arr' T (0, 0)) ∧ (∀ g, g ≠ b → x'.heap[g]? = x.heap[g]?) ∧ ∀ (B : Nat) (y : World), B ≤ b → Below B y x → Below B y x' := by
  obtain ⟨h1, h2⟩ := store_step (P := P) h hj hv
  subst he
  exact ⟨_, h1, h2, fun g hg => Below.heap_setCell _ _ _ _ hg, fun B y hB hb => hb.setCell (p := ⟨b, j, none⟩) hB _⟩
theorem stores_ex11 {P : Program} {x : World} {b : Nat} (m0 : x.heap[b]? = some ex0) (a0 a1 a2 a3 a4 a5 a6 a7 a8 a9 a10 : Value) (o0 : a0.oneCell' = true) (o1 : a1.oneCell' = true) (o2 : a2.oneCell' = true) (o3 : a3.oneCell' = true) (o4 : a4.oneCell' = true) (o5 : a5.oneCell' = true) (o6 : a6.oneCell' = true) (o7 : a7.oneCell' = true) (o8 : a8.oneCell' = true) (o9 : a9.oneCell' = true) (o10 : a10.oneCell' = true) :
    ∃ x1 x2 x3 x4 x5 x6 x7 x8 x9 x10 x11 : World, (store ⟨b, 0, none⟩ a0).run P x = .ok () x1 ∧ (store ⟨b, 1, none⟩ a1).run P x1 = .ok () x2 ∧ (store ⟨b, 2, none⟩ a2).run P x2 = .ok () x3 ∧ (store ⟨b, 3, none⟩ a3).run P x3 = .ok () x4 ∧ (store ⟨b, 4, none⟩ a4).run P x4 = .ok () x5 ∧ (store ⟨b, 5, none⟩ a5).run P x5 = .ok () x6 ∧ (store ⟨b, 6, none⟩ a6).run P x6 = .ok () x7 ∧ (store ⟨b, 7, none⟩ a7).run P x7 = .ok () x8 ∧ (store ⟨b, 8, none⟩ a8).run P x8 = .ok () x9 ∧ (store ⟨b, 9, none⟩ a9).run P x9 = .ok () x10 ∧ (store ⟨b, 10, none⟩ a10).run P x10 = .ok () x11 ∧ x11.heap[b]? = some (.cells #[a0, a1, a2, a3, a4, a5, a6, a7, a8, a9, a10] 122 (0, 0)) ∧ (∀ g, g ≠ b → x11.heap[g]? = x.heap[g]?) ∧ ∀ (B : Nat) (y : World), B ≤ b → Below B y x → Below B y x11 := by
  obtain ⟨x1, r0, m1, k0, b0⟩ := store_ex' (P := P) 0 #[a0, .int .i64 0, .int .i64 0, .bool false, .int .i64 0, .int .i64 0, .string ⟨#[]⟩, .int .i64 0, .string ⟨#[]⟩, .pointer none, .slice none 0 0] m0 (by simp) o0 rfl
  obtain ⟨x2, r1, m2, k1, b1⟩ := store_ex' (P := P) 1 #[a0, a1, .int .i64 0, .bool false, .int .i64 0, .int .i64 0, .string ⟨#[]⟩, .int .i64 0, .string ⟨#[]⟩, .pointer none, .slice none 0 0] m1 (by simp) o1 rfl
  obtain ⟨x3, r2, m3, k2, b2⟩ := store_ex' (P := P) 2 #[a0, a1, a2, .bool false, .int .i64 0, .int .i64 0, .string ⟨#[]⟩, .int .i64 0, .string ⟨#[]⟩, .pointer none, .slice none 0 0] m2 (by simp) o2 rfl
  obtain ⟨x4, r3, m4, k3, b3⟩ := store_ex' (P := P) 3 #[a0, a1, a2, a3, .int .i64 0, .int .i64 0, .string ⟨#[]⟩, .int .i64 0, .string ⟨#[]⟩, .pointer none, .slice none 0 0] m3 (by simp) o3 rfl
  obtain ⟨x5, r4, m5, k4, b4⟩ := store_ex' (P := P) 4 #[a0, a1, a2, a3, a4, .int .i64 0, .string ⟨#[]⟩, .int .i64 0, .string ⟨#[]⟩, .pointer none, .slice none 0 0] m4 (by simp) o4 rfl
  obtain ⟨x6, r5, m6, k5, b5⟩ := store_ex' (P := P) 5 #[a0, a1, a2, a3, a4, a5, .string ⟨#[]⟩, .int .i64 0, .string ⟨#[]⟩, .pointer none, .slice none 0 0] m5 (by simp) o5 rfl
  obtain ⟨x7, r6, m7, k6, b6⟩ := store_ex' (P := P) 6 #[a0, a1, a2, a3, a4, a5, a6, .int .i64 0, .string ⟨#[]⟩, .pointer none, .slice none 0 0] m6 (by simp) o6 rfl
  obtain ⟨x8, r7, m8, k7, b7⟩ := store_ex' (P := P) 7 #[a0, a1, a2, a3, a4, a5, a6, a7, .string ⟨#[]⟩, .pointer none, .slice none 0 0] m7 (by simp) o7 rfl
  obtain ⟨x9, r8, m9, k8, b8⟩ := store_ex' (P := P) 8 #[a0, a1, a2, a3, a4, a5, a6, a7, a8, .pointer none, .slice none 0 0] m8 (by simp) o8 rfl
  obtain ⟨x10, r9, m10, k9, b9⟩ := store_ex' (P := P) 9 #[a0, a1, a2, a3, a4, a5, a6, a7, a8, a9, .slice none 0 0] m9 (by simp) o9 rfl
  obtain ⟨x11, r10, m11, k10, b10⟩ := store_ex' (P := P) 10 #[a0, a1, a2, a3, a4, a5, a6, a7, a8, a9, a10] m10 (by simp) o10 rfl
  exact ⟨x1, x2, x3, x4, x5, x6, x7, x8, x9, x10, x11, r0, r1, r2, r3, r4, r5, r6, r7, r8, r9, r10, m11, fun g hg => (k10 g hg).trans ((k9 g hg).trans ((k8 g hg).trans ((k7 g hg).trans ((k6 g hg).trans ((k5 g hg).trans ((k4 g hg).trans ((k3 g hg).trans ((k2 g hg).trans ((k1 g hg).trans (k0 g hg)))))))))), fun B y hB h => b10 B y hB (b9 B y hB (b8 B y hB (b7 B y hB (b6 B y hB (b5 B y hB (b4 B y hB (b3 B y hB (b2 B y hB (b1 B y hB (b0 B y hB (h)))))))))))⟩
abbrev tab0 (t : TabT) (co : Option Addr) (cn cc : Nat) (ro : Option Addr) (rn rc : Nat) (uo : Option Addr) (un uc : Nat) : Obj := .cells #[.string (ofBs t.name), .slice co cn cc, .slice ro rn rc, .int .i64 t.count, .string (ofBs t.policy), .slice uo un uc] 134
theorem infoTab : (Tryz.prog.info? 155).map (fun i => (i.zero, i.size, i.bytes)) = some (some (.agg #[.string ⟨#[]⟩, .slice none 0 0, .slice none 0 0, .int .i64 0, .string ⟨#[]⟩, .slice none 0 0, .int .i64 0, .int .i64 0, .int .i64 0, .bool false, .int .i64 0, .int .i64 0, .string ⟨#[]⟩, .int .i64 0, .string ⟨#[]⟩, .pointer none, .slice none 0 0]), 17, 232) := by kernel_rfl
def rawCells (raws : List TbRaw) : List Value := raws.flatMap fun r => r.arr.toList
theorem rawCells_app (a b : List TbRaw) : rawCells (a ++ b) = rawCells a ++ rawCells b := by simp [rawCells]
theorem rawCells_get : ∀ (raws : List TbRaw) (i : Nat) (r : TbRaw) (j : Nat), raws[i]? = some r → j < 17 → (rawCells raws)[i * 17 + j]? = r.arr[j]?
  | [], i, r, j, h, _ => by simp at h
  | a :: rs, 0, r, j, h, hj => by
    simp at h; subst h
    rw [Nat.zero_mul, Nat.zero_add, rawCells, List.flatMap_cons, List.getElem?_append_left (by simp; omega)]
    simp
  | a :: rs, i + 1, r, j, h, hj => by
    have := rawCells_get rs i r j (by simpa using h) hj
    have h17 : a.arr.toList.length = 17 := by simp
    rw [rawCells, List.flatMap_cons, List.getElem?_append_right (by rw [h17]; omega), h17, show (i + 1) * 17 + j - 17 = i * 17 + j by omega]
    exact this
structure TabRow0 (w : World) (r : TbRaw) (t : TabT) : Prop where
  name : r.name = t.name
  count : r.count = t.count
  policy : r.policy = t.policy
  cols : ColsIn w (.slice r.co r.cn r.cc) t.cols
  rows : RowsIn w (.slice r.ro r.rn r.rc) t.rows
  users : StrsIn w (.slice r.uo r.un r.uc) t.users
theorem TabRow0.full {w0 w : World} {FB : List Nat} {r : TbRaw} {t : TabT} {e : Ex} (h : TabRow0 w0 r t) (hb : Below w0.heap.size w0 w) (hx : IsEx w FB (fun _ => True) r.ex e) : TabRow w FB r t e :=
  ⟨h.name, h.count, h.policy, h.cols.keep hb, h.rows.keep hb, h.users.keep hb, hx⟩
def BaseTs (w0 w : World) (bb : Nat) (FB : List Nat) (fns : List Fn) (ts : List (TabT × Ex)) : Prop := ∃ (fo : Option Addr) (fnn fc : Nat) (to' : Option Addr) (tn tc : Nat) (raws : List TbRaw),
  w0.heap.size ≤ bb ∧ Below w0.heap.size w0 w ∧ w.heap[bb]? = some (.cells #[.slice fo fnn fc, .slice to' tn tc] 112 (0, 0)) ∧ FnsIn w FB (.slice fo fnn fc) fns ∧
  w.ownsRow (bb + 1) 155 17 (.slice to' tn tc) ts.length (rawCells raws) ∧ raws.length = ts.length ∧ ts.length ≤ 4 ∧ (ts.length = 0 → to' = none) ∧
  ∀ (i : Nat) (r : TbRaw) (te : TabT × Ex), raws[i]? = some r → ts[i]? = some te → TabRow0 w0 r te.1 ∧ IsEx w FB (fun _ => True) r.ex te.2
theorem tabs_of {w0 w : World} {bb : Nat} {FB : List Nat} {ts : List (TabT × Ex)} {to' : Option Addr} {tn tc : Nat} {raws : List TbRaw} (hb : Below w0.heap.size w0 w) (ho : w.ownsRow (bb + 1) 155 17 (.slice to' tn tc) ts.length (rawCells raws)) (hl : raws.length = ts.length) (h4 : ts.length ≤ 4)
    (hr : ∀ (i : Nat) (r : TbRaw) (te : TabT × Ex), raws[i]? = some r → ts[i]? = some te → TabRow0 w0 r te.1 ∧ IsEx w FB (fun _ => True) r.ex te.2) : TabsIn w FB (.slice to' tn tc) ts := by
  rcases ho.2 with ⟨e, h0⟩ | ⟨g, cap, cur, e, _, _, _⟩
  · cases e
    exact ⟨none, 0, by rw [h0], by omega, .inl (List.length_eq_zero_iff.mp h0)⟩
  · cases e
    refine ⟨_, _, rfl, by omega, .inr ⟨g, rfl, (ho.lt g rfl).2, fun i te hte => ?_⟩⟩
    have hil := (List.getElem?_eq_some_iff.mp hte).1
    have hri : raws[i]? = some raws[i] := List.getElem?_eq_getElem (by omega)
    obtain ⟨h1, h2⟩ := hr i _ te hri hte
    have hc : ∀ j, j < 17 → w.cell? ⟨g, i * 17 + j, none⟩ = raws[i].arr[j]? := fun j hj => (ho.cellAt _ (by omega)).trans (rawCells_get raws i _ j hri hj)
    exact ⟨raws[i], ⟨hc 0 (by omega), hc 1 (by omega), hc 2 (by omega), hc 3 (by omega), hc 4 (by omega), hc 5 (by omega), hc 6 (by omega), hc 7 (by omega), hc 8 (by omega), hc 9 (by omega), hc 10 (by omega), hc 11 (by omega), hc 12 (by omega), hc 13 (by omega), hc 14 (by omega), hc 15 (by omega), hc 16 (by omega)⟩, h1.full hb h2⟩
theorem tab_fin {w0 w wc w7 : World} {L : Obj} {bb g7 cap7 : Nat} {FB : List Nat} {fns : List Fn} {ts : List (TabT × Ex)} {fo : Option Addr} {fnn fc : Nat} {to' : Option Addr} {tn tc : Nat} {raws : List TbRaw} {S : Nat → Prop} {r : TbRaw} {t : TabT} {y : Ex}
    (h0 : w0.heap.size ≤ bb) (hb0 : Below w0.heap.size w0 w) (hbl : bb < w.heap.size) (B3 : Below w.heap.size w wc) (hbk : wc.heap[bb]? = some (.cells #[.slice fo fnn fc, .slice to' tn tc] 112 (0, 0))) (hF : FnsIn w FB (.slice fo fnn fc) fns) (own4 : wc.ownsRow (bb + 1) 155 17 (.slice to' tn tc) ts.length (rawCells raws)) (hl : raws.length = ts.length) (h3 : ts.length ≤ 3) (hnil : ts.length = 0 → to' = none)
    (hr : ∀ (i : Nat) (r : TbRaw) (te : TabT × Ex), raws[i]? = some r → ts[i]? = some te → TabRow0 w0 r te.1 ∧ IsEx w FB (fun _ => True) r.ex te.2) (hr0 : TabRow0 w0 r t) (hx : IsEx wc FB S r.ex y)
    (hown7 : w7.ownsRow (bb + 1) 155 17 (.slice (some ⟨g7, 0, none⟩) (ts.length + 1) cap7) (ts.length + 1) (rawCells raws ++ r.arr.toList))
    (hgrow : (wc.alloc L).drew.grownBy w7 (Value.slice to' tn tc).ownBlock)
    (kB : w7.heap[bb]? = some (.cells #[.slice fo fnn fc, .slice to' tn tc] 112 (0, 0))) :
    BaseTs w0 (w7.setCell ⟨bb, 1, none⟩ (.slice (some ⟨g7, 0, none⟩) (ts.length + 1) cap7)) bb FB fns (ts ++ [(t, y)]) ∧ Below bb w (w7.setCell ⟨bb, 1, none⟩ (.slice (some ⟨g7, 0, none⟩) (ts.length + 1) cap7)) := by
  have hs3 := B3.size
  have hgs := hgrow.size
  simp only [World.size_drew, World.size_alloc] at hgs
  have keepW : ∀ g, g < wc.heap.size → g ≠ bb → (Value.slice to' tn tc).ownBlock ≠ some g → (w7.setCell ⟨bb, 1, none⟩ (.slice (some ⟨g7, 0, none⟩) (ts.length + 1) cap7)).heap[g]? = wc.heap[g]? := by
    intro g h1 h2 h3
    rw [Below.heap_setCell _ _ _ _ h2, hgrow.block g (by simp only [World.size_drew, World.size_alloc]; omega) (fun e => h3 e.symm)]
    exact Below.heap_alloc _ _ _ h1
  have keepT : ∀ (g : Nat) (cur : Array Value) (T : TypeId) (fz : Nat × Nat), wc.heap[g]? = some (.cells cur T fz) → T = 124 ∨ T = 3 ∨ T = 122 → (w7.setCell ⟨bb, 1, none⟩ (.slice (some ⟨g7, 0, none⟩) (ts.length + 1) cap7)).heap[g]? = wc.heap[g]? := by
    intro g cur T fz he hT
    refine keepW g (block_lt he) (fun e => ?_) (fun e => ?_)
    · subst e; rw [hbk] at he; cases he; revert hT; decide
    · rcases own4.2 with ⟨h, _⟩ | ⟨g', cap', cur', h, _, hr, _⟩
      · rw [h] at e; cases e
      · rw [h] at e; cases e; rw [hr] at he; cases he; revert hT; decide
  have BF : Below bb w (w7.setCell ⟨bb, 1, none⟩ (.slice (some ⟨g7, 0, none⟩) (ts.length + 1) cap7)) := by
    suffices hB : Below bb w w7 from hB.setCell (p := ⟨bb, 1, none⟩) (Nat.le_refl _) _
    refine ⟨hgrow.os.trans B3.os, hgrow.tape.trans B3.tape, hgrow.output.trans B3.output, by omega, fun g hg => ?_⟩
    have := keepW g (by omega) (by omega) (fun e => by have := (own4.lt _ e).1; omega)
    rw [Below.heap_setCell _ _ _ _ (by show g ≠ bb; omega)] at this
    exact this.trans (B3.block g (by omega))
  refine ⟨⟨fo, fnn, fc, some ⟨g7, 0, none⟩, ts.length + 1, cap7, raws ++ [r], h0, hb0.trans (BF.mono h0), by simp [World.setCell, Array.getElem?_modify, kB], ?_, ?_, by simp [hl], by simp; omega, (fun h => by simp at h), fun i r' te hi hte => ?_⟩, BF⟩
  · -- the functions
    have hFc := hF.keep B3
    obtain ⟨ao, cap, e1, e2, e3, e4, e5⟩ := hFc
    refine ⟨ao, cap, e1, e2, e3, ?_, fun i q fn a c => (e5 i q fn a c).grow keepT⟩
    rcases e4 with h | ⟨b', e, hbl', hc⟩
    · exact .inl h
    · have hlF : b' < (w7.setCell ⟨bb, 1, none⟩ (.slice (some ⟨g7, 0, none⟩) (ts.length + 1) cap7)).heap.size := by
        simp [World.setCell]; omega
      refine .inr ⟨b', e, hlF, fun i q hq => ?_⟩
      have hcell := hc i q hq
      have hne : b' ≠ bb := by
        intro e'
        subst e'
        rw [blk_at hbk] at hcell
        match i, hcell with
        | 0, hcell => simp at hcell
        | 1, hcell => simp at hcell
        | (i + 2), hcell => simp at hcell
      have hne2 : (Value.slice to' tn tc).ownBlock ≠ some b' := by
        intro e'
        rcases own4.2 with ⟨h, _⟩ | ⟨g', cap', cur', h, _, hr', _⟩
        · rw [h] at e'; cases e'
        · rw [h] at e'; cases e'
          obtain ⟨q0, hq0⟩ : ∃ q0, FB[0]? = some q0 := by
            have hi := (List.getElem?_eq_some_iff.mp hq).1
            exact ⟨FB[0], List.getElem?_eq_getElem (by omega)⟩
          have h00 := hc 0 q0 hq0
          cases h
          rcases Nat.eq_zero_or_pos ts.length with hz | hz
          · have := hnil hz; cases this
          · have hri : raws[0]? = some raws[0] := List.getElem?_eq_getElem (by omega)
            have hg0 := (own4.cellAt 0 (by omega)).trans ((rawCells_get raws 0 _ 0 hri (by omega)))
            rw [hg0] at h00
            simp at h00
      rw [World.cell?_of_block (w := wc) (keepW b' hbl' hne hne2)]
      exact hcell
  · rw [rawCells_app, List.length_append]
    have : rawCells [r] = r.arr.toList := by simp [rawCells]
    rw [this]
    exact ownsRow_setCell_below hown7 (by show bb < bb + 1; omega) _
  · rcases Nat.lt_or_ge i raws.length with hlt | hge
    · rw [List.getElem?_append_left hlt] at hi
      rw [List.getElem?_append_left (by omega)] at hte
      obtain ⟨q1, q2⟩ := hr i r' te hi hte
      exact ⟨q1, (q2.keep B3).typed.move (fun g hg => by obtain ⟨_, cur, fz, he⟩ := hg; exact keepT g cur _ fz he (.inr (.inr rfl))) (fun _ _ => trivial)⟩
    · rw [List.getElem?_append_right hge] at hi
      rw [List.getElem?_append_right (by omega)] at hte
      have hi0 : i - raws.length = 0 := by
        have := (List.getElem?_eq_some_iff.mp hi).1; simp at this; omega
      rw [hi0] at hi
      rw [show i - ts.length = 0 by omega] at hte
      simp at hi hte
      subst hi hte
      exact ⟨hr0, hx.typed.move (fun g hg => by obtain ⟨_, cur, fz, he⟩ := hg; exact keepT g cur _ fz he (.inr (.inr rfl))) (fun _ _ => trivial)⟩
def polS (o : Except Int Ex) : Except Int Ex := match o with
  | .error n => .error n
  | .ok x => if !(x.ty == 3) || !x.quiet then .error 5 else .ok x
def addTabS (fns : List Fn) (ts : List (TabT × Ex)) (t : TabT) : Except Int Ex :=
  if firstS [gvS (!wordS t.name || (tabN ts t.name == 0)) 2, gvS (!isTabS t) 6] ≠ 0 then .error (firstS [gvS (!wordS t.name || (tabN ts t.name == 0)) 2, gvS (!isTabS t) 6])
  else polS (readS atoiS (t.cols.map (nameS [114, 111, 119]), []) fns t.policy)
def AddTRes (w0 w : World) (bb : Nat) (FB : List Nat) (fns : List Fn) (ts : List (TabT × Ex)) (t : TabT) (o : Except Int Ex) (e : Ending) (w' : World) : Prop :=
  (∃ n : Int, o = .error n ∧ n ≠ 0 ∧ e = .returned (.int .i64 n) ∧ Below w.heap.size w w') ∨
  (∃ x : Ex, o = .ok x ∧ e = .returned (.int .i64 0) ∧ BaseTs w0 w' bb FB fns (ts ++ [(t, x)]) ∧ Below bb w w')
end Go.Proofs.YtilfjpmeededmaaGreatDoor

namespace Go.Proofs.YtilfjpmeededmaaGreatDoor
open Go.RowKit
def findReg (n : Nat) : Code → Option Code
  | .region id ops b => if id = n then some (.region id ops b) else none
  | .seq a b => match findReg n a with
    | some c => some c
    | none => findReg n b
  | .block _ c => findReg n c
  | .scope c => findReg n c
  | .loop c => findReg n c
  | .cond _ a b => match findReg n a with
    | some c => some c
    | none => findReg n b
  | _ => none
def atReg1 (f : Func) : Code := ((f.body.bind (findReg 1)).getD .skip)
def atReg2 (f : Func) : Code := ((f.body.bind (findReg 2)).getD .skip)
set_option maxHeartbeats 8000000 in
set_option maxRecDepth 100000 in
theorem addTable_r1 (bb : Nat) (w W : World) (t : TabT) (co : Option Addr) (cn cc : Nat) (ro : Option Addr) (rn rc : Nat) (uo : Option Addr) (un uc : Nat) (fo : Option Addr) (fnn fc : Nat) (to' : Option Addr) (tn tc : Nat) (n6 : Int) (hbl' : bb < W.heap.size) (hwl : w.heap.size < W.heap.size) (hsW : W.heap.size = w.heap.size + 1)
    (b0 : W.cell? ⟨bb, 0, none⟩ = some (.slice fo fnn fc)) (b1 : W.cell? ⟨bb, 1, none⟩ = some (.slice to' tn tc)) (d0 : W.cell? ⟨w.heap.size, 0, none⟩ = some (.string (ofBs t.name)))
    (HT : ∀ x : World, Below W.heap.size W x → Calls Tryz.prog 62 #[.agg #[.slice fo fnn fc, .slice to' tn tc], .string (ofBs t.name)] x fun e w' => Below W.heap.size W w' ∧ Below x.heap.size x w' ∧ ∃ a0 a1 a2 a3 a4 a5 a6 a7 a8 a9 a10 a11 a12 a13 a14 a15 a16, One17 a0 a1 a2 a3 a4 a5 a6 a7 a8 a9 a10 a11 a12 a13 a14 a15 a16 ∧ e = .returned (.tuple #[.agg #[a0, a1, a2, a3, a4, a5, a6, a7, a8, a9, a10, a11, a12, a13, a14, a15, a16], .int .i64 n6]))
    (u2 u4 u5 u6 u7 u8 u9 u10 u11 u12 u13 u14 u15 u16 u17 u18 u19 u20 u21 u22 u23 u24 u25 u26 u27 u28 u29 u30 u31 u32 u33 u34 u35 u36 u37 u38 u39 u40 u41 u42 u43 u44 u45 u46 u47 u48 u49 u50 u51 u52 u53 u54 u55 u56 u57 u58 u59 u60 u61 u62 u63 u64 u65 u66 u67 u68 u69 u70 u71 u72 u73 u74 u75 u76 : Value) (K : Act → World → Prop) (P : Ending → World → Prop) (hK : ∀ (v5 v9 v10 v11 v12 v13 v14 v15 v16 v17 : Value) (wx : World), Below W.heap.size W wx → K ⟨#[.pointer (some ⟨bb, 0, none⟩), .agg #[.string (ofBs t.name), .slice co cn cc, .slice ro rn rc, .int .i64 t.count, .string (ofBs t.policy), .slice uo un uc], u2, .pointer (some ⟨w.heap.size, 0, none⟩), u4, v5, .int .i64 n6, u7, u8, v9, v10, v11, v12, v13, v14, v15, v16, v17, u18, u19, u20, u21, u22, u23, u24, u25, u26, u27, u28, u29, u30, u31, u32, u33, u34, u35, u36, u37, u38, u39, u40, u41, u42, u43, u44, u45, u46, u47, u48, u49, u50, u51, u52, u53, u54, u55, u56, u57, u58, u59, u60, u61, u62, u63, u64, u65, u66, u67, u68, u69, u70, u71, u72, u73, u74, u75, u76], []⟩ wx) :
    Code.wp Tryz.prog (atReg1 Tryz.f77) (Exit.then K (bodyPost Tryz.prog Tryz.f77 P)) ⟨#[.pointer (some ⟨bb, 0, none⟩), .agg #[.string (ofBs t.name), .slice co cn cc, .slice ro rn rc, .int .i64 t.count, .string (ofBs t.policy), .slice uo un uc], u2, .pointer (some ⟨w.heap.size, 0, none⟩), u4, u5, u6, u7, u8, u9, u10, u11, u12, u13, u14, u15, u16, u17, u18, u19, u20, u21, u22, u23, u24, u25, u26, u27, u28, u29, u30, u31, u32, u33, u34, u35, u36, u37, u38, u39, u40, u41, u42, u43, u44, u45, u46, u47, u48, u49, u50, u51, u52, u53, u54, u55, u56, u57, u58, u59, u60, u61, u62, u63, u64, u65, u66, u67, u68, u69, u70, u71, u72, u73, u74, u75, u76], []⟩ W := by
  conv => arg 2; whnf
  have HK : Hid _ := hK
  clear hK
  go_region_held2 (fun x => x.cell? ⟨bb, 0, none⟩ = some (.slice fo fnn fc) ∧ x.cell? ⟨bb, 1, none⟩ = some (.slice to' tn tc) ∧ x.cell? ⟨w.heap.size, 0, none⟩ = some (.string (ofBs t.name))) (go_keep) (first | (go_at_call 62; refine (HT _ ?_).mono ?_; (first | exact (Below.refl _ W).drew | exact Below.refl _ W | exact (below_box W _).drew | exact below_box W _); rintro e w2 ⟨hB2, hb2, a0, a1, a2, a3, a4, a5, a6, a7, a8, a9, a10, a11, a12, a13, a14, a15, a16, ⟨o0, o1, o2, o3, o4, o5, o6, o7, o8, o9, o10, o11, o12, o13, o14, o15, o16⟩, rfl⟩; have t0 := (hB2.cell (p := ⟨bb, 0, none⟩) hbl').trans b0; have t1 := (hB2.cell (p := ⟨bb, 1, none⟩) hbl').trans b1; have t2 := (hB2.cell (p := ⟨w.heap.size, 0, none⟩) hwl).trans d0; (first | (have m0 := blk_B hb2 hsW) | (have m0 := heap_alloc_new w2 (.cells #[.string ⟨#[]⟩, .slice none 0 0, .slice none 0 0, .int .i64 0, .string ⟨#[]⟩, .slice none 0 0, .int .i64 0, .int .i64 0, .int .i64 0, .bool false, .int .i64 0, .int .i64 0, .string ⟨#[]⟩, .int .i64 0, .string ⟨#[]⟩, .pointer none, .slice none 0 0] 155))); obtain ⟨x1, x2, x3, x4, x5, x6, x7, x8, x9, x10, x11, x12, x13, x14, x15, x16, x17, r0, r1, r2, r3, r4, r5, r6, r7, r8, r9, r10, r11, r12, r13, r14, r15, r16, hb17⟩ := stores_ex (P := Tryz.prog) m0 a0 a1 a2 a3 a4 a5 a6 a7 a8 a9 a10 a11 a12 a13 a14 a15 a16 o0 o1 o2 o3 o4 o5 o6 o7 o8 o9 o10 o11 o12 o13 o14 o15 o16; have B17 : Below W.heap.size W x17 := (by first | exact hb17 _ _ (by omega) hB2 | exact hb17 _ _ hB2.size (hB2.alloc hB2.size _)); have y0 := (B17.cell (p := ⟨bb, 0, none⟩) hbl').trans b0; have y1 := (B17.cell (p := ⟨bb, 1, none⟩) hbl').trans b1; have y2 := (B17.cell (p := ⟨w.heap.size, 0, none⟩) hwl).trans d0))
  all_goals exact HK.out _ _ _ _ _ _ _ _ _ _ _ (by first | exact B17 | exact B17.drew)
end Go.Proofs.YtilfjpmeededmaaGreatDoor

namespace Go.Proofs.YtilfjpmeededmaaGreatDoor
open Go.RowKit
set_option maxHeartbeats 8000000 in
set_option maxRecDepth 100000 in
theorem addTable_r2t (bb : Nat) (w : World) (t : TabT) (co : Option Addr) (cn cc : Nat) (ro : Option Addr) (rn rc : Nat) (uo : Option Addr) (un uc : Nat) (wc : World) (n6 : Int) (it : Bool) (hwc : w.heap.size < wc.heap.size)
    (c0 : wc.cell? ⟨w.heap.size, 0, none⟩ = some (.string (ofBs t.name))) (c1 : wc.cell? ⟨w.heap.size, 1, none⟩ = some (.slice co cn cc)) (c2 : wc.cell? ⟨w.heap.size, 2, none⟩ = some (.slice ro rn rc)) (c3 : wc.cell? ⟨w.heap.size, 3, none⟩ = some (.int .i64 t.count)) (c4 : wc.cell? ⟨w.heap.size, 4, none⟩ = some (.string (ofBs t.policy))) (c5 : wc.cell? ⟨w.heap.size, 5, none⟩ = some (.slice uo un uc))
    (HW : ∀ x : World, Calls Tryz.prog 138 #[.string (ofBs t.name)] x fun e w' => e = .returned (.bool true) ∧ w' = x) (HIs : ∀ x : World, Below wc.heap.size wc x → Calls Tryz.prog 139 #[.agg #[.string (ofBs t.name), .slice co cn cc, .slice ro rn rc, .int .i64 t.count, .string (ofBs t.policy), .slice uo un uc]] x fun e w' => Below wc.heap.size wc w' ∧ e = .returned (.bool it))
    (u2 u4 u5 u7 u8 u9 u10 u11 u12 u13 u14 u15 u16 u17 u18 u19 u20 u21 u22 u23 u24 u25 u26 u27 u28 u29 u30 u31 u32 u33 u34 u35 u36 u37 u38 u39 u40 u41 u42 u43 u44 u45 u46 u47 u48 u49 u50 u51 u52 u53 u54 u55 u56 u57 u58 u59 u60 u61 u62 u63 u64 u65 u66 u67 u68 u69 u70 u71 u72 u73 u74 u75 u76 : Value) (K : Act → World → Prop) (P : Ending → World → Prop) (hK : ∀ (v18 v19 v20 v21 v22 v23 v24 v25 v26 v27 v28 v29 v30 v31 v32 : Value) (wx : World), Below wc.heap.size wc wx → K ⟨#[.pointer (some ⟨bb, 0, none⟩), .agg #[.string (ofBs t.name), .slice co cn cc, .slice ro rn rc, .int .i64 t.count, .string (ofBs t.policy), .slice uo un uc], u2, .pointer (some ⟨w.heap.size, 0, none⟩), u4, u5, .int .i64 n6, .int .i64 (firstS [gvS (!true || (n6 == 0)) 2, gvS (!it) 6]), u8, u9, u10, u11, u12, u13, u14, u15, u16, u17, v18, v19, v20, v21, v22, v23, v24, v25, v26, v27, v28, v29, v30, v31, v32, u33, u34, u35, u36, u37, u38, u39, u40, u41, u42, u43, u44, u45, u46, u47, u48, u49, u50, u51, u52, u53, u54, u55, u56, u57, u58, u59, u60, u61, u62, u63, u64, u65, u66, u67, u68, u69, u70, u71, u72, u73, u74, u75, u76], []⟩ wx) :
    Code.wp Tryz.prog (atReg2 Tryz.f77) (Exit.then K (bodyPost Tryz.prog Tryz.f77 P)) ⟨#[.pointer (some ⟨bb, 0, none⟩), .agg #[.string (ofBs t.name), .slice co cn cc, .slice ro rn rc, .int .i64 t.count, .string (ofBs t.policy), .slice uo un uc], u2, .pointer (some ⟨w.heap.size, 0, none⟩), u4, u5, .int .i64 n6, u7, u8, u9, u10, u11, u12, u13, u14, u15, u16, u17, u18, u19, u20, u21, u22, u23, u24, u25, u26, u27, u28, u29, u30, u31, u32, u33, u34, u35, u36, u37, u38, u39, u40, u41, u42, u43, u44, u45, u46, u47, u48, u49, u50, u51, u52, u53, u54, u55, u56, u57, u58, u59, u60, u61, u62, u63, u64, u65, u66, u67, u68, u69, u70, u71, u72, u73, u74, u75, u76], []⟩ wc := by
  conv => arg 2; whnf
  have HK : Hid _ := hK
  clear hK
  have HKEEP : ∀ x : World, Below wc.heap.size wc x → x.cell? ⟨w.heap.size, 0, none⟩ = some (.string (ofBs t.name)) ∧ x.cell? ⟨w.heap.size, 1, none⟩ = some (.slice co cn cc) ∧ x.cell? ⟨w.heap.size, 2, none⟩ = some (.slice ro rn rc) ∧ x.cell? ⟨w.heap.size, 3, none⟩ = some (.int .i64 t.count) ∧ x.cell? ⟨w.heap.size, 4, none⟩ = some (.string (ofBs t.policy)) ∧ x.cell? ⟨w.heap.size, 5, none⟩ = some (.slice uo un uc) := fun x hx =>
    ⟨(hx.cell (p := ⟨w.heap.size, 0, none⟩) hwc).trans c0, (hx.cell (p := ⟨w.heap.size, 1, none⟩) hwc).trans c1, (hx.cell (p := ⟨w.heap.size, 2, none⟩) hwc).trans c2, (hx.cell (p := ⟨w.heap.size, 3, none⟩) hwc).trans c3, (hx.cell (p := ⟨w.heap.size, 4, none⟩) hwc).trans c4, (hx.cell (p := ⟨w.heap.size, 5, none⟩) hwc).trans c5⟩
  go_region_held2 (fun x => x.cell? ⟨w.heap.size, 0, none⟩ = some (.string (ofBs t.name)) ∧ x.cell? ⟨w.heap.size, 1, none⟩ = some (.slice co cn cc) ∧ x.cell? ⟨w.heap.size, 2, none⟩ = some (.slice ro rn rc) ∧ x.cell? ⟨w.heap.size, 3, none⟩ = some (.int .i64 t.count) ∧ x.cell? ⟨w.heap.size, 4, none⟩ = some (.string (ofBs t.policy)) ∧ x.cell? ⟨w.heap.size, 5, none⟩ = some (.slice uo un uc)) (go_keep) (first
    | (go_at_call 138; refine (HW _).mono ?_; rintro e w2 ⟨rfl, rfl⟩)
    | (go_at_call 139; refine (HIs _ ?_).mono ?_; exact (Below.refl _ wc).drew; rintro e w3 ⟨hb3, rfl⟩; obtain ⟨y0, y1, y2, y3, y4, y5⟩ := HKEEP w3 hb3)
    | (go_at_call 79; refine (when_any _ _ _).mono ?_; rintro e w4 ⟨rfl, rfl⟩)
    | (go_at_call 46; refine (first2n_any _ _ _).mono ?_; rintro e w5 ⟨rfl, rfl⟩))
  all_goals exact HK.out _ _ _ _ _ _ _ _ _ _ _ _ _ _ _ _ (by first | exact hb3.alloc hb3.size _ | exact (hb3.alloc hb3.size _).drew)
set_option maxHeartbeats 8000000 in
set_option maxRecDepth 100000 in
theorem addTable_r2f (bb : Nat) (w : World) (t : TabT) (co : Option Addr) (cn cc : Nat) (ro : Option Addr) (rn rc : Nat) (uo : Option Addr) (un uc : Nat) (wc : World) (n6 : Int) (it : Bool) (hwc : w.heap.size < wc.heap.size)
    (c0 : wc.cell? ⟨w.heap.size, 0, none⟩ = some (.string (ofBs t.name))) (c1 : wc.cell? ⟨w.heap.size, 1, none⟩ = some (.slice co cn cc)) (c2 : wc.cell? ⟨w.heap.size, 2, none⟩ = some (.slice ro rn rc)) (c3 : wc.cell? ⟨w.heap.size, 3, none⟩ = some (.int .i64 t.count)) (c4 : wc.cell? ⟨w.heap.size, 4, none⟩ = some (.string (ofBs t.policy))) (c5 : wc.cell? ⟨w.heap.size, 5, none⟩ = some (.slice uo un uc))
    (HW : ∀ x : World, Calls Tryz.prog 138 #[.string (ofBs t.name)] x fun e w' => e = .returned (.bool false) ∧ w' = x) (HIs : ∀ x : World, Below wc.heap.size wc x → Calls Tryz.prog 139 #[.agg #[.string (ofBs t.name), .slice co cn cc, .slice ro rn rc, .int .i64 t.count, .string (ofBs t.policy), .slice uo un uc]] x fun e w' => Below wc.heap.size wc w' ∧ e = .returned (.bool it))
    (u2 u4 u5 u7 u8 u9 u10 u11 u12 u13 u14 u15 u16 u17 u18 u19 u20 u21 u22 u23 u24 u25 u26 u27 u28 u29 u30 u31 u32 u33 u34 u35 u36 u37 u38 u39 u40 u41 u42 u43 u44 u45 u46 u47 u48 u49 u50 u51 u52 u53 u54 u55 u56 u57 u58 u59 u60 u61 u62 u63 u64 u65 u66 u67 u68 u69 u70 u71 u72 u73 u74 u75 u76 : Value) (K : Act → World → Prop) (P : Ending → World → Prop) (hK : ∀ (v18 v19 v20 v21 v22 v23 v24 v25 v26 v27 v28 v29 v30 v31 v32 : Value) (wx : World), Below wc.heap.size wc wx → K ⟨#[.pointer (some ⟨bb, 0, none⟩), .agg #[.string (ofBs t.name), .slice co cn cc, .slice ro rn rc, .int .i64 t.count, .string (ofBs t.policy), .slice uo un uc], u2, .pointer (some ⟨w.heap.size, 0, none⟩), u4, u5, .int .i64 n6, .int .i64 (firstS [gvS (!false || (n6 == 0)) 2, gvS (!it) 6]), u8, u9, u10, u11, u12, u13, u14, u15, u16, u17, v18, v19, v20, v21, v22, v23, v24, v25, v26, v27, v28, v29, v30, v31, v32, u33, u34, u35, u36, u37, u38, u39, u40, u41, u42, u43, u44, u45, u46, u47, u48, u49, u50, u51, u52, u53, u54, u55, u56, u57, u58, u59, u60, u61, u62, u63, u64, u65, u66, u67, u68, u69, u70, u71, u72, u73, u74, u75, u76], []⟩ wx) :
    Code.wp Tryz.prog (atReg2 Tryz.f77) (Exit.then K (bodyPost Tryz.prog Tryz.f77 P)) ⟨#[.pointer (some ⟨bb, 0, none⟩), .agg #[.string (ofBs t.name), .slice co cn cc, .slice ro rn rc, .int .i64 t.count, .string (ofBs t.policy), .slice uo un uc], u2, .pointer (some ⟨w.heap.size, 0, none⟩), u4, u5, .int .i64 n6, u7, u8, u9, u10, u11, u12, u13, u14, u15, u16, u17, u18, u19, u20, u21, u22, u23, u24, u25, u26, u27, u28, u29, u30, u31, u32, u33, u34, u35, u36, u37, u38, u39, u40, u41, u42, u43, u44, u45, u46, u47, u48, u49, u50, u51, u52, u53, u54, u55, u56, u57, u58, u59, u60, u61, u62, u63, u64, u65, u66, u67, u68, u69, u70, u71, u72, u73, u74, u75, u76], []⟩ wc := by
  conv => arg 2; whnf
  have HK : Hid _ := hK
  clear hK
  have HKEEP : ∀ x : World, Below wc.heap.size wc x → x.cell? ⟨w.heap.size, 0, none⟩ = some (.string (ofBs t.name)) ∧ x.cell? ⟨w.heap.size, 1, none⟩ = some (.slice co cn cc) ∧ x.cell? ⟨w.heap.size, 2, none⟩ = some (.slice ro rn rc) ∧ x.cell? ⟨w.heap.size, 3, none⟩ = some (.int .i64 t.count) ∧ x.cell? ⟨w.heap.size, 4, none⟩ = some (.string (ofBs t.policy)) ∧ x.cell? ⟨w.heap.size, 5, none⟩ = some (.slice uo un uc) := fun x hx =>
    ⟨(hx.cell (p := ⟨w.heap.size, 0, none⟩) hwc).trans c0, (hx.cell (p := ⟨w.heap.size, 1, none⟩) hwc).trans c1, (hx.cell (p := ⟨w.heap.size, 2, none⟩) hwc).trans c2, (hx.cell (p := ⟨w.heap.size, 3, none⟩) hwc).trans c3, (hx.cell (p := ⟨w.heap.size, 4, none⟩) hwc).trans c4, (hx.cell (p := ⟨w.heap.size, 5, none⟩) hwc).trans c5⟩
  first
    | (go_region_with (first
        | (go_at_call 138; refine (HW _).mono ?_; rintro e w2 ⟨rfl, rfl⟩)
        | (go_at_call 139; refine (HIs _ ?_).mono ?_; exact (Below.refl _ wc).drew; rintro e w3 ⟨hb3, rfl⟩; obtain ⟨y0, y1, y2, y3, y4, y5⟩ := HKEEP w3 hb3)
        | (go_at_call 79; refine (when_any _ _ _).mono ?_; rintro e w4 ⟨rfl, rfl⟩)
        | (go_at_call 46; refine (first2n_any _ _ _).mono ?_; rintro e w5 ⟨rfl, rfl⟩)))
    | fail
  all_goals exact HK.out _ _ _ _ _ _ _ _ _ _ _ _ _ _ _ _ (by first | exact hb3.alloc hb3.size _ | exact (hb3.alloc hb3.size _).drew)
end Go.Proofs.YtilfjpmeededmaaGreatDoor

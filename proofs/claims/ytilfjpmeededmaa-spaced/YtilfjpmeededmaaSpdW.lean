/- What spaced answers: the text with other blanks. -/
import Derived.Test.YtilfjpmeededmaaMakeOf
import Derived.Deep.LoopGhost
import Derived.Deep.DeepCutAuto
namespace Go.Proofs.Ytilfjpmeededmaa
open Go.RowKit

def nq (c : UInt8) (q : Bool) : Bool := if c == 39 then !q else q
/-- What stands for one byte: p: the byte ahead; q: within a quote (itself told already); u: what follows; sm: blanks. -/
def piece (p : Option UInt8) (q : Bool) (c : UInt8) (u sm : Bs) : Bs :=
  if q || (c != 32 && c != 40 && c != 41) then [c]
  else if c == 32 && sm.isEmpty && !u.isEmpty && (u.headD 0 == 40 || p == some 41) then []
  else if c == 32 then 32 :: sm else sm ++ c :: sm
inductive Spd : Option UInt8 → Bool → Bs → Bs → Prop
  | nil {p : Option UInt8} {q : Bool} : Spd p q [] []
  | cons {p : Option UInt8} {q : Bool} {c : UInt8} {u sm o : Bs} : blanksB sm = true → Spd (some c) (nq c q) u o → Spd p q (c :: u) (piece p (nq c q) c u sm ++ o)

theorem ext_one (s : ByteArray) (i : Nat) (h : i < s.size) : (s.extract i (i + 1)).toList = [s[i]] := by
  rw [ByteArray.toList_eq, ByteArray.data_extract, Array.toList_extract, ← ByteArray.toList_eq, List.extract_eq_take_drop, drop_cons s i h]
  simp
theorem app_toList (a b : ByteArray) : (a ++ b).toList = a.toList ++ b.toList := by
  rw [ByteArray.toList_eq, ByteArray.toList_eq, ByteArray.toList_eq, ByteArray.data_append]; simp
def prevOf (s : ByteArray) (i : Nat) : Option UInt8 := if i = 0 then none else some (s.toList.getD (i - 1) 0)
theorem prev_succ (s : ByteArray) (i : Nat) (h : i < s.size) : prevOf s (i + 1) = some s[i] := by
  unfold prevOf; rw [if_neg (by omega), Nat.add_sub_cancel, getD_get s i h]
theorem spd_step {s : ByteArray} {out m o' : Bs} {i : Nat} {q q' : Bool} (hlt : i < s.size) (hq : q' = nq s[i] q) (hb : blanksB m = true) (hS : ∀ o, Spd (prevOf s i) q (s.toList.drop i) o → Spd none false s.toList (out ++ o))
    (ho : o' = out ++ piece (prevOf s i) q' s[i] (s.toList.drop (i + 1)) m) : ∀ o, Spd (prevOf s (i + 1)) q' (s.toList.drop (i + 1)) o → Spd none false s.toList (o' ++ o) := by
  intro o h
  rw [prev_succ s i hlt, hq] at h
  have := Spd.cons (p := prevOf s i) (q := q) (sm := m) hb h
  rw [← drop_cons s i hlt] at this
  rw [ho, hq, List.append_assoc]
  exact hS _ this
theorem u8i (c : UInt8) (n : Nat) (hn : n < 256) : ((c.toNat : Int) == (n : Int)) = (c == UInt8.ofNat n) := by
  rw [u8_eq c n hn, Bool.eq_iff_iff]; simp
theorem rest_head (s : ByteArray) (i : Nat) (h : i < s.size) : (s.toList.drop i).isEmpty = false ∧ (s.toList.drop i).headD 0 = s[i] := by
  rw [drop_cons s i h]; exact ⟨rfl, rfl⟩
theorem piece_plain {p : Option UInt8} {c : UInt8} {u m : Bs} (h1 : (c == 32) = false) (h2 : (c == 40) = false) (h3 : (c == 41) = false) : piece p false c u m = [c] := by
  unfold piece; rw [if_pos]; simp [bne, h1, h2, h3]
theorem piece_br {p : Option UInt8} {c : UInt8} {u m : Bs} (h1 : (c == 32) = false) (h2 : (c == 40 || c == 41) = true) : piece p false c u m = m ++ c :: m := by
  unfold piece
  rw [if_neg, if_neg, if_neg]
  · rw [h1]; simp
  · rw [h1]; simp
  · intro h; simp [bne, h1] at h; simp [h] at h2
theorem piece_sp {p : Option UInt8} {u m : Bs} (h : (m.isEmpty && !u.isEmpty && (u.headD 0 == 40 || p == some 41)) = false) : piece p false 32 u m = 32 :: m := by
  unfold piece
  rw [if_neg (by simp), if_neg, if_pos (by decide)]
  intro h2
  rw [show ((32 : UInt8) == 32) = true from rfl, Bool.true_and] at h2
  rw [h] at h2; cases h2
theorem piece_om {p : Option UInt8} {u m : Bs} (h : (m.isEmpty && !u.isEmpty && (u.headD 0 == 40 || p == some 41)) = true) : piece p false 32 u m = [] := by
  unfold piece
  rw [if_neg (by simp), if_pos]
  rw [show ((32 : UInt8) == 32) = true from rfl, Bool.true_and]; exact h
def cfg0 : Cfg := ⟨false, [], [], [], []⟩

set_option maxHeartbeats 8000000 in
set_option maxRecDepth 100000 in
theorem spaced_any (s : ByteArray) (hs : s.size ≤ 390) (hs0 : ∀ h : 0 < s.size, s[0] ≠ 32) (w : World) (rv : Value) (hr : ∀ x : World, Below w.heap.size w x → IntsAt x w.heap.size rv) :
    Calls Try.prog 7 #[.string s, rv] w fun e w' => Below w.heap.size w w' ∧ ∃ o : Bs, e = .returned (.string (ofBs o)) ∧ o.length ≤ 400 ∧ Spd none false s.toList o := by
  obtain ⟨ra, rn, rc, rfl⟩ : ∃ ra rn rc, rv = .slice ra rn rc := by
    rcases hr w (Below.refl _ _) with ⟨ao, cap, rfl⟩ | ⟨b, off, n, cap, rfl, _⟩
    · exact ⟨_, _, _, rfl⟩
    · exact ⟨_, _, _, rfl⟩
  have hM0 : MakerIs (w.alloc (.cells #[.slice ra rn rc, .int .i64 0, .int .i64 0, .bool false, .string ⟨#[]⟩, .slice none 0 0, .slice none 0 0, .slice none 0 0] 26)) w.heap.size cfg0 0 0 :=
    ⟨_, _, _, _, blk_new w _, hr _ ((Below.refl _ _).alloc (Nat.le_refl _) _), .inl ⟨rfl, _, _, rfl⟩, .inl ⟨rfl, _, _, rfl⟩, .inl ⟨rfl, _, _, rfl⟩⟩
  clear hr
  have HS0 : Hid (∀ h : 0 < s.size, s[0] ≠ 32) := hs0
  clear hs0
  go_enter Try.func7, Try.ntmps7
  go_wp2_with fail
  go_loopg [6, 7, 8] s.size (fun gk so sq si wr => ∃ (i : Nat) (out : ByteArray) (q : Bool) (a : Int), gk = s.size - i ∧ i ≤ s.size ∧ si = .int .i64 i ∧ sq = .bool q ∧ so = .string out ∧ out.size + (s.size - i) ≤ 400 ∧ 0 ≤ a ∧ a ≤ 3 * i ∧
    Below w.heap.size w wr ∧ MakerIs wr w.heap.size cfg0 a 0 ∧ Hid (∀ o, Spd (prevOf s i) q (s.toList.drop i) o → Spd none false s.toList (out.toList ++ o)))
  case atStart => exact ⟨0, ⟨#[]⟩, false, 0, rfl, Nat.zero_le _, rfl, rfl, rfl, by have : (ByteArray.mk #[]).size = 0 := rfl; omega, by omega, by omega, (Below.refl _ _).alloc (Nat.le_refl _) _, hM0, fun o h => by simpa [prevOf, mk_toList [] ] using h⟩
  case round =>
    obtain ⟨i, out, q, a, hgk, hi, rfl, rfl, rfl, hol, ha, ha2, hbel, hM, HS⟩ := hrel
    subst hgk
    by_cases hlt : i < s.size
    · have hx : (s.extract i (i + 1)).toList = [s[i]] := ext_one s i hlt
      obtain ⟨q', hq'⟩ : ∃ q', q' = nq s[i] q := ⟨_, rfl⟩
      have HQ : Hid (q' = nq s[i] q) := hq'
      clear hq'
      obtain ⟨c, hce⟩ : ∃ c : ByteArray, c = s.extract i (i + 1) := ⟨_, rfl⟩
      go_upto_if 27 with fail
      go_cut [7] (fun s7 wx => s7 = .bool q' ∧ wr = wx)
      case first =>
        cases h39 : (s[i] == 39) with
        | true =>
          have HR : Hid (q' = !q) := by rw [Hid, HQ.out, nq, h39]; rfl
          go_wp2_with fail
          go_meet
          case rel => exact ⟨by rw [HR.out], rfl⟩
        | false =>
          have HR : Hid (q' = q) := by rw [Hid, HQ.out, nq, h39]; rfl
          go_wp2_with fail
          go_meet
          case rel => exact ⟨by rw [HR.out], rfl⟩
      case rest =>
        obtain ⟨rfl, rfl⟩ := hcut
        clear hce
        go_wp2_with (go_at_call 5; refine (number_any _ _ w.heap.size cfg0 a 0 ?c1 ?c2 ha ?c3 hM).mono ?_)
        case c1 => decide
        case c2 => decide
        case c3 => omega
        rintro e w2 ⟨k0, a2, rfl, hk0, hk1, hb0, hb1, hg2, hM2⟩
        have hsz := hbel.size
        have B2 : Below w.heap.size w w2 := below_grown hbel hg2 (Nat.le_refl _) hsz
        obtain ⟨n0, rfl⟩ : ∃ n : Nat, k0 = n := ⟨k0.toNat, by omega⟩
        clear hM hg2 hbel hsz
        go_wp2_with fail
        go_loopg [10, 11] n0 (fun gj sm sn wx => ∃ (m : ByteArray) (k : Nat) (a3 : Int), gj = k ∧ sn = .int .i64 k ∧ sm = .string m ∧ m.size + k ≤ 2 ∧ Hid (blanksB m.toList = true) ∧ (m.size = 0 ∨ (q' = false ∧ out.size + (s.size - i) < 390)) ∧ 0 ≤ a3 ∧ a3 ≤ 3 * i + 1 + m.size ∧
          Below w.heap.size w wx ∧ MakerIs wx w.heap.size cfg0 a3 0)
        case atStart => exact ⟨⟨#[]⟩, n0, a2, rfl, rfl, rfl, by have : (ByteArray.mk #[]).size = 0 := rfl; omega, by rw [Hid, mk_toList []]; rfl, .inl rfl, by omega, by omega, B2, hM2⟩
        case round =>
          obtain ⟨m, k, a3, hgj, rfl, rfl, hmk, HB, hmc, ha3, ha4, hbel, hM⟩ := hrel
          have HG : Hid (gk = k) := hgj
          clear hgj hM2 B2
          by_cases hcont : 0 < k ∧ q' = false ∧ out.size + (s.size - i) < 390
          · obtain ⟨hk, hqf, hlen⟩ := hcont
            have hmlt := hM.lt
            subst hqf
            have hc3 : a3 ≤ 1000000 := by omega
            go_wp2_with (go_at_call 5; refine (number_any _ _ w.heap.size cfg0 a3 0 (by decide) (by decide) ha3 hc3 (hM.alloc _)).mono ?_)
            rintro e w5 ⟨r5, a5, rfl, hr50, hr51, hb50, hb51, hg5, hM5⟩
            obtain ⟨tx, htx, hcell⟩ := row_at (ts := [[32], [9], [10]]) (grown_blk (blk_new _ _) hg5 (by omega)) hr50 hr51
            have hsz := hbel.size
            have B5 : Below w.heap.size w w5 := below_grown (hbel.alloc hsz _) hg5 (Nat.le_refl _) (by simp; omega)
            have htl : tx.length = 1 ∧ blanksB tx = true := by
              have := List.all_eq_true.mp (show (([[32], [9], [10]] : List Bs).all fun x => decide (x.length = 1 ∧ blanksB x = true)) = true by decide) tx htx
              simpa using this
            have hts : (ofBs tx).size = 1 := by rw [ofBs_size]; exact htl.1
            have HB2 : Hid (blanksB (m ++ ofBs tx).toList = true) := by
              rw [Hid, app_toList, ofBs_toList, blanksB, List.all_append, Bool.and_eq_true]; exact ⟨HB.out, htl.2⟩
            clear hM hbel HB htl hsz
            go_wp2_with fail
            go_roundg (k - 1)
            case measure => rw [HG.out]; omega
            case rel => exact ⟨m ++ ofBs tx, k - 1, a5, rfl, by rw [show ((k - 1 : Nat) : Int) = (k : Int) - 1 by omega], rfl, by simp; omega, HB2, .inr (by simpa using hlen), by omega, by simp; omega, B5, hM5⟩
          · have hmlt := hM.lt
            cases q' with
            | true =>
              clear hcont
              go_upto_region 12 with fail
              go_cut [47] (fun s47 wx => s47 = .bool false ∧ wr = wx)
              case first =>
                clear HS HQ hx HS0
                by_cases hk : 0 < k
                · go_wp2_with fail
                  go_meet
                  case rel => exact ⟨rfl, rfl⟩
                · go_wp2_with fail
                  go_meet
                  case rel => exact ⟨rfl, rfl⟩
              case rest =>
                obtain ⟨rfl, rfl⟩ := hcut
                have HF := spd_step (out := out.toList) (o' := (out ++ s.extract i (i + 1)).toList) hlt HQ.out HB.out HS.out (by rw [app_toList, hx]; simp [piece])
                replace HF : Hid _ := HF
                have h1 : (s.extract i (i + 1)).size = 1 := by rw [← toList_length, hx]; rfl
                clear HS HQ
                go_wp2_with fail
                go_roundg (s.size - (i + 1))
                case measure => omega
                case rel => exact ⟨i + 1, _, true, a3, rfl, by omega, by go_num, rfl, rfl, by (try simp); omega, by omega, by (try simp); omega, hbel, hM, HF⟩
            | false =>
              go_upto_region 12 with fail
              go_cut [47] (fun s47 wx => s47 = .bool false ∧ wr = wx)
              case first =>
                clear HS HQ hx HS0
                by_cases hk : 0 < k
                · have hge : ¬ out.size + (s.size - i) < 390 := fun h => hcont ⟨hk, rfl, h⟩
                  clear hcont
                  go_wp2_with fail
                  go_meet
                  case rel => exact ⟨by rw [decide_eq_false (by omega)], rfl⟩
                · clear hcont
                  go_wp2_with fail
                  go_meet
                  case rel => exact ⟨rfl, rfl⟩
              case rest =>
                obtain ⟨rfl, rfl⟩ := hcut
                clear hcont
                have h1 : (s.extract i (i + 1)).size = 1 := by rw [← toList_length, hx]; rfl
                have h32s : (ByteArray.mk #[32]).size = 1 := rfl
                have h32l : (ByteArray.mk #[32]).toList = [32] := mk_toList [32]
                have H32L : Hid _ := h32l
                clear h32l
                cases h32 : (s[i] == 32) with
                | false =>
                  cases h40 : (s[i] == 40) with
                  | true =>
                    have h41 : (s[i] == 41) = false := by rw [beq_iff_eq] at h40; rw [h40]; rfl
                    have HF := spd_step (out := out.toList) (o' := (out ++ m ++ s.extract i (i + 1) ++ m).toList) hlt HQ.out HB.out HS.out (by rw [app_toList, app_toList, app_toList, hx, piece_br h32 (by rw [h40]; rfl)]; simp)
                    replace HF : Hid _ := HF
                    clear HS HQ
                    go_wp2_with fail
                    go_roundg (s.size - (i + 1))
                    case measure => omega
                    case rel => exact ⟨i + 1, _, false, a3, rfl, by omega, by go_num, rfl, rfl, by (try simp); omega, by omega, by (try simp); omega, hbel, hM, HF⟩
                  | false =>
                    cases h41 : (s[i] == 41) with
                    | true =>
                      have HF := spd_step (out := out.toList) (o' := (out ++ m ++ s.extract i (i + 1) ++ m).toList) hlt HQ.out HB.out HS.out (by rw [app_toList, app_toList, app_toList, hx, piece_br h32 (by rw [h40, h41]; rfl)]; simp)
                      replace HF : Hid _ := HF
                      clear HS HQ
                      go_wp2_with fail
                      go_roundg (s.size - (i + 1))
                      case measure => omega
                      case rel => exact ⟨i + 1, _, false, a3, rfl, by omega, by go_num, rfl, rfl, by (try simp); omega, by omega, by (try simp); omega, hbel, hM, HF⟩
                    | false =>
                      have HF := spd_step (out := out.toList) (o' := (out ++ s.extract i (i + 1)).toList) hlt HQ.out HB.out HS.out (by rw [app_toList, hx, piece_plain h32 h40 h41])
                      replace HF : Hid _ := HF
                      clear HS HQ
                      go_wp2_with fail
                      go_roundg (s.size - (i + 1))
                      case measure => omega
                      case rel => exact ⟨i + 1, _, false, a3, rfl, by omega, by go_num, rfl, rfl, by (try simp); omega, by omega, by (try simp); omega, hbel, hM, HF⟩
                | true =>
                  have hv : s[i] = 32 := by simpa using h32
                  have h40 : (s[i] == 40) = false := by rw [hv]; rfl
                  have h41 : (s[i] == 41) = false := by rw [hv]; rfl
                  have HV : Hid _ := hv
                  clear hv
                  by_cases hm0 : m.size = 0
                  · have hE := isEmpty_t m hm0
                    have HM : Hid (m.toList = []) := by rw [Hid]; exact List.isEmpty_iff.mp hE
                    by_cases hn : i + 1 < s.size
                    · obtain ⟨r1, r2⟩ := rest_head s (i + 1) hn
                      have R1 : Hid _ := r1
                      have R2 : Hid _ := r2
                      clear r1 r2
                      have hi1 : 0 < i := by
                        rcases Nat.eq_zero_or_pos i with h0 | h0
                        · subst h0; exact absurd HV.out (HS0.out hlt)
                        · exact h0
                      have hp : prevOf s i = some s[i - 1] := by
                        have := prev_succ s (i - 1) (by omega); rwa [Nat.sub_add_cancel hi1] at this
                      have HP : Hid _ := hp
                      clear hp
                      cases hn40 : ((s[i + 1].toNat : Int) == 40) with
                      | true =>
                        have hz : (s[i + 1] == 40) = true := by rw [← hn40]; exact (u8i _ 40 (by omega)).symm
                        have HZ : Hid _ := hz
                        clear hz
                        have HF := spd_step (out := out.toList) (o' := (out).toList) hlt HQ.out HB.out HS.out (by rw [HV.out, HP.out, piece_om (by rw [R1.out, R2.out, hE, HZ.out]; rfl)]; simp)
                        replace HF : Hid _ := HF
                        clear HS HQ
                        go_wp2_with fail
                        go_roundg (s.size - (i + 1))
                        case measure => omega
                        case rel => exact ⟨i + 1, _, false, a3, rfl, by omega, by go_num, rfl, rfl, by (try simp); omega, by omega, by (try simp); omega, hbel, hM, HF⟩
                      | false =>
                        have hz : (s[i + 1] == 40) = false := by rw [← hn40]; exact (u8i _ 40 (by omega)).symm
                        have HZ : Hid _ := hz
                        clear hz
                        cases hp41 : ((s[i - 1].toNat : Int) == 41) with
                        | true =>
                          have hz2 : (s[i - 1] == 41) = true := by rw [← hp41]; exact (u8i _ 41 (by omega)).symm
                          have HZ2 : Hid _ := hz2
                          clear hz2
                          have HF := spd_step (out := out.toList) (o' := (out).toList) hlt HQ.out HB.out HS.out (by rw [HV.out, HP.out, piece_om (by rw [R1.out, R2.out, hE, HZ.out]; simpa using HZ2.out)]; simp)
                          replace HF : Hid _ := HF
                          clear HS HQ
                          go_wp2_with fail
                          go_roundg (s.size - (i + 1))
                          case measure => omega
                          case rel => exact ⟨i + 1, _, false, a3, rfl, by omega, by go_num, rfl, rfl, by (try simp); omega, by omega, by (try simp); omega, hbel, hM, HF⟩
                        | false =>
                          have hz2 : (s[i - 1] == 41) = false := by rw [← hp41]; exact (u8i _ 41 (by omega)).symm
                          have HZ2 : Hid _ := hz2
                          clear hz2
                          have HF := spd_step (out := out.toList) (o' := (out ++ ⟨#[32]⟩ ++ m).toList) hlt HQ.out HB.out HS.out (by rw [app_toList, app_toList, H32L.out, HV.out, HP.out, piece_sp (by rw [R1.out, R2.out, hE, HZ.out]; simpa using HZ2.out)]; simp)
                          replace HF : Hid _ := HF
                          clear HS HQ
                          go_wp2_with fail
                          go_roundg (s.size - (i + 1))
                          case measure => omega
                          case rel => exact ⟨i + 1, _, false, a3, rfl, by omega, by go_num, rfl, rfl, by (try simp); omega, by omega, by (try simp); omega, hbel, hM, HF⟩
                    · have R1 : Hid ((s.toList.drop (i + 1)).isEmpty = true) := by
                        rw [Hid, List.drop_of_length_le (by rw [toList_length]; omega)]; rfl
                      have HF := spd_step (out := out.toList) (o' := (out ++ ⟨#[32]⟩ ++ m).toList) hlt HQ.out HB.out HS.out (by rw [app_toList, app_toList, H32L.out, HV.out, piece_sp (by rw [R1.out]; simp)]; simp)
                      replace HF : Hid _ := HF
                      clear HS HQ
                      go_wp2_with fail
                      go_roundg (s.size - (i + 1))
                      case measure => omega
                      case rel => exact ⟨i + 1, _, false, a3, rfl, by omega, by go_num, rfl, rfl, by (try simp); omega, by omega, by (try simp); omega, hbel, hM, HF⟩
                  · have hE := isEmpty_f m (by omega)
                    have HF := spd_step (out := out.toList) (o' := (out ++ ⟨#[32]⟩ ++ m).toList) hlt HQ.out HB.out HS.out (by rw [app_toList, app_toList, H32L.out, HV.out, piece_sp (by rw [hE]; simp)]; simp)
                    replace HF : Hid _ := HF
                    clear HS HQ
                    go_wp2_with fail
                    go_roundg (s.size - (i + 1))
                    case measure => omega
                    case rel => exact ⟨i + 1, _, false, a3, rfl, by omega, by go_num, rfl, rfl, by (try simp); omega, by omega, by (try simp); omega, hbel, hM, HF⟩
    · go_wp2_with fail
      go_ret
      have e : s.toList.drop i = [] := List.drop_of_length_le (by rw [toList_length]; omega)
      have hf := HS.out [] (by rw [e]; exact .nil)
      exact ⟨hbel, out.toList, by rw [← ba_eq]; rfl, by rw [toList_length]; omega, by simpa using hf⟩
end Go.Proofs.Ytilfjpmeededmaa

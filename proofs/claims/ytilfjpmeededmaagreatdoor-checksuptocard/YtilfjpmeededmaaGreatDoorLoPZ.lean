import Derived.Test.YtilfjpmeededmaaGreatDoorLoLZ
import Derived.Test.YtilfjpmeededmaaGreatDoorLoT
import Derived.Deep.LoopGhost
import Derived.Deep.RegionWith
import Derived.Deep.RegionHeld2
set_option linter.unusedVariables false
set_option linter.unusedSimpArgs false
namespace Go.Proofs.YtilfjpmeededmaaGreatDoor
open Go.RowKit
set_option maxHeartbeats 40000000 in
set_option maxRecDepth 100000 in
theorem large_any (w0 w : World) (mb : Nat) (v0 v2 v4 v6 : Value) (a1 : Option Addr) (an1 ac1 : Nat) (a5 : Option Addr) (an5 ac5 : Nat) (C R X K B : List Ln) (hO : w.heap[mb]? = some (.cells #[v0, .slice a1 an1 ac1, v2, .slice none 0 0, v4, .slice a5 an5 ac5, v6, .slice none 0 0, .slice none 0 0] 256 (0, 0)))
    (hR : LnsIn (WtR w0 C) w 47 470 1 farR mb (.slice a1 an1 ac1) R) (hB : LnsIn (WtT w0 K R X) w 134 366 6 farT mb (.slice a5 an5 ac5) B)
    (hC : ∀ l ∈ C, OvAt w 50 3 ovC l) (hCs : ∀ l ∈ C, l.n ≤ 1048576) (hX : ∀ l ∈ X, OvAt w 9 1 ovX l) (hXs : ∀ l ∈ X, l.n ≤ 1048576) (hK : ∀ l ∈ K, OvAt w 162 3 ovK l) (hKs : ∀ l ∈ K, l.n ≤ 1048576)
    (h0 : Below w0.heap.size w0 w) (h0m : w0.heap.size ≤ mb) (hlR : R.length ≤ 2199023255552) (hlB : B.length ≤ 2199023255552) :
    Calls Tryz.prog 196 #[.pointer (some ⟨mb, 0, none⟩)] w fun e w' => e = .returned (.bool true) ∧ KeepL w w' [47, 134] ∧ Below mb w w' := by
  have hml := ln_lt hO
  obtain ⟨rfl, hrd1⟩ := loan_read hR
  obtain ⟨rfl, hrd5⟩ := loan_read hB
  have HO : Hid _ := hO
  have HHB : Hid _ := hB
  have HC : Hid _ := hC
  have HX : Hid _ := hX
  have HK : Hid _ := hK
  have HF : Hid _ := hR
  have hnil : ∀ W, (binOp .eql 47 (.slice none 0 0) (.slice none 0 0)).run Tryz.prog W = .ok (.bool true) W := fun W => eql_nil W _ _ _ _ _ Tryz.underlying47
  clear hO hB hC hX hK hrd5
  go_enter Tryz.func196, Tryz.ntmps196
  go_upto_block 0 with fail
  go_cut [3] (fun s3 wx => s3 = .bool true ∧ OvInv w wx mb 47 1 farR ovR R R.length)
  case first =>
    have I0 : OvInv w w mb 47 1 farR ovR R 0 := OvInv.start hR
    have HRD : Hid _ := hrd1
    generalize hga : a1 = a at *
    generalize hgc : ac1 = ac at *
    clear hga hgc hR hrd1 HHB HX HK
    go_wp2_with fail
    go_loopg [3, 4] R.length (fun gk okv kv wr => ∃ k : Nat, gk = R.length - k ∧ k ≤ R.length ∧ okv = .bool true ∧ kv = .int .i64 (k : Int) ∧ OvInv w wr mb 47 1 farR ovR R k)
    case atStart => exact ⟨0, rfl, Nat.zero_le _, rfl, rfl, I0⟩
    case round =>
      obtain ⟨k, hgk, hk, rfl, rfl, hI⟩ := hrel
      subst hgk
      clear I0
      generalize hwo : wr = wo at *
      clear hwo
      have hOo := (hI.keep _ _ _ _ HO.out (by decide)).trans HO.out
      have hmo := ln_lt hOo
      have y6 : wo.cell? ⟨mb, 1, none⟩ = some (.slice a R.length ac) := (blk_at hOo).trans rfl
      by_cases hlt : k < R.length
      · obtain ⟨gb, rfl, hgb, ⟨cur, hcur⟩, hcell⟩ : ∃ gb, a = some ⟨gb, 0, none⟩ ∧ gb < w.heap.size ∧ (∃ cur, w.heap[gb]? = some (.cells cur 470 (0, 0))) ∧ ∀ (k : Nat) (l : Ln), R[k]? = some l → w.cell? ⟨gb, k * 2, none⟩ = some (.slice (some ⟨l.g, 0, none⟩) (l.n + 3) (l.n + 3)) ∧ w.cell? ⟨gb, k * 2 + 1, none⟩ = some (.slice l.wo l.n l.wc) := by
          rcases HRD.out with h | h
          · omega
          · exact h
        obtain ⟨⟨g, n, wo', wk, cs⟩, hl⟩ : ∃ l, R[k]? = some l := ⟨_, List.getElem?_eq_getElem hlt⟩
        have hkb := hI.keep _ _ _ _ hcur (by decide)
        have p0 := (World.cell?_of_block (w := w) (a := ⟨gb, k * 2, none⟩) hkb).trans (hcell k _ hl).1
        have p1 := (World.cell?_of_block (w := w) (a := ⟨gb, k * 2 + 1, none⟩) hkb).trans (hcell k _ hl).2
        have hgbo : gb < wo.heap.size := ln_lt (hkb.trans hcur)
        have hln := HF.out.each _ (List.mem_of_getElem? hl)
        have hmg : mb ≤ g := by have := hln.lo; dsimp only at this; omega
        have hI1 := hI.more ((Below.refl _ wo).alloc (Nat.le_refl _) (.cells #[.slice (some ⟨g, 0, none⟩) (n + 3) (n + 3), .slice wo' n wk] 470)) (by omega)
        have J0 : OvIn (wo.alloc (.cells #[.slice (some ⟨g, 0, none⟩) (n + 3) (n + 3), .slice wo' n wk] 470)) (wo.alloc (.cells #[.slice (some ⟨g, 0, none⟩) (n + 3) (n + 3), .slice wo' n wk] 470)) mb 47 1 farR ovR ⟨g, n, wo', wk, cs⟩ 0 := OvIn.start hI1 hl
        have hbx := heap_alloc_new wo (.cells #[.slice (some ⟨g, 0, none⟩) (n + 3) (n + 3), .slice wo' n wk] 470)
        clear hcell hcur hkb hI
        go_wp2_with fail
        generalize hW1 : wo.alloc (.cells #[.slice (some ⟨g, 0, none⟩) (n + 3) (n + 3), .slice wo' n wk] 470) = W1 at *
        generalize hxb : wo.heap.size = xb at *
        have hW0 : Below w0.heap.size w0 W1 := h0.trans (hI1.bel.mono h0m)
        have hxl := ln_lt hbx
        clear p0 p1 hgbo y6 hOo hW1
        go_loopg [3, 6] (n + 3) (fun gk okv iv wx => ∃ i : Nat, gk = (n + 3) - i ∧ i ≤ n + 3 ∧ okv = .bool true ∧ iv = .int .i64 (i : Int) ∧ OvIn W1 wx mb 47 1 farR ovR ⟨g, n, wo', wk, cs⟩ i)
        case atStart => exact ⟨0, rfl, Nat.zero_le _, rfl, rfl, J0⟩
        case round =>
          obtain ⟨i, hgk, hi, rfl, rfl, hJ⟩ := hrel
          subst hgk
          clear J0
          have hne : xb ≠ g := fun e => by
            obtain ⟨c2, hc2, _⟩ := hI1.todo k _ (Nat.le_refl _) hl
            rw [e] at hbx; rw [hbx] at hc2; cases hc2
          have hbxr := (hJ.oth xb hxl hne).trans hbx
          have hsm := hln.small
          have hle := hln.len
          dsimp only at hsm hle
          have z0 : wr.cell? ⟨xb, 0, none⟩ = some (.slice (some ⟨g, 0, none⟩) (n + 3) (n + 3)) := (blk_at hbxr).trans rfl
          have z1 : wr.cell? ⟨xb, 1, none⟩ = some (.slice wo' n wk) := (blk_at hbxr).trans rfl
          have hxr := ln_lt hbxr
          have hgr : g < wr.heap.size := hJ.row.lt
          by_cases hit : i < n + 3
          · by_cases hin : i < n
            · obtain ⟨rows, ⟨hrl, hrs⟩, hes, hlent⟩ := hln.want
              dsimp only at hrl hrs hes hlent
              obtain ⟨b, off, rfl, hb, hc⟩ : ∃ b off, wo' = some ⟨b, off, none⟩ ∧ b < w0.heap.size ∧ ∀ (i : Nat) (r : RowS), rows[i]? = some r → w0.cell? ⟨b, off + i, none⟩ = some (.slice r.ro r.rn r.rc) := by
                rcases hrs with h | h
                · omega
                · exact h
              obtain ⟨⟨ro, rn, rc, rcs⟩, hre⟩ : ∃ r : RowS, rows[i]? = some r := ⟨_, List.getElem?_eq_getElem (by omega)⟩
              obtain ⟨v, hve⟩ : ∃ v, cs[i]? = some v := ⟨_, List.getElem?_eq_getElem (by omega)⟩
              have hrl1 := hlent i _ v hre hve
              obtain ⟨xo, xn, xc, rfl⟩ := lent_slice hrl1
              have hBr : Below w0.heap.size w0 wr := hW0.trans (hJ.bel.mono h0m)
              have hKr : KeepL w wr [47] := hI1.keep.trans (hJ.keepL (hI1.todo k _ (Nat.le_refl _) hl))
              obtain ⟨hov, hxn⟩ := over_of hrl1 (fun l hl => (HC.out l hl).typedL hKr (by decide)) hCs
              dsimp only at hxn
              subst hxn
              have c0 : wr.cell? ⟨g, i, none⟩ = some (.slice xo xn xc) := (hJ.row.cell (i := i) (by dsimp only; omega)).trans (by rw [ov_at (by omega), lent_at hve])
              have d0 : wr.cell? ⟨b, off + i, none⟩ = some (.slice ro xn rc) := (hBr.cell (p := ⟨b, off + i, none⟩) hb).trans (hc i _ hre)
              have hbr : b < wr.heap.size := by have := hBr.size; omega
              have HOC := overCells_any wr xo xn xc hov
              clear hc hre hve hlent hes hrs hrl hrl1 hov hKr
              go_upto_region 11 with (go_at_call 280; refine HOC.mono ?_; rintro e w6 ⟨rfl, hb6⟩)
              have z06 := (hb6.cell (p := ⟨xb, 0, none⟩) hxr).trans z0
              have z16 := (hb6.cell (p := ⟨xb, 1, none⟩) hxr).trans z1
              have c06 := (hb6.cell (p := ⟨g, i, none⟩) hgr).trans c0
              have d06 := (hb6.cell (p := ⟨b, off + i, none⟩) hbr).trans d0
              have hx6 : xb < w6.heap.size := Nat.lt_of_lt_of_le hxr hb6.size
              have hg6 : g < w6.heap.size := Nat.lt_of_lt_of_le hgr hb6.size
              have hbr6 : b < w6.heap.size := Nat.lt_of_lt_of_le hbr hb6.size
              have hJ6 := hJ.more hb6 (by omega)
              clear z0 z1 c0 d0 hxr hgr hbr HOC hJ hbxr hb6
              go_cut [3] (fun s3 wx => s3 = .bool true ∧ Below w6.heap.size w6 wx)
              case first =>
                go_region
                all_goals (go_wp2_with fail; go_meet)
                all_goals exact ⟨rfl, by first | exact Below.refl _ _ | exact (Below.refl _ _).drew⟩
              case rest =>
                obtain ⟨rfl, hBx⟩ := hcut
                have hJ1 := hJ6.more hBx (by omega)
                clear z06 z16 c06 d06 hx6 hg6 hbr6 hJ6
                generalize hwy : wc = wy at *
                clear hwy
                have hbxr := (hJ1.oth xb hxl hne).trans hbx
                have z0 : wy.cell? ⟨xb, 0, none⟩ = some (.slice (some ⟨g, 0, none⟩) (n + 3) (n + 3)) := (blk_at hbxr).trans rfl
                have hxr := ln_lt hbxr
                have hgr : g < wy.heap.size := hJ1.row.lt
                have c0 := hJ1.row.cell (i := i) (by dsimp only; omega)
                have f0 := hJ1.row.frozen i
                dsimp only at c0 f0
                clear hbxr
                go_wp2_with fail
                go_roundg (n + 3 - (i + 1))
                all_goals first
                  | omega
                  | exact ⟨i + 1, rfl, by omega, rfl, by go_num, hJ1.put1 hmg rfl⟩
            · have hd1 : decide ((i : Int) < (n : Int)) = false := by simp; omega
              have hd2 : n ≤ i := by omega
              have hd3 : decide (n ≤ i) = true := by simp; omega
              have c0 : wr.cell? ⟨g, i, none⟩ = some (.slice none 0 0) := (hJ.row.cell (i := i) (by dsimp only; omega)).trans (by rw [ov_at (by omega), lent_far (by dsimp only; omega)]; rfl)
              have f0 := hJ.row.frozen i
              dsimp only at f0
              clear hbxr
              go_wp2_with fail
              go_roundg (n + 3 - (i + 1))
              all_goals first
                | omega
                | exact ⟨i + 1, rfl, by omega, rfl, by go_num, hJ.put1 hmg rfl⟩
          · obtain rfl : i = n + 3 := by omega
            have hN := hI1.next hl hJ HF.out.apart
            clear hJ hI1
            go_wp2_with fail
            go_roundg (R.length - (k + 1))
            all_goals first
              | omega
              | exact ⟨k + 1, rfl, by omega, rfl, by go_num, hN⟩
      · obtain rfl : k = R.length := by omega
        clear hOo
        go_wp2_with fail
        go_meet
        exact ⟨rfl, hI⟩
  case rest =>
    obtain ⟨rfl, hI1⟩ := hcut
    generalize hw1 : wc = w1 at *
    clear hw1 hR hrd1
    have HB1 : Hid _ := HHB.out.typedL hI1.keep (by decide) (by decide)
    have HO1 : Hid _ := (hI1.keep _ _ _ _ HO.out (by decide)).trans HO.out
    have h01 : Below w0.heap.size w0 w1 := h0.trans (hI1.bel.mono h0m)
    have HI1 : Hid _ := hI1
    have hRs : ∀ l ∈ R, l.n ≤ 1048576 := fun l hl => (HF.out.each l hl).small
    clear hI1 HO HHB
    go_upto_block 4 with fail
    refine large_tables w0 w1 mb _ a5 ac5 R X K B HO1.out rfl HB1.out HI1.out.all hRs (fun l hl => (HX.out l hl).typedL HI1.out.keep (by decide)) hXs (fun l hl => (HK.out l hl).typedL HI1.out.keep (by decide)) hKs h01 h0m hlB _ _ _ _ _ _ _ _ _ _ _ _ _ _ _ _ _ _ _ _ _ _ _ _ _ _ _ _ _ _ _ _ _ _ _ _ _ _ _ _ _ _ _ _ _ _ _ _ _ _ _ _ _ _ _ _ _ _ _ _ _ _ _ _ _ _ _ _ _ _ _ _ _ _ _ _ _ _ _ _ _ _ _ _ _ _ _ _ _ _ _ _ _ _ _ _ _ _ _ _ _ _ _ _ _ _ _ _ _ _ _ _ _ _ _ _ _ _ _ _ _ _ _ _ _ _ _ _ _ _ _ _ _ _ _ _ _ _ _ _ _ _ _ _ _ _ _ _ _ _ _ _ _ _ _ _ _ _ _ _ _ _ _ _ _ _ _ _ _ _ _ _ _ _ _ _ _ _ _ _ _ _ _ _ _ _ _ _ _ _ _ _ _ _ _ _ _ _ _ _ _ _ _ _ _ _ _ _ ?_
    intro v8 v9 v10 v11 v12 v13 v80 v81 v82 v83 v84 v85 v86 v87 v88 v89 v90 v91 v92 v93 v94 v95 v96 v97 v98 v99 v100 v101 v102 v103 v104 v105 v106 v107 v108 v109 v110 v111 v112 v113 v114 v115 v116 v117 v118 v119 v120 v121 v122 v123 v124 v125 v126 v127 v128 v129 v130 v131 v132 v133 v134 v135 v136 v137 v138 v139 v140 v141 v142 v143 v144 v145 v146 v147 v148 v149 v150 v151 v152 v153 v154 v155 v156 v157 v158 v159 v160 v161 v162 v163 v164 v165 v166 v167 v168 v169 v170 v171 v172 v173 v174 v175 v176 v177 v178 v179 v180 v181 v182 v183 v184 v185 v186 v187 v188 v189 v190 v191 v192 v193 v194 v195 v196 v197 v198 v199 v200 v201 v202 v203 v204 v205 v206 v207 w2 hI2
    dsimp only
    have HI2 : Hid _ := hI2
    clear hI2
    go_wp2_with fail
    go_ret
    exact ⟨rfl, (HI1.out.keep.mono (by decide)).trans (HI2.out.keep.mono (by decide)), HI1.out.bel.trans HI2.out.bel⟩
end Go.Proofs.YtilfjpmeededmaaGreatDoor

namespace Go.Proofs.YtilfjpmeededmaaGreatDoor
open Go.RowKit
set_option maxHeartbeats 8000000 in
set_option maxRecDepth 100000 in
theorem plain_any (w0 w : World) (mb : Nat) (v0 v1 v2 v4 v5 : Value) (a : Option Addr) (an ac : Nat) (F : List Ln) (hO : w.heap[mb]? = some (.cells #[v0, v1, v2, .slice none 0 0, v4, v5, .slice a an ac, .slice none 0 0, .slice none 0 0] 256 (0, 0)))
    (hF : LnsIn (WtL TyF w0 3) w 39 361 3 farF mb (.slice a an ac) F) (h0 : Below w0.heap.size w0 w) (h0m : w0.heap.size ≤ mb) (hlen : F.length ≤ 2199023255552) :
    Calls Tryz.prog 197 #[.pointer (some ⟨mb, 0, none⟩)] w fun e w' => e = .returned (.bool true) ∧ Below mb w w' := by
  have hml := ln_lt hO
  obtain ⟨han, hrd⟩ := loan_read hF
  have I0 : OvInv w w mb 39 3 farF ovFn F 0 := OvInv.start hF
  have HF : Hid _ := hF
  have HRD : Hid _ := hrd
  subst han
  clear hF hrd
  go_enter Tryz.func197, Tryz.ntmps197
  go_wp2_with fail
  go_loopg [3, 4] F.length (fun gk okv kv wr => ∃ k : Nat, gk = F.length - k ∧ k ≤ F.length ∧ okv = .bool true ∧ kv = .int .i64 (k : Int) ∧ OvInv w wr mb 39 3 farF ovFn F k)
  case atStart => exact ⟨0, rfl, Nat.zero_le _, rfl, rfl, I0⟩
  case round =>
    obtain ⟨k, hgk, hk, rfl, rfl, hI⟩ := hrel
    subst hgk
    clear I0
    generalize hwo : wr = wo at *
    clear hwo
    have hOo := (hI.keep _ _ _ _ hO (by decide)).trans hO
    have hmo := ln_lt hOo
    have y6 : wo.cell? ⟨mb, 6, none⟩ = some (.slice a F.length ac) := (blk_at hOo).trans rfl
    by_cases hlt : k < F.length
    · obtain ⟨gb, rfl, hgb, ⟨cur, hcur⟩, hcell⟩ : ∃ gb, a = some ⟨gb, 0, none⟩ ∧ gb < w.heap.size ∧ (∃ cur, w.heap[gb]? = some (.cells cur 361 (0, 0))) ∧ ∀ (k : Nat) (l : Ln), F[k]? = some l → w.cell? ⟨gb, k * 2, none⟩ = some (.slice (some ⟨l.g, 0, none⟩) (l.n + 3) (l.n + 3)) ∧ w.cell? ⟨gb, k * 2 + 1, none⟩ = some (.slice l.wo l.n l.wc) := by
        rcases HRD.out with h | h
        · omega
        · exact h
      obtain ⟨⟨g, n, wo', wk, cs⟩, hl⟩ : ∃ l, F[k]? = some l := ⟨_, List.getElem?_eq_getElem hlt⟩
      have hkb := hI.keep _ _ _ _ hcur (by decide)
      have p0 := (World.cell?_of_block (w := w) (a := ⟨gb, k * 2, none⟩) hkb).trans (hcell k _ hl).1
      have p1 := (World.cell?_of_block (w := w) (a := ⟨gb, k * 2 + 1, none⟩) hkb).trans (hcell k _ hl).2
      have hgbo : gb < wo.heap.size := ln_lt (hkb.trans hcur)
      have hln := HF.out.each _ (List.mem_of_getElem? hl)
      have hmg : mb ≤ g := by have := hln.lo; dsimp only at this; omega
      have J0 : OvIn (wo.alloc (.cells #[.slice (some ⟨g, 0, none⟩) (n + 3) (n + 3), .slice wo' n wk] 361)) (wo.alloc (.cells #[.slice (some ⟨g, 0, none⟩) (n + 3) (n + 3), .slice wo' n wk] 361)) mb 39 3 farF ovFn ⟨g, n, wo', wk, cs⟩ 0 := OvIn.start (hI.more ((Below.refl _ wo).alloc (Nat.le_refl _) _) (by omega)) hl
      have hI1 := hI.more ((Below.refl _ wo).alloc (Nat.le_refl _) (.cells #[.slice (some ⟨g, 0, none⟩) (n + 3) (n + 3), .slice wo' n wk] 361)) (by omega)
      have hbx := heap_alloc_new wo (.cells #[.slice (some ⟨g, 0, none⟩) (n + 3) (n + 3), .slice wo' n wk] 361)
      clear hcell hcur hkb hI
      go_wp2_with fail
      generalize hW1 : wo.alloc (.cells #[.slice (some ⟨g, 0, none⟩) (n + 3) (n + 3), .slice wo' n wk] 361) = W1 at *
      generalize hxb : wo.heap.size = xb at *
      have hW0 : Below w0.heap.size w0 W1 := h0.trans (hI1.bel.mono h0m)
      have hxl := ln_lt hbx
      clear p0 p1 hgbo y6 hOo hW1
      go_loopg [3, 6] (n + 3) (fun gk okv iv wx => ∃ i : Nat, gk = (n + 3) - i ∧ i ≤ n + 3 ∧ okv = .bool true ∧ iv = .int .i64 (i : Int) ∧ OvIn W1 wx mb 39 3 farF ovFn ⟨g, n, wo', wk, cs⟩ i)
      case atStart => exact ⟨0, rfl, Nat.zero_le _, rfl, rfl, J0⟩
      case round =>
        obtain ⟨i, hgk, hi, rfl, rfl, hJ⟩ := hrel
        subst hgk
        clear J0
        have hne : xb ≠ g := fun e => by
          obtain ⟨c, hc, _⟩ := hJ.row
          have hx := (hI1.todo k _ (Nat.le_refl _) hl)
          obtain ⟨c2, hc2, _⟩ := hx
          rw [e] at hbx; rw [hbx] at hc2; cases hc2
        have hbxr := (hJ.oth xb hxl hne).trans hbx
        have hsm := hln.small
        dsimp only at hsm
        have z0 : wr.cell? ⟨xb, 0, none⟩ = some (.slice (some ⟨g, 0, none⟩) (n + 3) (n + 3)) := (blk_at hbxr).trans rfl
        have z1 : wr.cell? ⟨xb, 1, none⟩ = some (.slice wo' n wk) := (blk_at hbxr).trans rfl
        have hxr := ln_lt hbxr
        have hgr := hJ.row.lt
        by_cases hit : i < n + 3
        · by_cases hin : i < n
          · obtain ⟨b, off, rfl, hb, hc⟩ : ∃ b off, wo' = some ⟨b, off, none⟩ ∧ b < w0.heap.size ∧ ∀ j v, cs[j]? = some v → w0.cell? ⟨b, off + j, none⟩ = some v := by
              rcases hln.want.1.2 with h | h
              · dsimp only at h; omega
              · exact h
            obtain ⟨s, t, u, t0, t1, t2⟩ := hln.want.2 i hin
            have hBr : Below w0.heap.size w0 wr := hW0.trans (hJ.bel.mono h0m)
            have c0 : wr.cell? ⟨g, i * 3, none⟩ = some (.string s) := (hJ.row.cell (i := i * 3) (by dsimp only; omega)).trans (by rw [ov_at (Nat.le_refl _), lent_at t0])
            have c1 : wr.cell? ⟨g, i * 3 + 1, none⟩ = some (.string t) := (hJ.row.cell (i := i * 3 + 1) (by dsimp only; omega)).trans (by rw [ov_at (by omega), lent_at t1])
            have c2 : wr.cell? ⟨g, i * 3 + 2, none⟩ = some (.string u) := (hJ.row.cell (i := i * 3 + 2) (by dsimp only; omega)).trans (by rw [ov_at (by omega), lent_at t2])
            have d0 : wr.cell? ⟨b, off + i * 3, none⟩ = some (.string s) := (hBr.cell (p := ⟨b, off + i * 3, none⟩) hb).trans (hc _ _ t0)
            have d1 : wr.cell? ⟨b, off + i * 3 + 1, none⟩ = some (.string t) := (hBr.cell (p := ⟨b, off + i * 3 + 1, none⟩) hb).trans (hc _ _ t1)
            have d2 : wr.cell? ⟨b, off + i * 3 + 2, none⟩ = some (.string u) := (hBr.cell (p := ⟨b, off + i * 3 + 2, none⟩) hb).trans (hc _ _ t2)
            have hbr : b < wr.heap.size := by have := hBr.size; omega
            clear hc t0 t1 t2
            go_upto_region 9 with fail
            go_cut [3] (fun s3 wx => s3 = .bool true ∧ Below wr.heap.size wr wx)
            case first =>
              go_region
              all_goals (go_wp2_with fail; go_meet)
              all_goals exact ⟨rfl, by first | exact Below.refl _ _ | exact (Below.refl _ _).drew⟩
            case rest =>
              obtain ⟨rfl, hBx⟩ := hcut
              have hJ1 := hJ.more hBx (by omega)
              clear c0 c1 c2 d0 d1 d2 z0 z1 hxr hgr hJ hbxr
              generalize hwy : wc = wy at *
              clear hwy
              have hbxr := (hJ1.oth xb hxl hne).trans hbx
              have z0 : wy.cell? ⟨xb, 0, none⟩ = some (.slice (some ⟨g, 0, none⟩) (n + 3) (n + 3)) := (blk_at hbxr).trans rfl
              have hxr := ln_lt hbxr
              have hgr : g < wy.heap.size := hJ1.row.lt
              have c0 := hJ1.row.cell (i := i * 3) (by dsimp only; omega)
              have c1 := hJ1.row.cell (i := i * 3 + 1) (by dsimp only; omega)
              have c2 := hJ1.row.cell (i := i * 3 + 2) (by dsimp only; omega)
              have f0 := hJ1.row.frozen (i * 3)
              have f1 := hJ1.row.frozen (i * 3 + 1)
              have f2 := hJ1.row.frozen (i * 3 + 2)
              dsimp only at c0 c1 c2 f0 f1 f2
              clear hbxr
              go_wp2_with fail
              go_roundg (n + 3 - (i + 1))
              all_goals first
                | omega
                | exact ⟨i + 1, rfl, by omega, rfl, by go_num, hJ1.put3 hmg rfl rfl rfl⟩
          · have hd1 : decide ((i : Int) < (n : Int)) = false := by simp; omega
            have hd2 : n ≤ i := by omega
            have hd3 : decide (n ≤ i) = true := by simp; omega
            have c0 : wr.cell? ⟨g, i * 3, none⟩ = some (.string ⟨#[98, 101, 121, 111, 110, 100]⟩) := (hJ.row.cell (i := i * 3) (by dsimp only; omega)).trans (by rw [ov_at (Nat.le_refl _), lent_far (by have := hln.len; dsimp only at this; dsimp only; omega), show i * 3 % 3 = 0 by omega]; rfl)
            have c1 : wr.cell? ⟨g, i * 3 + 1, none⟩ = some (.string ⟨#[]⟩) := (hJ.row.cell (i := i * 3 + 1) (by dsimp only; omega)).trans (by rw [ov_at (by omega), lent_far (by have := hln.len; dsimp only at this; dsimp only; omega), show (i * 3 + 1) % 3 = 1 by omega]; rfl)
            have c2 : wr.cell? ⟨g, i * 3 + 2, none⟩ = some (.string ⟨#[]⟩) := (hJ.row.cell (i := i * 3 + 2) (by dsimp only; omega)).trans (by rw [ov_at (by omega), lent_far (by have := hln.len; dsimp only at this; dsimp only; omega), show (i * 3 + 2) % 3 = 2 by omega]; rfl)
            go_upto_region 9 with fail
            go_cut [3] (fun s3 wx => s3 = .bool true ∧ Below wr.heap.size wr wx)
            case first =>
              go_region
              all_goals (go_wp2_with fail; go_meet)
              all_goals exact ⟨rfl, by first | exact Below.refl _ _ | exact (Below.refl _ _).drew⟩
            case rest =>
              obtain ⟨rfl, hBx⟩ := hcut
              have hJ1 := hJ.more hBx (by omega)
              clear c0 c1 c2 z0 z1 hxr hgr hJ hbxr
              generalize hwy : wc = wy at *
              clear hwy
              have hbxr := (hJ1.oth xb hxl hne).trans hbx
              have z0 : wy.cell? ⟨xb, 0, none⟩ = some (.slice (some ⟨g, 0, none⟩) (n + 3) (n + 3)) := (blk_at hbxr).trans rfl
              have hxr := ln_lt hbxr
              have hgr : g < wy.heap.size := hJ1.row.lt
              have c0 := hJ1.row.cell (i := i * 3) (by dsimp only; omega)
              have c1 := hJ1.row.cell (i := i * 3 + 1) (by dsimp only; omega)
              have c2 := hJ1.row.cell (i := i * 3 + 2) (by dsimp only; omega)
              have f0 := hJ1.row.frozen (i * 3)
              have f1 := hJ1.row.frozen (i * 3 + 1)
              have f2 := hJ1.row.frozen (i * 3 + 2)
              dsimp only at c0 c1 c2 f0 f1 f2
              clear hbxr
              go_wp2_with fail
              go_roundg (n + 3 - (i + 1))
              all_goals first
                | omega
                | exact ⟨i + 1, rfl, by omega, rfl, by go_num, hJ1.put3 hmg rfl rfl rfl⟩
        · obtain rfl : i = n + 3 := by omega
          have hN := hI1.next hl hJ HF.out.apart
          clear hJ hI1
          go_wp2_with fail
          go_roundg (F.length - (k + 1))
          all_goals first
            | omega
            | exact ⟨k + 1, rfl, by omega, rfl, by go_num, hN⟩
    · obtain rfl : k = F.length := by omega
      have y7 : wo.cell? ⟨mb, 7, none⟩ = some (.slice none 0 0) := (blk_at hOo).trans rfl
      have y8 : wo.cell? ⟨mb, 8, none⟩ = some (.slice none 0 0) := (blk_at hOo).trans rfl
      have hBf := hI.bel
      clear hI hOo
      go_wp2_with fail
      go_loopw [3, 7] (fun ov iv wx => ov = .bool true ∧ iv = .int .i64 0 ∧ wx = wo) (fun _ _ _ => 0)
      case atStart => exact ⟨rfl, rfl, rfl⟩
      case round =>
        obtain ⟨rfl, rfl, hw6⟩ := hrel
        cases hw6
        go_wp2_with fail
        go_loopw [3, 10] (fun ov iv wx => ov = .bool true ∧ iv = .int .i64 0 ∧ wx = wo) (fun _ _ _ => 0)
        case atStart => exact ⟨rfl, rfl, rfl⟩
        case round =>
          obtain ⟨rfl, rfl, hw8⟩ := hrel
          cases hw8
          go_wp2_with fail
          go_ret
          exact ⟨rfl, hBf⟩
end Go.Proofs.YtilfjpmeededmaaGreatDoor

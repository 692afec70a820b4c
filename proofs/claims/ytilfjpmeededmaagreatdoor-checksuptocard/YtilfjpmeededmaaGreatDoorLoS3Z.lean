import Derived.Test.YtilfjpmeededmaaGreatDoorLoLZ
import Derived.Deep.LoopGhost
import Derived.Deep.RegionWith
import Derived.Deep.CutBlock
set_option linter.unusedVariables false
set_option linter.unusedSimpArgs false
namespace Go.Proofs.YtilfjpmeededmaaGreatDoor
open Go.RowKit
def smBlk4 (f : Func) : Code := ((f.body.bind (findBlk 4)).getD .skip)
set_option maxHeartbeats 40000000 in
set_option maxRecDepth 100000 in
theorem small_texts (w0 w : World) (mb : Nat) (lv : Array Value) (a : Option Addr) (ac : Nat) (X : List Ln) (hO : w.heap[mb]? = some (.cells lv 256 (0, 0))) (hlv : lv[2]? = some (.slice a X.length ac)) (hL : LnsIn (WtL TyX w0 1) w 9 472 1 farX mb (.slice a X.length ac) X)
    (h0W : Below w0.heap.size w0 w) (h0m : w0.heap.size ≤ mb) (hlen : X.length ≤ 2199023255552) (u1 u2 u4 u5 u6 u8 u9 u10 u11 u12 u13 u14 u15 u16 u17 u18 u19 u20 u21 u22 u23 u24 u25 u26 u27 u28 u29 u30 u31 u32 u33 u34 u35 u36 u37 u38 u39 u40 u41 u42 u43 u44 u45 u46 u47 u48 u49 u50 u51 u52 u53 u54 u55 u56 u57 u58 u59 u60 u61 u62 u63 u64 u65 u66 u67 u68 u69 u70 u71 u72 u73 u74 u75 u76 u77 u78 u79 u80 u81 u82 u83 u84 u85 u86 u87 u88 u89 u90 u91 u92 u93 u94 u95 u96 u97 u98 u99 u100 u101 u102 u103 u104 u105 u106 u107 u108 u109 u110 u111 u112 u113 u114 u115 u116 u117 u118 u119 u120 u121 u122 u123 u124 u125 u126 u127 u128 u129 u130 u131 u132 u133 u134 u135 u136 u137 u138 u139 u140 u141 u142 u143 u144 u145 u146 u147 u148 u149 u150 u151 u152 u153 u154 u155 u156 u157 u158 u159 u160 u161 u162 u163 u164 u165 u166 u167 u168 u169 u170 u171 u172 u173 u174 u175 u176 u177 u178 u179 u180 u181 u182 u183 u184 u185 u186 u187 u188 u189 u190 u191 u192 u193 u194 u195 u196 u197 u198 u199 u200 u201 u202 u203 u204 u205 u206 u207 u208 u209 u210 u211 u212 u213 u214 u215 u216 u217 u218 u219 u220 u221 u222 u223 u224 u225 u226 u227 u228 u229 u230 u231 u232 u233 u234 u235 u236 u237 u238 u239 u240 u241 u242 u243 u244 u245 u246 u247 u248 u249 u250 u251 u252 u253 u254 u255 u256 u257 u258 u259 u260 u261 u262 u263 u264 u265 u266 u267 u268 u269 u270 u271 u272 : Value) (K0 : Act → World → Prop) (P : Ending → World → Prop)
    (hK0 : ∀ (v7 v8 v9 v81 v82 v83 v84 v85 v86 v87 v88 v89 v90 v91 v92 v93 v94 v95 v96 v97 v98 v99 v100 v101 v102 v103 v104 v105 v106 v107 v108 v109 v110 v111 v112 v113 v114 v115 v116 v117 v118 v119 v120 v121 v122 v123 v124 v125 v126 v127 v128 v129 v130 v131 v132 v133 v134 v135 v136 v137 v138 v139 v140 v141 v142 v143 : Value) (wx : World), OvInv w wx mb 9 1 farX ovX X X.length → K0 ⟨#[.pointer (some ⟨mb, 0, none⟩), u1, u2, .bool true, u4, u5, u6, v7, v8, v9, u10, u11, u12, u13, u14, u15, u16, u17, u18, u19, u20, u21, u22, u23, u24, u25, u26, u27, u28, u29, u30, u31, u32, u33, u34, u35, u36, u37, u38, u39, u40, u41, u42, u43, u44, u45, u46, u47, u48, u49, u50, u51, u52, u53, u54, u55, u56, u57, u58, u59, u60, u61, u62, u63, u64, u65, u66, u67, u68, u69, u70, u71, u72, u73, u74, u75, u76, u77, u78, u79, u80, v81, v82, v83, v84, v85, v86, v87, v88, v89, v90, v91, v92, v93, v94, v95, v96, v97, v98, v99, v100, v101, v102, v103, v104, v105, v106, v107, v108, v109, v110, v111, v112, v113, v114, v115, v116, v117, v118, v119, v120, v121, v122, v123, v124, v125, v126, v127, v128, v129, v130, v131, v132, v133, v134, v135, v136, v137, v138, v139, v140, v141, v142, v143, u144, u145, u146, u147, u148, u149, u150, u151, u152, u153, u154, u155, u156, u157, u158, u159, u160, u161, u162, u163, u164, u165, u166, u167, u168, u169, u170, u171, u172, u173, u174, u175, u176, u177, u178, u179, u180, u181, u182, u183, u184, u185, u186, u187, u188, u189, u190, u191, u192, u193, u194, u195, u196, u197, u198, u199, u200, u201, u202, u203, u204, u205, u206, u207, u208, u209, u210, u211, u212, u213, u214, u215, u216, u217, u218, u219, u220, u221, u222, u223, u224, u225, u226, u227, u228, u229, u230, u231, u232, u233, u234, u235, u236, u237, u238, u239, u240, u241, u242, u243, u244, u245, u246, u247, u248, u249, u250, u251, u252, u253, u254, u255, u256, u257, u258, u259, u260, u261, u262, u263, u264, u265, u266, u267, u268, u269, u270, u271, u272], []⟩ wx) :
    Code.wp Tryz.prog (smBlk4 Tryz.f195) (Exit.then K0 (bodyPost Tryz.prog Tryz.f195 P)) ⟨#[.pointer (some ⟨mb, 0, none⟩), u1, u2, .bool true, u4, u5, u6, .int .i64 0, u8, u9, u10, u11, u12, u13, u14, u15, u16, u17, u18, u19, u20, u21, u22, u23, u24, u25, u26, u27, u28, u29, u30, u31, u32, u33, u34, u35, u36, u37, u38, u39, u40, u41, u42, u43, u44, u45, u46, u47, u48, u49, u50, u51, u52, u53, u54, u55, u56, u57, u58, u59, u60, u61, u62, u63, u64, u65, u66, u67, u68, u69, u70, u71, u72, u73, u74, u75, u76, u77, u78, u79, u80, u81, u82, u83, u84, u85, u86, u87, u88, u89, u90, u91, u92, u93, u94, u95, u96, u97, u98, u99, u100, u101, u102, u103, u104, u105, u106, u107, u108, u109, u110, u111, u112, u113, u114, u115, u116, u117, u118, u119, u120, u121, u122, u123, u124, u125, u126, u127, u128, u129, u130, u131, u132, u133, u134, u135, u136, u137, u138, u139, u140, u141, u142, u143, u144, u145, u146, u147, u148, u149, u150, u151, u152, u153, u154, u155, u156, u157, u158, u159, u160, u161, u162, u163, u164, u165, u166, u167, u168, u169, u170, u171, u172, u173, u174, u175, u176, u177, u178, u179, u180, u181, u182, u183, u184, u185, u186, u187, u188, u189, u190, u191, u192, u193, u194, u195, u196, u197, u198, u199, u200, u201, u202, u203, u204, u205, u206, u207, u208, u209, u210, u211, u212, u213, u214, u215, u216, u217, u218, u219, u220, u221, u222, u223, u224, u225, u226, u227, u228, u229, u230, u231, u232, u233, u234, u235, u236, u237, u238, u239, u240, u241, u242, u243, u244, u245, u246, u247, u248, u249, u250, u251, u252, u253, u254, u255, u256, u257, u258, u259, u260, u261, u262, u263, u264, u265, u266, u267, u268, u269, u270, u271, u272], []⟩ w := by
  conv => arg 2; whnf
  have HK0 : Hid _ := hK0
  have I0 : OvInv w w mb 9 1 farX ovX X 0 := OvInv.start hL
  have HF : Hid _ := hL
  have HRD : Hid _ := (loan_read hL).2
  have HO : Hid _ := hO
  have hml := ln_lt hO
  clear hK0 hL hO
  go_wp2_with fail
  go_loopg [3, 7] X.length (fun gk okv kv wr => ∃ k : Nat, gk = X.length - k ∧ k ≤ X.length ∧ okv = .bool true ∧ kv = .int .i64 (k : Int) ∧ OvInv w wr mb 9 1 farX ovX X k)
  case atStart => exact ⟨0, rfl, Nat.zero_le _, rfl, rfl, I0⟩
  case round =>
    obtain ⟨k, hgk, hk, rfl, rfl, hI⟩ := hrel
    subst hgk
    clear I0
    generalize hwo : wr = wo at *
    clear hwo
    have hOo := (hI.keep _ _ _ _ HO.out (by decide)).trans HO.out
    have hmo := ln_lt hOo
    have y6 : wo.cell? ⟨mb, 2, none⟩ = some (.slice a X.length ac) := (blk_at hOo).trans hlv
    by_cases hlt : k < X.length
    · obtain ⟨gb, rfl, hgb, ⟨cur, hcur⟩, hcell⟩ : ∃ gb, a = some ⟨gb, 0, none⟩ ∧ gb < w.heap.size ∧ (∃ cur, w.heap[gb]? = some (.cells cur 472 (0, 0))) ∧ ∀ (k : Nat) (l : Ln), X[k]? = some l → w.cell? ⟨gb, k * 2, none⟩ = some (.slice (some ⟨l.g, 0, none⟩) (l.n + 3) (l.n + 3)) ∧ w.cell? ⟨gb, k * 2 + 1, none⟩ = some (.slice l.wo l.n l.wc) := by
        rcases HRD.out with h | h
        · omega
        · exact h
      obtain ⟨⟨g, n, wo', wk, cs⟩, hl⟩ : ∃ l, X[k]? = some l := ⟨_, List.getElem?_eq_getElem hlt⟩
      have hkb := hI.keep _ _ _ _ hcur (by decide)
      have p0 := (World.cell?_of_block (w := w) (a := ⟨gb, k * 2, none⟩) hkb).trans (hcell k _ hl).1
      have p1 := (World.cell?_of_block (w := w) (a := ⟨gb, k * 2 + 1, none⟩) hkb).trans (hcell k _ hl).2
      have hgbo : gb < wo.heap.size := ln_lt (hkb.trans hcur)
      have hln := HF.out.each _ (List.mem_of_getElem? hl)
      have hmg : mb ≤ g := by have := hln.lo; dsimp only at this; omega
      have hI1 := hI.more ((Below.refl _ wo).alloc (Nat.le_refl _) (.cells #[.slice (some ⟨g, 0, none⟩) (n + 3) (n + 3), .slice wo' n wk] 472)) (by omega)
      have J0 : OvIn (wo.alloc (.cells #[.slice (some ⟨g, 0, none⟩) (n + 3) (n + 3), .slice wo' n wk] 472)) (wo.alloc (.cells #[.slice (some ⟨g, 0, none⟩) (n + 3) (n + 3), .slice wo' n wk] 472)) mb 9 1 farX ovX ⟨g, n, wo', wk, cs⟩ 0 := OvIn.start hI1 hl
      have hbx := heap_alloc_new wo (.cells #[.slice (some ⟨g, 0, none⟩) (n + 3) (n + 3), .slice wo' n wk] 472)
      clear hcell hcur hkb hI
      go_wp2_with fail
      generalize hW1 : wo.alloc (.cells #[.slice (some ⟨g, 0, none⟩) (n + 3) (n + 3), .slice wo' n wk] 472) = W1 at *
      generalize hxb : wo.heap.size = xb at *
      have hW0 : Below w0.heap.size w0 W1 := h0W.trans (hI1.bel.mono h0m)
      have hxl := ln_lt hbx
      clear p0 p1 hgbo y6 hOo hW1
      go_loopg [3, 9] (n + 3) (fun gk okv iv wx => ∃ i : Nat, gk = (n + 3) - i ∧ i ≤ n + 3 ∧ okv = .bool true ∧ iv = .int .i64 (i : Int) ∧ OvIn W1 wx mb 9 1 farX ovX ⟨g, n, wo', wk, cs⟩ i)
      case atStart => exact ⟨0, rfl, Nat.zero_le _, rfl, rfl, J0⟩
      case round =>
        obtain ⟨i, hgk, hi, rfl, rfl, hJ⟩ := hrel
        subst hgk
        clear J0
        have hne : xb ≠ g := fun e => by
          obtain ⟨c2, hc2, _⟩ := hI1.todo k _ (Nat.le_refl _) hl
          rw [e] at hbx; rw [hbx] at hc2; cases hc2
        have hbxr := (hJ.oth xb hxl hne).trans hbx
        have hsm := hln.small
        dsimp only at hsm
        have z0 : wr.cell? ⟨xb, 0, none⟩ = some (.slice (some ⟨g, 0, none⟩) (n + 3) (n + 3)) := (blk_at hbxr).trans rfl
        have z1 : wr.cell? ⟨xb, 1, none⟩ = some (.slice wo' n wk) := (blk_at hbxr).trans rfl
        have hxr := ln_lt hbxr
        have hgr : g < wr.heap.size := hJ.row.lt
        by_cases hit : i < n + 3
        · by_cases hin : i < n
          · obtain ⟨b, off, rfl, hb, hc⟩ : ∃ b off, wo' = some ⟨b, off, none⟩ ∧ b < w0.heap.size ∧ ∀ j v, cs[j]? = some v → w0.cell? ⟨b, off + j, none⟩ = some v := by
              rcases hln.want.1.2 with h | h
              · dsimp only at h; omega
              · exact h
            obtain ⟨s, t0⟩ := hln.want.2 i hin
            have hBr : Below w0.heap.size w0 wr := hW0.trans (hJ.bel.mono h0m)
            have c0 : wr.cell? ⟨g, i, none⟩ = some (.string s) := (hJ.row.cell (i := i) (by dsimp only; omega)).trans (by rw [ov_at (by omega), lent_at t0])
            have d0 : wr.cell? ⟨b, off + i, none⟩ = some (.string s) := (hBr.cell (p := ⟨b, off + i, none⟩) hb).trans (hc _ _ t0)
            have hbr : b < wr.heap.size := by have := hBr.size; omega
            clear hc t0
            go_upto_region 18 with fail
            go_cut [3] (fun s3 wx => s3 = .bool true ∧ Below wr.heap.size wr wx)
            case first =>
              go_region
              all_goals (go_wp2_with fail; go_meet)
              all_goals exact ⟨rfl, by first | exact Below.refl _ _ | exact (Below.refl _ _).drew⟩
            case rest =>
              obtain ⟨rfl, hBx⟩ := hcut
              have hJ1 := hJ.more hBx (by omega)
              clear c0 d0 z0 z1 hxr hgr hbxr
              generalize hwy : wc = wy at *
              clear hwy
              have hbxr := (hJ1.oth xb hxl hne).trans hbx
              have z0 : wy.cell? ⟨xb, 0, none⟩ = some (.slice (some ⟨g, 0, none⟩) (n + 3) (n + 3)) := (blk_at hbxr).trans rfl
              have hxr := ln_lt hbxr
              have hgr : g < wy.heap.size := hJ1.row.lt
              have c0 := hJ1.row.cell (i := i) (by dsimp only; omega)
              have f0 := hJ1.row.frozen (i)
              dsimp only at c0 f0
              clear hbxr
              go_wp2_with fail
              go_roundg (n + 3 - (i + 1))
              all_goals first
                | omega
                | exact ⟨i + 1, rfl, by omega, rfl, by go_num, hJ1.put1 hmg rfl⟩
          · have hd1 : decide ((i : Int) < (n : Int)) = false := by simp; omega
            have hd2 : n ≤ i := by omega
            have hd3 : decide (n ≤ i) = true := by simp; omega
            have c0 : wr.cell? ⟨g, i, none⟩ = some (.string ⟨#[98, 101, 121, 111, 110, 100]⟩) := (hJ.row.cell (i := i) (by dsimp only; omega)).trans (by rw [ov_at (by omega), lent_far (by have := hln.len; dsimp only at this; dsimp only; omega), Nat.mod_one]; rfl)
            go_upto_region 18 with fail
            go_cut [3] (fun s3 wx => s3 = .bool true ∧ Below wr.heap.size wr wx)
            case first =>
              go_region
              all_goals (go_wp2_with fail; go_meet)
              all_goals exact ⟨rfl, by first | exact Below.refl _ _ | exact (Below.refl _ _).drew⟩
            case rest =>
              obtain ⟨rfl, hBx⟩ := hcut
              have hJ1 := hJ.more hBx (by omega)
              clear c0 z0 z1 hxr hgr hbxr
              generalize hwy : wc = wy at *
              clear hwy
              have hbxr := (hJ1.oth xb hxl hne).trans hbx
              have z0 : wy.cell? ⟨xb, 0, none⟩ = some (.slice (some ⟨g, 0, none⟩) (n + 3) (n + 3)) := (blk_at hbxr).trans rfl
              have hxr := ln_lt hbxr
              have hgr : g < wy.heap.size := hJ1.row.lt
              have c0 := hJ1.row.cell (i := i) (by dsimp only; omega)
              have f0 := hJ1.row.frozen (i)
              dsimp only at c0 f0
              clear hbxr
              go_wp2_with fail
              go_roundg (n + 3 - (i + 1))
              all_goals first
                | omega
                | exact ⟨i + 1, rfl, by omega, rfl, by go_num, hJ1.put1 hmg rfl⟩
        · obtain rfl : i = n + 3 := by omega
          have hN := hI1.next hl hJ HF.out.apart
          clear hJ hI1
          go_wp2_with fail
          go_roundg (X.length - (k + 1))
          all_goals first
            | omega
            | exact ⟨k + 1, rfl, by omega, rfl, by go_num, hN⟩
    · obtain rfl : k = X.length := by omega
      clear hOo
      go_wp2_with fail
      exact HK0.out _ _ _ _ _ _ _ _ _ _ _ _ _ _ _ _ _ _ _ _ _ _ _ _ _ _ _ _ _ _ _ _ _ _ _ _ _ _ _ _ _ _ _ _ _ _ _ _ _ _ _ _ _ _ _ _ _ _ _ _ _ _ _ _ _ _ _ hI
end Go.Proofs.YtilfjpmeededmaaGreatDoor

namespace Go.Proofs.YtilfjpmeededmaaGreatDoor
open Go.RowKit
def smBlk12 (f : Func) : Code := ((f.body.bind (findBlk 12)).getD .skip)
set_option maxHeartbeats 40000000 in
set_option maxRecDepth 100000 in
theorem small_cols (w0 w : World) (mb : Nat) (lv : Array Value) (a : Option Addr) (ac : Nat) (K : List Ln) (hO : w.heap[mb]? = some (.cells lv 256 (0, 0))) (hlv : lv[4]? = some (.slice a K.length ac)) (hL : LnsIn (WtL TyK w0 3) w 162 468 3 farK mb (.slice a K.length ac) K)
    (h0W : Below w0.heap.size w0 w) (h0m : w0.heap.size ≤ mb) (hlen : K.length ≤ 2199023255552) (u1 u2 u4 u5 u6 u7 u8 u9 u10 u11 u12 u14 u15 u16 u17 u18 u19 u20 u21 u22 u23 u24 u25 u26 u27 u28 u29 u30 u31 u32 u33 u34 u35 u36 u37 u38 u39 u40 u41 u42 u43 u44 u45 u46 u47 u48 u49 u50 u51 u52 u53 u54 u55 u56 u57 u58 u59 u60 u61 u62 u63 u64 u65 u66 u67 u68 u69 u70 u71 u72 u73 u74 u75 u76 u77 u78 u79 u80 u81 u82 u83 u84 u85 u86 u87 u88 u89 u90 u91 u92 u93 u94 u95 u96 u97 u98 u99 u100 u101 u102 u103 u104 u105 u106 u107 u108 u109 u110 u111 u112 u113 u114 u115 u116 u117 u118 u119 u120 u121 u122 u123 u124 u125 u126 u127 u128 u129 u130 u131 u132 u133 u134 u135 u136 u137 u138 u139 u140 u141 u142 u143 u144 u145 u146 u147 u148 u149 u150 u151 u152 u153 u154 u155 u156 u157 u158 u159 u160 u161 u162 u163 u164 u165 u166 u167 u168 u169 u170 u171 u172 u173 u174 u175 u176 u177 u178 u179 u180 u181 u182 u183 u184 u185 u186 u187 u188 u189 u190 u191 u192 u193 u194 u195 u196 u197 u198 u199 u200 u201 u202 u203 u204 u205 u206 u207 u208 u209 u210 u211 u212 u213 u214 u215 u216 u217 u218 u219 u220 u221 u222 u223 u224 u225 u226 u227 u228 u229 u230 u231 u232 u233 u234 u235 u236 u237 u238 u239 u240 u241 u242 u243 u244 u245 u246 u247 u248 u249 u250 u251 u252 u253 u254 u255 u256 u257 u258 u259 u260 u261 u262 u263 u264 u265 u266 u267 u268 u269 u270 u271 u272 : Value) (K0 : Act → World → Prop) (P : Ending → World → Prop)
    (hK0 : ∀ (v13 v14 v15 v207 v208 v209 v210 v211 v212 v213 v214 v215 v216 v217 v218 v219 v220 v221 v222 v223 v224 v225 v226 v227 v228 v229 v230 v231 v232 v233 v234 v235 v236 v237 v238 v239 v240 v241 v242 v243 v244 v245 v246 v247 v248 v249 v250 v251 v252 v253 v254 v255 v256 v257 v258 v259 v260 v261 v262 v263 v264 v265 v266 v267 v268 v269 v270 v271 : Value) (wx : World), OvInv w wx mb 162 3 farK ovK K K.length → K0 ⟨#[.pointer (some ⟨mb, 0, none⟩), u1, u2, .bool true, u4, u5, u6, u7, u8, u9, u10, u11, u12, v13, v14, v15, u16, u17, u18, u19, u20, u21, u22, u23, u24, u25, u26, u27, u28, u29, u30, u31, u32, u33, u34, u35, u36, u37, u38, u39, u40, u41, u42, u43, u44, u45, u46, u47, u48, u49, u50, u51, u52, u53, u54, u55, u56, u57, u58, u59, u60, u61, u62, u63, u64, u65, u66, u67, u68, u69, u70, u71, u72, u73, u74, u75, u76, u77, u78, u79, u80, u81, u82, u83, u84, u85, u86, u87, u88, u89, u90, u91, u92, u93, u94, u95, u96, u97, u98, u99, u100, u101, u102, u103, u104, u105, u106, u107, u108, u109, u110, u111, u112, u113, u114, u115, u116, u117, u118, u119, u120, u121, u122, u123, u124, u125, u126, u127, u128, u129, u130, u131, u132, u133, u134, u135, u136, u137, u138, u139, u140, u141, u142, u143, u144, u145, u146, u147, u148, u149, u150, u151, u152, u153, u154, u155, u156, u157, u158, u159, u160, u161, u162, u163, u164, u165, u166, u167, u168, u169, u170, u171, u172, u173, u174, u175, u176, u177, u178, u179, u180, u181, u182, u183, u184, u185, u186, u187, u188, u189, u190, u191, u192, u193, u194, u195, u196, u197, u198, u199, u200, u201, u202, u203, u204, u205, u206, v207, v208, v209, v210, v211, v212, v213, v214, v215, v216, v217, v218, v219, v220, v221, v222, v223, v224, v225, v226, v227, v228, v229, v230, v231, v232, v233, v234, v235, v236, v237, v238, v239, v240, v241, v242, v243, v244, v245, v246, v247, v248, v249, v250, v251, v252, v253, v254, v255, v256, v257, v258, v259, v260, v261, v262, v263, v264, v265, v266, v267, v268, v269, v270, v271, u272], []⟩ wx) :
    Code.wp Tryz.prog (smBlk12 Tryz.f195) (Exit.then K0 (bodyPost Tryz.prog Tryz.f195 P)) ⟨#[.pointer (some ⟨mb, 0, none⟩), u1, u2, .bool true, u4, u5, u6, u7, u8, u9, u10, u11, u12, .int .i64 0, u14, u15, u16, u17, u18, u19, u20, u21, u22, u23, u24, u25, u26, u27, u28, u29, u30, u31, u32, u33, u34, u35, u36, u37, u38, u39, u40, u41, u42, u43, u44, u45, u46, u47, u48, u49, u50, u51, u52, u53, u54, u55, u56, u57, u58, u59, u60, u61, u62, u63, u64, u65, u66, u67, u68, u69, u70, u71, u72, u73, u74, u75, u76, u77, u78, u79, u80, u81, u82, u83, u84, u85, u86, u87, u88, u89, u90, u91, u92, u93, u94, u95, u96, u97, u98, u99, u100, u101, u102, u103, u104, u105, u106, u107, u108, u109, u110, u111, u112, u113, u114, u115, u116, u117, u118, u119, u120, u121, u122, u123, u124, u125, u126, u127, u128, u129, u130, u131, u132, u133, u134, u135, u136, u137, u138, u139, u140, u141, u142, u143, u144, u145, u146, u147, u148, u149, u150, u151, u152, u153, u154, u155, u156, u157, u158, u159, u160, u161, u162, u163, u164, u165, u166, u167, u168, u169, u170, u171, u172, u173, u174, u175, u176, u177, u178, u179, u180, u181, u182, u183, u184, u185, u186, u187, u188, u189, u190, u191, u192, u193, u194, u195, u196, u197, u198, u199, u200, u201, u202, u203, u204, u205, u206, u207, u208, u209, u210, u211, u212, u213, u214, u215, u216, u217, u218, u219, u220, u221, u222, u223, u224, u225, u226, u227, u228, u229, u230, u231, u232, u233, u234, u235, u236, u237, u238, u239, u240, u241, u242, u243, u244, u245, u246, u247, u248, u249, u250, u251, u252, u253, u254, u255, u256, u257, u258, u259, u260, u261, u262, u263, u264, u265, u266, u267, u268, u269, u270, u271, u272], []⟩ w := by
  conv => arg 2; whnf
  have HK0 : Hid _ := hK0
  have I0 : OvInv w w mb 162 3 farK ovK K 0 := OvInv.start hL
  have HF : Hid _ := hL
  have HRD : Hid _ := (loan_read hL).2
  have HO : Hid _ := hO
  have hml := ln_lt hO
  clear hK0 hL hO
  go_wp2_with fail
  go_loopg [3, 13] K.length (fun gk okv kv wr => ∃ k : Nat, gk = K.length - k ∧ k ≤ K.length ∧ okv = .bool true ∧ kv = .int .i64 (k : Int) ∧ OvInv w wr mb 162 3 farK ovK K k)
  case atStart => exact ⟨0, rfl, Nat.zero_le _, rfl, rfl, I0⟩
  case round =>
    obtain ⟨k, hgk, hk, rfl, rfl, hI⟩ := hrel
    subst hgk
    clear I0
    generalize hwo : wr = wo at *
    clear hwo
    have hOo := (hI.keep _ _ _ _ HO.out (by decide)).trans HO.out
    have hmo := ln_lt hOo
    have y6 : wo.cell? ⟨mb, 4, none⟩ = some (.slice a K.length ac) := (blk_at hOo).trans hlv
    by_cases hlt : k < K.length
    · obtain ⟨gb, rfl, hgb, ⟨cur, hcur⟩, hcell⟩ : ∃ gb, a = some ⟨gb, 0, none⟩ ∧ gb < w.heap.size ∧ (∃ cur, w.heap[gb]? = some (.cells cur 468 (0, 0))) ∧ ∀ (k : Nat) (l : Ln), K[k]? = some l → w.cell? ⟨gb, k * 2, none⟩ = some (.slice (some ⟨l.g, 0, none⟩) (l.n + 3) (l.n + 3)) ∧ w.cell? ⟨gb, k * 2 + 1, none⟩ = some (.slice l.wo l.n l.wc) := by
        rcases HRD.out with h | h
        · omega
        · exact h
      obtain ⟨⟨g, n, wo', wk, cs⟩, hl⟩ : ∃ l, K[k]? = some l := ⟨_, List.getElem?_eq_getElem hlt⟩
      have hkb := hI.keep _ _ _ _ hcur (by decide)
      have p0 := (World.cell?_of_block (w := w) (a := ⟨gb, k * 2, none⟩) hkb).trans (hcell k _ hl).1
      have p1 := (World.cell?_of_block (w := w) (a := ⟨gb, k * 2 + 1, none⟩) hkb).trans (hcell k _ hl).2
      have hgbo : gb < wo.heap.size := ln_lt (hkb.trans hcur)
      have hln := HF.out.each _ (List.mem_of_getElem? hl)
      have hmg : mb ≤ g := by have := hln.lo; dsimp only at this; omega
      have hI1 := hI.more ((Below.refl _ wo).alloc (Nat.le_refl _) (.cells #[.slice (some ⟨g, 0, none⟩) (n + 3) (n + 3), .slice wo' n wk] 468)) (by omega)
      have J0 : OvIn (wo.alloc (.cells #[.slice (some ⟨g, 0, none⟩) (n + 3) (n + 3), .slice wo' n wk] 468)) (wo.alloc (.cells #[.slice (some ⟨g, 0, none⟩) (n + 3) (n + 3), .slice wo' n wk] 468)) mb 162 3 farK ovK ⟨g, n, wo', wk, cs⟩ 0 := OvIn.start hI1 hl
      have hbx := heap_alloc_new wo (.cells #[.slice (some ⟨g, 0, none⟩) (n + 3) (n + 3), .slice wo' n wk] 468)
      clear hcell hcur hkb hI
      go_wp2_with fail
      generalize hW1 : wo.alloc (.cells #[.slice (some ⟨g, 0, none⟩) (n + 3) (n + 3), .slice wo' n wk] 468) = W1 at *
      generalize hxb : wo.heap.size = xb at *
      have hW0 : Below w0.heap.size w0 W1 := h0W.trans (hI1.bel.mono h0m)
      have hxl := ln_lt hbx
      clear p0 p1 hgbo y6 hOo hW1
      go_loopg [3, 15] (n + 3) (fun gk okv iv wx => ∃ i : Nat, gk = (n + 3) - i ∧ i ≤ n + 3 ∧ okv = .bool true ∧ iv = .int .i64 (i : Int) ∧ OvIn W1 wx mb 162 3 farK ovK ⟨g, n, wo', wk, cs⟩ i)
      case atStart => exact ⟨0, rfl, Nat.zero_le _, rfl, rfl, J0⟩
      case round =>
        obtain ⟨i, hgk, hi, rfl, rfl, hJ⟩ := hrel
        subst hgk
        clear J0
        have hne : xb ≠ g := fun e => by
          obtain ⟨c2, hc2, _⟩ := hI1.todo k _ (Nat.le_refl _) hl
          rw [e] at hbx; rw [hbx] at hc2; cases hc2
        have hbxr := (hJ.oth xb hxl hne).trans hbx
        have hsm := hln.small
        dsimp only at hsm
        have z0 : wr.cell? ⟨xb, 0, none⟩ = some (.slice (some ⟨g, 0, none⟩) (n + 3) (n + 3)) := (blk_at hbxr).trans rfl
        have z1 : wr.cell? ⟨xb, 1, none⟩ = some (.slice wo' n wk) := (blk_at hbxr).trans rfl
        have hxr := ln_lt hbxr
        have hgr : g < wr.heap.size := hJ.row.lt
        by_cases hit : i < n + 3
        · by_cases hin : i < n
          · obtain ⟨b, off, rfl, hb, hc⟩ : ∃ b off, wo' = some ⟨b, off, none⟩ ∧ b < w0.heap.size ∧ ∀ j v, cs[j]? = some v → w0.cell? ⟨b, off + j, none⟩ = some v := by
              rcases hln.want.1.2 with h | h
              · dsimp only at h; omega
              · exact h
            obtain ⟨s, t, u, t0, t1, t2⟩ := hln.want.2 i hin
            have hBr : Below w0.heap.size w0 wr := hW0.trans (hJ.bel.mono h0m)
            have c0 : wr.cell? ⟨g, i * 3, none⟩ = some (.string s) := (hJ.row.cell (i := i * 3) (by dsimp only; omega)).trans (by rw [ov_at (by omega), lent_at t0])
            have c1 : wr.cell? ⟨g, i * 3 + 1, none⟩ = some (.string t) := (hJ.row.cell (i := i * 3 + 1) (by dsimp only; omega)).trans (by rw [ov_at (by omega), lent_at t1])
            have c2 : wr.cell? ⟨g, i * 3 + 2, none⟩ = some (.int .i64 u) := (hJ.row.cell (i := i * 3 + 2) (by dsimp only; omega)).trans (by rw [ov_at (by omega), lent_at t2])
            have d0 : wr.cell? ⟨b, off + i * 3, none⟩ = some (.string s) := (hBr.cell (p := ⟨b, off + i * 3, none⟩) hb).trans (hc _ _ t0)
            have d1 : wr.cell? ⟨b, off + i * 3 + 1, none⟩ = some (.string t) := (hBr.cell (p := ⟨b, off + i * 3 + 1, none⟩) hb).trans (hc _ _ t1)
            have d2 : wr.cell? ⟨b, off + i * 3 + 2, none⟩ = some (.int .i64 u) := (hBr.cell (p := ⟨b, off + i * 3 + 2, none⟩) hb).trans (hc _ _ t2)
            have hbr : b < wr.heap.size := by have := hBr.size; omega
            clear hc t0 t1 t2
            go_upto_region 36 with fail
            go_cut [3] (fun s3 wx => s3 = .bool true ∧ Below wr.heap.size wr wx)
            case first =>
              go_region
              all_goals (go_wp2_with fail; go_meet)
              all_goals exact ⟨rfl, by first | exact Below.refl _ _ | exact (Below.refl _ _).drew⟩
            case rest =>
              obtain ⟨rfl, hBx⟩ := hcut
              have hJ1 := hJ.more hBx (by omega)
              clear c0 d0 c1 d1 c2 d2 z0 z1 hxr hgr hbxr
              generalize hwy : wc = wy at *
              clear hwy
              have hbxr := (hJ1.oth xb hxl hne).trans hbx
              have z0 : wy.cell? ⟨xb, 0, none⟩ = some (.slice (some ⟨g, 0, none⟩) (n + 3) (n + 3)) := (blk_at hbxr).trans rfl
              have hxr := ln_lt hbxr
              have hgr : g < wy.heap.size := hJ1.row.lt
              have c0 := hJ1.row.cell (i := i * 3) (by dsimp only; omega)
              have c1 := hJ1.row.cell (i := i * 3 + 1) (by dsimp only; omega)
              have c2 := hJ1.row.cell (i := i * 3 + 2) (by dsimp only; omega)
              have f0 := hJ1.row.frozen (i * 3)
              have f1 := hJ1.row.frozen (i * 3 + 1)
              have f2 := hJ1.row.frozen (i * 3 + 2)
              dsimp only at c0 f0 c1 f1 c2 f2
              clear hbxr
              go_wp2_with fail
              go_roundg (n + 3 - (i + 1))
              all_goals first
                | omega
                | exact ⟨i + 1, rfl, by omega, rfl, by go_num, hJ1.put3 hmg rfl rfl rfl⟩
          · have hd1 : decide ((i : Int) < (n : Int)) = false := by simp; omega
            have hd2 : n ≤ i := by omega
            have hd3 : decide (n ≤ i) = true := by simp; omega
            have c0 : wr.cell? ⟨g, i * 3, none⟩ = some (.string ⟨#[98, 101, 121, 111, 110, 100]⟩) := (hJ.row.cell (i := i * 3) (by dsimp only; omega)).trans (by rw [ov_at (by omega), lent_far (by have := hln.len; dsimp only at this; dsimp only; omega), show (i * 3) % 3 = 0 by omega]; rfl)
            have c1 : wr.cell? ⟨g, i * 3 + 1, none⟩ = some (.string ⟨#[]⟩) := (hJ.row.cell (i := i * 3 + 1) (by dsimp only; omega)).trans (by rw [ov_at (by omega), lent_far (by have := hln.len; dsimp only at this; dsimp only; omega), show (i * 3 + 1) % 3 = 1 by omega]; rfl)
            have c2 : wr.cell? ⟨g, i * 3 + 2, none⟩ = some (.int .i64 0) := (hJ.row.cell (i := i * 3 + 2) (by dsimp only; omega)).trans (by rw [ov_at (by omega), lent_far (by have := hln.len; dsimp only at this; dsimp only; omega), show (i * 3 + 2) % 3 = 2 by omega]; rfl)
            go_upto_region 36 with fail
            go_cut [3] (fun s3 wx => s3 = .bool true ∧ Below wr.heap.size wr wx)
            case first =>
              go_region
              all_goals (go_wp2_with fail; go_meet)
              all_goals exact ⟨rfl, by first | exact Below.refl _ _ | exact (Below.refl _ _).drew⟩
            case rest =>
              obtain ⟨rfl, hBx⟩ := hcut
              have hJ1 := hJ.more hBx (by omega)
              clear c0 c1 c2 z0 z1 hxr hgr hbxr
              generalize hwy : wc = wy at *
              clear hwy
              have hbxr := (hJ1.oth xb hxl hne).trans hbx
              have z0 : wy.cell? ⟨xb, 0, none⟩ = some (.slice (some ⟨g, 0, none⟩) (n + 3) (n + 3)) := (blk_at hbxr).trans rfl
              have hxr := ln_lt hbxr
              have hgr : g < wy.heap.size := hJ1.row.lt
              have c0 := hJ1.row.cell (i := i * 3) (by dsimp only; omega)
              have c1 := hJ1.row.cell (i := i * 3 + 1) (by dsimp only; omega)
              have c2 := hJ1.row.cell (i := i * 3 + 2) (by dsimp only; omega)
              have f0 := hJ1.row.frozen (i * 3)
              have f1 := hJ1.row.frozen (i * 3 + 1)
              have f2 := hJ1.row.frozen (i * 3 + 2)
              dsimp only at c0 f0 c1 f1 c2 f2
              clear hbxr
              go_wp2_with fail
              go_roundg (n + 3 - (i + 1))
              all_goals first
                | omega
                | exact ⟨i + 1, rfl, by omega, rfl, by go_num, hJ1.put3 hmg rfl rfl rfl⟩
        · obtain rfl : i = n + 3 := by omega
          have hN := hI1.next hl hJ HF.out.apart
          clear hJ hI1
          go_wp2_with fail
          go_roundg (K.length - (k + 1))
          all_goals first
            | omega
            | exact ⟨k + 1, rfl, by omega, rfl, by go_num, hN⟩
    · obtain rfl : k = K.length := by omega
      clear hOo
      go_wp2_with fail
      exact HK0.out _ _ _ _ _ _ _ _ _ _ _ _ _ _ _ _ _ _ _ _ _ _ _ _ _ _ _ _ _ _ _ _ _ _ _ _ _ _ _ _ _ _ _ _ _ _ _ _ _ _ _ _ _ _ _ _ _ _ _ _ _ _ _ _ _ _ _ _ _ hI
end Go.Proofs.YtilfjpmeededmaaGreatDoor

import Derived.Test.YtilfjpmeededmaaGreatDoorLoLZ
import Derived.Deep.LoopGhost
import Derived.Deep.RegionWith
import Derived.Deep.CutBlock
set_option linter.unusedVariables false
set_option linter.unusedSimpArgs false
namespace Go.Proofs.YtilfjpmeededmaaGreatDoor
open Go.RowKit
def smBlk0 (f : Func) : Code := ((f.body.bind (findBlk 0)).getD .skip)
set_option maxHeartbeats 40000000 in
set_option maxRecDepth 100000 in
theorem small_cells (w0 w : World) (mb : Nat) (lv : Array Value) (a : Option Addr) (ac : Nat) (C : List Ln) (hO : w.heap[mb]? = some (.cells lv 256 (0, 0))) (hlv : lv[0]? = some (.slice a C.length ac)) (hL : LnsIn (WtL TyC w0 3) w 50 380 3 farC mb (.slice a C.length ac) C)
    (h0W : Below w0.heap.size w0 w) (h0m : w0.heap.size ≤ mb) (hlen : C.length ≤ 2199023255552) (u1 u2 u5 u6 u7 u8 u9 u10 u11 u12 u13 u14 u15 u16 u17 u18 u19 u20 u21 u22 u23 u24 u25 u26 u27 u28 u29 u30 u31 u32 u33 u34 u35 u36 u37 u38 u39 u40 u41 u42 u43 u44 u45 u46 u47 u48 u49 u50 u51 u52 u53 u54 u55 u56 u57 u58 u59 u60 u61 u62 u63 u64 u65 u66 u67 u68 u69 u70 u71 u72 u73 u74 u75 u76 u77 u78 u79 u80 u81 u82 u83 u84 u85 u86 u87 u88 u89 u90 u91 u92 u93 u94 u95 u96 u97 u98 u99 u100 u101 u102 u103 u104 u105 u106 u107 u108 u109 u110 u111 u112 u113 u114 u115 u116 u117 u118 u119 u120 u121 u122 u123 u124 u125 u126 u127 u128 u129 u130 u131 u132 u133 u134 u135 u136 u137 u138 u139 u140 u141 u142 u143 u144 u145 u146 u147 u148 u149 u150 u151 u152 u153 u154 u155 u156 u157 u158 u159 u160 u161 u162 u163 u164 u165 u166 u167 u168 u169 u170 u171 u172 u173 u174 u175 u176 u177 u178 u179 u180 u181 u182 u183 u184 u185 u186 u187 u188 u189 u190 u191 u192 u193 u194 u195 u196 u197 u198 u199 u200 u201 u202 u203 u204 u205 u206 u207 u208 u209 u210 u211 u212 u213 u214 u215 u216 u217 u218 u219 u220 u221 u222 u223 u224 u225 u226 u227 u228 u229 u230 u231 u232 u233 u234 u235 u236 u237 u238 u239 u240 u241 u242 u243 u244 u245 u246 u247 u248 u249 u250 u251 u252 u253 u254 u255 u256 u257 u258 u259 u260 u261 u262 u263 u264 u265 u266 u267 u268 u269 u270 u271 u272 : Value) (K0 : Act → World → Prop) (P : Ending → World → Prop)
    (hK0 : ∀ (v4 v5 v6 v16 v17 v18 v19 v20 v21 v22 v23 v24 v25 v26 v27 v28 v29 v30 v31 v32 v33 v34 v35 v36 v37 v38 v39 v40 v41 v42 v43 v44 v45 v46 v47 v48 v49 v50 v51 v52 v53 v54 v55 v56 v57 v58 v59 v60 v61 v62 v63 v64 v65 v66 v67 v68 v69 v70 v71 v72 v73 v74 v75 v76 v77 v78 v79 v80 : Value) (wx : World), OvInv w wx mb 50 3 farC ovC C C.length → K0 ⟨#[.pointer (some ⟨mb, 0, none⟩), u1, u2, .bool true, v4, v5, v6, u7, u8, u9, u10, u11, u12, u13, u14, u15, v16, v17, v18, v19, v20, v21, v22, v23, v24, v25, v26, v27, v28, v29, v30, v31, v32, v33, v34, v35, v36, v37, v38, v39, v40, v41, v42, v43, v44, v45, v46, v47, v48, v49, v50, v51, v52, v53, v54, v55, v56, v57, v58, v59, v60, v61, v62, v63, v64, v65, v66, v67, v68, v69, v70, v71, v72, v73, v74, v75, v76, v77, v78, v79, v80, u81, u82, u83, u84, u85, u86, u87, u88, u89, u90, u91, u92, u93, u94, u95, u96, u97, u98, u99, u100, u101, u102, u103, u104, u105, u106, u107, u108, u109, u110, u111, u112, u113, u114, u115, u116, u117, u118, u119, u120, u121, u122, u123, u124, u125, u126, u127, u128, u129, u130, u131, u132, u133, u134, u135, u136, u137, u138, u139, u140, u141, u142, u143, u144, u145, u146, u147, u148, u149, u150, u151, u152, u153, u154, u155, u156, u157, u158, u159, u160, u161, u162, u163, u164, u165, u166, u167, u168, u169, u170, u171, u172, u173, u174, u175, u176, u177, u178, u179, u180, u181, u182, u183, u184, u185, u186, u187, u188, u189, u190, u191, u192, u193, u194, u195, u196, u197, u198, u199, u200, u201, u202, u203, u204, u205, u206, u207, u208, u209, u210, u211, u212, u213, u214, u215, u216, u217, u218, u219, u220, u221, u222, u223, u224, u225, u226, u227, u228, u229, u230, u231, u232, u233, u234, u235, u236, u237, u238, u239, u240, u241, u242, u243, u244, u245, u246, u247, u248, u249, u250, u251, u252, u253, u254, u255, u256, u257, u258, u259, u260, u261, u262, u263, u264, u265, u266, u267, u268, u269, u270, u271, u272], []⟩ wx) :
    Code.wp Tryz.prog (smBlk0 Tryz.f195) (Exit.then K0 (bodyPost Tryz.prog Tryz.f195 P)) ⟨#[.pointer (some ⟨mb, 0, none⟩), u1, u2, .bool true, .int .i64 0, u5, u6, u7, u8, u9, u10, u11, u12, u13, u14, u15, u16, u17, u18, u19, u20, u21, u22, u23, u24, u25, u26, u27, u28, u29, u30, u31, u32, u33, u34, u35, u36, u37, u38, u39, u40, u41, u42, u43, u44, u45, u46, u47, u48, u49, u50, u51, u52, u53, u54, u55, u56, u57, u58, u59, u60, u61, u62, u63, u64, u65, u66, u67, u68, u69, u70, u71, u72, u73, u74, u75, u76, u77, u78, u79, u80, u81, u82, u83, u84, u85, u86, u87, u88, u89, u90, u91, u92, u93, u94, u95, u96, u97, u98, u99, u100, u101, u102, u103, u104, u105, u106, u107, u108, u109, u110, u111, u112, u113, u114, u115, u116, u117, u118, u119, u120, u121, u122, u123, u124, u125, u126, u127, u128, u129, u130, u131, u132, u133, u134, u135, u136, u137, u138, u139, u140, u141, u142, u143, u144, u145, u146, u147, u148, u149, u150, u151, u152, u153, u154, u155, u156, u157, u158, u159, u160, u161, u162, u163, u164, u165, u166, u167, u168, u169, u170, u171, u172, u173, u174, u175, u176, u177, u178, u179, u180, u181, u182, u183, u184, u185, u186, u187, u188, u189, u190, u191, u192, u193, u194, u195, u196, u197, u198, u199, u200, u201, u202, u203, u204, u205, u206, u207, u208, u209, u210, u211, u212, u213, u214, u215, u216, u217, u218, u219, u220, u221, u222, u223, u224, u225, u226, u227, u228, u229, u230, u231, u232, u233, u234, u235, u236, u237, u238, u239, u240, u241, u242, u243, u244, u245, u246, u247, u248, u249, u250, u251, u252, u253, u254, u255, u256, u257, u258, u259, u260, u261, u262, u263, u264, u265, u266, u267, u268, u269, u270, u271, u272], []⟩ w := by
  conv => arg 2; whnf
  have HK0 : Hid _ := hK0
  have I0 : OvInv w w mb 50 3 farC ovC C 0 := OvInv.start hL
  have HF : Hid _ := hL
  have HRD : Hid _ := (loan_read hL).2
  have HO : Hid _ := hO
  have hml := ln_lt hO
  clear hK0 hL hO
  go_wp2_with fail
  go_loopg [3, 4] C.length (fun gk okv kv wr => ∃ k : Nat, gk = C.length - k ∧ k ≤ C.length ∧ okv = .bool true ∧ kv = .int .i64 (k : Int) ∧ OvInv w wr mb 50 3 farC ovC C k)
  case atStart => exact ⟨0, rfl, Nat.zero_le _, rfl, rfl, I0⟩
  case round =>
    obtain ⟨k, hgk, hk, rfl, rfl, hI⟩ := hrel
    subst hgk
    clear I0
    generalize hwo : wr = wo at *
    clear hwo
    have hOo := (hI.keep _ _ _ _ HO.out (by decide)).trans HO.out
    have hmo := ln_lt hOo
    have y6 : wo.cell? ⟨mb, 0, none⟩ = some (.slice a C.length ac) := (blk_at hOo).trans hlv
    by_cases hlt : k < C.length
    · obtain ⟨gb, rfl, hgb, ⟨cur, hcur⟩, hcell⟩ : ∃ gb, a = some ⟨gb, 0, none⟩ ∧ gb < w.heap.size ∧ (∃ cur, w.heap[gb]? = some (.cells cur 380 (0, 0))) ∧ ∀ (k : Nat) (l : Ln), C[k]? = some l → w.cell? ⟨gb, k * 2, none⟩ = some (.slice (some ⟨l.g, 0, none⟩) (l.n + 3) (l.n + 3)) ∧ w.cell? ⟨gb, k * 2 + 1, none⟩ = some (.slice l.wo l.n l.wc) := by
        rcases HRD.out with h | h
        · omega
        · exact h
      obtain ⟨⟨g, n, wo', wk, cs⟩, hl⟩ : ∃ l, C[k]? = some l := ⟨_, List.getElem?_eq_getElem hlt⟩
      have hkb := hI.keep _ _ _ _ hcur (by decide)
      have p0 := (World.cell?_of_block (w := w) (a := ⟨gb, k * 2, none⟩) hkb).trans (hcell k _ hl).1
      have p1 := (World.cell?_of_block (w := w) (a := ⟨gb, k * 2 + 1, none⟩) hkb).trans (hcell k _ hl).2
      have hgbo : gb < wo.heap.size := ln_lt (hkb.trans hcur)
      have hln := HF.out.each _ (List.mem_of_getElem? hl)
      have hmg : mb ≤ g := by have := hln.lo; dsimp only at this; omega
      have hI1 := hI.more ((Below.refl _ wo).alloc (Nat.le_refl _) (.cells #[.slice (some ⟨g, 0, none⟩) (n + 3) (n + 3), .slice wo' n wk] 380)) (by omega)
      have J0 : OvIn (wo.alloc (.cells #[.slice (some ⟨g, 0, none⟩) (n + 3) (n + 3), .slice wo' n wk] 380)) (wo.alloc (.cells #[.slice (some ⟨g, 0, none⟩) (n + 3) (n + 3), .slice wo' n wk] 380)) mb 50 3 farC ovC ⟨g, n, wo', wk, cs⟩ 0 := OvIn.start hI1 hl
      have hbx := heap_alloc_new wo (.cells #[.slice (some ⟨g, 0, none⟩) (n + 3) (n + 3), .slice wo' n wk] 380)
      clear hcell hcur hkb hI
      go_wp2_with fail
      generalize hW1 : wo.alloc (.cells #[.slice (some ⟨g, 0, none⟩) (n + 3) (n + 3), .slice wo' n wk] 380) = W1 at *
      generalize hxb : wo.heap.size = xb at *
      have hW0 : Below w0.heap.size w0 W1 := h0W.trans (hI1.bel.mono h0m)
      have hxl := ln_lt hbx
      clear p0 p1 hgbo y6 hOo hW1
      go_loopg [3, 6] (n + 3) (fun gk okv iv wx => ∃ i : Nat, gk = (n + 3) - i ∧ i ≤ n + 3 ∧ okv = .bool true ∧ iv = .int .i64 (i : Int) ∧ OvIn W1 wx mb 50 3 farC ovC ⟨g, n, wo', wk, cs⟩ i)
      case atStart => exact ⟨0, rfl, Nat.zero_le _, rfl, rfl, J0⟩
      case round =>
        obtain ⟨i, hgk, hi, rfl, rfl, hJ⟩ := hrel
        subst hgk
        clear J0
        have hne : xb ≠ g := fun e => by
          obtain ⟨c2, hc2, _⟩ := hI1.todo k _ (Nat.le_refl _) hl
          rw [e] at hbx; rw [hbx] at hc2; cases hc2
        have hbxr := (hJ.oth xb hxl hne).trans hbx
        have hsm := hln.small
        dsimp only at hsm
        have z0 : wr.cell? ⟨xb, 0, none⟩ = some (.slice (some ⟨g, 0, none⟩) (n + 3) (n + 3)) := (blk_at hbxr).trans rfl
        have z1 : wr.cell? ⟨xb, 1, none⟩ = some (.slice wo' n wk) := (blk_at hbxr).trans rfl
        have hxr := ln_lt hbxr
        have hgr : g < wr.heap.size := hJ.row.lt
        by_cases hit : i < n + 3
        · by_cases hin : i < n
          · obtain ⟨b, off, rfl, hb, hc⟩ : ∃ b off, wo' = some ⟨b, off, none⟩ ∧ b < w0.heap.size ∧ ∀ j v, cs[j]? = some v → w0.cell? ⟨b, off + j, none⟩ = some v := by
              rcases hln.want.1.2 with h | h
              · dsimp only at h; omega
              · exact h
            obtain ⟨s, t, u, t0, t1, t2⟩ := hln.want.2 i hin
            have hBr : Below w0.heap.size w0 wr := hW0.trans (hJ.bel.mono h0m)
            have c0 : wr.cell? ⟨g, i * 3, none⟩ = some (.int .i64 s) := (hJ.row.cell (i := i * 3) (by dsimp only; omega)).trans (by rw [ov_at (by omega), lent_at t0])
            have c1 : wr.cell? ⟨g, i * 3 + 1, none⟩ = some (.int .i64 t) := (hJ.row.cell (i := i * 3 + 1) (by dsimp only; omega)).trans (by rw [ov_at (by omega), lent_at t1])
            have c2 : wr.cell? ⟨g, i * 3 + 2, none⟩ = some (.string u) := (hJ.row.cell (i := i * 3 + 2) (by dsimp only; omega)).trans (by rw [ov_at (by omega), lent_at t2])
            have d0 : wr.cell? ⟨b, off + i * 3, none⟩ = some (.int .i64 s) := (hBr.cell (p := ⟨b, off + i * 3, none⟩) hb).trans (hc _ _ t0)
            have d1 : wr.cell? ⟨b, off + i * 3 + 1, none⟩ = some (.int .i64 t) := (hBr.cell (p := ⟨b, off + i * 3 + 1, none⟩) hb).trans (hc _ _ t1)
            have d2 : wr.cell? ⟨b, off + i * 3 + 2, none⟩ = some (.string u) := (hBr.cell (p := ⟨b, off + i * 3 + 2, none⟩) hb).trans (hc _ _ t2)
            have hbr : b < wr.heap.size := by have := hBr.size; omega
            clear hc t0 t1 t2
            go_upto_region 9 with fail
            go_cut [3] (fun s3 wx => s3 = .bool true ∧ Below wr.heap.size wr wx)
            case first =>
              go_region
              all_goals (go_wp2_with fail; go_meet)
              all_goals exact ⟨rfl, by first | exact Below.refl _ _ | exact (Below.refl _ _).drew⟩
            case rest =>
              obtain ⟨rfl, hBx⟩ := hcut
              have hJ1 := hJ.more hBx (by omega)
              clear c0 d0 c1 d1 c2 d2 z0 z1 hxr hgr hbxr
              generalize hwy : wc = wy at *
              clear hwy
              have hbxr := (hJ1.oth xb hxl hne).trans hbx
              have z0 : wy.cell? ⟨xb, 0, none⟩ = some (.slice (some ⟨g, 0, none⟩) (n + 3) (n + 3)) := (blk_at hbxr).trans rfl
              have hxr := ln_lt hbxr
              have hgr : g < wy.heap.size := hJ1.row.lt
              clear hbxr
              go_upto_region 10 with fail
              go_region_with (go_at_call 279; refine (overCell_any _).mono ?_; rintro e w7 ⟨rfl, hb7⟩; have hJ7 := hJ1.more (x := w7) (by first | exact hb7 | exact ((Below.refl _ _).drew).trans (hb7.mono (Nat.le_refl _))) (by omega); have z07 := (blk_at (j := 0) ((hJ7.oth xb hxl hne).trans hbx)).trans rfl; have hx7 := ln_lt ((hJ7.oth xb hxl hne).trans hbx); have hg7 : g < w7.heap.size := hJ7.row.lt; have c0 := hJ7.row.cell (i := i * 3) (by dsimp only; omega); have c1 := hJ7.row.cell (i := i * 3 + 1) (by dsimp only; omega); have c2 := hJ7.row.cell (i := i * 3 + 2) (by dsimp only; omega); have f0 := hJ7.row.frozen (i * 3); have f1 := hJ7.row.frozen (i * 3 + 1); have f2 := hJ7.row.frozen (i * 3 + 2); dsimp only at c0 c1 c2 f0 f1 f2 z07)
              all_goals go_wp2_with fail
              all_goals go_roundg (n + 3 - (i + 1))
              all_goals first
                | omega
                | exact ⟨i + 1, rfl, by omega, rfl, by go_num, hJ7.put3 hmg rfl rfl rfl⟩
                | exact ⟨i + 1, rfl, by omega, rfl, by go_num, (hJ7.more (Below.refl _ _).drew (by omega)).put3 hmg rfl rfl rfl⟩
          · have hd1 : decide ((i : Int) < (n : Int)) = false := by simp; omega
            have hd2 : n ≤ i := by omega
            have hd3 : decide (n ≤ i) = true := by simp; omega
            have c0 : wr.cell? ⟨g, i * 3, none⟩ = some (.int .i64 9) := (hJ.row.cell (i := i * 3) (by dsimp only; omega)).trans (by rw [ov_at (by omega), lent_far (by have := hln.len; dsimp only at this; dsimp only; omega), show (i * 3) % 3 = 0 by omega]; rfl)
            have c1 : wr.cell? ⟨g, i * 3 + 1, none⟩ = some (.int .i64 77) := (hJ.row.cell (i := i * 3 + 1) (by dsimp only; omega)).trans (by rw [ov_at (by omega), lent_far (by have := hln.len; dsimp only at this; dsimp only; omega), show (i * 3 + 1) % 3 = 1 by omega]; rfl)
            have c2 : wr.cell? ⟨g, i * 3 + 2, none⟩ = some (.string ⟨#[]⟩) := (hJ.row.cell (i := i * 3 + 2) (by dsimp only; omega)).trans (by rw [ov_at (by omega), lent_far (by have := hln.len; dsimp only at this; dsimp only; omega), show (i * 3 + 2) % 3 = 2 by omega]; rfl)
            go_upto_region 9 with fail
            go_cut [3] (fun s3 wx => s3 = .bool true ∧ Below wr.heap.size wr wx)
            case first =>
              refine wp_region_held_drew (S := fun x => Below wr.heap.size wr x) (by kernel_rfl) (Below.refl _ _).drew (fun hHeld => ?_)
              have HC : ∀ x : World, Below wr.heap.size wr x → (x.cell? ⟨xb, 0, none⟩ = some (.slice (some ⟨g, 0, none⟩) (n + 3) (n + 3)) ∧ x.cell? ⟨xb, 1, none⟩ = some (.slice wo' n wk)) ∧ (x.cell? ⟨g, i * 3, none⟩ = some (.int .i64 9) ∧ x.cell? ⟨g, i * 3 + 1, none⟩ = some (.int .i64 77) ∧ x.cell? ⟨g, i * 3 + 2, none⟩ = some (.string ⟨#[]⟩)) ∧ xb < x.heap.size ∧ g < x.heap.size := fun x hx => ⟨⟨(hx.cell (p := ⟨xb, 0, none⟩) hxr).trans z0, (hx.cell (p := ⟨xb, 1, none⟩) hxr).trans z1⟩, ⟨(hx.cell (p := ⟨g, i * 3, none⟩) hgr).trans c0, (hx.cell (p := ⟨g, i * 3 + 1, none⟩) hgr).trans c1, (hx.cell (p := ⟨g, i * 3 + 2, none⟩) hgr).trans c2⟩, Nat.lt_of_lt_of_le hxr hx.size, Nat.lt_of_lt_of_le hgr hx.size⟩
              refine takeW 0 39 (.bool true) rfl rfl (by kernel_rfl) (by kernel_rfl) (by kernel_rfl) (fun _ _ _ h => h) (by rfl) (fun x hSx => by obtain ⟨⟨s0, s1⟩, ⟨s2, s3, s4⟩, s5, s6⟩ := HC x hSx; clear hSx; go_simp) hHeld ?_
              simp only [Act.put, List.setIfInBounds_toArray, List.set_cons_zero, List.set_cons_succ]
              refine takeW 1 40 (.bool true) rfl rfl (by kernel_rfl) (by kernel_rfl) (by kernel_rfl) (fun _ _ _ h => h) (by rfl) (fun x hSx => by obtain ⟨⟨s0, s1⟩, ⟨s2, s3, s4⟩, s5, s6⟩ := HC x hSx; clear hSx; go_simp) hHeld ?_
              simp only [Act.put, List.setIfInBounds_toArray, List.set_cons_zero, List.set_cons_succ]
              refine takeW 2 41 (.int .i64 (i : Int)) rfl rfl (by kernel_rfl) (by kernel_rfl) (by kernel_rfl) (fun _ _ _ h => h) (by rfl) (fun x hSx => by obtain ⟨⟨s0, s1⟩, ⟨s2, s3, s4⟩, s5, s6⟩ := HC x hSx; clear hSx; go_simp) hHeld ?_
              simp only [Act.put, List.setIfInBounds_toArray, List.set_cons_zero, List.set_cons_succ]
              refine takeW 3 42 (.pointer (some ⟨xb, 1, none⟩)) rfl rfl (by kernel_rfl) (by kernel_rfl) (by kernel_rfl) (fun _ _ _ h => h) (by rfl) (fun x hSx => by obtain ⟨⟨s0, s1⟩, ⟨s2, s3, s4⟩, s5, s6⟩ := HC x hSx; clear hSx; go_simp) hHeld ?_
              simp only [Act.put, List.setIfInBounds_toArray, List.set_cons_zero, List.set_cons_succ]
              refine takeW 4 43 (.slice wo' n wk) rfl rfl (by kernel_rfl) (by kernel_rfl) (by kernel_rfl) (fun _ _ _ h => h) (by rfl) (fun x hSx => by obtain ⟨⟨s0, s1⟩, ⟨s2, s3, s4⟩, s5, s6⟩ := HC x hSx; clear hSx; go_simp) hHeld ?_
              simp only [Act.put, List.setIfInBounds_toArray, List.set_cons_zero, List.set_cons_succ]
              refine takeW 5 44 (.int .i64 (n : Int)) rfl rfl (by kernel_rfl) (by kernel_rfl) (by kernel_rfl) (fun _ _ _ h => h) (by rfl) (fun x hSx => by obtain ⟨⟨s0, s1⟩, ⟨s2, s3, s4⟩, s5, s6⟩ := HC x hSx; clear hSx; go_simp) hHeld ?_
              simp only [Act.put, List.setIfInBounds_toArray, List.set_cons_zero, List.set_cons_succ]
              refine takeW 6 45 (.bool false) rfl rfl (by kernel_rfl) (by kernel_rfl) (by kernel_rfl) (fun _ _ _ h => h) (by rfl) (fun x hSx => by obtain ⟨⟨s0, s1⟩, ⟨s2, s3, s4⟩, s5, s6⟩ := HC x hSx; clear hSx; go_simp) hHeld ?_
              simp only [Act.put, List.setIfInBounds_toArray, List.set_cons_zero, List.set_cons_succ]
              refine takeW 7 46 (.bool false) rfl rfl (by kernel_rfl) (by kernel_rfl) (by kernel_rfl) (fun _ _ _ h => h) (by rfl) (fun x hSx => by obtain ⟨⟨s0, s1⟩, ⟨s2, s3, s4⟩, s5, s6⟩ := HC x hSx; clear hSx; go_simp) hHeld ?_
              simp only [Act.put, List.setIfInBounds_toArray, List.set_cons_zero, List.set_cons_succ]
              refine takeU 8 47 rfl rfl (by kernel_rfl) (by kernel_rfl) (by kernel_rfl) (fun _ _ _ h => h) (by rfl) hHeld ?_
              simp only [Act.put, List.setIfInBounds_toArray, List.set_cons_zero, List.set_cons_succ]
              refine takeU 9 48 rfl rfl (by kernel_rfl) (by kernel_rfl) (by kernel_rfl) (fun _ _ _ h => h) (by rfl) hHeld ?_
              simp only [Act.put, List.setIfInBounds_toArray, List.set_cons_zero, List.set_cons_succ]
              refine takeU 10 49 rfl rfl (by kernel_rfl) (by kernel_rfl) (by kernel_rfl) (fun _ _ _ h => h) (by rfl) hHeld ?_
              simp only [Act.put, List.setIfInBounds_toArray, List.set_cons_zero, List.set_cons_succ]
              refine takeU 11 50 rfl rfl (by kernel_rfl) (by kernel_rfl) (by kernel_rfl) (fun _ _ _ h => h) (by rfl) hHeld ?_
              simp only [Act.put, List.setIfInBounds_toArray, List.set_cons_zero, List.set_cons_succ]
              refine takeU 12 51 rfl rfl (by kernel_rfl) (by kernel_rfl) (by kernel_rfl) (fun _ _ _ h => h) (by rfl) hHeld ?_
              simp only [Act.put, List.setIfInBounds_toArray, List.set_cons_zero, List.set_cons_succ]
              refine takeU 13 52 rfl rfl (by kernel_rfl) (by kernel_rfl) (by kernel_rfl) (fun _ _ _ h => h) (by rfl) hHeld ?_
              simp only [Act.put, List.setIfInBounds_toArray, List.set_cons_zero, List.set_cons_succ]
              refine takeU 14 53 rfl rfl (by kernel_rfl) (by kernel_rfl) (by kernel_rfl) (fun _ _ _ h => h) (by rfl) hHeld ?_
              simp only [Act.put, List.setIfInBounds_toArray, List.set_cons_zero, List.set_cons_succ]
              refine takeU 15 54 rfl rfl (by kernel_rfl) (by kernel_rfl) (by kernel_rfl) (fun _ _ _ h => h) (by rfl) hHeld ?_
              simp only [Act.put, List.setIfInBounds_toArray, List.set_cons_zero, List.set_cons_succ]
              refine takeU 16 55 rfl rfl (by kernel_rfl) (by kernel_rfl) (by kernel_rfl) (fun _ _ _ h => h) (by rfl) hHeld ?_
              simp only [Act.put, List.setIfInBounds_toArray, List.set_cons_zero, List.set_cons_succ]
              refine takeU 17 56 rfl rfl (by kernel_rfl) (by kernel_rfl) (by kernel_rfl) (fun _ _ _ h => h) (by rfl) hHeld ?_
              simp only [Act.put, List.setIfInBounds_toArray, List.set_cons_zero, List.set_cons_succ]
              refine takeU 18 57 rfl rfl (by kernel_rfl) (by kernel_rfl) (by kernel_rfl) (fun _ _ _ h => h) (by rfl) hHeld ?_
              simp only [Act.put, List.setIfInBounds_toArray, List.set_cons_zero, List.set_cons_succ]
              refine takeW 19 58 (.bool false) rfl rfl (by kernel_rfl) (by kernel_rfl) (by kernel_rfl) (fun _ _ _ h => h) (by rfl) (fun x hSx => by obtain ⟨⟨s0, s1⟩, ⟨s2, s3, s4⟩, s5, s6⟩ := HC x hSx; clear hSx; go_simp) hHeld ?_
              simp only [Act.put, List.setIfInBounds_toArray, List.set_cons_zero, List.set_cons_succ]
              refine takeW 20 59 (.bool false) rfl rfl (by kernel_rfl) (by kernel_rfl) (by kernel_rfl) (fun _ _ _ h => h) (by rfl) (fun x hSx => by obtain ⟨⟨s0, s1⟩, ⟨s2, s3, s4⟩, s5, s6⟩ := HC x hSx; clear hSx; go_simp) hHeld ?_
              simp only [Act.put, List.setIfInBounds_toArray, List.set_cons_zero, List.set_cons_succ]
              refine takeW 21 60 (.int .i64 (i : Int)) rfl rfl (by kernel_rfl) (by kernel_rfl) (by kernel_rfl) (fun _ _ _ h => h) (by rfl) (fun x hSx => by obtain ⟨⟨s0, s1⟩, ⟨s2, s3, s4⟩, s5, s6⟩ := HC x hSx; clear hSx; go_simp) hHeld ?_
              simp only [Act.put, List.setIfInBounds_toArray, List.set_cons_zero, List.set_cons_succ]
              refine takeW 22 61 (.pointer (some ⟨xb, 1, none⟩)) rfl rfl (by kernel_rfl) (by kernel_rfl) (by kernel_rfl) (fun _ _ _ h => h) (by rfl) (fun x hSx => by obtain ⟨⟨s0, s1⟩, ⟨s2, s3, s4⟩, s5, s6⟩ := HC x hSx; clear hSx; go_simp) hHeld ?_
              simp only [Act.put, List.setIfInBounds_toArray, List.set_cons_zero, List.set_cons_succ]
              refine takeW 23 62 (.slice wo' n wk) rfl rfl (by kernel_rfl) (by kernel_rfl) (by kernel_rfl) (fun _ _ _ h => h) (by rfl) (fun x hSx => by obtain ⟨⟨s0, s1⟩, ⟨s2, s3, s4⟩, s5, s6⟩ := HC x hSx; clear hSx; go_simp) hHeld ?_
              simp only [Act.put, List.setIfInBounds_toArray, List.set_cons_zero, List.set_cons_succ]
              refine takeW 24 63 (.int .i64 (n : Int)) rfl rfl (by kernel_rfl) (by kernel_rfl) (by kernel_rfl) (fun _ _ _ h => h) (by rfl) (fun x hSx => by obtain ⟨⟨s0, s1⟩, ⟨s2, s3, s4⟩, s5, s6⟩ := HC x hSx; clear hSx; go_simp) hHeld ?_
              simp only [Act.put, List.setIfInBounds_toArray, List.set_cons_zero, List.set_cons_succ]
              refine takeW 25 64 (.bool true) rfl rfl (by kernel_rfl) (by kernel_rfl) (by kernel_rfl) (fun _ _ _ h => h) (by rfl) (fun x hSx => by obtain ⟨⟨s0, s1⟩, ⟨s2, s3, s4⟩, s5, s6⟩ := HC x hSx; clear hSx; go_simp) hHeld ?_
              simp only [Act.put, List.setIfInBounds_toArray, List.set_cons_zero, List.set_cons_succ]
              refine takeW 26 65 (.bool true) rfl rfl (by kernel_rfl) (by kernel_rfl) (by kernel_rfl) (fun _ _ _ h => h) (by rfl) (fun x hSx => by obtain ⟨⟨s0, s1⟩, ⟨s2, s3, s4⟩, s5, s6⟩ := HC x hSx; clear hSx; go_simp) hHeld ?_
              simp only [Act.put, List.setIfInBounds_toArray, List.set_cons_zero, List.set_cons_succ]
              refine takeW 27 66 (.pointer (some ⟨xb, 0, none⟩)) rfl rfl (by kernel_rfl) (by kernel_rfl) (by kernel_rfl) (fun _ _ _ h => h) (by rfl) (fun x hSx => by obtain ⟨⟨s0, s1⟩, ⟨s2, s3, s4⟩, s5, s6⟩ := HC x hSx; clear hSx; go_simp) hHeld ?_
              simp only [Act.put, List.setIfInBounds_toArray, List.set_cons_zero, List.set_cons_succ]
              refine takeW 28 67 (.slice (some ⟨g, 0, none⟩) (n + 3) (n + 3)) rfl rfl (by kernel_rfl) (by kernel_rfl) (by kernel_rfl) (fun _ _ _ h => h) (by rfl) (fun x hSx => by obtain ⟨⟨s0, s1⟩, ⟨s2, s3, s4⟩, s5, s6⟩ := HC x hSx; clear hSx; go_simp) hHeld ?_
              simp only [Act.put, List.setIfInBounds_toArray, List.set_cons_zero, List.set_cons_succ]
              refine takeW 29 68 (.int .i64 (i : Int)) rfl rfl (by kernel_rfl) (by kernel_rfl) (by kernel_rfl) (fun _ _ _ h => h) (by rfl) (fun x hSx => by obtain ⟨⟨s0, s1⟩, ⟨s2, s3, s4⟩, s5, s6⟩ := HC x hSx; clear hSx; go_simp) hHeld ?_
              simp only [Act.put, List.setIfInBounds_toArray, List.set_cons_zero, List.set_cons_succ]
              refine takeW 30 69 (.pointer (some ⟨g, i * 3, none⟩)) rfl rfl (by kernel_rfl) (by kernel_rfl) (by kernel_rfl) (fun _ _ _ h => h) (by rfl) (fun x hSx => by obtain ⟨⟨s0, s1⟩, ⟨s2, s3, s4⟩, s5, s6⟩ := HC x hSx; clear hSx; go_simp) hHeld ?_
              simp only [Act.put, List.setIfInBounds_toArray, List.set_cons_zero, List.set_cons_succ]
              refine takeW 31 70 (.agg #[.int .i64 9, .int .i64 77, .string ⟨#[]⟩]) rfl rfl (by kernel_rfl) (by kernel_rfl) (by kernel_rfl) (fun _ _ _ h => h) (by rfl) (fun x hSx => by obtain ⟨⟨s0, s1⟩, ⟨s2, s3, s4⟩, s5, s6⟩ := HC x hSx; clear hSx; go_simp) hHeld ?_
              simp only [Act.put, List.setIfInBounds_toArray, List.set_cons_zero, List.set_cons_succ]
              refine wpAnyH_ready (rs := [32]) (by kernel_rfl) (by simp) ?_
              refine AllReadyH.cons rfl (fun K0 hK0 => ?_) AllReadyH.nil
              go_simp
              go_wp2_with (go_at_call 188; refine (farCell_any _).mono ?_; rintro e w6 ⟨rfl, hb6⟩)
              refine hK0.out _ _ (hHeld.trans (hb6.mono hHeld.size)) (fun hHeld2 => ?_)
              clear hK0 K0
              refine takeW 33 72 (.bool true) rfl rfl (by kernel_rfl) (by kernel_rfl) (by kernel_rfl) (fun _ _ _ h => h) (by rfl) (fun x hSx => by obtain ⟨⟨s0, s1⟩, ⟨s2, s3, s4⟩, s5, s6⟩ := HC x hSx; clear hSx; go_simp) hHeld2 ?_
              simp only [Act.put, List.setIfInBounds_toArray, List.set_cons_zero, List.set_cons_succ]
              refine takeW 34 73 (.bool true) rfl rfl (by kernel_rfl) (by kernel_rfl) (by kernel_rfl) (fun _ _ _ h => h) (by rfl) (fun x hSx => by obtain ⟨⟨s0, s1⟩, ⟨s2, s3, s4⟩, s5, s6⟩ := HC x hSx; clear hSx; go_simp) hHeld2 ?_
              simp only [Act.put, List.setIfInBounds_toArray, List.set_cons_zero, List.set_cons_succ]
              refine takeW 35 74 (.bool true) rfl rfl (by kernel_rfl) (by kernel_rfl) (by kernel_rfl) (fun _ _ _ h => h) (by rfl) (fun x hSx => by obtain ⟨⟨s0, s1⟩, ⟨s2, s3, s4⟩, s5, s6⟩ := HC x hSx; clear hSx; go_simp) hHeld2 ?_
              simp only [Act.put, List.setIfInBounds_toArray, List.set_cons_zero, List.set_cons_succ]
              refine takeW 36 75 (.bool true) rfl rfl (by kernel_rfl) (by kernel_rfl) (by kernel_rfl) (fun _ _ _ h => h) (by rfl) (fun x hSx => by obtain ⟨⟨s0, s1⟩, ⟨s2, s3, s4⟩, s5, s6⟩ := HC x hSx; clear hSx; go_simp) hHeld2 ?_
              simp only [Act.put, List.setIfInBounds_toArray, List.set_cons_zero, List.set_cons_succ]
              refine takeW 37 3 (.bool true) rfl rfl (by kernel_rfl) (by kernel_rfl) (by kernel_rfl) (fun _ _ _ h => h) (by rfl) (fun x hSx => by obtain ⟨⟨s0, s1⟩, ⟨s2, s3, s4⟩, s5, s6⟩ := HC x hSx; clear hSx; go_simp) hHeld2 ?_
              simp only [Act.put, List.setIfInBounds_toArray, List.set_cons_zero, List.set_cons_succ]
              refine wpAnyH_done (by kernel_rfl) ?_ _
              go_wp2_with fail
              go_meet
              exact ⟨rfl, hHeld2⟩
            case rest =>
              obtain ⟨rfl, hBx⟩ := hcut
              have hJ1 := hJ.more hBx (by omega)
              clear c0 c1 c2 z0 z1 hxr hgr hbxr
              generalize hwy : wc = wy at *
              clear hwy
              have hbxr := (hJ1.oth xb hxl hne).trans hbx
              have z0 : wy.cell? ⟨xb, 0, none⟩ = some (.slice (some ⟨g, 0, none⟩) (n + 3) (n + 3)) := (blk_at hbxr).trans rfl
              have hxr := ln_lt hbxr
              have hgr : g < wy.heap.size := hJ1.row.lt
              clear hbxr
              go_upto_region 10 with fail
              go_region_with (go_at_call 279; refine (overCell_any _).mono ?_; rintro e w7 ⟨rfl, hb7⟩; have hJ7 := hJ1.more (x := w7) (by first | exact hb7 | exact ((Below.refl _ _).drew).trans (hb7.mono (Nat.le_refl _))) (by omega); have z07 := (blk_at (j := 0) ((hJ7.oth xb hxl hne).trans hbx)).trans rfl; have hx7 := ln_lt ((hJ7.oth xb hxl hne).trans hbx); have hg7 : g < w7.heap.size := hJ7.row.lt; have c0 := hJ7.row.cell (i := i * 3) (by dsimp only; omega); have c1 := hJ7.row.cell (i := i * 3 + 1) (by dsimp only; omega); have c2 := hJ7.row.cell (i := i * 3 + 2) (by dsimp only; omega); have f0 := hJ7.row.frozen (i * 3); have f1 := hJ7.row.frozen (i * 3 + 1); have f2 := hJ7.row.frozen (i * 3 + 2); dsimp only at c0 c1 c2 f0 f1 f2 z07)
              all_goals go_wp2_with fail
              all_goals go_roundg (n + 3 - (i + 1))
              all_goals first
                | omega
                | exact ⟨i + 1, rfl, by omega, rfl, by go_num, hJ7.put3 hmg rfl rfl rfl⟩
                | exact ⟨i + 1, rfl, by omega, rfl, by go_num, (hJ7.more (Below.refl _ _).drew (by omega)).put3 hmg rfl rfl rfl⟩
        · obtain rfl : i = n + 3 := by omega
          have hN := hI1.next hl hJ HF.out.apart
          clear hJ hI1
          go_wp2_with fail
          go_roundg (C.length - (k + 1))
          all_goals first
            | omega
            | exact ⟨k + 1, rfl, by omega, rfl, by go_num, hN⟩
    · obtain rfl : k = C.length := by omega
      clear hOo
      go_wp2_with fail
      exact HK0.out _ _ _ _ _ _ _ _ _ _ _ _ _ _ _ _ _ _ _ _ _ _ _ _ _ _ _ _ _ _ _ _ _ _ _ _ _ _ _ _ _ _ _ _ _ _ _ _ _ _ _ _ _ _ _ _ _ _ _ _ _ _ _ _ _ _ _ _ _ hI
end Go.Proofs.YtilfjpmeededmaaGreatDoor

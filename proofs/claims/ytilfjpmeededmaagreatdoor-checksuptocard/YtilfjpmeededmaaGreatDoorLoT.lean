import Derived.Test.YtilfjpmeededmaaGreatDoorLoLZ
set_option linter.unusedVariables false
set_option linter.unusedSimpArgs false
namespace Go.Proofs.YtilfjpmeededmaaGreatDoor
open Go.RowKit
def lgBlk4 (f : Func) : Code := ((f.body.bind (findBlk 4)).getD .skip)
set_option maxHeartbeats 40000000 in
set_option maxRecDepth 100000 in
theorem large_tables (w0 w : World) (mb : Nat) (lv : Array Value) (a : Option Addr) (ac : Nat) (R X K B : List Ln) (hO : w.heap[mb]? = some (.cells lv 256 (0, 0))) (hlv : lv[5]? = some (.slice a B.length ac)) (hL : LnsIn (WtT w0 K R X) w 134 366 6 farT mb (.slice a B.length ac) B)
    (hR : ∀ l ∈ R, OvAt w 47 1 ovR l) (hRs : ∀ l ∈ R, l.n ≤ 1048576) (hX : ∀ l ∈ X, OvAt w 9 1 ovX l) (hXs : ∀ l ∈ X, l.n ≤ 1048576) (hK : ∀ l ∈ K, OvAt w 162 3 ovK l) (hKs : ∀ l ∈ K, l.n ≤ 1048576)
    (h0W : Below w0.heap.size w0 w) (h0m : w0.heap.size ≤ mb) (hlen : B.length ≤ 2199023255552) (u1 u2 u4 u5 u6 u7 u9 u10 u11 u12 u13 u14 u15 u16 u17 u18 u19 u20 u21 u22 u23 u24 u25 u26 u27 u28 u29 u30 u31 u32 u33 u34 u35 u36 u37 u38 u39 u40 u41 u42 u43 u44 u45 u46 u47 u48 u49 u50 u51 u52 u53 u54 u55 u56 u57 u58 u59 u60 u61 u62 u63 u64 u65 u66 u67 u68 u69 u70 u71 u72 u73 u74 u75 u76 u77 u78 u79 u80 u81 u82 u83 u84 u85 u86 u87 u88 u89 u90 u91 u92 u93 u94 u95 u96 u97 u98 u99 u100 u101 u102 u103 u104 u105 u106 u107 u108 u109 u110 u111 u112 u113 u114 u115 u116 u117 u118 u119 u120 u121 u122 u123 u124 u125 u126 u127 u128 u129 u130 u131 u132 u133 u134 u135 u136 u137 u138 u139 u140 u141 u142 u143 u144 u145 u146 u147 u148 u149 u150 u151 u152 u153 u154 u155 u156 u157 u158 u159 u160 u161 u162 u163 u164 u165 u166 u167 u168 u169 u170 u171 u172 u173 u174 u175 u176 u177 u178 u179 u180 u181 u182 u183 u184 u185 u186 u187 u188 u189 u190 u191 u192 u193 u194 u195 u196 u197 u198 u199 u200 u201 u202 u203 u204 u205 u206 u207 u208 : Value) (K0 : Act → World → Prop) (P : Ending → World → Prop)
    (hK0 : ∀ (v8 v9 v10 v11 v12 v13 v80 v81 v82 v83 v84 v85 v86 v87 v88 v89 v90 v91 v92 v93 v94 v95 v96 v97 v98 v99 v100 v101 v102 v103 v104 v105 v106 v107 v108 v109 v110 v111 v112 v113 v114 v115 v116 v117 v118 v119 v120 v121 v122 v123 v124 v125 v126 v127 v128 v129 v130 v131 v132 v133 v134 v135 v136 v137 v138 v139 v140 v141 v142 v143 v144 v145 v146 v147 v148 v149 v150 v151 v152 v153 v154 v155 v156 v157 v158 v159 v160 v161 v162 v163 v164 v165 v166 v167 v168 v169 v170 v171 v172 v173 v174 v175 v176 v177 v178 v179 v180 v181 v182 v183 v184 v185 v186 v187 v188 v189 v190 v191 v192 v193 v194 v195 v196 v197 v198 v199 v200 v201 v202 v203 v204 v205 v206 v207 : Value) (wx : World), TbInv w wx mb B B.length → K0 ⟨#[.pointer (some ⟨mb, 0, none⟩), u1, u2, .bool true, u4, u5, u6, u7, v8, v9, v10, v11, v12, v13, u14, u15, u16, u17, u18, u19, u20, u21, u22, u23, u24, u25, u26, u27, u28, u29, u30, u31, u32, u33, u34, u35, u36, u37, u38, u39, u40, u41, u42, u43, u44, u45, u46, u47, u48, u49, u50, u51, u52, u53, u54, u55, u56, u57, u58, u59, u60, u61, u62, u63, u64, u65, u66, u67, u68, u69, u70, u71, u72, u73, u74, u75, u76, u77, u78, u79, v80, v81, v82, v83, v84, v85, v86, v87, v88, v89, v90, v91, v92, v93, v94, v95, v96, v97, v98, v99, v100, v101, v102, v103, v104, v105, v106, v107, v108, v109, v110, v111, v112, v113, v114, v115, v116, v117, v118, v119, v120, v121, v122, v123, v124, v125, v126, v127, v128, v129, v130, v131, v132, v133, v134, v135, v136, v137, v138, v139, v140, v141, v142, v143, v144, v145, v146, v147, v148, v149, v150, v151, v152, v153, v154, v155, v156, v157, v158, v159, v160, v161, v162, v163, v164, v165, v166, v167, v168, v169, v170, v171, v172, v173, v174, v175, v176, v177, v178, v179, v180, v181, v182, v183, v184, v185, v186, v187, v188, v189, v190, v191, v192, v193, v194, v195, v196, v197, v198, v199, v200, v201, v202, v203, v204, v205, v206, v207, u208], []⟩ wx) :
    Code.wp Tryz.prog (lgBlk4 Tryz.f196) (Exit.then K0 (bodyPost Tryz.prog Tryz.f196 P)) ⟨#[.pointer (some ⟨mb, 0, none⟩), u1, u2, .bool true, u4, u5, u6, u7, .int .i64 0, u9, u10, u11, u12, u13, u14, u15, u16, u17, u18, u19, u20, u21, u22, u23, u24, u25, u26, u27, u28, u29, u30, u31, u32, u33, u34, u35, u36, u37, u38, u39, u40, u41, u42, u43, u44, u45, u46, u47, u48, u49, u50, u51, u52, u53, u54, u55, u56, u57, u58, u59, u60, u61, u62, u63, u64, u65, u66, u67, u68, u69, u70, u71, u72, u73, u74, u75, u76, u77, u78, u79, u80, u81, u82, u83, u84, u85, u86, u87, u88, u89, u90, u91, u92, u93, u94, u95, u96, u97, u98, u99, u100, u101, u102, u103, u104, u105, u106, u107, u108, u109, u110, u111, u112, u113, u114, u115, u116, u117, u118, u119, u120, u121, u122, u123, u124, u125, u126, u127, u128, u129, u130, u131, u132, u133, u134, u135, u136, u137, u138, u139, u140, u141, u142, u143, u144, u145, u146, u147, u148, u149, u150, u151, u152, u153, u154, u155, u156, u157, u158, u159, u160, u161, u162, u163, u164, u165, u166, u167, u168, u169, u170, u171, u172, u173, u174, u175, u176, u177, u178, u179, u180, u181, u182, u183, u184, u185, u186, u187, u188, u189, u190, u191, u192, u193, u194, u195, u196, u197, u198, u199, u200, u201, u202, u203, u204, u205, u206, u207, u208], []⟩ w := by
  conv => arg 2; whnf
  have HK0 : Hid _ := hK0
  have I0 : TbInv w w mb B 0 := TbInv.start hL
  have HF : Hid _ := hL
  have HRD : Hid _ := (loan_read hL).2
  have HO : Hid _ := hO
  have HR : Hid _ := hR
  have HX : Hid _ := hX
  have HK : Hid _ := hK
  have hml := ln_lt hO
  have hnil1 : ∀ W, (binOp .eql 132 (.slice none 0 0) (.slice none 0 0)).run Tryz.prog W = .ok (.bool true) W := fun W => eql_nil W _ _ _ _ _ Tryz.underlying132
  have hnil2 : ∀ W, (binOp .eql 24 (.slice none 0 0) (.slice none 0 0)).run Tryz.prog W = .ok (.bool true) W := fun W => eql_nil W _ _ _ _ _ Tryz.underlying24
  have hnil3 : ∀ W, (binOp .eql 34 (.slice none 0 0) (.slice none 0 0)).run Tryz.prog W = .ok (.bool true) W := fun W => eql_nil W _ _ _ _ _ Tryz.underlying34
  clear hK0 hL hO hR hX hK
  go_wp2_with fail
  go_loopg [3, 8] B.length (fun gk okv kv wr => ∃ k : Nat, gk = B.length - k ∧ k ≤ B.length ∧ okv = .bool true ∧ kv = .int .i64 (k : Int) ∧ TbInv w wr mb B k)
  case atStart => exact ⟨0, rfl, Nat.zero_le _, rfl, rfl, I0⟩
  case round =>
    obtain ⟨k, hgk, hk, rfl, rfl, hI⟩ := hrel
    subst hgk
    clear I0
    generalize hwo : wr = wo at *
    clear hwo
    have hOo := (hI.keep _ _ _ _ HO.out (by decide)).trans HO.out
    have hmo := ln_lt hOo
    have y6 : wo.cell? ⟨mb, 5, none⟩ = some (.slice a B.length ac) := (blk_at hOo).trans hlv
    by_cases hlt : k < B.length
    · obtain ⟨gb, rfl, hgb, ⟨cur, hcur⟩, hcell⟩ : ∃ gb, a = some ⟨gb, 0, none⟩ ∧ gb < w.heap.size ∧ (∃ cur, w.heap[gb]? = some (.cells cur 366 (0, 0))) ∧ ∀ (k : Nat) (l : Ln), B[k]? = some l → w.cell? ⟨gb, k * 2, none⟩ = some (.slice (some ⟨l.g, 0, none⟩) (l.n + 3) (l.n + 3)) ∧ w.cell? ⟨gb, k * 2 + 1, none⟩ = some (.slice l.wo l.n l.wc) := by
        rcases HRD.out with h | h
        · omega
        · exact h
      obtain ⟨⟨g, n, wo', wk, cs⟩, hl⟩ : ∃ l, B[k]? = some l := ⟨_, List.getElem?_eq_getElem hlt⟩
      have hkb := hI.keep _ _ _ _ hcur (by decide)
      have p0 := (World.cell?_of_block (w := w) (a := ⟨gb, k * 2, none⟩) hkb).trans (hcell k _ hl).1
      have p1 := (World.cell?_of_block (w := w) (a := ⟨gb, k * 2 + 1, none⟩) hkb).trans (hcell k _ hl).2
      have hgbo : gb < wo.heap.size := ln_lt (hkb.trans hcur)
      have hln := HF.out.each _ (List.mem_of_getElem? hl)
      have hmg : mb ≤ g := by have := hln.lo; dsimp only at this; omega
      have hI1 := hI.more ((Below.refl _ wo).alloc (Nat.le_refl _) (.cells #[.slice (some ⟨g, 0, none⟩) (n + 3) (n + 3), .slice wo' n wk] 366)) (by omega)
      have J0 : TbIn (wo.alloc (.cells #[.slice (some ⟨g, 0, none⟩) (n + 3) (n + 3), .slice wo' n wk] 366)) (wo.alloc (.cells #[.slice (some ⟨g, 0, none⟩) (n + 3) (n + 3), .slice wo' n wk] 366)) mb ⟨g, n, wo', wk, cs⟩ 0 := TbIn.start hI1 hl
      have hbx := heap_alloc_new wo (.cells #[.slice (some ⟨g, 0, none⟩) (n + 3) (n + 3), .slice wo' n wk] 366)
      clear hcell hcur hkb hI
      go_wp2_with fail
      generalize hW1 : wo.alloc (.cells #[.slice (some ⟨g, 0, none⟩) (n + 3) (n + 3), .slice wo' n wk] 366) = W1 at *
      generalize hxb : wo.heap.size = xb at *
      have hW0 : Below w0.heap.size w0 W1 := h0W.trans (hI1.bel.mono h0m)
      have hxl := ln_lt hbx
      clear p0 p1 hgbo y6 hOo hW1
      go_loopg [3, 10] (n + 3) (fun gk okv iv wx => ∃ i : Nat, gk = (n + 3) - i ∧ i ≤ n + 3 ∧ okv = .bool true ∧ iv = .int .i64 (i : Int) ∧ TbIn W1 wx mb ⟨g, n, wo', wk, cs⟩ i)
      case atStart => exact ⟨0, rfl, Nat.zero_le _, rfl, rfl, J0⟩
      case round =>
        obtain ⟨i, hgk, hi, rfl, rfl, hJ⟩ := hrel
        subst hgk
        clear J0
        have hne : xb ≠ g := fun e => by
          obtain ⟨c2, hc2, _⟩ := hI1.todo k _ (Nat.le_refl _) hl
          rw [e] at hbx; rw [hbx] at hc2; cases hc2
        have hbxr := (hJ.oth xb hxl hne).trans hbx
        have hsm := hln.small
        have hle := hln.len
        dsimp only at hsm hle
        have z0 : wr.cell? ⟨xb, 0, none⟩ = some (.slice (some ⟨g, 0, none⟩) (n + 3) (n + 3)) := (blk_at hbxr).trans rfl
        have z1 : wr.cell? ⟨xb, 1, none⟩ = some (.slice wo' n wk) := (blk_at hbxr).trans rfl
        have hxr := ln_lt hbxr
        have hgr : g < wr.heap.size := hJ.row.lt
        by_cases hit : i < n + 3
        · by_cases hin : i < n
          · obtain ⟨tabs, ⟨hrl, hrs⟩, hes, hlent⟩ := hln.want
            dsimp only at hrl hrs hes hlent
            obtain ⟨b, off, rfl, hb, hc⟩ : ∃ b off, wo' = some ⟨b, off, none⟩ ∧ b < w0.heap.size ∧ ∀ (i : Nat) (s : TabS), tabs[i]? = some s → w0.cell? ⟨b, off + i * 6, none⟩ = some (.string s.name) ∧ w0.cell? ⟨b, off + i * 6 + 1, none⟩ = some (.slice s.k.ro s.k.rn s.k.rc) ∧ w0.cell? ⟨b, off + i * 6 + 2, none⟩ = some (.slice s.ro s.rn s.rc) ∧ w0.cell? ⟨b, off + i * 6 + 3, none⟩ = some (.int .i64 s.count) ∧
                w0.cell? ⟨b, off + i * 6 + 4, none⟩ = some (.string s.policy) ∧ w0.cell? ⟨b, off + i * 6 + 5, none⟩ = some (.slice s.u.ro s.u.rn s.u.rc) := by
              rcases hrs with h | h
              · omega
              · exact h
            obtain ⟨⟨tname, ⟨tko, tkn, tkc, tkcs⟩, tro, trn, trc, trows, tcount, tpol, ⟨tuo, tun, tuc, tucs⟩⟩, hse⟩ : ∃ s : TabS, tabs[i]? = some s := ⟨_, List.getElem?_eq_getElem (by omega)⟩
            obtain ⟨kv, rv, xv, hcs, hkl, hrl2, hul⟩ := hlent i _ hse
            obtain ⟨q0, q1, q2, q3, q4, q5⟩ := hc i _ hse
            dsimp only at hkl hrl2 hul q0 q1 q2 q3 q4 q5
            obtain ⟨ko, kn, kc, rfl⟩ := lent_slice hkl
            obtain ⟨yo, yn, yc, rfl⟩ := rlent_slice hrl2
            obtain ⟨zo, zn, zc, rfl⟩ := lent_slice hul
            have hBr : Below w0.heap.size w0 wr := hW0.trans (hJ.bel.mono h0m)
            have hKr : KeepL w wr [134] := hI1.keep.trans (hJ.keepL (hI1.todo k _ (Nat.le_refl _) hl))
            obtain ⟨hov1, he1⟩ := over_of hkl (fun l hl => (HK.out l hl).typedL hKr (by decide)) hKs
            obtain ⟨hov2, he2⟩ := rover_of hrl2 (fun l hl => (HR.out l hl).typedL hKr (by decide)) hRs
            obtain ⟨hov3, he3⟩ := over_of hul (fun l hl => (HX.out l hl).typedL hKr (by decide)) hXs
            dsimp only at he1 he2 he3
            subst he1 he2 he3
            have hmin : min i n = i := Nat.min_eq_left (by omega)
            have hcell : ∀ j, j < 6 → ∀ u, (tabCells ⟨tname, ⟨tko, kn, tkc, tkcs⟩, tro, yn, trc, trows, tcount, tpol, ⟨tuo, zn, tuc, tucs⟩⟩ (.slice ko kn kc) (.slice yo yn yc) (.slice zo zn zc))[j]? = some u → wr.cell? ⟨g, i * 6 + j, none⟩ = some u := fun j hj u hu =>
              (hJ.row.cell (i := i * 6 + j) (by dsimp only; omega)).trans (by rw [ov_at (by dsimp only; rw [hmin]; omega), lent_at ((hcs j hj).trans hu)])
            have c0 := hcell 0 (by omega) _ rfl
            have c1 := hcell 1 (by omega) _ rfl
            have c2 := hcell 2 (by omega) _ rfl
            have c3 := hcell 3 (by omega) _ rfl
            have c4 := hcell 4 (by omega) _ rfl
            have c5 := hcell 5 (by omega) _ rfl
            rw [Nat.add_zero] at c0
            have cl : ∀ o, wr.cell? ⟨b, o, none⟩ = w0.cell? ⟨b, o, none⟩ := fun o => hBr.cell (p := ⟨b, o, none⟩) hb
            have d0 := (cl _).trans q0
            have d1 := (cl _).trans q1
            have d2 := (cl _).trans q2
            have d3 := (cl _).trans q3
            have d4 := (cl _).trans q4
            have d5 := (cl _).trans q5
            have hbr : b < wr.heap.size := by have := hBr.size; omega
            obtain ⟨W2, hW2⟩ : ∃ W2, W2 = (wr.alloc (.cells #[.string tname, .slice ko kn kc, .slice yo yn yc, .int .i64 tcount, .string tpol, .slice zo zn zc] 134)).alloc (.cells #[.string tname, .slice tko kn tkc, .slice tro yn trc, .int .i64 tcount, .string tpol, .slice tuo zn tuc] 134) := ⟨_, rfl⟩
            have HATW : Hid ((wr.alloc (.cells #[.string tname, .slice ko kn kc, .slice yo yn yc, .int .i64 tcount, .string tpol, .slice zo zn zc] 134)).alloc (.cells #[.string tname, .slice tko kn tkc, .slice tro yn trc, .int .i64 tcount, .string tpol, .slice tuo zn tuc] 134) = W2) := hW2.symm
            have hs1 : (wr.alloc (.cells #[.string tname, .slice ko kn kc, .slice yo yn yc, .int .i64 tcount, .string tpol, .slice zo zn zc] 134)).heap.size = wr.heap.size + 1 := by simp [World.size_alloc]
            have hB2 : Below wr.heap.size wr W2 := by rw [hW2]; exact ((Below.refl _ wr).alloc (Nat.le_refl _) _).alloc (by rw [hs1]; omega) _
            have t0 : W2.heap[wr.heap.size]? = some (.cells #[.string tname, .slice ko kn kc, .slice yo yn yc, .int .i64 tcount, .string tpol, .slice zo zn zc] 134 (0, 0)) := by rw [hW2, Below.heap_alloc _ _ _ (by rw [hs1]; omega)]; exact heap_alloc_new wr _
            have t1 : W2.heap[wr.heap.size + 1]? = some (.cells #[.string tname, .slice tko kn tkc, .slice tro yn trc, .int .i64 tcount, .string tpol, .slice tuo zn tuc] 134 (0, 0)) := by rw [hW2, ← hs1]; exact heap_alloc_new _ _
            have HST := stands_any W2 tname tpol tcount ko kn kc yo yn yc zo zn zc (hov1.keep hB2) (hov2.keep hB2) (hov3.keep hB2)
            clear hc hse hlent hes hrs hrl hkl hrl2 hul hov1 hov2 hov3 hKr q0 q1 q2 q3 q4 q5 cl hcell hcs hW2 hmin hs1
            go_upto_region 25 with fail
            rw [HATW.out]
            have e0 : W2.cell? ⟨wr.heap.size, 0, none⟩ = some (.string tname) := (blk_at t0).trans rfl
            have e1 : W2.cell? ⟨wr.heap.size, 1, none⟩ = some (.slice ko kn kc) := (blk_at t0).trans rfl
            have e2 : W2.cell? ⟨wr.heap.size, 2, none⟩ = some (.slice yo yn yc) := (blk_at t0).trans rfl
            have e3 : W2.cell? ⟨wr.heap.size, 3, none⟩ = some (.int .i64 tcount) := (blk_at t0).trans rfl
            have e4 : W2.cell? ⟨wr.heap.size, 4, none⟩ = some (.string tpol) := (blk_at t0).trans rfl
            have e5 : W2.cell? ⟨wr.heap.size, 5, none⟩ = some (.slice zo zn zc) := (blk_at t0).trans rfl
            have ht0 := ln_lt t0
            have ht1 := ln_lt t1
            have hJ2 := hJ.more hB2 (by omega)
            have hmw : mb ≤ wr.heap.size := by omega
            clear HATW c0 c1 c2 c3 c4 c5 d0 d1 d2 d3 d4 d5 z0 z1 hbxr hxr hgr hbr hJ hB2
            generalize htb : wr.heap.size = tb at *
            clear htb
            go_upto_region 26 with (go_at_call 281; refine HST.mono ?_; rintro e w6 ⟨rfl, hb6⟩)
            have t06 := (hb6.block tb ht0).trans t0
            have t16 := (hb6.block (tb + 1) ht1).trans t1
            have hJ6 := hJ2.more hb6 (by omega)
            clear e0 e1 e2 e3 e4 e5 HST t0 t1 ht0 ht1 hJ2 hb6
            have e0 : w6.cell? ⟨tb, 0, none⟩ = some (.string tname) := (blk_at t06).trans rfl
            have e1 : w6.cell? ⟨tb, 1, none⟩ = some (.slice ko kn kc) := (blk_at t06).trans rfl
            have e2 : w6.cell? ⟨tb, 2, none⟩ = some (.slice yo yn yc) := (blk_at t06).trans rfl
            have e3 : w6.cell? ⟨tb, 3, none⟩ = some (.int .i64 tcount) := (blk_at t06).trans rfl
            have e4 : w6.cell? ⟨tb, 4, none⟩ = some (.string tpol) := (blk_at t06).trans rfl
            have e5 : w6.cell? ⟨tb, 5, none⟩ = some (.slice zo zn zc) := (blk_at t06).trans rfl
            have k0 : w6.cell? ⟨tb + 1, 0, none⟩ = some (.string tname) := (blk_at t16).trans rfl
            have k1 : w6.cell? ⟨tb + 1, 1, none⟩ = some (.slice tko kn tkc) := (blk_at t16).trans rfl
            have k2 : w6.cell? ⟨tb + 1, 2, none⟩ = some (.slice tro yn trc) := (blk_at t16).trans rfl
            have k3 : w6.cell? ⟨tb + 1, 3, none⟩ = some (.int .i64 tcount) := (blk_at t16).trans rfl
            have k4 : w6.cell? ⟨tb + 1, 4, none⟩ = some (.string tpol) := (blk_at t16).trans rfl
            have k5 : w6.cell? ⟨tb + 1, 5, none⟩ = some (.slice tuo zn tuc) := (blk_at t16).trans rfl
            have ht0 := ln_lt t06
            have ht1 := ln_lt t16
            have hbxr := (hJ6.oth xb hxl hne).trans hbx
            have z0 : w6.cell? ⟨xb, 0, none⟩ = some (.slice (some ⟨g, 0, none⟩) (n + 3) (n + 3)) := (blk_at hbxr).trans rfl
            have hxr := ln_lt hbxr
            have hgr : g < w6.heap.size := hJ6.row.lt
            have c0 := hJ6.row.cell (i := i * 6) (by dsimp only; omega)
            have c1 := hJ6.row.cell (i := i * 6 + 1) (by dsimp only; omega)
            have c2 := hJ6.row.cell (i := i * 6 + 2) (by dsimp only; omega)
            have c3 := hJ6.row.cell (i := i * 6 + 3) (by dsimp only; omega)
            have c4 := hJ6.row.cell (i := i * 6 + 4) (by dsimp only; omega)
            have c5 := hJ6.row.cell (i := i * 6 + 5) (by dsimp only; omega)
            have f0 := hJ6.row.frozen (i * 6)
            have f1 := hJ6.row.frozen (i * 6 + 1)
            have f2 := hJ6.row.frozen (i * 6 + 2)
            have f3 := hJ6.row.frozen (i * 6 + 3)
            have f4 := hJ6.row.frozen (i * 6 + 4)
            have f5 := hJ6.row.frozen (i * 6 + 5)
            dsimp only at c0 c1 c2 c3 c4 c5 f0 f1 f2 f3 f4 f5
            clear t06 t16 hbxr
            go_wp2_with fail
            go_roundg (n + 3 - (i + 1))
            all_goals first
              | omega
              | exact ⟨i + 1, rfl, by omega, rfl, by go_num, hJ6.put hin hmg⟩
          · have hd1 : decide ((n : Int) ≤ (i : Int)) = true := by simp; omega
            have hd2 : n ≤ i := by omega
            have hmin : min i n = n := Nat.min_eq_right hd2
            have hcell : ∀ j, j < 6 → wr.cell? ⟨g, i * 6 + j, none⟩ = some (farT j) := fun j hj =>
              (hJ.row.cell (i := i * 6 + j) (by dsimp only; omega)).trans (by rw [ov_at (by dsimp only; rw [hmin]; omega), lent_far (by dsimp only; omega), show (i * 6 + j) % 6 = j by omega])
            have c0 : wr.cell? ⟨g, i * 6, none⟩ = some (.string ⟨#[98, 101, 121, 111, 110, 100]⟩) := hcell 0 (by omega)
            have c1 : wr.cell? ⟨g, i * 6 + 1, none⟩ = some (.slice none 0 0) := hcell 1 (by omega)
            have c2 : wr.cell? ⟨g, i * 6 + 2, none⟩ = some (.slice none 0 0) := hcell 2 (by omega)
            have c3 : wr.cell? ⟨g, i * 6 + 3, none⟩ = some (.int .i64 0) := hcell 3 (by omega)
            have c4 : wr.cell? ⟨g, i * 6 + 4, none⟩ = some (.string ⟨#[]⟩) := hcell 4 (by omega)
            have c5 : wr.cell? ⟨g, i * 6 + 5, none⟩ = some (.slice none 0 0) := hcell 5 (by omega)
            have hJ2 := (hJ.more ((Below.refl _ wr).alloc (Nat.le_refl _) (.cells #[.string ⟨#[98, 101, 121, 111, 110, 100]⟩, .slice none 0 0, .slice none 0 0, .int .i64 0, .string ⟨#[]⟩, .slice none 0 0] 134)) (by omega)).far hd2
            clear hcell hmin hbxr
            go_wp2_with fail
            go_roundg (n + 3 - (i + 1))
            all_goals first
              | omega
              | exact ⟨i + 1, rfl, by omega, rfl, by go_num, hJ2⟩
        · have hN := hI1.next hl hJ HF.out.apart
          clear hJ hI1
          go_wp2_with fail
          go_roundg (B.length - (k + 1))
          all_goals first
            | omega
            | exact ⟨k + 1, rfl, by omega, rfl, by go_num, hN⟩
    · obtain rfl : k = B.length := by omega
      clear hOo
      go_wp2_with fail
      exact HK0.out _ _ _ _ _ _ _ _ _ _ _ _ _ _ _ _ _ _ _ _ _ _ _ _ _ _ _ _ _ _ _ _ _ _ _ _ _ _ _ _ _ _ _ _ _ _ _ _ _ _ _ _ _ _ _ _ _ _ _ _ _ _ _ _ _ _ _ _ _ _ _ _ _ _ _ _ _ _ _ _ _ _ _ _ _ _ _ _ _ _ _ _ _ _ _ _ _ _ _ _ _ _ _ _ _ _ _ _ _ _ _ _ _ _ _ _ _ _ _ _ _ _ _ _ _ _ _ _ _ _ _ _ _ _ _ hI
end Go.Proofs.YtilfjpmeededmaaGreatDoor

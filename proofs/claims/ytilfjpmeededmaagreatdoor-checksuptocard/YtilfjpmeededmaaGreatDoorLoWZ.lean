import Derived.Test.YtilfjpmeededmaaGreatDoorLoS1
import Derived.Test.YtilfjpmeededmaaGreatDoorLoS3Z
import Derived.Test.YtilfjpmeededmaaGreatDoorLoPZ
set_option linter.unusedVariables false
set_option linter.unusedSimpArgs false
namespace Go.Proofs.YtilfjpmeededmaaGreatDoor
open Go.RowKit
structure SmallDone (w w' : World) (mb : Nat) (C X K : List Ln) : Prop where
  c : ∀ l ∈ C, OvAt w' 50 3 ovC l
  x : ∀ l ∈ X, OvAt w' 9 1 ovX l
  k : ∀ l ∈ K, OvAt w' 162 3 ovK l
  keep : KeepL w w' [50, 9, 162]
  bel : Below mb w w'
set_option maxHeartbeats 40000000 in
set_option maxRecDepth 100000 in
theorem small_any (w0 w : World) (mb : Nat) (v1 v5 v6 : Value) (a1 : Option Addr) (an1 ac1 : Nat) (a2 : Option Addr) (an2 ac2 : Nat) (a3 : Option Addr) (an3 ac3 : Nat) (C X K : List Ln) (hO : w.heap[mb]? = some (.cells #[.slice a1 an1 ac1, v1, .slice a2 an2 ac2, .slice none 0 0, .slice a3 an3 ac3, v5, v6, .slice none 0 0, .slice none 0 0] 256 (0, 0)))
    (hC : LnsIn (WtL TyC w0 3) w 50 380 3 farC mb (.slice a1 an1 ac1) C) (hX : LnsIn (WtL TyX w0 1) w 9 472 1 farX mb (.slice a2 an2 ac2) X) (hK : LnsIn (WtL TyK w0 3) w 162 468 3 farK mb (.slice a3 an3 ac3) K)
    (h0 : Below w0.heap.size w0 w) (h0m : w0.heap.size ≤ mb) (hlC : C.length ≤ 2199023255552) (hlX : X.length ≤ 2199023255552) (hlK : K.length ≤ 2199023255552) :
    Calls Tryz.prog 195 #[.pointer (some ⟨mb, 0, none⟩)] w fun e w' => e = .returned (.bool true) ∧ SmallDone w w' mb C X K := by
  have hml := ln_lt hO
  obtain ⟨rfl, _⟩ := loan_read hC
  obtain ⟨rfl, _⟩ := loan_read hX
  obtain ⟨rfl, _⟩ := loan_read hK
  have HHX : Hid _ := hX
  have HHK : Hid _ := hK
  have HHC : Hid _ := hC
  have HO : Hid _ := hO
  clear hX hK hO hC
  go_enter Tryz.func195, Tryz.ntmps195
  go_upto_block 0 with fail
  refine small_cells w0 w mb _ a1 ac1 C HO.out rfl HHC.out h0 h0m hlC _ _ _ _ _ _ _ _ _ _ _ _ _ _ _ _ _ _ _ _ _ _ _ _ _ _ _ _ _ _ _ _ _ _ _ _ _ _ _ _ _ _ _ _ _ _ _ _ _ _ _ _ _ _ _ _ _ _ _ _ _ _ _ _ _ _ _ _ _ _ _ _ _ _ _ _ _ _ _ _ _ _ _ _ _ _ _ _ _ _ _ _ _ _ _ _ _ _ _ _ _ _ _ _ _ _ _ _ _ _ _ _ _ _ _ _ _ _ _ _ _ _ _ _ _ _ _ _ _ _ _ _ _ _ _ _ _ _ _ _ _ _ _ _ _ _ _ _ _ _ _ _ _ _ _ _ _ _ _ _ _ _ _ _ _ _ _ _ _ _ _ _ _ _ _ _ _ _ _ _ _ _ _ _ _ _ _ _ _ _ _ _ _ _ _ _ _ _ _ _ _ _ _ _ _ _ _ _ _ _ _ _ _ _ _ _ _ _ _ _ _ _ _ _ _ _ _ _ _ _ _ _ _ _ _ _ _ _ _ _ _ _ _ _ _ _ _ _ _ _ _ _ _ _ _ _ _ _ _ _ _ _ _ _ _ _ _ _ _ _ _ _ ?_
  intro v4 v5 v6 v16 v17 v18 v19 v20 v21 v22 v23 v24 v25 v26 v27 v28 v29 v30 v31 v32 v33 v34 v35 v36 v37 v38 v39 v40 v41 v42 v43 v44 v45 v46 v47 v48 v49 v50 v51 v52 v53 v54 v55 v56 v57 v58 v59 v60 v61 v62 v63 v64 v65 v66 v67 v68 v69 v70 v71 v72 v73 v74 v75 v76 v77 v78 v79 v80 w1 hI1
  dsimp only
  have HX1 : Hid _ := HHX.out.typedL hI1.keep (by decide) (by decide)
  have HK1 : Hid _ := HHK.out.typedL hI1.keep (by decide) (by decide)
  have HO1 : Hid _ := (hI1.keep _ _ _ _ HO.out (by decide)).trans HO.out
  have h01 : Below w0.heap.size w0 w1 := h0.trans (hI1.bel.mono h0m)
  have HI1 : Hid _ := hI1
  clear HHX HHK HO hI1 HHC
  go_upto_block 4 with fail
  refine small_texts w0 w1 mb _ a2 ac2 X HO1.out rfl HX1.out h01 h0m hlX _ _ _ _ _ _ _ _ _ _ _ _ _ _ _ _ _ _ _ _ _ _ _ _ _ _ _ _ _ _ _ _ _ _ _ _ _ _ _ _ _ _ _ _ _ _ _ _ _ _ _ _ _ _ _ _ _ _ _ _ _ _ _ _ _ _ _ _ _ _ _ _ _ _ _ _ _ _ _ _ _ _ _ _ _ _ _ _ _ _ _ _ _ _ _ _ _ _ _ _ _ _ _ _ _ _ _ _ _ _ _ _ _ _ _ _ _ _ _ _ _ _ _ _ _ _ _ _ _ _ _ _ _ _ _ _ _ _ _ _ _ _ _ _ _ _ _ _ _ _ _ _ _ _ _ _ _ _ _ _ _ _ _ _ _ _ _ _ _ _ _ _ _ _ _ _ _ _ _ _ _ _ _ _ _ _ _ _ _ _ _ _ _ _ _ _ _ _ _ _ _ _ _ _ _ _ _ _ _ _ _ _ _ _ _ _ _ _ _ _ _ _ _ _ _ _ _ _ _ _ _ _ _ _ _ _ _ _ _ _ _ _ _ _ _ _ _ _ _ _ _ _ _ _ _ _ _ _ _ _ _ _ _ _ _ _ _ _ _ _ _ _ ?_
  intro v7 v8 v9 v81 v82 v83 v84 v85 v86 v87 v88 v89 v90 v91 v92 v93 v94 v95 v96 v97 v98 v99 v100 v101 v102 v103 v104 v105 v106 v107 v108 v109 v110 v111 v112 v113 v114 v115 v116 v117 v118 v119 v120 v121 v122 v123 v124 v125 v126 v127 v128 v129 v130 v131 v132 v133 v134 v135 v136 v137 v138 v139 v140 v141 v142 v143 w2 hI2
  dsimp only
  have HK2 : Hid _ := HK1.out.typedL hI2.keep (by decide) (by decide)
  have HO2 : Hid _ := (hI2.keep _ _ _ _ HO1.out (by decide)).trans HO1.out
  have h02 : Below w0.heap.size w0 w2 := h01.trans (hI2.bel.mono h0m)
  have HI2 : Hid _ := hI2
  clear HX1 HK1 HO1 hI2
  have hm2 := ln_lt HO2.out
  have y3 : w2.cell? ⟨mb, 3, none⟩ = some (.slice none 0 0) := (blk_at HO2.out).trans rfl
  go_wp2_with fail
  go_loopw [3, 10] (fun ov iv wx => ov = .bool true ∧ iv = .int .i64 0 ∧ wx = w2) (fun _ _ _ => 0)
  case atStart => exact ⟨rfl, rfl, rfl⟩
  case round =>
    obtain ⟨rfl, rfl, hw6⟩ := hrel
    cases hw6
    go_upto_block 12 with fail
    refine small_cols w0 w2 mb _ a3 ac3 K HO2.out rfl HK2.out h02 h0m hlK _ _ _ _ _ _ _ _ _ _ _ _ _ _ _ _ _ _ _ _ _ _ _ _ _ _ _ _ _ _ _ _ _ _ _ _ _ _ _ _ _ _ _ _ _ _ _ _ _ _ _ _ _ _ _ _ _ _ _ _ _ _ _ _ _ _ _ _ _ _ _ _ _ _ _ _ _ _ _ _ _ _ _ _ _ _ _ _ _ _ _ _ _ _ _ _ _ _ _ _ _ _ _ _ _ _ _ _ _ _ _ _ _ _ _ _ _ _ _ _ _ _ _ _ _ _ _ _ _ _ _ _ _ _ _ _ _ _ _ _ _ _ _ _ _ _ _ _ _ _ _ _ _ _ _ _ _ _ _ _ _ _ _ _ _ _ _ _ _ _ _ _ _ _ _ _ _ _ _ _ _ _ _ _ _ _ _ _ _ _ _ _ _ _ _ _ _ _ _ _ _ _ _ _ _ _ _ _ _ _ _ _ _ _ _ _ _ _ _ _ _ _ _ _ _ _ _ _ _ _ _ _ _ _ _ _ _ _ _ _ _ _ _ _ _ _ _ _ _ _ _ _ _ _ _ _ _ _ _ _ _ _ _ _ _ _ _ _ _ _ _ _ ?_
    intro v13 v14 v15 v207 v208 v209 v210 v211 v212 v213 v214 v215 v216 v217 v218 v219 v220 v221 v222 v223 v224 v225 v226 v227 v228 v229 v230 v231 v232 v233 v234 v235 v236 v237 v238 v239 v240 v241 v242 v243 v244 v245 v246 v247 v248 v249 v250 v251 v252 v253 v254 v255 v256 v257 v258 v259 v260 v261 v262 v263 v264 v265 v266 v267 v268 v269 v270 v271 w3 hI3
    dsimp only
    have HI3 : Hid _ := hI3
    clear hI3
    go_wp2_with fail
    go_ret
    refine ⟨rfl, fun l hl => ?_, fun l hl => ?_, HI3.out.all, ?_, (HI1.out.bel.trans HI2.out.bel).trans HI3.out.bel⟩
    · exact rowIs_typedL (rowIs_typedL (HI1.out.all l hl) HI2.out.keep (by decide)) HI3.out.keep (by decide)
    · exact rowIs_typedL (HI2.out.all l hl) HI3.out.keep (by decide)
    · exact ((HI1.out.keep.mono (by decide)).trans (HI2.out.keep.mono (by decide))).trans (HI3.out.keep.mono (by decide))
end Go.Proofs.YtilfjpmeededmaaGreatDoor

namespace Go.Proofs.YtilfjpmeededmaaGreatDoor
open Go.RowKit
set_option maxHeartbeats 4000000 in
set_option maxRecDepth 100000 in
theorem loansWhole_any (w0 w : World) (mb : Nat) (C R X K B F : List Ln) (hL : Loaned w0 w mb C R X K B F) (hlen : Lens C R X K B F) (h0 : Below w0.heap.size w0 w) (h0m : w0.heap.size ≤ mb) :
    Calls Tryz.prog 122 #[.pointer (some ⟨mb, 0, none⟩)] w fun e w' => e = .returned (.bool true) ∧ Below mb w w' := by
  obtain ⟨vc, vr, vx, vk, vb, vf, ⟨⟨a1, b1, c1, rfl⟩, ⟨a2, b2, c2, rfl⟩, ⟨a3, b3, c3, rfl⟩, ⟨a4, b4, c4, rfl⟩, ⟨a5, b5, c5, rfl⟩, ⟨a6, b6, c6, rfl⟩⟩, hO, hC, hR, hX, hK, hB, hF⟩ := hL
  obtain ⟨l1, l2, l3, l4, l5, l6⟩ := hlen
  have HS := small_any w0 w mb _ _ _ a1 b1 c1 a3 b3 c3 a4 b4 c4 C X K hO hC hX hK h0 h0m l1 l3 l4
  have hCs : ∀ l ∈ C, l.n ≤ 1048576 := fun l hl => (hC.each l hl).small
  have hXs : ∀ l ∈ X, l.n ≤ 1048576 := fun l hl => (hX.each l hl).small
  have hKs : ∀ l ∈ K, l.n ≤ 1048576 := fun l hl => (hK.each l hl).small
  have HL2 : ∀ x : World, SmallDone w x mb C X K → Calls Tryz.prog 196 #[.pointer (some ⟨mb, 0, none⟩)] x fun e w' => e = .returned (.bool true) ∧ KeepL x w' [47, 134] ∧ Below mb x w' := fun x hx =>
    large_any w0 x mb _ _ _ _ a2 b2 c2 a5 b5 c5 C R X K B ((hx.keep _ _ _ _ hO (by decide)).trans hO) (hR.typedL hx.keep (by decide) (by decide)) (hB.typedL hx.keep (by decide) (by decide)) hx.c hCs hx.x hXs hx.k hKs (h0.trans (hx.bel.mono h0m)) h0m l2 l5
  have HP : ∀ x y : World, SmallDone w x mb C X K → KeepL x y [47, 134] → Below mb x y → Calls Tryz.prog 197 #[.pointer (some ⟨mb, 0, none⟩)] y fun e w' => e = .returned (.bool true) ∧ Below mb y w' := fun x y hx hy hb =>
    plain_any w0 y mb _ _ _ _ _ a6 b6 c6 F ((hy _ _ _ _ ((hx.keep _ _ _ _ hO (by decide)).trans hO) (by decide)).trans ((hx.keep _ _ _ _ hO (by decide)).trans hO)) ((hF.typedL hx.keep (by decide) (by decide)).typedL hy (by decide) (by decide)) ((h0.trans (hx.bel.mono h0m)).trans (hb.mono h0m)) h0m l6
  clear hO hC hR hX hK hB hF
  go_enter Tryz.func122, Tryz.ntmps122
  go_wp2_with (first
    | (go_at_call 195; refine HS.mono ?_; rintro e w2 ⟨rfl, hs2⟩)
    | (go_at_call 196; refine (HL2 _ hs2).mono ?_; rintro e w3 ⟨rfl, hk3, hb3⟩)
    | (go_at_call 197; refine (HP _ _ hs2 hk3 hb3).mono ?_; rintro e w4 ⟨rfl, hb4⟩))
  go_ret
  exact ⟨rfl, (hs2.bel.trans hb3).trans hb4⟩
end Go.Proofs.YtilfjpmeededmaaGreatDoor

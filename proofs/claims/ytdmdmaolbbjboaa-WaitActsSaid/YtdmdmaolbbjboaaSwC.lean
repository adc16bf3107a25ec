/- The switch at a task that is taken out, and at one that is asked for. Conditions: each theorem's own premises. -/
import Derived.Test.YtdmdmaolbbjboaaSwA
namespace Go.Proofs.Ytdmdmaolbbjboaa
open Go.RowKit
set_option linter.unusedVariables false

set_option maxRecDepth 1000000 in
set_option maxHeartbeats 8000000 in
theorem act3 {W w2 : World} {N m c : Nat} {A : Option Addr} {l : List Wt} {xt xc xv an am : Int} {K : Act → World → Prop} {Q0 : Exit → Act → World → Prop} {v0 v1 v2 v5 v7 v8 v9 v10 v11 v12 v13 v14 v15 v16 v17 v18 v19 v20 v21 v22 v23 v24 v25 v26 v27 v28 v29 v30 v31 v32 v33 v34 v36 v37 v38 v39 v40 v41 v42 v43 v44 v45 v46 v47 v48 v49 v50 v51 v52 v53 v54 v55 v56 v57 v58 v59 v60 v61 v62 v63 v64 v65 v66 v67 v68 v69 v70 v71 v72 v73 v74 v75 v76 v77 v78 v79 v80 v81 v82 v83 v84 v85 v86 v87 v88 v89 v90 v91 v92 v93 v94 v95 v96 v97 v98 v99 v100 v101 v102 v103 v104 v105 v106 v107 v108 v109 v110 v111 v112 v113 v114 v115 v116 v117 v118 v119 v120 v121 v122 v123 v124 v125 v126 v127 v128 v129 v130 v131 v132 v133 v134 v135 v136 v137 v138 v139 v140 v141 v142 v143 v144 v145 v146 v147 v148 v149 v150 v151 v152 v153 v154 v155 v156 v157 v158 v159 v160 v161 v162 v163 v164 v165 v166 v167 v168 v169 v170 v171 v172 v173 v174 v175 v176 v177 v178 v179 v180 v181 v182 v183 v184 v185 v186 v187 v188 v189 v190 v191 v192 v193 v194 v195 v196 v197 v198 v199 v200 v201 v202 v203 v204 v205 v206 v207 v208 v209 v210 v211 v212 v213 v214 v215 v216 v217 v218 v219 v220 : Value}
    (hN : N < w2.heap.size) (a0 : w2.cell? ⟨N, 0, none⟩ = some (.int .i64 3)) (a1 : w2.cell? ⟨N, 1, none⟩ = some (.int .i64 xt)) (a2 : w2.cell? ⟨N, 2, none⟩ = some (.int .i64 xc)) (a3 : w2.cell? ⟨N, 3, none⟩ = some (.int .i64 xv)) (a4 : w2.cell? ⟨N, 4, none⟩ = some (.int .i64 an)) (a5 : w2.cell? ⟨N, 5, none⟩ = some (.int .i64 am))
    (HS1 : Hid (AcS W l A m c w2)) (hm : (m : Int) ≤ 80)
    (HJ : Hid (∀ {u2 u7 u8 u9 u10 u11 u12 u13 u14 u15 u16 u36 u37 u38 u39 u40 u41 u42 u43 u44 u45 u46 u47 u48 u49 u50 u51 u52 u53 u54 u55 u56 u57 u58 u59 u60 u61 u62 u63 u64 u65 u66 u67 u68 u69 u70 u71 u72 u73 u74 u75 u76 u77 u78 u79 u80 u81 u82 u83 u84 u85 u86 u87 u88 u89 u90 u91 u92 u93 u94 u95 u96 u97 u98 u99 u100 u101 u102 u103 u104 u105 u106 u107 u108 u109 u110 u111 u112 u113 u114 u115 u116 u117 u118 u119 u120 u121 u122 u123 u124 u125 u126 u127 u128 u129 u130 u131 u132 u133 u134 u135 u136 u137 u138 u139 u140 u141 u142 u143 u144 u145 u146 u147 u148 u149 u150 u151 u152 u153 u154 u155 u156 u157 u158 u159 u160 u161 u162 u163 u164 u165 u166 u167 u168 u169 u170 u171 u172 u173 u174 u175 u176 u177 u178 u179 u180 u181 u182 u183 u184 u185 u186 u187 u188 u189 u190 u191 u192 u193 u194 u195 u196 u197 u198 u199 u200 u201 u202 u203 u204 u205 u206 u207 : Value} {m2 : Nat} {l2 : List Wt} {A2 : Option Addr} {c2 : Nat} {wx : World}, m2 ≤ m + 1 → AcS W l2 A2 m2 c2 wx → K ⟨#[v0, v1, u2, .pointer (some ⟨W.heap.size, 0, none⟩), .slice A2 m2 c2, v5, .pointer (some ⟨N, 0, none⟩), u7, u8, u9, u10, u11, u12, u13, u14, u15, u16, v17, v18, v19, v20, v21, v22, v23, v24, v25, v26, v27, v28, v29, v30, v31, v32, v33, v34, .int .i64 3, u36, u37, u38, u39, u40, u41, u42, u43, u44, u45, u46, u47, u48, u49, u50, u51, u52, u53, u54, u55, u56, u57, u58, u59, u60, u61, u62, u63, u64, u65, u66, u67, u68, u69, u70, u71, u72, u73, u74, u75, u76, u77, u78, u79, u80, u81, u82, u83, u84, u85, u86, u87, u88, u89, u90, u91, u92, u93, u94, u95, u96, u97, u98, u99, u100, u101, u102, u103, u104, u105, u106, u107, u108, u109, u110, u111, u112, u113, u114, u115, u116, u117, u118, u119, u120, u121, u122, u123, u124, u125, u126, u127, u128, u129, u130, u131, u132, u133, u134, u135, u136, u137, u138, u139, u140, u141, u142, u143, u144, u145, u146, u147, u148, u149, u150, u151, u152, u153, u154, u155, u156, u157, u158, u159, u160, u161, u162, u163, u164, u165, u166, u167, u168, u169, u170, u171, u172, u173, u174, u175, u176, u177, u178, u179, u180, u181, u182, u183, u184, u185, u186, u187, u188, u189, u190, u191, u192, u193, u194, u195, u196, u197, u198, u199, u200, u201, u202, u203, u204, u205, u206, u207, v208, v209, v210, v211, v212, v213, v214, v215, v216, v217, v218, v219, v220], []⟩ wx)) :
    Code.wp Try.prog swC (Exit.then K Q0) ⟨#[v0, v1, v2, .pointer (some ⟨W.heap.size, 0, none⟩), .slice A m c, v5, .pointer (some ⟨N, 0, none⟩), v7, v8, v9, v10, v11, v12, v13, v14, v15, v16, v17, v18, v19, v20, v21, v22, v23, v24, v25, v26, v27, v28, v29, v30, v31, v32, v33, v34, .int .i64 3, v36, v37, v38, v39, v40, v41, v42, v43, v44, v45, v46, v47, v48, v49, v50, v51, v52, v53, v54, v55, v56, v57, v58, v59, v60, v61, v62, v63, v64, v65, v66, v67, v68, v69, v70, v71, v72, v73, v74, v75, v76, v77, v78, v79, v80, v81, v82, v83, v84, v85, v86, v87, v88, v89, v90, v91, v92, v93, v94, v95, v96, v97, v98, v99, v100, v101, v102, v103, v104, v105, v106, v107, v108, v109, v110, v111, v112, v113, v114, v115, v116, v117, v118, v119, v120, v121, v122, v123, v124, v125, v126, v127, v128, v129, v130, v131, v132, v133, v134, v135, v136, v137, v138, v139, v140, v141, v142, v143, v144, v145, v146, v147, v148, v149, v150, v151, v152, v153, v154, v155, v156, v157, v158, v159, v160, v161, v162, v163, v164, v165, v166, v167, v168, v169, v170, v171, v172, v173, v174, v175, v176, v177, v178, v179, v180, v181, v182, v183, v184, v185, v186, v187, v188, v189, v190, v191, v192, v193, v194, v195, v196, v197, v198, v199, v200, v201, v202, v203, v204, v205, v206, v207, v208, v209, v210, v211, v212, v213, v214, v215, v216, v217, v218, v219, v220], []⟩ w2 := by
  conv => arg 2; whnf
  obtain ⟨i0, hi, hz0, hz1, hz2⟩ := info_parts inf28
  have HLm : Hid (l.length = m) := HS1.out.len
  go_wp2_with fail
  clear a0 a1 a2 a3
  have HL0 : Hid (LfS w2 l an 0 0 (.slice none 0 0) w2) := LfS.start _ _ _
  go_loopw [9, 10] (fun v9 i wx => ∃ j n : Nat, j ≤ m ∧ n ≤ j ∧ i = .int .i64 j ∧ Hid (LfS w2 l an j n v9 wx)) (fun _ i _ => m - (intOf i).toNat)
  case atStart => exact ⟨0, 0, by omega, by omega, rfl, HL0⟩
  case round =>
    clear HL0
    obtain ⟨j, n, hj, hn, rfl, hL⟩ := hrel
    by_cases hjl : j < m
    · obtain ⟨g, of, ⟨yt, yc, yv⟩, rfl, hg, hy, y0, y1, y2⟩ := HS1.out.wn.one hjl
      simp only at y0 y1 y2
      rw [← cell_blk (hL.out.bel.block g hg)] at y0 y1 y2
      rw [← cell_blk (hL.out.bel.block N hN)] at a4
      have HY := Lib.hid hy
      have q1 : (j : Int) < (m : Int) := by omega
      have hsz := hL.out.bel.size
      clear hy a5
      by_cases hx : yt = an
      · subst hx
        have HT := Lib.hid (hL.out.skip HY.out (by simp [isT]))
        clear hL
        go_wp2_with fail
        go_quiet (fail)
        have HT2 := Lib.hid (HT.out.later (w' := wr.drewN nq) rfl (below_drewN (Below.refl _ _) _))
        clear HT
        go_wp2_with fail
        go_roundw
        case rel => exact ⟨j + 1, n, by omega, by omega, by go_num, HT2⟩
        case measure => simp [intOf]; omega
      · have hx2 : (yt == an) = false := by simpa using hx
        have HF := Lib.hid (show isT an ⟨yt, yc, yv⟩ = false from hx2)
        clear hx
        go_wp2_with fail
        go_quiet (fail)
        have HL2 := Lib.hid (hL.out.later (w' := wr.drewN nq) rfl (below_drewN (Below.refl _ _) _))
        have z0 : (wr.drewN nq).cell? ⟨g, of + j * 3, none⟩ = some (.int .i64 yt) := y0
        have z1 : (wr.drewN nq).cell? ⟨g, of + j * 3 + 1, none⟩ = some (.int .i64 yc) := y1
        have z2 : (wr.drewN nq).cell? ⟨g, of + j * 3 + 2, none⟩ = some (.int .i64 yv) := y2
        have hsz2 : w2.heap.size ≤ (wr.drewN nq).heap.size := hsz
        clear hL y0 y1 y2 hsz a4
        generalize wr.drewN nq = wz at *
        go_wp2_with (at_builtin; go_loud (refine app_wp rfl (.tmp 102) (.tmp 107) 26 rfl w2.heap.size 28 3 24 i0 (.agg #[.int .i64 0, .int .i64 0, .int .i64 0]) Try.underlying26 hi hz0 hz1 hz2 rfl (by decide) u9 n _ rfl (HL2.out.row.alloc _) _ (some ⟨wz.heap.size, 0, none⟩) 1 1 (flW [⟨yt, yc, yv⟩]) rfl (Rd.one wz ⟨yt, yc, yv⟩ _ rfl) (flW_one _) (by unfold maxLen; omega) (by omega) (by simp; omega) ?_; intro v5 w5 ho5 hg5; have HT5 := Lib.hid (HL2.out.take HY.out HF.out (below_app (HL2.out.bel.alloc hsz2 _) (Nat.le_refl _) (by simp; omega) (HL2.out.row.alloc _) hg5) ho5); clear ho5 hg5))
        clear HL2
        go_roundw
        case rel => exact ⟨j + 1, n + 1, by omega, by omega, by go_num, HT5⟩
        case measure => simp [intOf]; omega
    · obtain rfl : j = m := by omega
      obtain ⟨A3, c3, rfl, hw3⟩ := hL.out.fin HLm.out
      rw [← cell_blk (hL.out.bel.block N hN)] at a4
      have HS3 := Lib.hid (HS1.out.st.later hL.out.bel)
      have HW3 := Lib.hid (hw3.mono HS1.out.st.bel.size)
      have HCT := Lib.hid (left_ct l (isT an))
      have hle : n ≤ j := hn
      clear hL HS1 hw3 a5
      go_wp2_with fail
      refine (remove_any an HS3.out.ql (by rw [HLm.out]; omega)).mono ?_
      rintro e w6 ⟨rfl, q6, f6⟩
      have S6 : Hid (AcS W (l.filter fun x => !isT an x) A3 n c3 w6) := ⟨HS3.out.go f6 q6, HW3.out.go f6⟩
      have hct : (j : Int) - (n : Int) = ((l.countP (isT an) : Nat) : Int) := by have h1 := HCT.out; have h2 := S6.out.len; rw [HLm.out] at h1; omega
      clear q6 f6 HS3 HW3 HCT a4
      generalize l.countP (isT an) = ct at *
      go_wp2_with fail
      exact HJ.out (by omega) S6.out
set_option maxRecDepth 1000000 in
set_option maxHeartbeats 8000000 in
theorem act5 {W w2 : World} {N m c : Nat} {A : Option Addr} {l : List Wt} {xt xc xv an am : Int} {K : Act → World → Prop} {Q0 : Exit → Act → World → Prop} {v0 v1 v2 v5 v7 v8 v9 v10 v11 v12 v13 v14 v15 v16 v17 v18 v19 v20 v21 v22 v23 v24 v25 v26 v27 v28 v29 v30 v31 v32 v33 v34 v36 v37 v38 v39 v40 v41 v42 v43 v44 v45 v46 v47 v48 v49 v50 v51 v52 v53 v54 v55 v56 v57 v58 v59 v60 v61 v62 v63 v64 v65 v66 v67 v68 v69 v70 v71 v72 v73 v74 v75 v76 v77 v78 v79 v80 v81 v82 v83 v84 v85 v86 v87 v88 v89 v90 v91 v92 v93 v94 v95 v96 v97 v98 v99 v100 v101 v102 v103 v104 v105 v106 v107 v108 v109 v110 v111 v112 v113 v114 v115 v116 v117 v118 v119 v120 v121 v122 v123 v124 v125 v126 v127 v128 v129 v130 v131 v132 v133 v134 v135 v136 v137 v138 v139 v140 v141 v142 v143 v144 v145 v146 v147 v148 v149 v150 v151 v152 v153 v154 v155 v156 v157 v158 v159 v160 v161 v162 v163 v164 v165 v166 v167 v168 v169 v170 v171 v172 v173 v174 v175 v176 v177 v178 v179 v180 v181 v182 v183 v184 v185 v186 v187 v188 v189 v190 v191 v192 v193 v194 v195 v196 v197 v198 v199 v200 v201 v202 v203 v204 v205 v206 v207 v208 v209 v210 v211 v212 v213 v214 v215 v216 v217 v218 v219 v220 : Value}
    (hN : N < w2.heap.size) (a0 : w2.cell? ⟨N, 0, none⟩ = some (.int .i64 5)) (a1 : w2.cell? ⟨N, 1, none⟩ = some (.int .i64 xt)) (a2 : w2.cell? ⟨N, 2, none⟩ = some (.int .i64 xc)) (a3 : w2.cell? ⟨N, 3, none⟩ = some (.int .i64 xv)) (a4 : w2.cell? ⟨N, 4, none⟩ = some (.int .i64 an)) (a5 : w2.cell? ⟨N, 5, none⟩ = some (.int .i64 am))
    (HS1 : Hid (AcS W l A m c w2)) (hm : (m : Int) ≤ 80)
    (HJ : Hid (∀ {u2 u7 u8 u9 u10 u11 u12 u13 u14 u15 u16 u36 u37 u38 u39 u40 u41 u42 u43 u44 u45 u46 u47 u48 u49 u50 u51 u52 u53 u54 u55 u56 u57 u58 u59 u60 u61 u62 u63 u64 u65 u66 u67 u68 u69 u70 u71 u72 u73 u74 u75 u76 u77 u78 u79 u80 u81 u82 u83 u84 u85 u86 u87 u88 u89 u90 u91 u92 u93 u94 u95 u96 u97 u98 u99 u100 u101 u102 u103 u104 u105 u106 u107 u108 u109 u110 u111 u112 u113 u114 u115 u116 u117 u118 u119 u120 u121 u122 u123 u124 u125 u126 u127 u128 u129 u130 u131 u132 u133 u134 u135 u136 u137 u138 u139 u140 u141 u142 u143 u144 u145 u146 u147 u148 u149 u150 u151 u152 u153 u154 u155 u156 u157 u158 u159 u160 u161 u162 u163 u164 u165 u166 u167 u168 u169 u170 u171 u172 u173 u174 u175 u176 u177 u178 u179 u180 u181 u182 u183 u184 u185 u186 u187 u188 u189 u190 u191 u192 u193 u194 u195 u196 u197 u198 u199 u200 u201 u202 u203 u204 u205 u206 u207 : Value} {m2 : Nat} {l2 : List Wt} {A2 : Option Addr} {c2 : Nat} {wx : World}, m2 ≤ m + 1 → AcS W l2 A2 m2 c2 wx → K ⟨#[v0, v1, u2, .pointer (some ⟨W.heap.size, 0, none⟩), .slice A2 m2 c2, v5, .pointer (some ⟨N, 0, none⟩), u7, u8, u9, u10, u11, u12, u13, u14, u15, u16, v17, v18, v19, v20, v21, v22, v23, v24, v25, v26, v27, v28, v29, v30, v31, v32, v33, v34, .int .i64 5, u36, u37, u38, u39, u40, u41, u42, u43, u44, u45, u46, u47, u48, u49, u50, u51, u52, u53, u54, u55, u56, u57, u58, u59, u60, u61, u62, u63, u64, u65, u66, u67, u68, u69, u70, u71, u72, u73, u74, u75, u76, u77, u78, u79, u80, u81, u82, u83, u84, u85, u86, u87, u88, u89, u90, u91, u92, u93, u94, u95, u96, u97, u98, u99, u100, u101, u102, u103, u104, u105, u106, u107, u108, u109, u110, u111, u112, u113, u114, u115, u116, u117, u118, u119, u120, u121, u122, u123, u124, u125, u126, u127, u128, u129, u130, u131, u132, u133, u134, u135, u136, u137, u138, u139, u140, u141, u142, u143, u144, u145, u146, u147, u148, u149, u150, u151, u152, u153, u154, u155, u156, u157, u158, u159, u160, u161, u162, u163, u164, u165, u166, u167, u168, u169, u170, u171, u172, u173, u174, u175, u176, u177, u178, u179, u180, u181, u182, u183, u184, u185, u186, u187, u188, u189, u190, u191, u192, u193, u194, u195, u196, u197, u198, u199, u200, u201, u202, u203, u204, u205, u206, u207, v208, v209, v210, v211, v212, v213, v214, v215, v216, v217, v218, v219, v220], []⟩ wx)) :
    Code.wp Try.prog swC (Exit.then K Q0) ⟨#[v0, v1, v2, .pointer (some ⟨W.heap.size, 0, none⟩), .slice A m c, v5, .pointer (some ⟨N, 0, none⟩), v7, v8, v9, v10, v11, v12, v13, v14, v15, v16, v17, v18, v19, v20, v21, v22, v23, v24, v25, v26, v27, v28, v29, v30, v31, v32, v33, v34, .int .i64 5, v36, v37, v38, v39, v40, v41, v42, v43, v44, v45, v46, v47, v48, v49, v50, v51, v52, v53, v54, v55, v56, v57, v58, v59, v60, v61, v62, v63, v64, v65, v66, v67, v68, v69, v70, v71, v72, v73, v74, v75, v76, v77, v78, v79, v80, v81, v82, v83, v84, v85, v86, v87, v88, v89, v90, v91, v92, v93, v94, v95, v96, v97, v98, v99, v100, v101, v102, v103, v104, v105, v106, v107, v108, v109, v110, v111, v112, v113, v114, v115, v116, v117, v118, v119, v120, v121, v122, v123, v124, v125, v126, v127, v128, v129, v130, v131, v132, v133, v134, v135, v136, v137, v138, v139, v140, v141, v142, v143, v144, v145, v146, v147, v148, v149, v150, v151, v152, v153, v154, v155, v156, v157, v158, v159, v160, v161, v162, v163, v164, v165, v166, v167, v168, v169, v170, v171, v172, v173, v174, v175, v176, v177, v178, v179, v180, v181, v182, v183, v184, v185, v186, v187, v188, v189, v190, v191, v192, v193, v194, v195, v196, v197, v198, v199, v200, v201, v202, v203, v204, v205, v206, v207, v208, v209, v210, v211, v212, v213, v214, v215, v216, v217, v218, v219, v220], []⟩ w2 := by
  conv => arg 2; whnf
  have HLm : Hid (l.length = m) := HS1.out.len
  go_wp2_with fail
  clear a0 a1 a2 a3
  go_loopw [15, 16] (fun v15 i wx => ∃ (j : Nat) (b : Bool) (q : Nat), j ≤ m ∧ v15 = .bool b ∧ i = .int .i64 j ∧ Hid ((l.take j).any (isT an) = b) ∧ wx = w2.drewN q) (fun _ i _ => m - (intOf i).toNat)
  case atStart => exact ⟨0, false, 0, by omega, rfl, rfl, rfl, rfl⟩
  case round =>
    obtain ⟨j, b, q, hj, rfl, rfl, hB, rfl⟩ := hrel
    by_cases hjl : j < m
    · obtain ⟨g, of, ⟨yt, yc, yv⟩, rfl, hg, hy, y0, y1, y2⟩ := HS1.out.wn.one hjl
      simp only at y0
      have HT := Lib.hid (any_take (f := isT an) hy)
      have q1 : (j : Int) < (m : Int) := by omega
      clear hy y1 y2 a5
      cases b with
      | true =>
        have HT2 : Hid ((l.take (j + 1)).any (isT an) = true) := by have h1 := HT.out; rw [hB.out] at h1; exact h1
        clear HT hB
        go_wp2_with fail
        go_quiet (fail)
        go_wp2_with fail
        go_roundw
        case rel => exact ⟨j + 1, true, _, by omega, rfl, by go_num, HT2, rfl⟩
        case measure => simp [intOf]; omega
      | false =>
        have HT2 : Hid ((l.take (j + 1)).any (isT an) = (yt == an)) := by have h1 := HT.out; rw [hB.out] at h1; exact h1
        clear HT hB
        go_wp2_with fail
        go_quiet (fail)
        go_wp2_with fail
        go_roundw
        case rel => exact ⟨j + 1, (yt == an), _, by omega, rfl, by go_num, HT2, rfl⟩
        case measure => simp [intOf]; omega
    · obtain rfl : j = m := by omega
      have HB2 : Hid (l.any (isT an) = b) := by have h1 := hB.out; rw [List.take_of_length_le (by rw [HLm.out]; exact Nat.le_refl _)] at h1; exact h1
      have S6 := Lib.hid (HS1.out.later (below_drewN (Below.refl _ _) q))
      have a4' : (w2.drewN q).cell? ⟨N, 4, none⟩ = some (.int .i64 an) := a4
      clear hB HS1 a4 a5
      generalize w2.drewN q = w6 at *
      go_wp2_with fail
      refine (has_any an S6.out.st.ql).mono ?_
      rintro e w' ⟨rfl, rfl⟩
      rw [HB2.out]
      go_wp2_with fail
      exact HJ.out (by omega) S6.out
end Go.Proofs.Ytdmdmaolbbjboaa

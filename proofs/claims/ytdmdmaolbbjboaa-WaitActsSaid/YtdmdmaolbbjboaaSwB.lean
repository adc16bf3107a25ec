/- The switch at a pop. Conditions: the theorem's own premises. -/
import Derived.Test.YtdmdmaolbbjboaaSwA
namespace Go.Proofs.Ytdmdmaolbbjboaa
open Go.RowKit
set_option linter.unusedVariables false

set_option maxRecDepth 1000000 in
set_option maxHeartbeats 8000000 in
theorem act2 {W w2 : World} {N m c : Nat} {A : Option Addr} {l : List Wt} {xt xc xv an am : Int} {K : Act → World → Prop} {Q0 : Exit → Act → World → Prop} {v0 v1 v2 v5 v7 v8 v9 v10 v11 v12 v13 v14 v15 v16 v17 v18 v19 v20 v21 v22 v23 v24 v25 v26 v27 v28 v29 v30 v31 v32 v33 v34 v36 v37 v38 v39 v40 v41 v42 v43 v44 v45 v46 v47 v48 v49 v50 v51 v52 v53 v54 v55 v56 v57 v58 v59 v60 v61 v62 v63 v64 v65 v66 v67 v68 v69 v70 v71 v72 v73 v74 v75 v76 v77 v78 v79 v80 v81 v82 v83 v84 v85 v86 v87 v88 v89 v90 v91 v92 v93 v94 v95 v96 v97 v98 v99 v100 v101 v102 v103 v104 v105 v106 v107 v108 v109 v110 v111 v112 v113 v114 v115 v116 v117 v118 v119 v120 v121 v122 v123 v124 v125 v126 v127 v128 v129 v130 v131 v132 v133 v134 v135 v136 v137 v138 v139 v140 v141 v142 v143 v144 v145 v146 v147 v148 v149 v150 v151 v152 v153 v154 v155 v156 v157 v158 v159 v160 v161 v162 v163 v164 v165 v166 v167 v168 v169 v170 v171 v172 v173 v174 v175 v176 v177 v178 v179 v180 v181 v182 v183 v184 v185 v186 v187 v188 v189 v190 v191 v192 v193 v194 v195 v196 v197 v198 v199 v200 v201 v202 v203 v204 v205 v206 v207 v208 v209 v210 v211 v212 v213 v214 v215 v216 v217 v218 v219 v220 : Value}
    (hN : N < w2.heap.size) (a0 : w2.cell? ⟨N, 0, none⟩ = some (.int .i64 2)) (a1 : w2.cell? ⟨N, 1, none⟩ = some (.int .i64 xt)) (a2 : w2.cell? ⟨N, 2, none⟩ = some (.int .i64 xc)) (a3 : w2.cell? ⟨N, 3, none⟩ = some (.int .i64 xv)) (a4 : w2.cell? ⟨N, 4, none⟩ = some (.int .i64 an)) (a5 : w2.cell? ⟨N, 5, none⟩ = some (.int .i64 am))
    (HS1 : Hid (AcS W l A m c w2)) (hm : (m : Int) ≤ 80)
    (HJ : Hid (∀ {u2 u7 u8 u9 u10 u11 u12 u13 u14 u15 u16 u36 u37 u38 u39 u40 u41 u42 u43 u44 u45 u46 u47 u48 u49 u50 u51 u52 u53 u54 u55 u56 u57 u58 u59 u60 u61 u62 u63 u64 u65 u66 u67 u68 u69 u70 u71 u72 u73 u74 u75 u76 u77 u78 u79 u80 u81 u82 u83 u84 u85 u86 u87 u88 u89 u90 u91 u92 u93 u94 u95 u96 u97 u98 u99 u100 u101 u102 u103 u104 u105 u106 u107 u108 u109 u110 u111 u112 u113 u114 u115 u116 u117 u118 u119 u120 u121 u122 u123 u124 u125 u126 u127 u128 u129 u130 u131 u132 u133 u134 u135 u136 u137 u138 u139 u140 u141 u142 u143 u144 u145 u146 u147 u148 u149 u150 u151 u152 u153 u154 u155 u156 u157 u158 u159 u160 u161 u162 u163 u164 u165 u166 u167 u168 u169 u170 u171 u172 u173 u174 u175 u176 u177 u178 u179 u180 u181 u182 u183 u184 u185 u186 u187 u188 u189 u190 u191 u192 u193 u194 u195 u196 u197 u198 u199 u200 u201 u202 u203 u204 u205 u206 u207 : Value} {m2 : Nat} {l2 : List Wt} {A2 : Option Addr} {c2 : Nat} {wx : World}, m2 ≤ m + 1 → AcS W l2 A2 m2 c2 wx → K ⟨#[v0, v1, u2, .pointer (some ⟨W.heap.size, 0, none⟩), .slice A2 m2 c2, v5, .pointer (some ⟨N, 0, none⟩), u7, u8, u9, u10, u11, u12, u13, u14, u15, u16, v17, v18, v19, v20, v21, v22, v23, v24, v25, v26, v27, v28, v29, v30, v31, v32, v33, v34, .int .i64 2, u36, u37, u38, u39, u40, u41, u42, u43, u44, u45, u46, u47, u48, u49, u50, u51, u52, u53, u54, u55, u56, u57, u58, u59, u60, u61, u62, u63, u64, u65, u66, u67, u68, u69, u70, u71, u72, u73, u74, u75, u76, u77, u78, u79, u80, u81, u82, u83, u84, u85, u86, u87, u88, u89, u90, u91, u92, u93, u94, u95, u96, u97, u98, u99, u100, u101, u102, u103, u104, u105, u106, u107, u108, u109, u110, u111, u112, u113, u114, u115, u116, u117, u118, u119, u120, u121, u122, u123, u124, u125, u126, u127, u128, u129, u130, u131, u132, u133, u134, u135, u136, u137, u138, u139, u140, u141, u142, u143, u144, u145, u146, u147, u148, u149, u150, u151, u152, u153, u154, u155, u156, u157, u158, u159, u160, u161, u162, u163, u164, u165, u166, u167, u168, u169, u170, u171, u172, u173, u174, u175, u176, u177, u178, u179, u180, u181, u182, u183, u184, u185, u186, u187, u188, u189, u190, u191, u192, u193, u194, u195, u196, u197, u198, u199, u200, u201, u202, u203, u204, u205, u206, u207, v208, v209, v210, v211, v212, v213, v214, v215, v216, v217, v218, v219, v220], []⟩ wx)) :
    Code.wp Try.prog swC (Exit.then K Q0) ⟨#[v0, v1, v2, .pointer (some ⟨W.heap.size, 0, none⟩), .slice A m c, v5, .pointer (some ⟨N, 0, none⟩), v7, v8, v9, v10, v11, v12, v13, v14, v15, v16, v17, v18, v19, v20, v21, v22, v23, v24, v25, v26, v27, v28, v29, v30, v31, v32, v33, v34, .int .i64 2, v36, v37, v38, v39, v40, v41, v42, v43, v44, v45, v46, v47, v48, v49, v50, v51, v52, v53, v54, v55, v56, v57, v58, v59, v60, v61, v62, v63, v64, v65, v66, v67, v68, v69, v70, v71, v72, v73, v74, v75, v76, v77, v78, v79, v80, v81, v82, v83, v84, v85, v86, v87, v88, v89, v90, v91, v92, v93, v94, v95, v96, v97, v98, v99, v100, v101, v102, v103, v104, v105, v106, v107, v108, v109, v110, v111, v112, v113, v114, v115, v116, v117, v118, v119, v120, v121, v122, v123, v124, v125, v126, v127, v128, v129, v130, v131, v132, v133, v134, v135, v136, v137, v138, v139, v140, v141, v142, v143, v144, v145, v146, v147, v148, v149, v150, v151, v152, v153, v154, v155, v156, v157, v158, v159, v160, v161, v162, v163, v164, v165, v166, v167, v168, v169, v170, v171, v172, v173, v174, v175, v176, v177, v178, v179, v180, v181, v182, v183, v184, v185, v186, v187, v188, v189, v190, v191, v192, v193, v194, v195, v196, v197, v198, v199, v200, v201, v202, v203, v204, v205, v206, v207, v208, v209, v210, v211, v212, v213, v214, v215, v216, v217, v218, v219, v220], []⟩ w2 := by
  conv => arg 2; whnf
  cases l with
  | nil =>
    obtain rfl : m = 0 := HS1.out.len.symm
    go_wp2_with fail
    refine (pop_none HS1.out.st.ql).mono ?_
    rintro e w3 ⟨rfl, q3, f3⟩
    have S3 : Hid (AcS W [] A 0 c w3) := ⟨HS1.out.st.go f3 q3, HS1.out.wn.go f3⟩
    clear q3 f3 HS1
    unfold wG
    go_wp2_with fail
    have e0 : (w3.alloc (.cells #[.int .i64 0, .int .i64 0, .int .i64 0] 28)).cell? ⟨w3.heap.size, 0, none⟩ = some (.int .i64 0) := by simp
    have e1 : (w3.alloc (.cells #[.int .i64 0, .int .i64 0, .int .i64 0] 28)).cell? ⟨w3.heap.size, 1, none⟩ = some (.int .i64 0) := by simp
    have e2 : (w3.alloc (.cells #[.int .i64 0, .int .i64 0, .int .i64 0] 28)).cell? ⟨w3.heap.size, 2, none⟩ = some (.int .i64 0) := by simp
    have S4 := Lib.hid (S3.out.later (below_al w3 (.cells #[.int .i64 0, .int .i64 0, .int .i64 0] 28)))
    generalize w3.alloc (.cells #[.int .i64 0, .int .i64 0, .int .i64 0] 28) = w4 at *
    generalize w3.heap.size = N3 at *
    clear S3
    go_quiet (fail)
    have S5 := Lib.hid (S4.out.drewN nq)
    generalize w4.drewN nq = w5 at *
    clear S4 e0 e1 e2
    go_wp2_with fail
    exact HJ.out (by omega) S5.out
  | cons y l =>
    obtain ⟨m, rfl⟩ : ∃ m', m = m' + 1 := ⟨m - 1, by have h9 := HS1.out.len; rw [List.length_cons] at h9; omega⟩
    obtain ⟨yt, yc, yv⟩ := y
    obtain ⟨c, rfl⟩ : ∃ c', c = c' + 1 := ⟨c - 1, by have h9 := HS1.out.wn.2.1; omega⟩
    have hll : Hid (l.length = m) := by have h9 := HS1.out.len; rw [List.length_cons] at h9; show _ = _; omega
    have m1 : (0 : Int) < (m : Int) + 1 := by omega
    go_wp2_with fail
    refine (pop_some HS1.out.st.ql (by rw [hll.out]; omega)).mono ?_
    rintro e w3 ⟨rfl, q3, f3⟩
    have S3 : Hid (ST W l w3) := HS1.out.st.go f3 q3
    have W3 := Lib.hid (HS1.out.wn.go f3)
    clear q3 f3 HS1
    obtain ⟨g, of, rfl, hg1, hg2, hcell⟩ := W3.out.cells (Nat.succ_pos _)
    obtain ⟨y0, y1, y2⟩ := hcell 0 ⟨yt, yc, yv⟩ rfl
    rw [Nat.zero_mul, Nat.add_zero] at y0 y1 y2
    simp only at y0 y1 y2
    unfold wG
    go_wp2_with fail
    have e0 : (w3.alloc (.cells #[.int .i64 yt, .int .i64 yc, .int .i64 yv] 28)).cell? ⟨w3.heap.size, 0, none⟩ = some (.int .i64 yt) := by simp
    have e1 : (w3.alloc (.cells #[.int .i64 yt, .int .i64 yc, .int .i64 yv] 28)).cell? ⟨w3.heap.size, 1, none⟩ = some (.int .i64 yc) := by simp
    have e2 : (w3.alloc (.cells #[.int .i64 yt, .int .i64 yc, .int .i64 yv] 28)).cell? ⟨w3.heap.size, 2, none⟩ = some (.int .i64 yv) := by simp
    have hbz := below_al w3 (.cells #[.int .i64 yt, .int .i64 yc, .int .i64 yv] 28)
    rw [← cell_blk (hbz.block g hg2)] at y0 y1 y2
    have S4 := Lib.hid (S3.out.later hbz)
    have W4 := Lib.hid (W3.out.later hbz)
    clear hcell hbz S3 W3
    generalize w3.alloc (.cells #[.int .i64 yt, .int .i64 yc, .int .i64 yv] 28) = w4 at *
    generalize w3.heap.size = N3 at *
    go_quiet (fail)
    have S5 := Lib.hid (S4.out.later (below_drewN (Below.refl _ _) nq))
    have W5 := Lib.hid (W4.out.later (below_drewN (Below.refl _ _) nq))
    generalize w4.drewN nq = w5 at *
    clear S4 W4 e0 e1 e2 y0 y1 y2
    by_cases hc0 : c = 0
    · subst hc0
      obtain rfl : m = 0 := by have h9 := W5.out.2.1; omega
      obtain rfl : l = [] := List.eq_nil_of_length_eq_zero hll.out
      have S6 : Hid (AcS W [] (some ⟨g, of, none⟩) 0 0 w5) := ⟨S5.out, Wn.nil _ _ _ _ (by omega)⟩
      clear S5 W5 hll
      go_wp2_with fail
      exact HJ.out (by omega) S6.out
    · have cc1 : (0 : Int) < (c : Int) := by omega
      have S6 : Hid (AcS W l (some ⟨g, of + 3, none⟩) m c w5) := ⟨S5.out, W5.out.drop (k := 1) (by omega)⟩
      clear S5 W5 hll
      go_wp2_with fail
      exact HJ.out (by omega) S6.out
end Go.Proofs.Ytdmdmaolbbjboaa

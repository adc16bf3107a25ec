/- The switch at one that is taken. Conditions: the theorem's own premises. -/
import Derived.Test.YtdmdmaolbbjboaaSwA
namespace Go.Proofs.Ytdmdmaolbbjboaa
open Go.RowKit
set_option linter.unusedVariables false

set_option maxRecDepth 1000000 in
set_option maxHeartbeats 8000000 in
theorem act4 {W w2 : World} {N m c : Nat} {A : Option Addr} {l : List Wt} {xt xc xv an am : Int} {K K1 K2 K3 : Act → World → Prop} {R : Ending → World → Prop} {v0 v1 v2 v5 v7 v8 v9 v10 v11 v12 v13 v14 v15 v16 v17 v18 v19 v20 v21 v22 v23 v24 v25 v26 v27 v28 v29 v30 v31 v32 v33 v34 v36 v37 v38 v39 v40 v41 v42 v43 v44 v45 v46 v47 v48 v49 v50 v51 v52 v53 v54 v55 v56 v57 v58 v59 v60 v61 v62 v63 v64 v65 v66 v67 v68 v69 v70 v71 v72 v73 v74 v75 v76 v77 v78 v79 v80 v81 v82 v83 v84 v85 v86 v87 v88 v89 v90 v91 v92 v93 v94 v95 v96 v97 v98 v99 v100 v101 v102 v103 v104 v105 v106 v107 v108 v109 v110 v111 v112 v113 v114 v115 v116 v117 v118 v119 v120 v121 v122 v123 v124 v125 v126 v127 v128 v129 v130 v131 v132 v133 v134 v135 v136 v137 v138 v139 v140 v141 v142 v143 v144 v145 v146 v147 v148 v149 v150 v151 v152 v153 v154 v155 v156 v157 v158 v159 v160 v161 v162 v163 v164 v165 v166 v167 v168 v169 v170 v171 v172 v173 v174 v175 v176 v177 v178 v179 v180 v181 v182 v183 v184 v185 v186 v187 v188 v189 v190 v191 v192 v193 v194 v195 v196 v197 v198 v199 v200 v201 v202 v203 v204 v205 v206 v207 v208 v209 v210 v211 v212 v213 v214 v215 v216 v217 v218 v219 v220 : Value}
    (hN : N < w2.heap.size) (a0 : w2.cell? ⟨N, 0, none⟩ = some (.int .i64 4)) (a1 : w2.cell? ⟨N, 1, none⟩ = some (.int .i64 xt)) (a2 : w2.cell? ⟨N, 2, none⟩ = some (.int .i64 xc)) (a3 : w2.cell? ⟨N, 3, none⟩ = some (.int .i64 xv)) (a4 : w2.cell? ⟨N, 4, none⟩ = some (.int .i64 an)) (a5 : w2.cell? ⟨N, 5, none⟩ = some (.int .i64 am))
    (HS1 : Hid (AcS W l A m c w2)) (hm : (m : Int) ≤ 80)
    (HJ : Hid (∀ {u2 u7 u8 u9 u10 u11 u12 u13 u14 u15 u16 u36 u37 u38 u39 u40 u41 u42 u43 u44 u45 u46 u47 u48 u49 u50 u51 u52 u53 u54 u55 u56 u57 u58 u59 u60 u61 u62 u63 u64 u65 u66 u67 u68 u69 u70 u71 u72 u73 u74 u75 u76 u77 u78 u79 u80 u81 u82 u83 u84 u85 u86 u87 u88 u89 u90 u91 u92 u93 u94 u95 u96 u97 u98 u99 u100 u101 u102 u103 u104 u105 u106 u107 u108 u109 u110 u111 u112 u113 u114 u115 u116 u117 u118 u119 u120 u121 u122 u123 u124 u125 u126 u127 u128 u129 u130 u131 u132 u133 u134 u135 u136 u137 u138 u139 u140 u141 u142 u143 u144 u145 u146 u147 u148 u149 u150 u151 u152 u153 u154 u155 u156 u157 u158 u159 u160 u161 u162 u163 u164 u165 u166 u167 u168 u169 u170 u171 u172 u173 u174 u175 u176 u177 u178 u179 u180 u181 u182 u183 u184 u185 u186 u187 u188 u189 u190 u191 u192 u193 u194 u195 u196 u197 u198 u199 u200 u201 u202 u203 u204 u205 u206 u207 : Value} {m2 : Nat} {l2 : List Wt} {A2 : Option Addr} {c2 : Nat} {wx : World}, m2 ≤ m + 1 → AcS W l2 A2 m2 c2 wx → K ⟨#[v0, v1, u2, .pointer (some ⟨W.heap.size, 0, none⟩), .slice A2 m2 c2, v5, .pointer (some ⟨N, 0, none⟩), u7, u8, u9, u10, u11, u12, u13, u14, u15, u16, v17, v18, v19, v20, v21, v22, v23, v24, v25, v26, v27, v28, v29, v30, v31, v32, v33, v34, .int .i64 4, u36, u37, u38, u39, u40, u41, u42, u43, u44, u45, u46, u47, u48, u49, u50, u51, u52, u53, u54, u55, u56, u57, u58, u59, u60, u61, u62, u63, u64, u65, u66, u67, u68, u69, u70, u71, u72, u73, u74, u75, u76, u77, u78, u79, u80, u81, u82, u83, u84, u85, u86, u87, u88, u89, u90, u91, u92, u93, u94, u95, u96, u97, u98, u99, u100, u101, u102, u103, u104, u105, u106, u107, u108, u109, u110, u111, u112, u113, u114, u115, u116, u117, u118, u119, u120, u121, u122, u123, u124, u125, u126, u127, u128, u129, u130, u131, u132, u133, u134, u135, u136, u137, u138, u139, u140, u141, u142, u143, u144, u145, u146, u147, u148, u149, u150, u151, u152, u153, u154, u155, u156, u157, u158, u159, u160, u161, u162, u163, u164, u165, u166, u167, u168, u169, u170, u171, u172, u173, u174, u175, u176, u177, u178, u179, u180, u181, u182, u183, u184, u185, u186, u187, u188, u189, u190, u191, u192, u193, u194, u195, u196, u197, u198, u199, u200, u201, u202, u203, u204, u205, u206, u207, v208, v209, v210, v211, v212, v213, v214, v215, v216, v217, v218, v219, v220], []⟩ wx)) :
    Code.wp Try.prog swC (Exit.then K (Exit.inBlock 1 (Exit.then K1 (Exit.then K2 (Exit.inBlock 0 (Exit.then K3 (bodyPost Try.prog Try.f3 R))))))) ⟨#[v0, v1, v2, .pointer (some ⟨W.heap.size, 0, none⟩), .slice A m c, v5, .pointer (some ⟨N, 0, none⟩), v7, v8, v9, v10, v11, v12, v13, v14, v15, v16, v17, v18, v19, v20, v21, v22, v23, v24, v25, v26, v27, v28, v29, v30, v31, v32, v33, v34, .int .i64 4, v36, v37, v38, v39, v40, v41, v42, v43, v44, v45, v46, v47, v48, v49, v50, v51, v52, v53, v54, v55, v56, v57, v58, v59, v60, v61, v62, v63, v64, v65, v66, v67, v68, v69, v70, v71, v72, v73, v74, v75, v76, v77, v78, v79, v80, v81, v82, v83, v84, v85, v86, v87, v88, v89, v90, v91, v92, v93, v94, v95, v96, v97, v98, v99, v100, v101, v102, v103, v104, v105, v106, v107, v108, v109, v110, v111, v112, v113, v114, v115, v116, v117, v118, v119, v120, v121, v122, v123, v124, v125, v126, v127, v128, v129, v130, v131, v132, v133, v134, v135, v136, v137, v138, v139, v140, v141, v142, v143, v144, v145, v146, v147, v148, v149, v150, v151, v152, v153, v154, v155, v156, v157, v158, v159, v160, v161, v162, v163, v164, v165, v166, v167, v168, v169, v170, v171, v172, v173, v174, v175, v176, v177, v178, v179, v180, v181, v182, v183, v184, v185, v186, v187, v188, v189, v190, v191, v192, v193, v194, v195, v196, v197, v198, v199, v200, v201, v202, v203, v204, v205, v206, v207, v208, v209, v210, v211, v212, v213, v214, v215, v216, v217, v218, v219, v220], []⟩ w2 := by
  conv => arg 2; whnf
  have HLm : Hid (l.length = m) := HS1.out.len
  go_wp2_with fail
  clear a0 a1 a2 a3
  have HF0 : Hid (FaR (isTC an am) l m (-1)) := FaR.start _ _ _ HLm.out
  go_loopw [11, 12] (fun v11 i wx => ∃ (j : Nat) (F : Int) (q : Nat), j ≤ m ∧ v11 = .int .i64 F ∧ i = .int .i64 ((j : Int) - 1) ∧ Hid (FaR (isTC an am) l j F) ∧ wx = w2.drewN q) (fun _ i _ => (intOf i + 1).toNat)
  case atStart => exact ⟨m, -1, 0, by omega, rfl, rfl, HF0, rfl⟩
  case round =>
    clear HF0
    obtain ⟨j, F, q, hj, rfl, rfl, hF, rfl⟩ := hrel
    cases j with
    | succ j =>
      rw [show (((j + 1 : Nat) : Int) - 1) = (j : Int) from by omega]
      obtain ⟨g, of, ⟨yt, yc, yv⟩, rfl, hg, hy, y0, y1, y2⟩ := HS1.out.wn.one (show j < m by omega)
      simp only at y0 y1
      have q0 : (0 : Int) ≤ (j : Int) := by omega
      have q1 : (j : Int) < (m : Int) := by omega
      clear y2
      by_cases h1 : (yt == an) = true
      · by_cases h2 : (yc == am) = true
        · have HT : Hid (FaR (isTC an am) l j (j : Int)) := FaR.here hy (by unfold isTC; rw [h1, h2]; rfl)
          clear hy hF
          go_wp2_with fail
          go_quiet (fail)
          go_wp2_with fail
          go_roundw
          case rel => exact ⟨j, (j : Int), _, by omega, rfl, by go_num, HT, rfl⟩
          case measure => simp [intOf] <;> omega
        · have h2' : (yc == am) = false := by simpa using h2
          have HT : Hid (FaR (isTC an am) l j F) := hF.out.skip hy (by unfold isTC; rw [h2', Bool.and_false])
          clear hy hF h2
          go_wp2_with fail
          go_quiet (fail)
          go_wp2_with fail
          go_roundw
          case rel => exact ⟨j, F, _, by omega, rfl, by go_num, HT, rfl⟩
          case measure => simp [intOf] <;> omega
      · have h1' : (yt == an) = false := by simpa using h1
        have HT : Hid (FaR (isTC an am) l j F) := hF.out.skip hy (by unfold isTC; rw [h1']; rfl)
        clear hy hF h1
        go_wp2_with fail
        go_quiet (fail)
        go_wp2_with fail
        go_roundw
        case rel => exact ⟨j, F, _, by omega, rfl, by go_num, HT, rfl⟩
        case measure => simp [intOf] <;> omega
    | zero =>
      rw [show (((0 : Nat) : Int) - 1) = -1 from rfl]
      obtain ⟨F1, F2⟩ := hF.out.le
      rw [HLm.out] at F2
      have S6 := Lib.hid (HS1.out.later (below_drewN (Below.refl _ _) q))
      have a4' : (w2.drewN q).cell? ⟨N, 4, none⟩ = some (.int .i64 an) := a4
      have a5' : (w2.drewN q).cell? ⟨N, 5, none⟩ = some (.int .i64 am) := a5
      clear HS1 a4 a5
      generalize w2.drewN q = w6 at *
      go_wp2_with fail
      refine (take_any an am S6.out.st.ql (by rw [HLm.out]; omega)).mono ?_
      rintro e w3 (⟨hno, rfl, q3, f3⟩ | ⟨l1, x, l2, rfl, hl1, hx, rfl, q3, f3⟩)
      · obtain rfl := hF.out.no hno
        have S3 : Hid (AcS W l A m c w3) := ⟨S6.out.st.go f3 q3, S6.out.wn.go f3⟩
        clear q3 f3 S6 hno hF a4' a5' F1 F2
        unfold wG
        go_wp2_with fail
        have S4 := Lib.hid (S3.out.later (below_al w3 (.cells #[.int .i64 0, .int .i64 0, .int .i64 0] 28)))
        generalize w3.alloc (.cells #[.int .i64 0, .int .i64 0, .int .i64 0] 28) = w4 at *
        clear S3
        go_quiet (fail)
        have S5 := Lib.hid (S4.out.drewN nq)
        generalize w4.drewN nq = w5 at *
        clear S4
        go_wp2_with fail
        exact HJ.out (by omega) S5.out
      · obtain rfl := hF.out.yes hl1 hx
        have S3 : Hid (ST W (l1 ++ l2) w3) := S6.out.st.go f3 q3
        have W3 := Lib.hid (S6.out.wn.go f3)
        obtain ⟨xt, xc, xv⟩ := x
        have hml := HLm.out
        rw [List.length_append, List.length_cons] at hml
        obtain ⟨g, of, y, rfl, hg, hy, y0, y1, y2⟩ := W3.out.one (show l1.length < m by omega)
        obtain rfl : y = ⟨xt, xc, xv⟩ := by simpa using hy.symm
        simp only at y0 y1 y2
        have WT : Hid (RdW w3 (some ⟨g, of, none⟩) l1.length l1) := by have h9 := (W3.out.take (k := l1.length) (by omega)).rd; rw [List.take_left] at h9; exact h9
        have WD : Hid (RdW w3 (some ⟨g, of + (l1.length + 1) * 3, none⟩) l2.length l2) := by
          have h9 := (W3.out.drop (k := l1.length + 1) (by omega)).rd
          rw [show m - (l1.length + 1) = l2.length by omega] at h9
          have h8 : (l1 ++ (⟨xt, xc, xv⟩ : Wt) :: l2).drop (l1.length + 1) = l2 := by simp [List.drop_append]
          rw [h8] at h9; exact h9
        have hmc := W3.out.2.1
        clear q3 f3 S6 hl1 hx hF a4' a5' F1 F2 HLm hy W3
        generalize hp : l1.length = p at *
        have HP := Lib.hid hp
        clear hp
        have p0 : (0 : Int) ≤ (p : Int) := by omega
        have p1 : (p : Int) < (m : Int) := by omega
        unfold wG
        go_wp2_with fail
        have e0 : (w3.alloc (.cells #[.int .i64 xt, .int .i64 xc, .int .i64 xv] 28)).cell? ⟨w3.heap.size, 0, none⟩ = some (.int .i64 xt) := by simp
        have e1 : (w3.alloc (.cells #[.int .i64 xt, .int .i64 xc, .int .i64 xv] 28)).cell? ⟨w3.heap.size, 1, none⟩ = some (.int .i64 xc) := by simp
        have e2 : (w3.alloc (.cells #[.int .i64 xt, .int .i64 xc, .int .i64 xv] 28)).cell? ⟨w3.heap.size, 2, none⟩ = some (.int .i64 xv) := by simp
        have hbz := below_al w3 (.cells #[.int .i64 xt, .int .i64 xc, .int .i64 xv] 28)
        rw [← cell_blk (hbz.block g hg)] at y0 y1 y2
        have S4 := Lib.hid (S3.out.later hbz)
        have T4 := Lib.hid (WT.out.later hbz)
        have E4 := Lib.hid (WD.out.later hbz)
        clear hbz S3 WT WD
        generalize w3.alloc (.cells #[.int .i64 xt, .int .i64 xc, .int .i64 xv] 28) = w4 at *
        generalize w3.heap.size = N3 at *
        go_quiet (fail)
        have S5 := Lib.hid (S4.out.later (below_drewN (Below.refl _ _) nq))
        have T5 := Lib.hid (T4.out.later (below_drewN (Below.refl _ _) nq))
        have E5 := Lib.hid (E4.out.later (below_drewN (Below.refl _ _) nq))
        generalize w4.drewN nq = w5 at *
        clear S4 T4 E4 e0 e1 e2 y0 y1 y2
        go_wp2_with fail
        have p2 : (p : Int) ≤ (c : Int) := by omega
        have p3 : (p : Int) + 1 ≤ (m : Int) := by omega
        have p4 : (p : Int) + 1 ≤ (c : Int) := by omega
        have p5 : (m : Int) ≤ (c : Int) := by omega
        have p6 : (p : Int) ≤ 80 := by omega
        by_cases hpc : p + 1 < c
        · have p7 : ¬ c = p + 1 := by omega
          have p8 : m - (p + 1) = l2.length := by omega
          have hw2 : (0 : Int) ≤ (p : Int) + 1 := by omega
          have hw3 : ((p : Int) + 1).toNat = p + 1 := by omega
          have hp80 : p ≤ 80 := by omega
          have hl80 : l2.length ≤ 80 := by omega
          have hw1 : IntKind.i64.wrap ((p : Int) + 1) = (p : Int) + 1 := by rw [IntKind.wrap_i64]; omega
          go_region_law (first
                | (refine step_copy (w2 := w5) rfl (.tmp 173) (.tmp 176) rfl _ (some ⟨g, of, none⟩) p c l1 (by rfl) (by rfl) (by first | exact heap_e1 _ | exact heap_e2 _ _ | exact heap_e3 _ _) (by first | omega | (simp <;> omega)) (by repeat' (first | exact Below.refl _ _ | refine Below.drew ?_ | refine Below.alloc ?_ (by first | omega | (simp <;> omega)) _)) T5.out (by omega) ?_; intro v7 w7 ho7 hb7 hg7; have hs7 := hb7.size; have HO7 := Lib.hid ho7; clear ho7)
                | (refine step_more (w2 := w5) rfl (.tmp 177) (.tmp 181) rfl v7 (some ⟨g, of + (p + 1) * 3, none⟩) p l2.length _ l1 l2 (by rfl) (by rfl) HO7.out hb7 (E5.out.later hb7) (by omega) (by omega) ?_; intro v8 w8 ho8 hb8; have HO8 := Lib.hid ho8; have HB8 := Lib.hid hb8; clear ho8))
          clear hw1 hw2 hw3 p8 p7
          obtain ⟨A3, c3, rfl, hw3⟩ := Wn.of_own (by rw [List.length_append, HP.out]) HO8.out
          have S6 : Hid (AcS W (l1 ++ l2) A3 (p + l2.length) c3 w8) := ⟨S5.out.later HB8.out, hw3.mono S5.out.bel.size⟩
          clear hw3 HO8 HB8 hb8 HO7 hb7 hg7 hs7 S5 T5 E5
          go_wp2_with fail
          exact HJ.out (by omega) S6.out
        · obtain rfl : m = p + 1 := by omega
          obtain rfl : c = p + 1 := by omega
          obtain rfl : l2 = [] := List.eq_nil_of_length_eq_zero (by omega)
          have hw2 : (0 : Int) ≤ (p : Int) + 1 := by omega
          have hw3 : ((p : Int) + 1).toNat = p + 1 := by omega
          have hp80 : p ≤ 80 := by omega
          have hw1 : IntKind.i64.wrap ((p : Int) + 1) = (p : Int) + 1 := by rw [IntKind.wrap_i64]; omega
          clear p1 p2 p3 p4 p5 hpc hml hmc
          have hw4 : (p : Int) ≤ (p : Int) + 1 := by omega
          go_region_law (first
                | (refine step_copy (w2 := w5) rfl (.tmp 173) (.tmp 176) rfl _ (some ⟨g, of, none⟩) p (p + 1) l1 (by rfl) (by rfl) (by first | exact heap_e1 _ | exact heap_e2 _ _ | exact heap_e3 _ _) (by first | omega | (simp <;> omega)) (by repeat' (first | exact Below.refl _ _ | refine Below.drew ?_ | refine Below.alloc ?_ (by first | omega | (simp <;> omega)) _)) T5.out (by omega) ?_; intro v7 w7 ho7 hb7 hg7; have hs7 := hb7.size; have HO7 := Lib.hid ho7; clear ho7)
                | (refine step_more (w2 := w5) rfl (.tmp 177) (.tmp 181) rfl v7 (some ⟨g, of, none⟩) p 0 _ l1 [] (by rfl) (by rfl) HO7.out hb7 (RdW.nil _ _) (by omega) (by omega) ?_; intro v8 w8 ho8 hb8; have HO8 := Lib.hid ho8; have HB8 := Lib.hid hb8; clear ho8))
          clear hw1 hw2 hw3 hw4
          obtain ⟨A3, c3, rfl, hw3⟩ := Wn.of_own (by rw [List.length_append, HP.out]; rfl) HO8.out
          have S6 : Hid (AcS W (l1 ++ []) A3 (p + 0) c3 w8) := ⟨S5.out.later HB8.out, hw3.mono S5.out.bel.size⟩
          clear hw3 HO8 HB8 hb8 HO7 hb7 hg7 hs7 S5 T5 E5
          rw [Nat.add_zero] at S6 ⊢
          go_wp2_with fail
          exact HJ.out (by omega) S6.out
end Go.Proofs.Ytdmdmaolbbjboaa

/- The walk of WaitActs. Condition: the list reads as it came. -/
import Derived.Test.YtdmdmaolbbjboaaSwE
namespace Go.Proofs.Ytdmdmaolbbjboaa
open Go.RowKit
set_option linter.unusedVariables false

set_option maxRecDepth 100000 in
theorem acts_out (A1 : Option Addr) (n1 c1 : Nat) (W : World) (h : 80 < n1) : Calls Try.prog 3 #[.slice A1 n1 c1] W (BoolR true W) := by
  have d1 : (80 : Int) < (n1 : Int) := by omega
  go_enter Try.func3, Try.ntmps3
  go_wp2_with fail
  refine (awake_any W).mono ?_
  rintro e w' ⟨rfl, hb⟩
  have HB := Lib.hid hb
  clear hb
  go_wp2_with fail
  go_ret
  exact ⟨rfl, HB.out⟩

set_option maxRecDepth 100000 in
set_option maxHeartbeats 8000000 in
theorem acts_in (A1 : Option Addr) (n1 c1 : Nat) (l1 : List Ac) (W : World) (h1 : RdA W A1 n1 l1) (hn1 : n1 ≤ 80) : Calls Try.prog 3 #[.slice A1 n1 c1] W (BoolR true W) := by
  have b2 : (n1 : Int) ≤ 80 := by omega
  obtain ⟨i0, hi, hz0, hz1, hz2⟩ := info_parts inf28
  have R1 := Lib.hid h1
  clear h1
  go_enter Try.func3, Try.ntmps3
  go_wp2_with fail
  refine (new_any W).mono ?_
  rintro e w1 q1
  obtain rfl := q1.1
  have S0 : Hid (AcS W [] none 0 0 w1) := ⟨ST.start q1, Wn.nil _ _ _ _ (by omega)⟩
  clear q1
  go_wp2_with fail
  go_loopw [4, 5] (fun v i wr => ∃ (k m : Nat) (l : List Wt) (A : Option Addr) (c : Nat), k ≤ n1 ∧ m ≤ k ∧ v = .slice A m c ∧ i = .int .i64 k ∧ Hid (AcS W l A m c wr)) (fun _ i _ => n1 - (intOf i).toNat)
  case atStart => exact ⟨0, 0, [], none, 0, by omega, by omega, rfl, rfl, S0⟩
  case round =>
    clear S0
    obtain ⟨k, m, l, A, c, hk, hmk, rfl, rfl, hS⟩ := hrel
    by_cases hlt : k < n1
    · obtain ⟨bb, off, ⟨kd, ⟨xt, xc, xv⟩, an, am⟩, rfl, _, _, c0, c1', c2, c3, c4, c5⟩ := R1.out.cells hS.out.st.bel hlt
      simp only at c0 c1' c2 c3 c4 c5
      have k1 : (k : Int) < (n1 : Int) := by omega
      have hm : (m : Int) ≤ 80 := by omega
      have ha : (wr.alloc (.cells #[.int .i64 kd, .int .i64 xt, .int .i64 xc, .int .i64 xv, .int .i64 an, .int .i64 am] 30)).heap[wr.heap.size]? = some (.cells #[.int .i64 kd, .int .i64 xt, .int .i64 xc, .int .i64 xv, .int .i64 an, .int .i64 am] 30 (0, 0)) := heap_alloc_new _ _
      have HS1 := Lib.hid (hS.out.later (below_al wr (.cells #[.int .i64 kd, .int .i64 xt, .int .i64 xc, .int .i64 xv, .int .i64 an, .int .i64 am] 30)))
      clear hS
      go_upto_block 2 with (fail)
      clear c0 c1' c2 c3 c4 c5
      generalize wr.alloc (.cells #[.int .i64 kd, .int .i64 xt, .int .i64 xc, .int .i64 xv, .int .i64 an, .int .i64 am] 30) = w2 at *
      generalize wr.heap.size = N at *
      have hN := lt_of_blk ha
      have a0 : w2.cell? ⟨N, 0, none⟩ = some (.int .i64 kd) := by rw [cell_of_row w2 N 0 _ _ _ ha]; rfl
      have a1 : w2.cell? ⟨N, 1, none⟩ = some (.int .i64 xt) := by rw [cell_of_row w2 N 1 _ _ _ ha]; rfl
      have a2 : w2.cell? ⟨N, 2, none⟩ = some (.int .i64 xc) := by rw [cell_of_row w2 N 2 _ _ _ ha]; rfl
      have a3 : w2.cell? ⟨N, 3, none⟩ = some (.int .i64 xv) := by rw [cell_of_row w2 N 3 _ _ _ ha]; rfl
      have a4 : w2.cell? ⟨N, 4, none⟩ = some (.int .i64 an) := by rw [cell_of_row w2 N 4 _ _ _ ha]; rfl
      have a5 : w2.cell? ⟨N, 5, none⟩ = some (.int .i64 am) := by rw [cell_of_row w2 N 5 _ _ _ ha]; rfl
      clear ha
      go_cut [4] (fun s4 wx => ∃ (m2 : Nat) (l2 : List Wt) (A2 : Option Addr) (c2 : Nat), s4 = .slice A2 m2 c2 ∧ m2 ≤ k + 1 ∧ Hid (AcS W l2 A2 m2 c2 wx))
      case first =>
        refine act_any hN a0 a1 a2 a3 a4 a5 HS1 hm ?_
        intro u2 u7 u8 u9 u10 u11 u12 u13 u14 u15 u16 u36 u37 u38 u39 u40 u41 u42 u43 u44 u45 u46 u47 u48 u49 u50 u51 u52 u53 u54 u55 u56 u57 u58 u59 u60 u61 u62 u63 u64 u65 u66 u67 u68 u69 u70 u71 u72 u73 u74 u75 u76 u77 u78 u79 u80 u81 u82 u83 u84 u85 u86 u87 u88 u89 u90 u91 u92 u93 u94 u95 u96 u97 u98 u99 u100 u101 u102 u103 u104 u105 u106 u107 u108 u109 u110 u111 u112 u113 u114 u115 u116 u117 u118 u119 u120 u121 u122 u123 u124 u125 u126 u127 u128 u129 u130 u131 u132 u133 u134 u135 u136 u137 u138 u139 u140 u141 u142 u143 u144 u145 u146 u147 u148 u149 u150 u151 u152 u153 u154 u155 u156 u157 u158 u159 u160 u161 u162 u163 u164 u165 u166 u167 u168 u169 u170 u171 u172 u173 u174 u175 u176 u177 u178 u179 u180 u181 u182 u183 u184 u185 u186 u187 u188 u189 u190 u191 u192 u193 u194 u195 u196 u197 u198 u199 u200 u201 u202 u203 u204 u205 u206 u207 m2 l2 A2 c2 wx g1 g2
        (try dsimp only)
        go_step
        go_meet
        exact ⟨m2, l2, A2, c2, rfl, by omega, g2⟩
      case rest =>
        obtain ⟨m2, l2, A2, c2, rfl, hm2, S6⟩ := hcut
        clear HS1 a0 a1 a2 a3 a4 a5
        go_wp2_with fail
        refine (all_any S6.out.st.ql (by rw [S6.out.len]; omega)).mono ?_
        rintro e wa ⟨Aa, ca, rfl, ra, hba⟩
        have Sa := Lib.hid (S6.out.later hba)
        rw [S6.out.len] at ra ⊢
        have RA := Lib.hid ra
        clear hba ra S6
        go_wp2_with fail
        refine (waits_yes Aa A2 _ ca c2 l2 wa RA.out Sa.out.wn.rd (by omega)).mono ?_
        rintro e w' ⟨rfl, q8, rfl⟩
        have Sb := Lib.hid (Sa.out.drewN q8)
        generalize wa.drewN q8 = wb at *
        clear Sa RA
        go_wp2_with fail
        refine (len_any Sb.out.st.ql).mono ?_
        rintro e w' ⟨rfl, rfl⟩
        rw [Sb.out.len]
        go_wp2_with fail
        go_roundw
        case rel => exact ⟨k + 1, m2, l2, A2, c2, by omega, by omega, rfl, by go_num, Sb⟩
        case measure => simp [intOf]; omega
    · obtain rfl : k = n1 := by omega
      go_wp2_with fail
      refine (awake_any wr).mono ?_
      rintro e w2 ⟨rfl, hb⟩
      have HB := Lib.hid (hS.out.st.later hb)
      clear hb
      go_wp2_with fail
      go_ret
      exact ⟨rfl, HB.out.bel⟩
theorem acts_walk (A1 : Option Addr) (n1 c1 : Nat) (l1 : List Ac) (W : World) (h1 : RdA W A1 n1 l1) : Calls Try.prog 3 #[.slice A1 n1 c1] W (BoolR true W) := by
  by_cases h : 80 < n1
  · exact acts_out A1 n1 c1 W h
  · exact acts_in A1 n1 c1 l1 W h1 (by omega)
end Go.Proofs.Ytdmdmaolbbjboaa

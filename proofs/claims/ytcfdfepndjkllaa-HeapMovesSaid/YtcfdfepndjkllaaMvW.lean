/- One that is moved stands where it would, had it come last with its new time; all others stay in their order. Condition: the slice reads as it came. -/
import Derived.Test.YtcfdfepndjkllaaTws
namespace Go.Proofs.Ytcfdfepndjkllaa
open Go.RowKit
set_option linter.unusedVariables false
section
variable {W w w' : World} {o b n o' b' n' m : Nat} {S S' : List It} {A A' : Option Addr}
theorem tw_all (h : TW W o b n S o' b' n' S' w) (hm : S.length = m) (hl : m ≤ 1000) : Calls Try.prog 24 #[.pointer (some ⟨o, 0, none⟩)] w fun e w' => ∃ A c, e = .returned (.slice A m c) ∧ Rt w' A m S ∧ TW W o b n S o' b' n' S' w' ∧ Below w.heap.size w w' := by
  subst hm
  refine (st_all h.st hl).mono ?_
  rintro e w' ⟨A, c, rfl, r1, r2⟩
  exact ⟨A, c, rfl, r1, h.later r2, r2⟩
theorem tw_rows (h : TW W o b n S o' b' n' S' w) (hl : S.length ≤ 1000) : Calls Try.prog 25 #[.pointer (some ⟨o, 0, none⟩)] w fun e w' => ∃ A c l, e = .returned (.slice A S.length c) ∧ Hid (Rt w' A l.length l) ∧ Hid (Hp l) ∧ Hid (l.Perm S) ∧ Below w.heap.size w w' := st_rows h.st hl
end
theorem sim_ins {A B : List It} (h : Sim A B) (k t s s' : Int) : Sim (ins ⟨k, t, s⟩ A) (ins ⟨k, t, s'⟩ B) := Sim.ins (x := ⟨k, t, s⟩) (y := ⟨k, t, s'⟩) rfl rfl h
set_option maxRecDepth 100000 in
set_option maxHeartbeats 8000000 in
theorem moves_walk (A0 : Option Addr) (n c0 : Nat) (l : List Int) (a1 a2 : Int) (W : World) (h1 : Rn W A0 n l) : Calls Try.prog 5 #[.slice A0 n c0, .int .i64 a1, .int .i64 a2] W (BoolR true W) := by
  by_cases hn0 : n < 1
  · have c1 : (n : Int) < 1 := by omega
    clear h1
    go_enter Try.func5, Try.ntmps5
    go_wp2_with fail
    refine (awake_any W).mono ?_
    rintro e w' ⟨rfl, hb⟩
    go_wp2_with fail
    go_ret
    exact ⟨rfl, hb⟩
  have c0' : ¬ (n : Int) < 1 := by omega
  by_cases hn : 100 < n
  · have c1 : (100 : Int) < (n : Int) := by omega
    clear h1
    go_enter Try.func5, Try.ntmps5
    go_wp2_with fail
    refine (awake_any W).mono ?_
    rintro e w' ⟨rfl, hb⟩
    go_wp2_with fail
    go_ret
    exact ⟨rfl, hb⟩
  have c1 : ¬ (100 : Int) < (n : Int) := by omega
  obtain ⟨q, hq⟩ : ∃ q, q = pk a1 n := ⟨_, rfl⟩
  have hq1 : q < n := by have := pk_lt a1 (show 0 < n by omega); omega
  have hR := fun w => round_any a1 n w (by omega) (by omega)
  rw [← hq] at hR
  have R1 := Lib.hid h1
  clear h1 hq
  go_enter Try.func5, Try.ntmps5
  go_wp2_with fail
  refine (new_any W).mono ?_
  rintro e w0 ⟨rfl, hg0, hb0⟩
  have G0 := Lib.hid (hg0 W.heap.size (Nat.le_refl _))
  have B0 := Lib.hid hb0
  clear hg0 hb0
  go_wp2_with fail
  refine (tw_new B0.out G0.out (Ok.nil 0)).mono ?_
  rintro e w1 ⟨rfl, hT⟩
  generalize w0.heap.size = s at *
  have T0 : Hid (TW W (W.heap.size + 1) W.heap.size 0 (adds l 0) (s + 1) s 0 [] w1) := hT
  clear hT G0 B0
  go_wp2_with fail
  refine (hR _).mono ?_
  rintro e w' ⟨rfl, rfl⟩
  clear hR
  go_wp2_with fail
  go_loopw [10] (fun i wr => ∃ (k n' : Nat) (S' : List It), k ≤ n ∧ i = .int .i64 k ∧ n' ≤ k ∧ Hid (TW W (W.heap.size + 1) W.heap.size k (adds l k) (s + 1) s n' S' wr) ∧ Hid (Sim (del (q : Int) (adds l k)) S')) (fun i _ => n - (intOf i).toNat)
  case atStart => exact ⟨0, 0, [], by omega, rfl, by omega, T0, rfl⟩
  case round =>
    clear T0
    obtain ⟨k, n', S', hk, rfl, hn', hT, hS⟩ := hrel
    have hlen := adds_len l k
    have hS'l : S'.length ≤ k := by
      have h1 := hS.out.len
      have h2 : (del (q : Int) (adds l k)).length ≤ (adds l k).length := List.length_filter_le _ _
      omega
    by_cases hlt : k < n
    · obtain ⟨bb, off, x, rfl, hbb, hzx, hcx⟩ := R1.out.cell hT.out.bel hlt
      have k3 : (k : Int) < (n : Int) := by omega
      have b1 : IntKind.i64.wrap ((k : Int) + 1) = (k : Int) + 1 := by rw [IntKind.wrap_i64]; omega
      have HX := Lib.hid hzx
      clear hzx
      have hni : (k : Int) ∉ ids S' := by rw [← hS.out.ids]; exact fun h => adds_new l k (by rw [ids_del] at h; exact (List.mem_filter.1 h).1)
      have HNI := Lib.hid hni
      have HLE := Lib.hid (And.intro hn' hS'l)
      have HSR := Lib.hid hT.out.ok.srt
      clear hn' hS'l hlen hni
      go_wp2_with fail
      refine (tw_add (k : Int) x hT.out (wf_small (by omega) (by omega)) (adds_new l k) (by omega) (by rw [adds_len]; omega)).mono ?_
      rintro e w2 ⟨rfl, q2⟩
      have hcx2 : w2.cell? ⟨bb, off + k, none⟩ = some (.int .i64 x) := by
        rw [cell_blk (q2.bel.block bb hbb)]
        exact (cell_blk (hT.out.bel.block bb hbb) _).symm.trans hcx
      have hs2 : bb < w2.heap.size := Nat.lt_of_lt_of_le hbb q2.bel.size
      rw [adds_succ HX.out] at q2
      have T2 := Lib.hid q2
      clear q2 hT hcx
      by_cases hkq : k = q
      · have HE : Hid (Sim (del (q : Int) (adds l (k + 1))) S') := by
          rw [← adds_succ HX.out, del_ins_eq (by rw [hkq])]; exact hS.out
        clear hS
        subst hkq
        go_wp2_with fail
        go_roundw
        case rel => exact ⟨k + 1, n', S', by omega, by go_num, by have := HLE.out.1; omega, T2, HE⟩
        case measure => simp [intOf]; omega
      · have hkq' : (k : Int) ≠ (q : Int) := by omega
        have hkb : ((k : Int) == (q : Int)) = false := by simp; omega
        have HE : Hid (Sim (del (q : Int) (adds l (k + 1))) (ins ⟨(k : Int), x, (n' : Int) + 1⟩ S')) := by
          rw [← adds_succ HX.out, del_ins hkq' HSR.out]; exact sim_ins hS.out _ _ _ _
        clear hS
        go_wp2_with fail
        refine (tw_add (k : Int) x T2.out.swap (wf_small (by omega) (by omega)) HNI.out (by have := HLE.out.1; omega) (by have := HLE.out.2; omega)).mono ?_
        rintro e w3 ⟨rfl, q3⟩
        have T3 := Lib.hid q3.swap
        clear q3 T2 hcx2
        go_wp2_with fail
        go_roundw
        case rel => exact ⟨k + 1, n' + 1, _, by omega, by go_num, by have := HLE.out.1; omega, T3, HE⟩
        case measure => simp [intOf]; omega
    · obtain rfl : k = n := by omega
      have k3 : ¬ (k : Int) < (k : Int) := by omega
      have hm : (q : Int) ∈ ids (adds l k) := adds_ids.2 ⟨by omega, by omega⟩
      have hdl := del_len hT.out.ok.ids hm
      have hS'k : S'.length + 1 = k := by have := hS.out.len; omega
      have hni : (q : Int) ∉ ids S' := by rw [← hS.out.ids]; exact del_ids
      have hl1 : (ins ⟨(q : Int), a2, (k : Int) + 1⟩ (del (q : Int) (adds l k))).length = k := by rw [ins_len]; omega
      have hl2 : (ins ⟨(q : Int), a2, (n' : Int) + 1⟩ S').length = k := by rw [ins_len]; omega
      have HE : Hid (Sim (ins ⟨(q : Int), a2, (k : Int) + 1⟩ (del (q : Int) (adds l k))) (ins ⟨(q : Int), a2, (n' : Int) + 1⟩ S')) := sim_ins hS.out _ _ _ _
      have HM := Lib.hid hm
      have HNI := Lib.hid hni
      have HL := Lib.hid (And.intro hl1 hl2)
      clear hm hni hl1 hl2 hdl hS hlt hk hS'l
      go_wp2_with fail
      refine (tw_move (q : Int) a2 hT.out (wf_small (by omega) (by omega)) HM.out (by omega) (by omega)).mono ?_
      rintro e w2 ⟨rfl, q2⟩
      have T2 := Lib.hid q2
      clear q2 hT
      go_wp2_with fail
      refine (tw_add (q : Int) a2 T2.out.swap (wf_small (by omega) (by omega)) HNI.out (by omega) (by omega)).mono ?_
      rintro e w3 ⟨rfl, q3⟩
      have T3 := Lib.hid q3.swap
      clear q3 T2 HNI HM
      generalize ins ⟨(q : Int), a2, (k : Int) + 1⟩ (del (q : Int) (adds l k)) = T at *
      generalize ins ⟨(q : Int), a2, (n' : Int) + 1⟩ S' = T' at *
      clear hlen hS'k
      generalize k + 1 = k1 at *
      generalize n' + 1 = n1 at *
      go_wp2_with fail
      refine (tw_all T3.out HL.out.1 (by omega)).mono ?_
      rintro e w4 ⟨A, c, rfl, r1, q4, -⟩
      have T4 := Lib.hid q4
      have HR1 := Lib.hid r1
      clear T3 r1 q4
      go_wp2_with fail
      refine (tw_all T4.out.swap HL.out.2 (by omega)).mono ?_
      rintro e w5 ⟨A', c', rfl, r2, q5, hb5⟩
      have T5 := Lib.hid q5.swap
      have HRR : Hid (Rt w5 A k T ∧ Rt w5 A' k T') := ⟨HR1.out.later hb5, r2⟩
      clear T4 HR1 r2 q5 hb5
      go_wp2_with fail
      have hTl : T.length ≤ 1000 := by have := HL.out.1; omega
      refine (tw_rows T5.out hTl).mono ?_
      rintro e w6 ⟨A6, c6, m6, rfl, r1, r2, r3, hb6⟩
      have T6 := Lib.hid (T5.out.later hb6)
      have HR6 : Hid (Rt w6 A k T ∧ Rt w6 A' k T') := ⟨HRR.out.1.later hb6, HRR.out.2.later hb6⟩
      clear T5 HRR hb6
      go_wp2_with fail
      refine (st_heaped T6.out.st r1.out r2.out r3.out hTl).mono ?_
      rintro e w7 ⟨rfl, hb7⟩
      have T7 : Hid (Below W.heap.size W w7 ∧ Rt w7 A k T ∧ Rt w7 A' k T') := ⟨(T6.out.later hb7).bel, HR6.out.1.later hb7, HR6.out.2.later hb7⟩
      clear T6 HR6 hb7 r1 r2 r3 hTl R1
      go_wp2_with fail
      go_loopw [13] (fun i wr => ∃ j : Nat, j ≤ k ∧ i = .int .i64 j ∧ Hid (Below W.heap.size W wr ∧ Rt wr A k T ∧ Rt wr A' k T')) (fun i _ => k - (intOf i).toNat)
      case atStart => exact ⟨0, by omega, rfl, T7⟩
      case round =>
        clear T7
        obtain ⟨j, hj, rfl, HQ⟩ := hrel
        by_cases hlt : j < k
        · obtain ⟨x, hx⟩ := ex_at (l := T) (p := j) (by have := HL.out.1; omega)
          obtain ⟨y, hy⟩ := ex_at (l := T') (p := j) (by have := HL.out.2; omega)
          obtain ⟨bb, off, rfl, hbb, hc⟩ := HQ.out.2.1.at (by omega)
          obtain ⟨bb', off', rfl, hbb', hc'⟩ := HQ.out.2.2.at (by omega)
          obtain ⟨x0, x1, x2⟩ := hc j x hx
          obtain ⟨y0, y1, y2⟩ := hc' j y hy
          obtain ⟨e1, e2⟩ := HE.out.at hx hy
          rw [← e1] at y0
          rw [← e2] at y1
          have k4 : (j : Int) < (k : Int) := by omega
          have b4 : IntKind.i64.wrap ((j : Int) + 1) = (j : Int) + 1 := by rw [IntKind.wrap_i64]; omega
          clear hc hc' hx hy e1 e2 x2 y2
          go_wp2_with fail
          go_quiet (fail)
          have HQ2 : Hid (Below W.heap.size W (wr.drewN nq) ∧ Rt (wr.drewN nq) (some ⟨bb, off, none⟩) k T ∧ Rt (wr.drewN nq) (some ⟨bb', off', none⟩) k T') := ⟨HQ.out.1.trans ((below_drewN wr nq).mono HQ.out.1.size), HQ.out.2.1.later (below_drewN _ nq), HQ.out.2.2.later (below_drewN _ nq)⟩
          generalize wr.drewN nq = w8 at *
          clear HQ x0 x1 y0 y1
          go_wp2_with fail
          go_roundw
          case rel => exact ⟨j + 1, by omega, by go_num, HQ2⟩
          case measure => simp [intOf]; omega
        · obtain rfl : j = k := by omega
          have k4 : ¬ (j : Int) < (j : Int) := by omega
          clear hlt hj
          go_wp2_with fail
          refine (awake_any wr).mono ?_
          rintro e w8 ⟨rfl, b8⟩
          have S8 := Lib.hid (HQ.out.1.trans (b8.mono HQ.out.1.size))
          clear HQ b8
          go_wp2_with fail
          go_ret
          exact ⟨rfl, S8.out⟩
end Go.Proofs.Ytcfdfepndjkllaa

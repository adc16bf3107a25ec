/- Rows are those of four below each, whatever is added and popped. Conditions: a1 is an int; the slice reads as it came. -/
import Derived.Test.YtcfdfepndjkllaaAds
namespace Go.Proofs.Ytcfdfepndjkllaa
open Go.RowKit
set_option linter.unusedVariables false
set_option maxRecDepth 100000 in
set_option maxHeartbeats 8000000 in
theorem four_walk (A0 : Option Addr) (n c0 : Nat) (l : List Int) (a1 : Int) (W : World) (h1 : Rn W A0 n l) : Calls Try.prog 7 #[.slice A0 n c0, .int .i64 a1] W (BoolR true W) := by
  by_cases hn : 150 < n
  · have c1 : (150 : Int) < (n : Int) := by omega
    clear h1
    go_enter Try.func7, Try.ntmps7
    go_wp2_with fail
    refine (awake_any W).mono ?_
    rintro e w' ⟨rfl, hb⟩
    go_wp2_with fail
    go_ret
    exact ⟨rfl, hb⟩
  have c1 : ¬ (150 : Int) < (n : Int) := by omega
  have c2 : (n : Int) ≤ 150 := by omega
  have R1 := Lib.hid h1
  clear h1
  go_enter Try.func7, Try.ntmps7
  go_wp2_with fail
  refine (st_new (Below.refl _ W)).mono ?_
  rintro e w0 ⟨rfl, h0, -⟩
  have H0 : Hid (ST W (W.heap.size + 1) W.heap.size 0 (adds l 0) [] w0) := h0
  clear h0
  go_wp2_with fail
  go_loopw [6] (fun i wr => ∃ k : Nat, k ≤ n ∧ i = .int .i64 k ∧ Hid (ST W (W.heap.size + 1) W.heap.size k (adds l k) [] wr)) (fun i _ => n - (intOf i).toNat)
  case atStart => exact ⟨0, by omega, rfl, H0⟩
  case round =>
    clear H0
    obtain ⟨k, hk, rfl, hS⟩ := hrel
    by_cases hlt : k < n
    · obtain ⟨bb, off, x, rfl, hbb, hzx, hcx⟩ := R1.out.cell hS.out.bel hlt
      have k3 : (k : Int) < (n : Int) := by omega
      have b1 : IntKind.i64.wrap ((k : Int) + 1) = (k : Int) + 1 := by rw [IntKind.wrap_i64]; omega
      have HX := Lib.hid hzx
      clear hzx
      go_wp2_with fail
      refine (st_add (k : Int) x hS.out (wf_small (by omega) (by omega)) (adds_new l k) (by omega) (by rw [adds_len]; omega)).mono ?_
      rintro e w2 ⟨rfl, q2, -⟩
      rw [adds_succ HX.out] at q2
      have S2 := Lib.hid q2
      clear q2 hS
      go_wp2_with fail
      refine (st_rows S2.out (by rw [adds_len]; omega)).mono ?_
      rintro e w3 ⟨A, c3, m3, rfl, r1, r2, r3, hb3⟩
      have S3 := Lib.hid (S2.out.later hb3)
      clear S2 hb3
      go_wp2_with fail
      refine (st_heaped S3.out r1.out r2.out r3.out (by rw [adds_len]; omega)).mono ?_
      rintro e w4 ⟨rfl, hb4⟩
      have S4 := Lib.hid (S3.out.later hb4)
      clear S3 hb4 r1 r2 r3
      go_wp2_with fail
      go_roundw
      case rel => exact ⟨k + 1, by omega, by go_num, S4⟩
      case measure => simp [intOf]; omega
    · obtain rfl : k = n := by omega
      have k3 : ¬ (k : Int) < (k : Int) := by omega
      obtain ⟨q, hq⟩ : ∃ q, q = pk a1 (k + 1) := ⟨_, rfl⟩
      have hq1 : q ≤ k := by have := pk_lt a1 (show 0 < k + 1 by omega); omega
      have hR := fun w => round1 a1 k w (by omega)
      rw [← hq] at hR
      have b1 : IntKind.i64.wrap ((k : Int) + 1) = (k : Int) + 1 := by rw [IntKind.wrap_i64]; omega
      have S1 : Hid (ST W (W.heap.size + 1) W.heap.size k ((adds l k).drop 0) [] wr) := hS.out
      clear hS hlt hk
      go_wp2_with fail
      refine (hR _).mono ?_
      rintro e w' ⟨rfl, rfl⟩
      clear hq hR
      go_wp2_with fail
      generalize wr = wz at *
      go_loopw [8] (fun i wr => ∃ j : Nat, j ≤ q ∧ i = .int .i64 j ∧ Hid (ST W (W.heap.size + 1) W.heap.size k ((adds l k).drop j) [] wr)) (fun i _ => q - (intOf i).toNat)
      case atStart => exact ⟨0, by omega, rfl, S1⟩
      case round =>
        clear S1
        obtain ⟨j, hj, rfl, hS⟩ := hrel
        have hlen := adds_len l k
        by_cases hlt : j < q
        · obtain ⟨x, hx⟩ := drop_cons (S := adds l k) (i := j) (by omega)
          have k3 : (j : Int) < (q : Int) := by omega
          have b2 : IntKind.i64.wrap ((j : Int) + 1) = (j : Int) + 1 := by rw [IntKind.wrap_i64]; omega
          have hdl : ((adds l k).drop (j + 1)).length ≤ 1000 := by simp; omega
          have hS1 : Hid (ST W (W.heap.size + 1) W.heap.size k (x :: (adds l k).drop (j + 1)) [] wr) := by rw [← hx]; exact hS.out
          have hdl2 : (x :: (adds l k).drop (j + 1)).length ≤ 1000 := by simp; omega
          generalize hSS : (adds l k).drop (j + 1) = S at *
          have HSS := Lib.hid hSS
          clear hS hx hlen hSS
          go_wp2_with fail
          refine (st_pop hS1.out hdl2).mono ?_
          rintro e w2 ⟨rfl, q2, -⟩
          have S2 := Lib.hid (q2.box x)
          clear q2 hS1
          go_wp2_with fail
          refine (st_rows S2.out hdl).mono ?_
          rintro e w3 ⟨A, c3, m3, rfl, r1, r2, r3, hb3⟩
          have S3 := Lib.hid (S2.out.later hb3)
          clear S2 hb3
          go_wp2_with fail
          refine (st_heaped S3.out r1.out r2.out r3.out hdl).mono ?_
          rintro e w4 ⟨rfl, hb4⟩
          have S4 : Hid (ST W (W.heap.size + 1) W.heap.size k S [] w4) := (S3.out.later hb4).sub (fun _ h => (by cases h))
          clear S3 hb4 r1 r2 r3
          go_wp2_with fail
          go_roundw
          case rel => exact ⟨j + 1, by omega, by go_num, by rw [HSS.out]; exact S4⟩
          case measure => simp [intOf]; omega
        · obtain rfl : j = q := by omega
          have k3 : ¬ (j : Int) < (j : Int) := by omega
          have hSl : ((adds l k).drop j).length + j = k := by simp; omega
          have hSl2 : ((adds l k).drop j).length ≤ 1000 := by omega
          generalize (adds l k).drop j = S at *
          clear hlen hlt hj
          go_wp2_with fail
          refine (st_rows hS.out hSl2).mono ?_
          rintro e w3 ⟨A, c3, m3, rfl, r1, r2, r3, hb3⟩
          have S3 := Lib.hid (hS.out.later hb3)
          have hml := r3.out.length_eq
          have hE : Hid (m3.length = S.length) := hml
          have b3 : IntKind.i64.wrap ((k : Int) - (j : Int)) = (S.length : Int) := by rw [IntKind.wrap_i64]; omega
          have hMem : Hid (∀ x ∈ m3, x ∈ S) := fun x hx => r3.out.mem_iff.1 hx
          clear hS hb3 hml
          have hRT : Hid (Rt w3 A S.length m3) := by have := r1.out; rwa [hE.out] at this
          by_cases hs0 : S.length = 0
          · have hSn : S = [] := List.eq_nil_of_length_eq_zero hs0
            have HMin : Hid (Calls Try.prog 19 #[.pointer (some ⟨W.heap.size + 1, 0, none⟩)] w3 (IbR zI false w3)) := by
              obtain ⟨p, hp, _⟩ := S3.out.hg
              rw [hSn] at hp
              exact gmin_none hp
            have d1 : decide (0 < S.length) = false := by simp; omega
            clear hSn r1 r2 r3
            go_wp2_with fail
            refine HMin.out.mono ?_
            rintro e w5 ⟨rfl, hb5⟩
            have S5 : Hid (ST W (W.heap.size + 1) W.heap.size k S [] (w5.alloc (.cells #[.int .i64 zI.id, .int .i64 zI.w, .int .i64 zI.s] 36)) ∧ Rt (w5.alloc (.cells #[.int .i64 zI.id, .int .i64 zI.w, .int .i64 zI.s] 36)) A S.length m3) :=
              ⟨(S3.out.later hb5).later (below_al _ _), (hRT.out.later hb5).later (below_al _ _)⟩
            clear hb5 S3 HMin hRT
            go_wp2_with fail
            go_quiet (fail)
            have S6 : Hid (ST W (W.heap.size + 1) W.heap.size k S [] ((w5.alloc (.cells #[.int .i64 zI.id, .int .i64 zI.w, .int .i64 zI.s] 36)).drewN nq) ∧ Rt ((w5.alloc (.cells #[.int .i64 zI.id, .int .i64 zI.w, .int .i64 zI.s] 36)).drewN nq) A S.length m3) :=
              ⟨S5.out.1.drewN nq, S5.out.2.later (below_drewN _ nq)⟩
            generalize (w5.alloc (.cells #[.int .i64 zI.id, .int .i64 zI.w, .int .i64 zI.s] 36)).drewN nq = w6 at *
            clear S5
            go_wp2_with fail
            go_loopw [14] (fun i wr => ∃ i' : Nat, i' ≤ S.length ∧ i = .int .i64 i' ∧ Hid (ST W (W.heap.size + 1) W.heap.size k S [] wr ∧ Rt wr A S.length m3)) (fun i _ => S.length - (intOf i).toNat)
            case atStart => exact ⟨0, by omega, rfl, S6⟩
            case round =>
              clear S6
              obtain ⟨i', hi', rfl, hS⟩ := hrel
              by_cases hlt : i' < S.length
              · exact absurd hlt (by omega)
              · obtain rfl : i' = S.length := by omega
                have k4 : ¬ (S.length : Int) < (S.length : Int) := by omega
                clear hlt hi'
                go_wp2_with fail
                refine (awake_any wr).mono ?_
                rintro e w8 ⟨rfl, b8⟩
                have S8 := Lib.hid (hS.out.1.later b8).bel
                clear hS b8
                go_wp2_with fail
                go_ret
                exact ⟨rfl, S8.out⟩
          · obtain ⟨x, S', hSS⟩ : ∃ x S', S = x :: S' := by
              cases S with
              | nil => exact absurd rfl hs0
              | cons x S' => exact ⟨x, S', rfl⟩
            have hx0 : m3[0]? = some x := by have h1 := S3.out.ok.srt; have h2 := r3.out; rw [hSS] at h1 h2; exact srt_head h1 r2.out h2
            have HMin : Hid (Calls Try.prog 19 #[.pointer (some ⟨W.heap.size + 1, 0, none⟩)] w3 (IbR x true w3)) := by
              obtain ⟨p, hp, _⟩ := S3.out.hg
              have h1 := S3.out.ok.srt
              rw [hSS] at h1 hp hSl2
              exact gmin_some hp h1 hSl2
            have d1 : decide (0 < S.length) = true := by simp; omega
            have d2 : (0 : Int) < (S.length : Int) := by omega
            have d3 : 0 < S.length := by omega
            obtain ⟨bb, off, rfl, hbb, hcc⟩ := hRT.out.at d3
            obtain ⟨x0, x1, x2⟩ := hcc 0 x hx0
            simp only [Nat.zero_mul, Nat.add_zero] at x0 x1 x2
            clear hSS r1 r2 r3 hcc hx0
            go_wp2_with fail
            refine HMin.out.mono ?_
            rintro e w5 ⟨rfl, hb5⟩
            have S5 : Hid (ST W (W.heap.size + 1) W.heap.size k S [] (w5.alloc (.cells #[.int .i64 x.id, .int .i64 x.w, .int .i64 x.s] 36)) ∧ Rt (w5.alloc (.cells #[.int .i64 x.id, .int .i64 x.w, .int .i64 x.s] 36)) (some ⟨bb, off, none⟩) S.length m3) :=
              ⟨(S3.out.later hb5).later (below_al _ _), (hRT.out.later hb5).later (below_al _ _)⟩
            have y0 := (cell_blk (hb5.block bb hbb) off).trans x0
            have y1 := (cell_blk (hb5.block bb hbb) (off + 1)).trans x1
            have y2 := (cell_blk (hb5.block bb hbb) (off + 2)).trans x2
            have hb9 : bb < w5.heap.size := Nat.lt_of_lt_of_le hbb hb5.size
            clear x0 x1 x2
            clear hb5 S3 HMin hRT
            go_wp2_with fail
            go_quiet (fail)
            have S6 : Hid (ST W (W.heap.size + 1) W.heap.size k S [] ((w5.alloc (.cells #[.int .i64 x.id, .int .i64 x.w, .int .i64 x.s] 36)).drewN nq) ∧ Rt ((w5.alloc (.cells #[.int .i64 x.id, .int .i64 x.w, .int .i64 x.s] 36)).drewN nq) (some ⟨bb, off, none⟩) S.length m3) :=
              ⟨S5.out.1.drewN nq, S5.out.2.later (below_drewN _ nq)⟩
            generalize (w5.alloc (.cells #[.int .i64 x.id, .int .i64 x.w, .int .i64 x.s] 36)).drewN nq = w6 at *
            clear S5
            clear y0 y1 y2
            generalize hA : (some ⟨bb, off, none⟩ : Option Addr) = A at *
            go_wp2_with fail
            go_loopw [14] (fun i wr => ∃ i' : Nat, i' ≤ S.length ∧ i = .int .i64 i' ∧ Hid (ST W (W.heap.size + 1) W.heap.size k S [] wr ∧ Rt wr A S.length m3)) (fun i _ => S.length - (intOf i).toNat)
            case atStart => exact ⟨0, by omega, rfl, S6⟩
            case round =>
              clear S6
              obtain ⟨i', hi', rfl, hS⟩ := hrel
              by_cases hlt : i' < S.length
              · obtain ⟨x, hx⟩ := ex_at (l := m3) (p := i') (by rw [hE.out]; exact hlt)
                obtain ⟨bb, off, rfl, hbb, hcc⟩ := hS.out.2.at (by omega)
                obtain ⟨x0, x1, x2⟩ := hcc i' x hx
                have k4 : (i' : Int) < (S.length : Int) := by omega
                have b4 : IntKind.i64.wrap ((i' : Int) + 1) = (i' : Int) + 1 := by rw [IntKind.wrap_i64]; omega
                have HFnd : Hid (Calls Try.prog 20 #[.pointer (some ⟨W.heap.size + 1, 0, none⟩), .int .i64 x.id] wr (IbR x true wr)) := by
                  obtain ⟨p, hp, _⟩ := hS.out.1.hg
                  exact gfind_yes hp (hMem.out x (at_mem hx)) hSl2
                clear hcc
                go_wp2_with fail
                refine HFnd.out.mono ?_
                rintro e w7 ⟨rfl, hb7⟩
                have y0 := (cell_blk (hb7.block bb hbb) (off + i' * 3)).trans x0
                have y1 := (cell_blk (hb7.block bb hbb) (off + i' * 3 + 1)).trans x1
                have y2 := (cell_blk (hb7.block bb hbb) (off + i' * 3 + 2)).trans x2
                have hb9 : bb < w7.heap.size := Nat.lt_of_lt_of_le hbb hb7.size
                have S7 : Hid (ST W (W.heap.size + 1) W.heap.size k S [] (w7.alloc (.cells #[.int .i64 x.id, .int .i64 x.w, .int .i64 x.s] 36)) ∧ Rt (w7.alloc (.cells #[.int .i64 x.id, .int .i64 x.w, .int .i64 x.s] 36)) (some ⟨bb, off, none⟩) S.length m3) :=
                  ⟨(hS.out.1.later hb7).later (below_al _ _), (hS.out.2.later hb7).later (below_al _ _)⟩
                clear hS HFnd hb7 x0 x1 x2 hx
                go_wp2_with fail
                go_quiet (fail)
                have S8 : Hid (ST W (W.heap.size + 1) W.heap.size k S [] ((w7.alloc (.cells #[.int .i64 x.id, .int .i64 x.w, .int .i64 x.s] 36)).drewN nq) ∧ Rt ((w7.alloc (.cells #[.int .i64 x.id, .int .i64 x.w, .int .i64 x.s] 36)).drewN nq) (some ⟨bb, off, none⟩) S.length m3) :=
                  ⟨S7.out.1.drewN nq, S7.out.2.later (below_drewN _ nq)⟩
                generalize (w7.alloc (.cells #[.int .i64 x.id, .int .i64 x.w, .int .i64 x.s] 36)).drewN nq = w8 at *
                clear S7 y0 y1 y2
                go_wp2_with fail
                go_roundw
                case rel => exact ⟨i' + 1, by omega, by go_num, S8⟩
                case measure => simp [intOf]; omega
              · obtain rfl : i' = S.length := by omega
                have k4 : ¬ (S.length : Int) < (S.length : Int) := by omega
                clear hlt hi'
                go_wp2_with fail
                refine (awake_any wr).mono ?_
                rintro e w8 ⟨rfl, b8⟩
                have S8 := Lib.hid (hS.out.1.later b8).bel
                clear hS b8
                go_wp2_with fail
                go_ret
                exact ⟨rfl, S8.out⟩
end Go.Proofs.Ytcfdfepndjkllaa

/- Whoever is taken out, from wherever, leaves a heap of all others, in their order. Condition: the slices read as they came. -/
import Derived.Test.YtcfdfepndjkllaaSoW
namespace Go.Proofs.Ytcfdfepndjkllaa
open Go.RowKit
set_option linter.unusedVariables false
/-- Those that are not gone. -/
def rs (g : Nat → Bool) (T : List It) : List It := T.filter fun x => !g x.id.toNat
theorem rs_mem {g : Nat → Bool} {T : List It} {x : It} : x ∈ rs g T ↔ x ∈ T ∧ g x.id.toNat = false := by simp [rs]
theorem rs_zero (T : List It) : rs (fun _ => false) T = T := by simp [rs]
theorem rs_del {g : Nat → Bool} {T : List It} (h : ∀ x ∈ T, 0 ≤ x.id) (q : Nat) : rs (fun i => g i || q == i) T = del (q : Int) (rs g T) := by
  unfold rs del
  rw [List.filter_filter]
  refine List.filter_congr fun x hx => ?_
  have := h x hx
  have e : (q == x.id.toNat) = decide (x.id = (q : Int)) := by rw [Bool.eq_iff_iff, beq_iff_eq, decide_eq_true_iff]; omega
  show (!(g x.id.toNat || q == x.id.toNat)) = _
  rw [e]
  by_cases c : x.id = (q : Int) <;> simp [c]
theorem rs_len (g : Nat → Bool) (T : List It) : (rs g T).length ≤ T.length := List.length_filter_le _ _
/-- Of those that were added, one that is there. -/
theorem rs_in {g : Nat → Bool} {l : List Int} {n : Nat} {x : It} (h : x ∈ rs g (adds l n)) : ∃ i : Nat, i < n ∧ x = ⟨(i : Int), l.getD i 0, (i : Int) + 1⟩ ∧ g i = false := by
  obtain ⟨h1, h2⟩ := rs_mem.1 h
  obtain ⟨i, h3, rfl⟩ := adds_mem.1 h1
  exact ⟨i, h3, rfl, h2⟩
theorem rs_of {g : Nat → Bool} {l : List Int} {n i : Nat} (h : i < n) (hg : g i = false) : (⟨(i : Int), l.getD i 0, (i : Int) + 1⟩ : It) ∈ rs g (adds l n) := rs_mem.2 ⟨adds_mem.2 ⟨i, h, rfl⟩, hg⟩
theorem rs_ids {g : Nat → Bool} {l : List Int} {n i : Nat} (h : n ≤ i ∨ g i = true) : (i : Int) ∉ ids (rs g (adds l n)) := by
  intro hm
  obtain ⟨x, hx, e⟩ := List.mem_map.1 hm
  obtain ⟨j, h1, rfl, h2⟩ := rs_in hx
  have : j = i := by have : (j : Int) = (i : Int) := e; omega
  subst this
  rcases h with h | h
  · omega
  · rw [h] at h2; cases h2
theorem adds_pos {l : List Int} {n : Nat} : ∀ x ∈ adds l n, 0 ≤ x.id := fun x hx => by
  obtain ⟨i, _, rfl⟩ := adds_mem.1 hx
  show (0 : Int) ≤ (i : Int); omega
set_option maxRecDepth 100000 in
set_option maxHeartbeats 8000000 in
theorem removes_walk (A0 A1 : Option Addr) (n c0 n2 c3 : Nat) (l l2 : List Int) (W : World) (h1 : Rn W A0 n l) (h2 : Rn W A1 n2 l2) : Calls Try.prog 6 #[.slice A0 n c0, .slice A1 n2 c3] W (BoolR true W) := by
  by_cases hn : 100 < n
  · have c1 : (100 : Int) < (n : Int) := by omega
    clear h1 h2
    go_enter Try.func6, Try.ntmps6
    go_wp2_with fail
    refine (awake_any W).mono ?_
    rintro e w' ⟨rfl, hb⟩
    go_wp2_with fail
    go_ret
    exact ⟨rfl, hb⟩
  have c1 : ¬ (100 : Int) < (n : Int) := by omega
  by_cases hn2 : 100 < n2
  · have c2 : (100 : Int) < (n2 : Int) := by omega
    clear h1 h2
    go_enter Try.func6, Try.ntmps6
    go_wp2_with fail
    refine (awake_any W).mono ?_
    rintro e w' ⟨rfl, hb⟩
    go_wp2_with fail
    go_ret
    exact ⟨rfl, hb⟩
  have c2 : ¬ (100 : Int) < (n2 : Int) := by omega
  obtain ⟨i0, hi, hz0, hz1, hz2⟩ := info_parts inf4
  have R1 := Lib.hid h1
  have R2 := Lib.hid h2
  clear h1 h2
  go_enter Try.func6, Try.ntmps6
  go_wp2_with fail
  refine (st_new (Below.refl _ W)).mono ?_
  rintro e w0 ⟨rfl, h0, -⟩
  have H0 : Hid (ST W (W.heap.size + 1) W.heap.size 0 (adds l 0) [] w0) := h0
  clear h0
  go_wp2_with fail
  go_loopw [6] (fun i wr => ∃ k : Nat, k ≤ n ∧ i = .int .i64 k ∧ Hid (ST W (W.heap.size + 1) W.heap.size k (adds l k) [] wr)) (fun i _ => n - (intOf i).toNat)
  case atStart => exact ⟨0, by omega, rfl, H0⟩
  case round =>
    clear H0
    obtain ⟨k, hk, rfl, hS⟩ := hrel
    by_cases hlt : k < n
    · obtain ⟨bb, off, x, rfl, hbb, hzx, hcx⟩ := R1.out.cell hS.out.bel hlt
      have k3 : (k : Int) < (n : Int) := by omega
      have b1 : IntKind.i64.wrap ((k : Int) + 1) = (k : Int) + 1 := by rw [IntKind.wrap_i64]; omega
      have HX := Lib.hid hzx
      clear hzx
      go_wp2_with fail
      refine (st_add (k : Int) x hS.out (wf_small (by omega) (by omega)) (adds_new l k) (by omega) (by rw [adds_len]; omega)).mono ?_
      rintro e w2 ⟨rfl, q2, -⟩
      rw [adds_succ HX.out] at q2
      have S2 := Lib.hid q2
      clear q2 hS
      go_wp2_with fail
      go_roundw
      case rel => exact ⟨k + 1, by omega, by go_num, S2⟩
      case measure => simp [intOf]; omega
    · obtain rfl : k = n := by omega
      have k3 : ¬ (k : Int) < (k : Int) := by omega
      have b1 : IntKind.i64.wrap ((k : Int) + 1) = (k : Int) + 1 := by rw [IntKind.wrap_i64]; omega
      go_wp2_with (at_make; go_loud (refine wpList_make_full _ rfl _ _ 52 rfl W.heap.size 4 i0 (.bool false) 1 Try.underlying52 hi hz0 hz1 .i64 .i64 _ _ (k + 1) rfl rfl rfl rfl (by rw [hz2]; omega) (by unfold maxLen; omega) hS.out.bel.size ?_; intro w1 hown0 hgrow0; have HT : Hid (SQ W (W.heap.size + 1) W.heap.size k (rs (fun _ => false) (adds l k)) [] wr.heap.size (k + 1) (fun _ => false) w1) := ⟨by rw [rs_zero]; exact hS.out.later ⟨hgrow0.os, hgrow0.tape, hgrow0.output, hgrow0.size, fun i hi => hgrow0.block i hi (by simp)⟩, by rw [← SB_new]; rw [show (Value.bool false).cells = #[.bool false] from rfl, toList_madeCells_one, Nat.mul_one] at hown0; exact hown0⟩; clear hown0 hgrow0 hS))
      generalize wr.heap.size = s at *
      have hlen := adds_len l k
      have e0 : (rs (fun _ => false) (adds l k)).length = k := by rw [rs_zero, hlen]
      clear hlt hk hi hz0 hz1 hz2 i0
      have hRd := fun a w => round1 a k w (by omega)
      go_wp2_with fail
      go_loopw [8, 9] (fun u v wr => ∃ (j : Nat) (g : Nat → Bool), j ≤ n2 ∧ u = .int .i64 ((rs g (adds l k)).length : Int) ∧ v = .int .i64 j ∧ Hid (SQ W (W.heap.size + 1) W.heap.size k (rs g (adds l k)) [] s (k + 1) g wr)) (fun u v _ => n2 - (intOf v).toNat)
      case atStart => exact ⟨0, fun _ => false, by omega, by rw [e0], rfl, HT⟩
      case round =>
        clear HT e0
        obtain ⟨j, g, hj, rfl, rfl, HQ⟩ := hrel
        have hSl : (rs g (adds l k)).length ≤ k := by have := rs_len g (adds l k); omega
        by_cases hlt : j < n2
        · obtain ⟨bb, off, z, rfl, hbb, hzx, hcx⟩ := R2.out.cell HQ.out.st.bel hlt
          obtain ⟨q, hq⟩ : ∃ q, q = pk z (k + 1) := ⟨_, rfl⟩
          have hq1 : q < k + 1 := by have := pk_lt z (show 0 < k + 1 by omega); omega
          have hRq := fun w => hRd z w
          rw [← hq] at hRq
          have k4 : (j : Int) < (n2 : Int) := by omega
          have b4 : IntKind.i64.wrap ((j : Int) + 1) = (j : Int) + 1 := by rw [IntKind.wrap_i64]; omega
          have HG' : Hid (rs (fun i => g i || q == i) (adds l k) = del (q : Int) (rs g (adds l k))) := rs_del adds_pos q
          have hqw : Wf (q : Int) := wf_small (by omega) (by omega)
          clear hq hzx
          go_wp2_with fail
          refine (hRq _).mono ?_
          rintro e w' ⟨rfl, rfl⟩
          clear hRq
          have q1 : ¬ (q : Int) < 0 := by omega
          have q2 : ¬ ((k : Int) + 1) ≤ (q : Int) := by omega
          have q6 : (q : Int) < (k : Int) + 1 := by omega
          by_cases hA : q < k ∧ g q = false
          · -- it is there
            have HIN : Hid ((⟨(q : Int), l.getD q 0, (q : Int) + 1⟩ : It) ∈ rs g (adds l k)) := rs_of hA.1 hA.2
            have hdl := del_len HQ.out.st.ok.ids (mem_ids HIN.out)
            have hd' : (del (q : Int) (rs g (adds l k))).length + 1 = (rs g (adds l k)).length := hdl
            clear hdl
            obtain ⟨b0, of0, y, rfl, hbb0, hzy, hcy⟩ := R1.out.cell HQ.out.st.bel hA.1
            have hy : l.getD q 0 = y := by rw [List.getD_eq_getElem?_getD, hzy]; rfl
            rw [hy] at HIN
            have hgq := hA.2
            have q3 : (q : Int) < (k : Int) := by have := hA.1; omega
            have b5 : IntKind.i64.wrap (((rs g (adds l k)).length : Int) - 1) = ((del (q : Int) (rs g (adds l k))).length : Int) := by rw [IntKind.wrap_i64]; omega
            generalize hSS : rs g (adds l k) = S at *
            clear hA hzy hy hcx
            go_wp2_with fail
            refine (st_rem HQ.out.st HIN.out (by omega)).mono ?_
            rintro e w3 hr
            have hcy3 : w3.cell? ⟨b0, of0 + q, none⟩ = some (.int .i64 y) := by
              rw [cell_blk (hr.2.1.bel.block b0 hbb0)]
              exact (cell_blk (HQ.out.st.bel.block b0 hbb0) _).symm.trans hcy
            have hbb3 : b0 < w3.heap.size := Nat.lt_of_lt_of_le hbb0 hr.2.1.bel.size
            have HQ3 : Hid (SQ W (W.heap.size + 1) W.heap.size k (del (q : Int) S) [(w3.heap.size, (⟨(q : Int), y, (q : Int) + 1⟩ : It))] s (k + 1) g (w3.alloc (.cells #[.int .i64 (q : Int), .int .i64 y, .int .i64 ((q : Int) + 1)] 36))) := (HQ.out.go hr).box ⟨(q : Int), y, (q : Int) + 1⟩
            have hcy4 : (w3.alloc (.cells #[.int .i64 (q : Int), .int .i64 y, .int .i64 ((q : Int) + 1)] 36)).cell? ⟨b0, of0 + q, none⟩ = some (.int .i64 y) := by
              rw [cell_blk ((below_al w3 _).block b0 hbb3)]; exact hcy3
            obtain rfl := hr.1
            clear hr HQ hcy hcy3 HIN
            go_wp2_with fail
            generalize w3.alloc (.cells #[.int .i64 (q : Int), .int .i64 y, .int .i64 ((q : Int) + 1)] 36) = w4 at *
            generalize w3.heap.size = r at *
            obtain ⟨r0, r1, r2, -⟩ := (HQ3.out.st.blk (s := r) (x := ⟨(q : Int), y, (q : Int) + 1⟩) (by simp)).cells
            obtain ⟨s0, -⟩ := HQ3.out.at hq1
            rw [hgq] at s0
            refine wp_region_still_tail 33 (by kernel_rfl) (by kernel_rfl) ?_
            simp only [List.take_succ_cons, List.take_zero, List.drop_succ_cons, List.drop_zero]
            repeat (with_reducible refine wpStill_step ?_; intro K hK; go_simp; (try rw [if_neg (by simp [undef])]); refine hK _ ?_; clear hK K)
            with_reducible refine wpStill_nil ?_
            change wpList _ _ _ _ _ w4.drew
            have HQ4 := Lib.hid (HQ3.out.later (Below.refl _ _).drew)
            generalize w4.drew = w6 at *
            clear r0 r1 r2 s0 hcy4 HQ3
            have hSl3 : (del (q : Int) S).length ≤ 1000 := by omega
            go_wp2_with fail
            refine (st_rows HQ4.out.st hSl3).mono ?_
            rintro e w7 ⟨A, c7, m7, rfl, r1, r2, r3, hb7⟩
            have HQ7 := Lib.hid (HQ4.out.later hb7)
            clear HQ4 hb7
            go_wp2_with fail
            refine (st_heaped HQ7.out.st r1.out r2.out r3.out hSl3).mono ?_
            rintro e w8 ⟨rfl, hb8⟩
            have HQ8 : Hid (SQ W (W.heap.size + 1) W.heap.size k (del (q : Int) S) [] s (k + 1) g w8) := (HQ7.out.later hb8).sub (fun _ h => by cases h)
            clear HQ7 hb8 r1 r2 r3
            obtain ⟨s0, s1⟩ := HQ8.out.at hq1
            have HE : Hid (SQ W (W.heap.size + 1) W.heap.size k (rs (fun i => g i || q == i) (adds l k)) [] s (k + 1) (fun i => g i || q == i) (w8.setCell ⟨s, q, none⟩ (.bool true))) := by rw [HG'.out]; exact HQ8.out.set q
            clear HQ8
            go_wp2_with fail
            go_roundw
            case rel => exact ⟨j + 1, _, by omega, by rw [HG'.out], by go_num, HE⟩
            case measure => simp [intOf]; omega
          · have hno : k ≤ q ∨ g q = true := by
              by_cases h : k ≤ q
              · exact .inl h
              · right
                by_cases h' : g q = true
                · exact h'
                · exact absurd ⟨by omega, by simpa using h'⟩ hA
            have HNO : Hid ((q : Int) ∉ ids (rs g (adds l k))) := rs_ids hno
            have hdl : del (q : Int) (rs g (adds l k)) = rs g (adds l k) := del_none HNO.out
            rw [hdl] at HG'
            clear hdl hA
            generalize hSS : rs g (adds l k) = S at *
            clear hcx
            by_cases hqk : k ≤ q
            · have q3 : ¬ (q : Int) < (k : Int) := by omega
              have q4 : ¬ q < k := by omega
              have q5 : decide (q < k) = false := by simp; omega
              clear hno hqk
              go_wp2_with fail
              refine (st_rem_no HQ.out.st hqw HNO.out).mono ?_
              rintro e w3 hr
              have HQ3 : Hid (SQ W (W.heap.size + 1) W.heap.size k S [(w3.heap.size, zI)] s (k + 1) g (w3.alloc (.cells #[.int .i64 zI.id, .int .i64 zI.w, .int .i64 zI.s] 36))) := (HQ.out.go hr).box zI
              obtain rfl := hr.1
              clear hr HQ
              go_wp2_with fail
              generalize w3.alloc (.cells #[.int .i64 zI.id, .int .i64 zI.w, .int .i64 zI.s] 36) = w4 at *
              generalize w3.heap.size = r at *
              obtain ⟨s0, -⟩ := HQ3.out.at hq1
              clear s0
              refine wp_region_still_tail 33 (by kernel_rfl) (by kernel_rfl) ?_
              simp only [List.take_succ_cons, List.take_zero, List.drop_succ_cons, List.drop_zero]
              repeat (with_reducible refine wpStill_step ?_; intro K hK; go_simp; (try rw [if_neg (by simp [undef])]); refine hK _ ?_; clear hK K)
              with_reducible refine wpStill_nil ?_
              change wpList _ _ _ _ _ w4.drew
              have HQ4 := Lib.hid (HQ3.out.later (Below.refl _ _).drew)
              generalize w4.drew = w6 at *
              clear HQ3
              have hSl3 : (S).length ≤ 1000 := by omega
              go_wp2_with fail
              refine (st_rows HQ4.out.st hSl3).mono ?_
              rintro e w7 ⟨A, c7, m7, rfl, r1, r2, r3, hb7⟩
              have HQ7 := Lib.hid (HQ4.out.later hb7)
              clear HQ4 hb7
              go_wp2_with fail
              refine (st_heaped HQ7.out.st r1.out r2.out r3.out hSl3).mono ?_
              rintro e w8 ⟨rfl, hb8⟩
              have HQ8 : Hid (SQ W (W.heap.size + 1) W.heap.size k (S) [] s (k + 1) g w8) := (HQ7.out.later hb8).sub (fun _ h => by cases h)
              clear HQ7 hb8 r1 r2 r3
              obtain ⟨s0, s1⟩ := HQ8.out.at hq1
              have HE : Hid (SQ W (W.heap.size + 1) W.heap.size k (rs (fun i => g i || q == i) (adds l k)) [] s (k + 1) (fun i => g i || q == i) (w8.setCell ⟨s, q, none⟩ (.bool true))) := by rw [HG'.out]; exact HQ8.out.set q
              clear HQ8
              go_wp2_with fail
              go_roundw
              case rel => exact ⟨j + 1, _, by omega, by rw [HG'.out], by go_num, HE⟩
              case measure => simp [intOf]; omega
            · have q3 : (q : Int) < (k : Int) := by omega
              have hgq : g q = true := hno.resolve_left hqk
              have q4 : q < k := by omega
              have q5 : decide (q < k) = true := by simp; omega
              clear hno hqk
              go_wp2_with fail
              refine (st_rem_no HQ.out.st hqw HNO.out).mono ?_
              rintro e w3 hr
              have HQ3 : Hid (SQ W (W.heap.size + 1) W.heap.size k S [(w3.heap.size, zI)] s (k + 1) g (w3.alloc (.cells #[.int .i64 zI.id, .int .i64 zI.w, .int .i64 zI.s] 36))) := (HQ.out.go hr).box zI
              obtain rfl := hr.1
              clear hr HQ
              go_wp2_with fail
              generalize w3.alloc (.cells #[.int .i64 zI.id, .int .i64 zI.w, .int .i64 zI.s] 36) = w4 at *
              generalize w3.heap.size = r at *
              obtain ⟨s0, -⟩ := HQ3.out.at hq1
              rw [hgq] at s0
              refine wp_region_still_tail 33 (by kernel_rfl) (by kernel_rfl) ?_
              simp only [List.take_succ_cons, List.take_zero, List.drop_succ_cons, List.drop_zero]
              repeat (with_reducible refine wpStill_step ?_; intro K hK; go_simp; (try rw [if_neg (by simp [undef])]); refine hK _ ?_; clear hK K)
              with_reducible refine wpStill_nil ?_
              change wpList _ _ _ _ _ w4.drew
              have HQ4 := Lib.hid (HQ3.out.later (Below.refl _ _).drew)
              generalize w4.drew = w6 at *
              clear s0 HQ3
              have hSl3 : (S).length ≤ 1000 := by omega
              go_wp2_with fail
              refine (st_rows HQ4.out.st hSl3).mono ?_
              rintro e w7 ⟨A, c7, m7, rfl, r1, r2, r3, hb7⟩
              have HQ7 := Lib.hid (HQ4.out.later hb7)
              clear HQ4 hb7
              go_wp2_with fail
              refine (st_heaped HQ7.out.st r1.out r2.out r3.out hSl3).mono ?_
              rintro e w8 ⟨rfl, hb8⟩
              have HQ8 : Hid (SQ W (W.heap.size + 1) W.heap.size k (S) [] s (k + 1) g w8) := (HQ7.out.later hb8).sub (fun _ h => by cases h)
              clear HQ7 hb8 r1 r2 r3
              obtain ⟨s0, s1⟩ := HQ8.out.at hq1
              have HE : Hid (SQ W (W.heap.size + 1) W.heap.size k (rs (fun i => g i || q == i) (adds l k)) [] s (k + 1) (fun i => g i || q == i) (w8.setCell ⟨s, q, none⟩ (.bool true))) := by rw [HG'.out]; exact HQ8.out.set q
              clear HQ8
              go_wp2_with fail
              go_roundw
              case rel => exact ⟨j + 1, _, by omega, by rw [HG'.out], by go_num, HE⟩
              case measure => simp [intOf]; omega
        · obtain rfl : j = n2 := by omega
          have k4 : ¬ (j : Int) < (j : Int) := by omega
          have HIN : Hid (∀ x ∈ rs g (adds l k), ∃ i : Nat, i < k ∧ x = ⟨(i : Int), l.getD i 0, (i : Int) + 1⟩ ∧ g i = false) := fun x hx => rs_in hx
          generalize rs g (adds l k) = S at *
          clear hlt hj hlen hRd R1 R2
          go_wp2_with fail
          refine (st_all HQ.out.st (by omega)).mono ?_
          rintro e w3 ⟨A, c, rfl, r1, hb3⟩
          have S3 : Hid (SQ W (W.heap.size + 1) W.heap.size k S [] s (k + 1) g w3 ∧ Rt w3 A S.length S) := ⟨HQ.out.later hb3, r1⟩
          clear HQ r1 hb3
          go_wp2_with fail
          refine (st_len S3.out.1.st).mono ?_
          rintro e w8 ⟨rfl, rfl⟩
          go_wp2_with fail
          generalize w3 = wz at *
          go_loopw [14] (fun i wr => ∃ i' : Nat, i' ≤ S.length ∧ i = .int .i64 i' ∧ Hid (SQ W (W.heap.size + 1) W.heap.size k S [] s (k + 1) g wr ∧ Rt wr A S.length S)) (fun i _ => S.length - (intOf i).toNat)
          case atStart => exact ⟨0, by omega, rfl, S3⟩
          case round =>
            clear S3
            obtain ⟨i', hi', rfl, HQ⟩ := hrel
            by_cases hlt : i' < S.length
            · obtain ⟨x, hx⟩ := ex_at hlt
              obtain ⟨q, hq, hxe, hgq⟩ := HIN.out x (at_mem hx)
              obtain ⟨bb, off, rfl, hbb, hc⟩ := HQ.out.2.at (by omega)
              obtain ⟨x0, x1, x2⟩ := hc i' x hx
              obtain ⟨s0, -⟩ := HQ.out.1.at (j := q) (by omega)
              rw [hgq] at s0
              obtain ⟨y0, hy0⟩ : ∃ y, y = l.getD q 0 := ⟨_, rfl⟩
              rw [← hy0] at hxe
              clear hy0
              have HPL : Hid (0 < i' → (pv S i').lt x) := fun h => pv_lt HQ.out.1.st.ok.srt hx h
              subst hxe
              have k5 : (i' : Int) < (S.length : Int) := by omega
              have b5 : IntKind.i64.wrap ((i' : Int) + 1) = (i' : Int) + 1 := by rw [IntKind.wrap_i64]; omega
              have q1 : ¬ (q : Int) < 0 := by omega
              have q3 : ¬ (k : Int) ≤ (q : Int) := by omega
              have q2 : (q : Int) < (k : Int) + 1 := by omega
              have q4 : ¬ ((k : Int) + 1) ≤ (q : Int) := by omega
              by_cases hi0 : i' = 0
              · subst hi0
                simp only [Nat.zero_mul, Nat.add_zero] at x0 x1 x2
                clear hc hx hgq HPL
                go_wp2_with fail
                refine wp_region_quiet_lit (by kernel_rfl) (by kernel_rfl) ?_
                repeat (with_reducible refine wpQuiet_step ?_; intro K hK; go_simp; (try rw [if_neg (by simp [undef])]); refine hK _ ?_; clear hK K)
                with_reducible refine wpQuiet_nil ?_
                rintro w9 ⟨nq, rfl⟩
                have HQ5 : Hid (SQ W (W.heap.size + 1) W.heap.size k S [] s (k + 1) g (wr.drewN nq) ∧ Rt (wr.drewN nq) (some ⟨bb, off, none⟩) S.length S) := ⟨HQ.out.1.drewN nq, HQ.out.2.later (below_drewN _ nq)⟩
                generalize wr.drewN nq = w5 at *
                clear x0 x1 x2 s0 HQ
                go_wp2_with fail
                go_roundw
                case rel => exact ⟨0 + 1, by omega, by go_num, HQ5⟩
                case measure => simp [intOf]; omega
              · have hj1 : (0 : Int) < (i' : Int) := by omega
                have dj : decide (0 < i') = true := by simp; omega
                obtain ⟨y, hy⟩ := ex_at (l := S) (p := i' - 1) (by omega)
                obtain ⟨z0, z1, z2⟩ := hc (i' - 1) y hy
                have hlt2 : y.lt ⟨(q : Int), y0, (q : Int) + 1⟩ := by
                  have := HPL.out (by omega)
                  have e : i' = (i' - 1) + 1 := by omega
                  rw [e, pv_succ hy] at this; exact this
                have bz : IntKind.i64.wrap ((i' : Int) - 1) = ((i' - 1 : Nat) : Int) := by rw [IntKind.wrap_i64]; omega
                have hzl : i' - 1 < S.length := by omega
                obtain ⟨p, hp⟩ : ∃ p, p = i' - 1 := ⟨_, rfl⟩
                rw [← hp] at z0 z1 z2 bz hzl
                have bz2 : ¬ (p : Int) < 0 := by omega
                have bz3 : (p : Int) < (S.length : Int) := by omega
                have HBh : Hid (Calls Try.prog 27 #[vI ⟨(q : Int), y0, (q : Int) + 1⟩, vI y] wr.drew (BoolR true wr.drew)) := by have := behind_any ⟨(q : Int), y0, (q : Int) + 1⟩ y wr.drew; rwa [decide_eq_true hlt2] at this
                clear hc hx hy hlt2 hgq hp HPL
                go_wp2_with fail
                refine wp_region_still_tail 39 (by kernel_rfl) (by kernel_rfl) ?_
                simp only [List.take_succ_cons, List.take_zero, List.drop_succ_cons, List.drop_zero]
                repeat (with_reducible refine wpStill_step ?_; intro K hK; go_simp; (try rw [if_neg (by simp [undef])]); refine hK _ ?_; clear hK K)
                with_reducible refine wpStill_nil ?_
                change wpList _ _ _ _ _ wr.drew
                have HQ4 : Hid (SQ W (W.heap.size + 1) W.heap.size k S [] s (k + 1) g wr.drew ∧ Rt wr.drew (some ⟨bb, off, none⟩) S.length S) := ⟨HQ.out.1.later (Below.refl _ _).drew, HQ.out.2.later (Below.refl _ _).drew⟩
                generalize wr.drew = w6 at *
                clear x0 x1 x2 z0 z1 z2 s0 HQ
                go_wp2_with fail
                refine HBh.out.mono ?_
                rintro e w5 ⟨rfl, hb5⟩
                have HQ5 : Hid (SQ W (W.heap.size + 1) W.heap.size k S [] s (k + 1) g w5 ∧ Rt w5 (some ⟨bb, off, none⟩) S.length S) := ⟨HQ4.out.1.later hb5, HQ4.out.2.later hb5⟩
                clear HQ4 hb5 HBh
                go_wp2_with fail
                go_roundw
                case rel => exact ⟨i' + 1, by omega, by go_num, HQ5⟩
                case measure => simp [intOf]; omega
            · obtain rfl : i' = S.length := by omega
              have k5 : ¬ (S.length : Int) < (S.length : Int) := by omega
              clear hlt hi'
              go_wp2_with fail
              refine (awake_any wr).mono ?_
              rintro e w8 ⟨rfl, b8⟩
              have S8 := Lib.hid (HQ.out.1.st.later b8).bel
              clear HQ b8
              go_wp2_with fail
              go_ret
              exact ⟨rfl, S8.out⟩
end Go.Proofs.Ytcfdfepndjkllaa

/- The walk of ChooseMeets. No condition. -/
import Derived.Test.YtmcacmbllpphiaaMeM
import Derived.Test.YtmcacmbllpphiaaAwk
namespace Go.Proofs.Ytmcacmbllpphiaa
open Go.RowKit
set_option linter.unusedVariables false

theorem ptr_more {n : Nat} {b : Bool} {B : List Nat} (h : B.length = n) (c : Nat) : ∀ x ∈ mL n b, ptr (B ++ [c]) x = ptr B x := by
  intro x hx
  obtain ⟨i, hi, rfl⟩ := mem_mL hx
  simp only [ptr, Option.bind_some]
  rw [List.getElem?_append_left (by omega)]
theorem RdK.cells1 {w : World} {A : Option Addr} {x : Wk} (h : RdK w A 1 [x]) : ∃ b cs, A = some ⟨b, 0, none⟩ ∧ w.heap[b]? = some (.cells cs 75 (0, 0)) ∧ w.cell? ⟨b, 0, none⟩ = some (.int .i64 x.t) ∧ w.cell? ⟨b, 1, none⟩ = some (.int .i64 x.c) ∧ w.cell? ⟨b, 2, none⟩ = some (.int .i64 x.v) ∧ w.cell? ⟨b, 3, none⟩ = some (.bool x.ok) ∧ w.cell? ⟨b, 4, none⟩ = some (.bool x.pn) := by
  obtain ⟨b, cs, e, hb, hc⟩ := h.2 (by omega)
  have := hc 0 x rfl
  simp only [Nat.zero_mul, Nat.zero_add] at this
  exact ⟨b, cs, e, hb, this⟩
set_option maxRecDepth 100000 in
set_option maxHeartbeats 16000000 in
theorem meets_true (n : Nat) (at_ : Int) (W : World) (h1 : 1 ≤ n) (hn : n ≤ 8) : Calls Try.prog 6 #[.int .i64 n, .int .i64 at_, .bool true] W (BoolR true W) := by
  obtain ⟨i0, hi, hz0, hz1, hz2⟩ := info_parts inf65
  have b1 : (n : Int) ≤ 8 := by omega
  have b2 : 1 ≤ (n : Int) := by omega
  have S0 : Hid (RZ W [] (mS 0 true fun _ => []) (.slice none 0 0) (mL 0 true) W) := ⟨ZS.nil W, World.ownsRow_nil _ _ _ _⟩
  go_enter Try.func6, Try.ntmps6
  go_wp2_with fail
  go_loopw [7, 8] (fun v i wr => ∃ (k : Nat) (B : List Nat), k ≤ n ∧ i = .int .i64 k ∧ B.length = k ∧ Hid (RZ W B (mS k true fun _ => []) v (mL k true) wr)) (fun _ i _ => n - (intOf i).toNat)
  case atStart => exact ⟨0, [], by omega, rfl, rfl, S0⟩
  case round =>
    clear S0
    obtain ⟨k, B, hk, rfl, hBl, hS⟩ := hrel
    by_cases hlt : k < n
    · have k1 : (k : Int) < (n : Int) := by omega
      have k2 : 0 ≤ (k : Int) := by omega
      go_wp2_with fail
      refine (zs_new hS.out.zs 0 (by omega)).mono ?_
      rintro e w1 ⟨c, rfl, z1, ko1⟩
      have hRZ := hS.out.more (S' := mS (k + 1) true fun _ => []) (by rw [mS_succ]; exact z1) ko1 (ptr_more hBl c)
      have HR := Lib.hid (hRZ.later (below_al w1 (.cells (caA (B ++ [c]) ⟨some k, true, 20 + (k : Int)⟩) 65)))
      have HRd := Lib.hid (Rd.ca w1 (B ++ [c]) ⟨some k, true, 20 + (k : Int)⟩ _ rfl)
      have HSz := hRZ.size
      have hp : ptr (B ++ [c]) ⟨some k, true, 20 + (k : Int)⟩ = some ⟨c, 0, none⟩ := by simp [ptr, ← hBl]
      unfold caA at HR HRd
      rw [hp] at HR HRd
      have HL : Hid ((mL k true).length = k) := mL_len _ _
      have HBL : Hid ((B ++ [c]).length = k + 1) := by show _ = _; rw [List.length_append, List.length_singleton, hBl]
      generalize B ++ [c] = B' at *
      clear hRZ hS z1 ko1 hp hBl
      go_wp2_with (at_builtin; go_loud (refine app_wp rfl (.tmp 44) (.tmp 50) 38 rfl W.heap.size 65 3 24 i0 (.agg #[.pointer none, .bool false, .int .i64 0]) Try.underlying38 hi hz0 hz1 hz2 rfl (by decide) u7 (mL k true).length (caF B' (mL k true)) rfl HR.out.row _ (some ⟨w1.heap.size, 0, none⟩) 1 1 (caF B' [⟨some k, true, 20 + (k : Int)⟩]) rfl HRd.out (caF_one _ _) (by have := HL.out; unfold maxLen; omega) (by have := HL.out; omega) (by simp; omega) ?_; intro v1 w3 ho1 hg1; have HR1 : Hid (RZ W B' (mS (k + 1) true fun _ => []) v1 (mL (k + 1) true) w3) := HR.out.grow hg1 (by rw [mL_succ, List.length_append, List.length_singleton, caF_app]; exact ho1); clear ho1 hg1))
      go_roundw
      case rel => exact ⟨k + 1, B', by omega, by go_num, HBL.out, HR1⟩
      case measure => simp [intOf]; omega
    · obtain rfl : k = n := by omega
      obtain ⟨A9, c9, hv, hX⟩ := hS.out.rd
      rw [mL_len] at hv hX
      subst hv
      have HX := Lib.hid hX
      have HZ := Lib.hid hS.out.zs
      have r0 : 0 ≤ at_ % (k : Int) := Int.emod_nonneg _ (by omega)
      have r1 : at_ % (k : Int) < (k : Int) := Int.emod_lt_of_pos _ (by omega)
      obtain ⟨q, hq⟩ := Int.eq_ofNat_of_zero_le r0
      have hqk : q < k := by omega
      have HQ := Lib.hid (fun w' : World => round_any at_ k w' (by omega) (by omega))
      rw [hq] at HQ
      have q1 : 0 ≤ (q : Int) := by omega
      have q2 : (q : Int) < (k : Int) := by omega
      have HB9 : Hid (B.length = k) := hBl
      clear hS hX r0 r1 hq hBl
      go_wp2_with fail
      refine (zs_do (m := 0) (ws := []) false 0 5 (by unfold Wf; decide) HZ.out (BN_m _ _ (fun i _ => by simp)) HX.out (by omega) (m_park true _ 5 (by omega) (by omega)) rfl).mono ?_
      rintro e w2 ⟨A2, k2, rfl, _, s2, ko2⟩
      have HZ2 := Lib.hid s2
      have HX2 := Lib.hid (HX.out.ko o65 ko2)
      clear s2 ko2 HZ HX
      unfold reG
      go_wp2_with fail
      refine (zs_do (m := 0) (ws := []) false 0 6 (by unfold Wf; decide) (HZ2.out.alloc (.cells #[.int .i64 (-1), .int .i64 0, .bool false, .bool false, .bool true, .bool false] 46)) (BN_m _ _ (fun i _ => by simp)) (HX2.out.later (below_al w2 (.cells #[.int .i64 (-1), .int .i64 0, .bool false, .bool false, .bool true, .bool false] 46))) (by omega) (m_park true _ 6 (by omega) (by omega)) rfl).mono ?_
      rintro e w3 ⟨A3, k3, rfl, _, s3, ko3⟩
      have HZ3 := Lib.hid s3
      have HX3 := Lib.hid ((HX2.out.later (below_al w2 (.cells #[.int .i64 (-1), .int .i64 0, .bool false, .bool false, .bool true, .bool false] 46))).ko o65 ko3)
      have hr3 := ko3.2 _ _ _ _ (heap_alloc_new w2 (.cells #[.int .i64 (-1), .int .i64 0, .bool false, .bool false, .bool true, .bool false] 46)) o46
      have p4 := cell_of_row w3 w2.heap.size 4 _ _ _ hr3
      simp only [List.getElem?_toArray, List.getElem?_cons_succ, List.getElem?_cons_zero] at p4
      have hN2 := lt_of_blk hr3
      clear s3 ko3 HZ2 HX2 hr3
      generalize w2.heap.size = N2 at *
      unfold reG
      go_wp2_with fail
      refine (HQ.out _).mono ?_
      rintro e w' ⟨rfl, rfl⟩
      have HZ4 := Lib.hid (HZ3.out.alloc (.cells #[.int .i64 (-1), .int .i64 0, .bool false, .bool false, .bool true, .bool false] 46))
      have HX4 := Lib.hid (HX3.out.later (below_al w3 (.cells #[.int .i64 (-1), .int .i64 0, .bool false, .bool false, .bool true, .bool false] 46)))
      clear HZ3 HX3 p4 HQ
      generalize w3.heap.size = N3 at *
      generalize w3.alloc (.cells #[.int .i64 (-1), .int .i64 0, .bool false, .bool false, .bool true, .bool false] 46) = w4 at *
      obtain ⟨bb, off, cs, rfl, hbb, c0, _, _⟩ := HX4.out.at (mL_at true hqk)
      have hbs := lt_of_blk hbb
      obtain ⟨P, hP⟩ : ∃ P, ptr B ⟨some q, true, 20 + (q : Int)⟩ = P := ⟨_, rfl⟩
      have HX5 : Hid (RdX 65 B ((w4.alloc (.cells #[.pointer P, .bool false, .int .i64 8] 65)).alloc (.cells #[.pointer P, .bool false, .int .i64 8] 65)) (some ⟨w4.heap.size + 1, 0, none⟩) 1 [⟨some q, false, 8⟩]) := RdX.lit 65 B _ _ [⟨some q, false, 8⟩] (by rw [← hP]; rfl) _ 1 (by simp) rfl
      have HZ5 := Lib.hid ((HZ4.out.alloc (.cells #[.pointer P, .bool false, .int .i64 8] 65)).alloc (.cells #[.pointer P, .bool false, .int .i64 8] 65))
      have K5 := Lib.hid (Ko.of_below (two_al w4 (.cells #[.pointer P, .bool false, .int .i64 8] 65) (.cells #[.pointer P, .bool false, .int .i64 8] 65)))
      rw [hP] at c0
      clear hbb HZ4 hP
      go_wp2_with fail
      refine (zs_do (m := 1) true 0 7 (by unfold Wf; decide) HZ5.out (BN_m _ _ (fun i _ => by simp)) HX5.out (by omega) (m_meet true (fun i => [] ++ [⟨5, i, mV true i⟩] ++ [⟨6, i, mV true i⟩]) hqk q (20 + (q : Int)) [⟨6, q, mV true q⟩] rfl) rfl).mono ?_
      rintro e w6 ⟨A6, k6, rfl, r6, s6, ko6⟩
      simp only [if_true] at r6
      have HZ6 : Hid (ZS W B (mS k true fun i => if i = q then [⟨6, q, mV true q⟩] else [⟨5, i, mV true i⟩, ⟨6, i, mV true i⟩]) w6) := s6
      have HX6 := Lib.hid (HX4.out.ko o65 (K5.out.trans ko6))
      have HR6 := Lib.hid (r6.later (below_al w6 (.cells #[.int .i64 0, .int .i64 (20 + (q : Int)), .bool true, .bool false, .bool false, .bool false] 46)))
      clear s6 ko6 r6 HX5 HZ5 K5 HX4 c0
      obtain ⟨b7, cs7, rfl, hb7, x0, x1, x2, x3, x4⟩ := RdK.cells1 HR6.out
      simp only at x0 x1 x2 x3 x4
      have hb7s := lt_of_blk hb7
      unfold reG
      clear hb7 HR6
      go_wp2_with fail
      refine (zs_leave (S' := mS k true fun i => [⟨6, i, mV true i⟩]) (k := (k : Int) - 1) 5 (HZ6.out.alloc (.cells #[.int .i64 0, .int .i64 (20 + (q : Int)), .bool true, .bool false, .bool false, .bool false] 46)) (BN_m (m := 100) _ _ (fun i _ => by by_cases e : i = q <;> simp [e])) (HX6.out.later (below_al w6 (.cells #[.int .i64 0, .int .i64 (20 + (q : Int)), .bool true, .bool false, .bool false, .bool false] 46))) (by omega) (m_leave true _ _ 5 _ (fun i => if i = q then 0 else 1) (by intro i _; by_cases e : i = q <;> simp [e, isT]) (by intro i _; by_cases e : i = q <;> simp [e, isT]) (by rw [sm_but, if_pos hqk]))).mono ?_
      rintro e w7 ⟨rfl, s7, ko7⟩
      have HZ7 := Lib.hid s7
      have HX7 := Lib.hid ((HX6.out.later (below_al w6 (.cells #[.int .i64 0, .int .i64 (20 + (q : Int)), .bool true, .bool false, .bool false, .bool false] 46))).ko o65 ko7)
      clear s7 ko7 HZ6 HX6 x0 x1 x2 x3 x4
      go_wp2_with fail
      refine (zs_leave (S' := mS k true fun i => []) (k := (k : Int)) 6 HZ7.out (BN_m (m := 100) _ _ (fun i _ => by simp)) HX7.out (by omega) (m_leave true _ _ 6 _ (fun i => 1) (by intro i _; simp [isT]) (by intro i _; simp [isT]) (sm_one k))).mono ?_
      rintro e w8 ⟨rfl, s8, ko8⟩
      have HZ8 := Lib.hid s8
      have HX8 := Lib.hid (HX7.out.ko o65 ko8)
      clear s8 ko8 HZ7 HX7
      go_wp2_with fail
      refine (zs_leave (S' := mS k true fun i => []) (k := 0) 7 HZ8.out (BN_m (m := 100) _ _ (fun i _ => by simp)) HX8.out (by omega) (m_leave true _ _ 7 _ (fun i => 0) (by intro i _; simp) (by intro i _; simp) (sm_zero k))).mono ?_
      rintro e w9 ⟨rfl, s9, _⟩
      have HB9' := Lib.hid s9.bel
      clear s9 HZ8 HX8
      go_wp2_with fail
      refine (awake_any w9).mono ?_
      rintro e w10 ⟨rfl, hb⟩
      have HBB := Lib.hid (HB9'.out.trans (hb.mono HB9'.out.size))
      clear hb HB9'
      go_wp2_with fail
      go_ret
      exact ⟨rfl, HBB.out⟩
set_option maxRecDepth 100000 in
set_option maxHeartbeats 16000000 in
theorem meets_false (n : Nat) (at_ : Int) (W : World) (h1 : 1 ≤ n) (hn : n ≤ 8) : Calls Try.prog 6 #[.int .i64 n, .int .i64 at_, .bool false] W (BoolR true W) := by
  obtain ⟨i0, hi, hz0, hz1, hz2⟩ := info_parts inf65
  have b1 : (n : Int) ≤ 8 := by omega
  have b2 : 1 ≤ (n : Int) := by omega
  have S0 : Hid (RZ W [] (mS 0 false fun _ => []) (.slice none 0 0) (mL 0 false) W) := ⟨ZS.nil W, World.ownsRow_nil _ _ _ _⟩
  go_enter Try.func6, Try.ntmps6
  go_wp2_with fail
  go_loopw [7, 8] (fun v i wr => ∃ (k : Nat) (B : List Nat), k ≤ n ∧ i = .int .i64 k ∧ B.length = k ∧ Hid (RZ W B (mS k false fun _ => []) v (mL k false) wr)) (fun _ i _ => n - (intOf i).toNat)
  case atStart => exact ⟨0, [], by omega, rfl, rfl, S0⟩
  case round =>
    clear S0
    obtain ⟨k, B, hk, rfl, hBl, hS⟩ := hrel
    by_cases hlt : k < n
    · have k1 : (k : Int) < (n : Int) := by omega
      have k2 : 0 ≤ (k : Int) := by omega
      go_wp2_with fail
      refine (zs_new hS.out.zs 0 (by omega)).mono ?_
      rintro e w1 ⟨c, rfl, z1, ko1⟩
      have hRZ := hS.out.more (S' := mS (k + 1) false fun _ => []) (by rw [mS_succ]; exact z1) ko1 (ptr_more hBl c)
      have HR := Lib.hid (hRZ.later (below_al w1 (.cells (caA (B ++ [c]) ⟨some k, false, 20 + (k : Int)⟩) 65)))
      have HRd := Lib.hid (Rd.ca w1 (B ++ [c]) ⟨some k, false, 20 + (k : Int)⟩ _ rfl)
      have HSz := hRZ.size
      have hp : ptr (B ++ [c]) ⟨some k, false, 20 + (k : Int)⟩ = some ⟨c, 0, none⟩ := by simp [ptr, ← hBl]
      unfold caA at HR HRd
      rw [hp] at HR HRd
      have HL : Hid ((mL k false).length = k) := mL_len _ _
      have HBL : Hid ((B ++ [c]).length = k + 1) := by show _ = _; rw [List.length_append, List.length_singleton, hBl]
      generalize B ++ [c] = B' at *
      clear hRZ hS z1 ko1 hp hBl
      go_wp2_with (at_builtin; go_loud (refine app_wp rfl (.tmp 44) (.tmp 50) 38 rfl W.heap.size 65 3 24 i0 (.agg #[.pointer none, .bool false, .int .i64 0]) Try.underlying38 hi hz0 hz1 hz2 rfl (by decide) u7 (mL k false).length (caF B' (mL k false)) rfl HR.out.row _ (some ⟨w1.heap.size, 0, none⟩) 1 1 (caF B' [⟨some k, false, 20 + (k : Int)⟩]) rfl HRd.out (caF_one _ _) (by have := HL.out; unfold maxLen; omega) (by have := HL.out; omega) (by simp; omega) ?_; intro v1 w3 ho1 hg1; have HR1 : Hid (RZ W B' (mS (k + 1) false fun _ => []) v1 (mL (k + 1) false) w3) := HR.out.grow hg1 (by rw [mL_succ, List.length_append, List.length_singleton, caF_app]; exact ho1); clear ho1 hg1))
      go_roundw
      case rel => exact ⟨k + 1, B', by omega, by go_num, HBL.out, HR1⟩
      case measure => simp [intOf]; omega
    · obtain rfl : k = n := by omega
      obtain ⟨A9, c9, hv, hX⟩ := hS.out.rd
      rw [mL_len] at hv hX
      subst hv
      have HX := Lib.hid hX
      have HZ := Lib.hid hS.out.zs
      have r0 : 0 ≤ at_ % (k : Int) := Int.emod_nonneg _ (by omega)
      have r1 : at_ % (k : Int) < (k : Int) := Int.emod_lt_of_pos _ (by omega)
      obtain ⟨q, hq⟩ := Int.eq_ofNat_of_zero_le r0
      have hqk : q < k := by omega
      have HQ := Lib.hid (fun w' : World => round_any at_ k w' (by omega) (by omega))
      rw [hq] at HQ
      have q1 : 0 ≤ (q : Int) := by omega
      have q2 : (q : Int) < (k : Int) := by omega
      have HB9 : Hid (B.length = k) := hBl
      clear hS hX r0 r1 hq hBl
      go_wp2_with fail
      refine (zs_do (m := 0) (ws := []) false 0 5 (by unfold Wf; decide) HZ.out (BN_m _ _ (fun i _ => by simp)) HX.out (by omega) (m_park false _ 5 (by omega) (by omega)) rfl).mono ?_
      rintro e w2 ⟨A2, k2, rfl, _, s2, ko2⟩
      have HZ2 := Lib.hid s2
      have HX2 := Lib.hid (HX.out.ko o65 ko2)
      clear s2 ko2 HZ HX
      unfold reG
      go_wp2_with fail
      refine (zs_do (m := 0) (ws := []) false 0 6 (by unfold Wf; decide) (HZ2.out.alloc (.cells #[.int .i64 (-1), .int .i64 0, .bool false, .bool false, .bool true, .bool false] 46)) (BN_m _ _ (fun i _ => by simp)) (HX2.out.later (below_al w2 (.cells #[.int .i64 (-1), .int .i64 0, .bool false, .bool false, .bool true, .bool false] 46))) (by omega) (m_park false _ 6 (by omega) (by omega)) rfl).mono ?_
      rintro e w3 ⟨A3, k3, rfl, _, s3, ko3⟩
      have HZ3 := Lib.hid s3
      have HX3 := Lib.hid ((HX2.out.later (below_al w2 (.cells #[.int .i64 (-1), .int .i64 0, .bool false, .bool false, .bool true, .bool false] 46))).ko o65 ko3)
      have hr3 := ko3.2 _ _ _ _ (heap_alloc_new w2 (.cells #[.int .i64 (-1), .int .i64 0, .bool false, .bool false, .bool true, .bool false] 46)) o46
      have p4 := cell_of_row w3 w2.heap.size 4 _ _ _ hr3
      simp only [List.getElem?_toArray, List.getElem?_cons_succ, List.getElem?_cons_zero] at p4
      have hN2 := lt_of_blk hr3
      clear s3 ko3 HZ2 HX2 hr3
      generalize w2.heap.size = N2 at *
      unfold reG
      go_wp2_with fail
      refine (HQ.out _).mono ?_
      rintro e w' ⟨rfl, rfl⟩
      have HZ4 := Lib.hid (HZ3.out.alloc (.cells #[.int .i64 (-1), .int .i64 0, .bool false, .bool false, .bool true, .bool false] 46))
      have HX4 := Lib.hid (HX3.out.later (below_al w3 (.cells #[.int .i64 (-1), .int .i64 0, .bool false, .bool false, .bool true, .bool false] 46)))
      clear HZ3 HX3 p4 HQ
      generalize w3.heap.size = N3 at *
      generalize w3.alloc (.cells #[.int .i64 (-1), .int .i64 0, .bool false, .bool false, .bool true, .bool false] 46) = w4 at *
      obtain ⟨bb, off, cs, rfl, hbb, c0, _, _⟩ := HX4.out.at (mL_at false hqk)
      have hbs := lt_of_blk hbb
      obtain ⟨P, hP⟩ : ∃ P, ptr B ⟨some q, false, 20 + (q : Int)⟩ = P := ⟨_, rfl⟩
      have HX5 : Hid (RdX 65 B ((w4.alloc (.cells #[.pointer P, .bool true, .int .i64 8] 65)).alloc (.cells #[.pointer P, .bool true, .int .i64 8] 65)) (some ⟨w4.heap.size + 1, 0, none⟩) 1 [⟨some q, true, 8⟩]) := RdX.lit 65 B _ _ [⟨some q, true, 8⟩] (by rw [← hP]; rfl) _ 1 (by simp) rfl
      have HZ5 := Lib.hid ((HZ4.out.alloc (.cells #[.pointer P, .bool true, .int .i64 8] 65)).alloc (.cells #[.pointer P, .bool true, .int .i64 8] 65))
      have K5 := Lib.hid (Ko.of_below (two_al w4 (.cells #[.pointer P, .bool true, .int .i64 8] 65) (.cells #[.pointer P, .bool true, .int .i64 8] 65)))
      rw [hP] at c0
      clear hbb HZ4 hP
      go_wp2_with fail
      refine (zs_do (m := 1) true 0 7 (by unfold Wf; decide) HZ5.out (BN_m _ _ (fun i _ => by simp)) HX5.out (by omega) (m_meet false (fun i => [] ++ [⟨5, i, mV false i⟩] ++ [⟨6, i, mV false i⟩]) hqk q (0) [⟨6, q, mV false q⟩] rfl) rfl).mono ?_
      rintro e w6 ⟨A6, k6, rfl, r6, s6, ko6⟩
      simp only [Bool.false_eq_true, if_false] at r6
      have HZ6 : Hid (ZS W B (mS k false fun i => if i = q then [⟨6, q, mV false q⟩] else [⟨5, i, mV false i⟩, ⟨6, i, mV false i⟩]) w6) := s6
      have HX6 := Lib.hid (HX4.out.ko o65 (K5.out.trans ko6))
      have HR6 := Lib.hid (r6.later (below_al w6 (.cells #[.int .i64 0, .int .i64 0, .bool true, .bool false, .bool false, .bool false] 46)))
      clear s6 ko6 r6 HX5 HZ5 K5 HX4 c0
      obtain ⟨b7, cs7, rfl, hb7, x0, x1, x2, x3, x4⟩ := RdK.cells1 HR6.out
      simp only at x0 x1 x2 x3 x4
      have hb7s := lt_of_blk hb7
      unfold reG
      clear hb7 HR6
      go_wp2_with fail
      refine (zs_leave (S' := mS k false fun i => [⟨6, i, mV false i⟩]) (k := (k : Int) - 1) 5 (HZ6.out.alloc (.cells #[.int .i64 0, .int .i64 0, .bool true, .bool false, .bool false, .bool false] 46)) (BN_m (m := 100) _ _ (fun i _ => by by_cases e : i = q <;> simp [e])) (HX6.out.later (below_al w6 (.cells #[.int .i64 0, .int .i64 0, .bool true, .bool false, .bool false, .bool false] 46))) (by omega) (m_leave false _ _ 5 _ (fun i => if i = q then 0 else 1) (by intro i _; by_cases e : i = q <;> simp [e, isT]) (by intro i _; by_cases e : i = q <;> simp [e, isT]) (by rw [sm_but, if_pos hqk]))).mono ?_
      rintro e w7 ⟨rfl, s7, ko7⟩
      have HZ7 := Lib.hid s7
      have HX7 := Lib.hid ((HX6.out.later (below_al w6 (.cells #[.int .i64 0, .int .i64 0, .bool true, .bool false, .bool false, .bool false] 46))).ko o65 ko7)
      clear s7 ko7 HZ6 HX6 x0 x1 x2 x3 x4
      go_wp2_with fail
      refine (zs_leave (S' := mS k false fun i => []) (k := (k : Int)) 6 HZ7.out (BN_m (m := 100) _ _ (fun i _ => by simp)) HX7.out (by omega) (m_leave false _ _ 6 _ (fun i => 1) (by intro i _; simp [isT]) (by intro i _; simp [isT]) (sm_one k))).mono ?_
      rintro e w8 ⟨rfl, s8, ko8⟩
      have HZ8 := Lib.hid s8
      have HX8 := Lib.hid (HX7.out.ko o65 ko8)
      clear s8 ko8 HZ7 HX7
      go_wp2_with fail
      refine (zs_leave (S' := mS k false fun i => []) (k := 0) 7 HZ8.out (BN_m (m := 100) _ _ (fun i _ => by simp)) HX8.out (by omega) (m_leave false _ _ 7 _ (fun i => 0) (by intro i _; simp) (by intro i _; simp) (sm_zero k))).mono ?_
      rintro e w9 ⟨rfl, s9, _⟩
      have HB9' := Lib.hid s9.bel
      clear s9 HZ8 HX8
      go_wp2_with fail
      refine (awake_any w9).mono ?_
      rintro e w10 ⟨rfl, hb⟩
      have HBB := Lib.hid (HB9'.out.trans (hb.mono HB9'.out.size))
      clear hb HB9'
      go_wp2_with fail
      go_ret
      exact ⟨rfl, HBB.out⟩
set_option maxRecDepth 100000 in
theorem meets_walk (n at_ : Int) (b : Bool) (W : World) : Calls Try.prog 6 #[.int .i64 n, .int .i64 at_, .bool b] W (BoolR true W) := by
  by_cases h1 : 1 ≤ n ∧ n ≤ 8
  · obtain ⟨n, rfl⟩ := Int.eq_ofNat_of_zero_le (show 0 ≤ n by omega)
    cases b
    · exact meets_false n at_ W (by omega) (by omega)
    · exact meets_true n at_ W (by omega) (by omega)
  · have HW := Lib.hid (awake_any W)
    by_cases h2 : n < 1
    · clear h1
      go_enter Try.func6, Try.ntmps6
      go_wp2_with fail
      refine HW.out.mono ?_
      rintro e w' ⟨rfl, hb⟩
      have HB := Lib.hid hb
      clear hb
      go_wp2_with fail
      go_ret
      exact ⟨rfl, HB.out⟩
    · have b2 : 8 < n := by omega
      clear h1
      go_enter Try.func6, Try.ntmps6
      go_wp2_with fail
      refine HW.out.mono ?_
      rintro e w' ⟨rfl, hb⟩
      have HB := Lib.hid hb
      clear hb
      go_wp2_with fail
      go_ret
      exact ⟨rfl, HB.out⟩
end Go.Proofs.Ytmcacmbllpphiaa

/- The walk of ChooseSends. Condition: the slice that came in reads as l. -/
import Derived.Test.YtmcacmbllpphiaaMeM
import Derived.Test.YtmcacmbllpphiaaAwk
namespace Go.Proofs.Ytmcacmbllpphiaa
open Go.RowKit
set_option linter.unusedVariables false

def sdC : List CS := [⟨0, true, 0, [], [], []⟩]
def sdL (l : List Bool) : List Ca := l.map fun b => ⟨some 0, b, 3⟩
theorem sdL_len (l : List Bool) : (sdL l).length = l.length := by simp [sdL]
theorem sdL_at {l : List Bool} {i : Nat} {b : Bool} (h : l[i]? = some b) : (sdL l)[i]? = some ⟨some 0, b, 3⟩ := by simp [sdL, h]
theorem sd_can (l : List Bool) : ∀ x ∈ sdL l, canO sdC x = true := by
  intro x hx
  obtain ⟨b, _, rfl⟩ := List.mem_map.1 hx
  cases b <;> rfl
theorem sd_knd (l : List Bool) : ∀ x ∈ sdL l, kndO sdC x = false := by
  intro x hx
  obtain ⟨b, _, rfl⟩ := List.mem_map.1 hx
  cases b <;> rfl
theorem sd_rdy (l : List Bool) : rdy sdC (sdL l) (sdL l).length = List.range l.length := by rw [rdy_all _ (Nat.le_refl _) (sd_can l), sdL_len]
theorem sd_do {l : List Bool} {draw : Int} {q : Nat} {b : Bool} (h1 : l.length ≤ 16) (hq : draw % (l.length : Int) = (q : Int)) (hb : l[q]? = some b) : doS sdC (sdL l) false draw 1 = (sdC, ⟨q, 0, false, b, false, false⟩, [], 0) := by
  unfold doS
  have hql : q < l.length := (List.getElem?_eq_some_iff.1 hb).1
  rw [if_neg (by rw [sdL_len]; omega), wrg_all _ (Nat.le_refl _) (sd_knd l), sd_rdy]
  simp only [List.length_range, hq, Int.toNat_natCast]
  rw [List.getElem?_range hql]
  simp only
  rw [sdL_at hb]
  cases b <;> rfl
set_option maxRecDepth 100000 in
set_option maxHeartbeats 8000000 in
theorem sends_in (A : Option Addr) (n cap : Nat) (l : List Bool) (draw : Int) (W : World) (hA : IsB W A n cap l) (h1 : 1 ≤ n) (hn : n ≤ 16) : Calls Try.prog 5 #[.slice A n cap, .int .i64 draw] W (BoolR true W) := by
  obtain ⟨i0, hi, hz0, hz1, hz2⟩ := info_parts inf65
  have b1 : (n : Int) ≤ 16 := by omega
  have b2 : 1 ≤ (n : Int) := by omega
  have HA := Lib.hid hA
  have HLN := Lib.hid hA.2.2.1
  clear hA
  go_enter Try.func5, Try.ntmps5
  go_wp2_with fail
  refine (zs_new (ZS.nil W) 0 (by omega)).mono ?_
  rintro e w1 ⟨c, rfl, s1, _⟩
  have S1 : Hid (ZS W [c] [⟨0, false, 0, [], [], []⟩] w1) := s1
  clear s1
  go_wp2_with fail
  refine (zs_close (i := 0) (ws := []) (n := 0) S1.out rfl rfl rfl rfl (by simp) (by simp) rfl rfl).mono ?_
  rintro e w2 ⟨A2, k2, rfl, _, s2, _⟩
  have S2 : Hid (RZ W [c] sdC (.slice none 0 0) (sdL (l.take 0)) w2) := ⟨s2, World.ownsRow_nil _ _ _ _⟩
  clear s2 S1
  go_wp2_with fail
  go_loopw [9, 10] (fun v i wr => ∃ k : Nat, k ≤ n ∧ i = .int .i64 k ∧ Hid (RZ W [c] sdC v (sdL (l.take k)) wr)) (fun _ i _ => n - (intOf i).toNat)
  case atStart => exact ⟨0, by omega, rfl, S2⟩
  case round =>
    clear S2
    obtain ⟨k, hk, rfl, hS⟩ := hrel
    by_cases hlt : k < n
    · have k1 : (k : Int) < (n : Int) := by omega
      have k2 : 0 ≤ (k : Int) := by omega
      have hkl : k < l.length := by rw [HLN.out]; exact hlt
      obtain ⟨bb, off, rfl, hbb, c0⟩ := IsB.at HA.out hS.out.zs.bel (List.getElem?_eq_getElem hkl)
      have HT : Hid (l.take (k + 1) = l.take k ++ [l[k]'hkl]) := List.take_succ_eq_append_getElem hkl
      generalize l[k]'hkl = y at *
      have HL : Hid ((sdL (l.take k)).length = k) := by show _ = _; rw [sdL_len, List.length_take]; omega
      have hRZ := hS.out.later (below_al wr (.cells (caA [c] ⟨some 0, y, 3⟩) 65))
      have HR := Lib.hid hRZ
      have HRd := Lib.hid (Rd.ca wr [c] ⟨some 0, y, 3⟩ _ rfl)
      have HSz := hS.out.size
      unfold caA at HR HRd
      clear hkl hbb hRZ hS
      go_wp2_with (at_builtin; go_loud (refine app_wp rfl (.tmp 45) (.tmp 52) 38 rfl W.heap.size 65 3 24 i0 (.agg #[.pointer none, .bool false, .int .i64 0]) Try.underlying38 hi hz0 hz1 hz2 rfl (by decide) u9 (sdL (l.take k)).length (caF [c] (sdL (l.take k))) rfl HR.out.row _ (some ⟨wr.heap.size, 0, none⟩) 1 1 (caF [c] [⟨some 0, y, 3⟩]) rfl HRd.out (caF_one _ _) (by have := HL.out; unfold maxLen; omega) (by have := HL.out; omega) (by simp; omega) ?_; intro v1 w3 ho1 hg1; have HR1 : Hid (RZ W [c] sdC v1 (sdL (l.take (k + 1))) w3) := HR.out.grow hg1 (by rw [HT.out]; simp only [sdL, List.map_append, List.map_cons, List.map_nil, List.length_append, List.length_singleton, caF_app]; exact ho1); clear ho1 hg1))
      go_roundw
      case rel => exact ⟨k + 1, by omega, by go_num, HR1⟩
      case measure => simp [intOf]; omega
    · obtain rfl : k = n := by omega
      have hR9 : RZ W [c] sdC u9 (sdL l) wr := by
        have h9 := hS.out
        rwa [List.take_of_length_le (by rw [HLN.out]; exact Nat.le_refl _)] at h9
      obtain ⟨A9, c9, hv, hX⟩ := hR9.rd
      rw [sdL_len, HLN.out] at hv hX
      subst hv
      have HX := Lib.hid hX
      have HZ := Lib.hid hR9.zs
      have r0 : 0 ≤ draw % (k : Int) := Int.emod_nonneg _ (by omega)
      have r1 : draw % (k : Int) < (k : Int) := Int.emod_lt_of_pos _ (by omega)
      obtain ⟨q, hq⟩ := Int.eq_ofNat_of_zero_le r0
      have hql : q < l.length := by rw [HLN.out]; omega
      have hy : l[q]? = some (l[q]'hql) := List.getElem?_eq_getElem hql
      have HD := Lib.hid (sd_do (draw := draw) (q := q) (b := l[q]'hql) (by rw [HLN.out]; exact hn) (by rw [HLN.out]; exact hq) hy)
      have HQ := Lib.hid (fun w' : World => round_any draw k w' (by omega) (by omega))
      rw [hq] at HQ
      have HY := Lib.hid hy
      generalize l[q]'hql = y at *
      have q1 : 0 ≤ (q : Int) := by omega
      have q2 : (q : Int) < (k : Int) := by omega
      clear hS hR9 hX hy hql r0 r1 hq
      go_wp2_with fail
      refine (zs_do (m := 0) false draw 1 (by unfold Wf; decide) HZ.out (by intro s hs; simp [sdC] at hs; subst hs; simp [nw]) HX.out (by omega) HD.out rfl).mono ?_
      rintro e w3 ⟨A3, k3, rfl, _, s3, ko3⟩
      have HX3 := HX.out.ko o65 ko3
      have bl := below_al w3 (.cells #[.int .i64 q, .int .i64 0, .bool false, .bool y, .bool false, .bool false] 46)
      have HH0 : Hid (ZS W [c] sdC (w3.alloc (.cells #[.int .i64 q, .int .i64 0, .bool false, .bool y, .bool false, .bool false] 46)) ∧ RdX 65 [c] (w3.alloc (.cells #[.int .i64 q, .int .i64 0, .bool false, .bool y, .bool false, .bool false] 46)) A9 k (sdL l) ∧ (w3.alloc (.cells #[.int .i64 q, .int .i64 0, .bool false, .bool y, .bool false, .bool false] 46)).heap[w3.heap.size]? = some (.cells #[.int .i64 q, .int .i64 0, .bool false, .bool y, .bool false, .bool false] 46 (0, 0))) := ⟨s3.later bl, HX3.later bl, heap_alloc_new _ _⟩
      clear s3 ko3 HX3 bl HZ HX HD
      unfold reG
      go_wp2_with fail
      refine (HQ.out _).mono ?_
      rintro e w' ⟨rfl, rfl⟩
      obtain ⟨bb, off, rfl, hbb, _⟩ := IsB.at HA.out HH0.out.1.bel HY.out
      generalize w3.heap.size = N at *
      generalize w3.alloc (.cells #[.int .i64 q, .int .i64 0, .bool false, .bool y, .bool false, .bool false] 46) = w4 at *
      have HKP : Hid (∀ w', Hid (ZS W [c] sdC w' ∧ RdX 65 [c] w' A9 k (sdL l) ∧ w'.heap[N]? = some (.cells #[.int .i64 q, .int .i64 0, .bool false, .bool y, .bool false, .bool false] 46 (0, 0))) → w'.cell? ⟨N, 0, none⟩ = some (.int .i64 q) ∧ w'.cell? ⟨N, 1, none⟩ = some (.int .i64 0) ∧ w'.cell? ⟨N, 2, none⟩ = some (.bool false) ∧ w'.cell? ⟨N, 3, none⟩ = some (.bool y) ∧ w'.cell? ⟨N, 4, none⟩ = some (.bool false) ∧ w'.cell? ⟨N, 5, none⟩ = some (.bool false) ∧ w'.cell? ⟨bb, off + q, none⟩ = some (.bool y)) := by
        intro w' h
        obtain ⟨h1, h2, h3⟩ := h.out
        obtain ⟨b9, o9, e9, _, c9⟩ := IsB.at HA.out h1.bel HY.out
        cases e9
        exact ⟨by rw [cell_of_row _ _ _ _ _ _ h3]; rfl, by rw [cell_of_row _ _ _ _ _ _ h3]; rfl, by rw [cell_of_row _ _ _ _ _ _ h3]; rfl, by rw [cell_of_row _ _ _ _ _ _ h3]; rfl, by rw [cell_of_row _ _ _ _ _ _ h3]; rfl, by rw [cell_of_row _ _ _ _ _ _ h3]; rfl, c9⟩
      have HC1 : Hid (∀ w', Hid (ZS W [c] sdC w' ∧ RdX 65 [c] w' A9 k (sdL l) ∧ w'.heap[N]? = some (.cells #[.int .i64 q, .int .i64 0, .bool false, .bool y, .bool false, .bool false] 46 (0, 0))) → Calls Try.prog 14 #[.slice A9 k c9] w' fun e w'' => ∃ A cap, e = .returned (.slice A k cap) ∧ Hid (ZS W [c] sdC w'' ∧ RdX 65 [c] w'' A9 k (sdL l) ∧ w''.heap[N]? = some (.cells #[.int .i64 q, .int .i64 0, .bool false, .bool y, .bool false, .bool false] 46 (0, 0)))) := by
        intro w' h
        obtain ⟨h1, h2, h3⟩ := h.out
        refine (zs_ready (m := k) h1 (by intro s hs; simp [sdC] at hs; subst hs; simp [nw]) h2 (by omega) (sd_rdy l) (by rw [List.length_range, HLN.out])).mono ?_
        rintro e w'' ⟨A, cap, rfl, _, z, ko⟩
        exact ⟨A, cap, rfl, z, h2.ko o65 ko, ko.2 _ _ _ _ h3 o46⟩
      have HC2 : Hid (∀ w', Hid (ZS W [c] sdC w' ∧ RdX 65 [c] w' A9 k (sdL l) ∧ w'.heap[N]? = some (.cells #[.int .i64 q, .int .i64 0, .bool false, .bool y, .bool false, .bool false] 46 (0, 0))) → Calls Try.prog 9 #[] w' fun e w'' => e = .returned (.bool true) ∧ Hid (ZS W [c] sdC w'' ∧ RdX 65 [c] w'' A9 k (sdL l) ∧ w''.heap[N]? = some (.cells #[.int .i64 q, .int .i64 0, .bool false, .bool y, .bool false, .bool false] 46 (0, 0)))) := by
        intro w' h
        obtain ⟨h1, h2, h3⟩ := h.out
        refine (awake_any w').mono ?_
        rintro e w'' ⟨rfl, hb⟩
        exact ⟨rfl, h1.later hb, h2.later hb, (hb.block _ (lt_of_blk h3)).trans h3⟩
      have HV0 : Hid (ZS W [c] sdC w4.drew ∧ RdX 65 [c] w4.drew A9 k (sdL l) ∧ w4.drew.heap[N]? = some (.cells #[.int .i64 q, .int .i64 0, .bool false, .bool y, .bool false, .bool false] 46 (0, 0))) := ⟨HH0.out.1.drewN 1, HH0.out.2.1.later (below_drewN (Below.refl _ _) 1), HH0.out.2.2⟩
      clear HQ HH0 hbb
      go_wp2_with fail
      go_region_held3 (fun w' => w'.cell? ⟨N, 0, none⟩ = some (.int .i64 q) ∧ w'.cell? ⟨N, 1, none⟩ = some (.int .i64 0) ∧ w'.cell? ⟨N, 2, none⟩ = some (.bool false) ∧ w'.cell? ⟨N, 3, none⟩ = some (.bool y) ∧ w'.cell? ⟨N, 4, none⟩ = some (.bool false) ∧ w'.cell? ⟨N, 5, none⟩ = some (.bool false) ∧ w'.cell? ⟨bb, off + q, none⟩ = some (.bool y))
        (first
          | exact HKP.out _ HV0
          | exact HKP.out _ HV1
          | exact HKP.out _ HV2)
        (first
          | (go_at_call 14; (with_reducible refine (HC1.out _ HV0).mono ?_); rintro e v1 ⟨A1, p1, rfl, HV1⟩)
          | (go_at_call 9; (with_reducible refine (HC2.out _ HV1).mono ?_); rintro e v2 ⟨rfl, HV2⟩))
      all_goals
        go_wp2_with fail
        go_ret
        exact ⟨rfl, HV2.out.1.bel⟩
set_option maxRecDepth 100000 in
theorem sends_walk (A : Option Addr) (n cap : Nat) (l : List Bool) (draw : Int) (W : World) (hA : IsB W A n cap l) : Calls Try.prog 5 #[.slice A n cap, .int .i64 draw] W (BoolR true W) := by
  by_cases h1 : 1 ≤ n ∧ n ≤ 16
  · exact sends_in A n cap l draw W hA h1.1 h1.2
  · have HW := Lib.hid (awake_any W)
    by_cases h2 : n < 1
    · have b1 : (n : Int) < 1 := by omega
      go_enter Try.func5, Try.ntmps5
      go_wp2_with fail
      refine HW.out.mono ?_
      rintro e w' ⟨rfl, hb⟩
      have HB := Lib.hid hb
      clear hb
      go_wp2_with fail
      go_ret
      exact ⟨rfl, HB.out⟩
    · have b1 : ¬ (n : Int) < 1 := by omega
      have b2 : 16 < (n : Int) := by omega
      go_enter Try.func5, Try.ntmps5
      go_wp2_with fail
      refine HW.out.mono ?_
      rintro e w' ⟨rfl, hb⟩
      have HB := Lib.hid hb
      clear hb
      go_wp2_with fail
      go_ret
      exact ⟨rfl, HB.out⟩
end Go.Proofs.Ytmcacmbllpphiaa

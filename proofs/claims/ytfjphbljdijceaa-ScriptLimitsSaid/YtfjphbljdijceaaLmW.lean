/- The walk of the law on limits. No condition. -/
import Derived.Test.YtfjphbljdijceaaLim
namespace Go.Proofs.Ytfjphbljdijceaa
open Go.RowKit
set_option linter.unusedVariables false

theorem below_of_grown {w w' : World} (h : w.grownBy w' none) : Below w.heap.size w w' := (Below.refl _ _).grown h (Nat.le_refl _) (fun k hk => by cases hk)
theorem lim_low (n : Int) (r : Bool) (w : World) (h : n < 0) : Calls Try.prog 4 #[.int .i64 n, .bool r] w (BoolR true w) := by
  go_enter Try.func4, Try.ntmps4
  go_wp2_with fail
  refine (awake_any _).mono ?_
  rintro e w3 ⟨rfl, hb3⟩
  go_wp2_with fail
  go_ret
  exact ⟨rfl, hb3⟩
theorem lim_high (n : Int) (r : Bool) (w : World) (h : 2100 < n) : Calls Try.prog 4 #[.int .i64 n, .bool r] w (BoolR true w) := by
  have h0 : 0 ≤ n := by omega
  go_enter Try.func4, Try.ntmps4
  go_wp2_with fail
  refine (awake_any _).mono ?_
  rintro e w3 ⟨rfl, hb3⟩
  go_wp2_with fail
  go_ret
  exact ⟨rfl, hb3⟩

set_option maxRecDepth 100000 in
set_option maxHeartbeats 1000000 in
theorem lim_adv (n : Nat) (w : World) (hn : n ≤ 2100) : Calls Try.prog 4 #[.int .i64 (n : Int), .bool false] w (BoolR true w) := by
  obtain ⟨i0, hi, hz0, hz1, hz2⟩ := info_parts Try.info35
  obtain ⟨i5, hi5, hz50, hz51, hz52⟩ := info_parts Try.info5
  have q0 : (0 : Int) ≤ (n : Int) := by omega
  have q1 : (n : Int) ≤ 2100 := by omega
  go_enter Try.func4, Try.ntmps4
  go_wp2_with (refine wpList_make_full _ rfl (.tmp 19) (.tmp 19) 22 rfl w.heap.size 35 i0 (.agg #[.int .i64 0, .int .i64 0, .int .i64 0]) 3 Try.underlying22 hi hz0 hz1 .i64 .i64 (n : Int) (n : Int) n rfl rfl rfl rfl (by rw [hz2]; omega) (by unfold maxLen; omega) (Nat.le_refl _) ?_; intro w1 hown hg)
  have HS0 : Hid (LimS w w1 n (mE 2 n 0) (.slice none 0 0) (enL (rE 2 0))) := by
    rw [mE_zero]
    exact ⟨below_of_grown hg, by rw [← made_flV]; exact hown, World.ownsRow_nil _ _ _ _⟩
  clear hown hg hi hz0 hz1 hz2
  go_loopw [6, 7] (fun rv i wr => ∃ k : Nat, k ≤ n ∧ i = .int .i64 k ∧ Hid (LimS w wr n (mE 2 n k) rv (enL (rE 2 k)))) (fun _ i _ => n - (intOf i).toNat)
  case atStart => exact ⟨0, by omega, rfl, HS0⟩
  case round =>
    obtain ⟨k, hk, rfl, hS⟩ := hrel
    by_cases hlt : k < n
    · have hM := hS.out
      rw [mE_at 2 n k hlt] at hM
      have hv := hM.cell (k := k) (e := ⟨0, 0, 0⟩) (by rw [List.getElem?_append_right (by rw [rE_len]; omega), rE_len, Nat.sub_self]; rfl)
      have hf := hM.frz (k * 3)
      have hM2 := hM.store k (rE_len 2 k) 2
      rw [← mE_succ 2 n k hlt] at hM2
      have HM2 := Lib.hid hM2
      have hraw := hM2.raw
      have hlen := (enL_len (rE_ok (.inr rfl) k (K := 2)).1).2
      rw [rE_len] at hlen
      have hgs := hS.out.bel.size
      have hG : w.heap.size < wr.heap.size := World.block_lt_of_cell? _ _ hv
      clear hM hM2
      go_wp2_with (at_builtin; go_loud (refine wpList_append_own _ rfl (.tmp 35) (.tmp 42) 24 rfl (w.heap.size + 1) 5 i5 (.int .u8 0) 1 1 Try.underlying24 hi5 hz50 hz51 hz52 rfl (by decide) _ _ _ rfl (hraw.alloc _) ⟨wr.heap.size, 0, none⟩ 9 9 (bV (eb ⟨2, 0, 0⟩)) rfl rfl (news_at _ _ _ _ (by simp [World.setCell])) (bV_one _) (by unfold maxLen; omega) (by omega) (by simp [World.setCell]; omega) ?_; intro v' w3 hown' hgrow _; have HE := Lib.hid (HM2.out.app hgrow hown' rfl); clear hown' hgrow hraw))
      go_roundw
      case rel => exact ⟨k + 1, by omega, by go_num, by rw [rE_succ]; exact HE⟩
      case measure => simp [intOf]; omega
    · obtain rfl : k = n := by omega
      clear HS0 hi5 hz50 hz51 hz52
      have hSS := hS.out
      rw [mE_all] at hSS
      have HS := Lib.hid hSS
      clear hSS hS
      obtain ⟨ra, rc, rfl, hc1, hc2⟩ := own_cap HS.out.raw
      have HE : Hid (RdE wr (some ⟨w.heap.size, 0, none⟩) k (rE 2 k)) := ⟨rE_len 2 k, Rd.of_own HS.out.own⟩
      have HR : Hid (RdB wr wr.heap.size ra (enL (rE 2 k)).length (enL (rE 2 k))) := RdB.of (enL_byt (rE_ok (.inr rfl) k).1) (Rd.of_own HS.out.raw)
      have HB := Lib.hid HS.out.bel
      have hlen := (enL_len (rE_ok (.inr rfl) k (K := 2)).1).2
      rw [rE_len] at hlen
      by_cases h2 : k ≤ 2000
      · have HD := Lib.hid (rE_dec (.inr rfl) k h2 (K := 2))
        have HO := Lib.hid (rE_ok (.inr rfl) k (K := 2)).1
        clear HS
        go_wp2_with fail
        refine (enc_yes HE.out h2 HO.out).mono ?_
        rintro e w2 ⟨hb2, A, c, hc3, hc4, rfl, hR2⟩
        have HB2 := Lib.hid (HB.out.trans (hb2.mono HB.out.size))
        have HE2 := Lib.hid (HE.out.later hb2)
        have HR2 := Lib.hid (HR.out.later hb2)
        have HQ2 := Lib.hid hR2
        clear hb2 hR2 HE HR HB
        go_wp2_with fail
        refine (dec_yes HR2.out hc1 hc2 (by omega) HD.out).mono ?_
        rintro e w3 ⟨hb3, A3, c3, rfl, hE3⟩
        have HB3 := Lib.hid (HB2.out.trans (hb3.mono HB2.out.size))
        have HE3 := Lib.hid (HE2.out.later hb3)
        have HR3 := Lib.hid (HR2.out.later hb3)
        have HQ3 := Lib.hid (HQ2.out.later hb3)
        have HF3 := Lib.hid hE3
        clear hb3 HE2 HR2 HQ2 HB2 hE3
        go_wp2_with fail
        refine (bytes_yes _ _ _ _ _ _ _ _ _ w3 HQ3.out HR3.out).mono ?_
        rintro e w4 ⟨rfl, rfl⟩
        rw [rE_len] at HF3 ⊢
        go_wp2_with fail
        refine (same_yes _ _ k _ _ (rE 2 k) w3 HE3 HF3 (by omega)).mono ?_
        rintro e w4 ⟨rfl, hb4⟩
        have HB4 := Lib.hid (HB3.out.trans (hb4.mono HB3.out.size))
        clear hb4 HB3
        go_wp2_with fail
        refine (awake_any _).mono ?_
        rintro e w5 ⟨rfl, hb5⟩
        go_wp2_with fail
        go_ret
        exact ⟨rfl, HB4.out.trans (hb5.mono HB4.out.size)⟩
      · have HD := Lib.hid (rE_dec_no (.inr rfl) k (by omega) hn (K := 2))
        have HN : Hid (¬ ((rE 2 k).length ≤ 2000 ∧ allOk (rE 2 k))) := fun h => h2 (by rw [← rE_len 2 k]; exact h.1)
        clear HS
        go_wp2_with fail
        refine (enc_no HE.out (by omega) HN.out).mono ?_
        rintro e w2 ⟨hb2, rfl⟩
        have HB2 := Lib.hid (HB.out.trans (hb2.mono HB.out.size))
        have HR2 := Lib.hid (HR.out.later hb2)
        clear hb2 HE HR HB
        go_wp2_with fail
        refine (dec_not HR2.out hc1 hc2 (by omega) HD.out).mono ?_
        rintro e w3 ⟨hb3, rfl⟩
        have HB3 := Lib.hid (HB2.out.trans (hb3.mono HB2.out.size))
        clear hb3 HR2 HB2
        go_wp2_with fail
        refine (awake_any _).mono ?_
        rintro e w5 ⟨rfl, hb5⟩
        go_wp2_with fail
        go_ret
        exact ⟨rfl, HB3.out.trans (hb5.mono HB3.out.size)⟩
set_option maxRecDepth 100000 in
set_option maxHeartbeats 1000000 in
theorem lim_run (n : Nat) (w : World) (hn : n ≤ 2100) : Calls Try.prog 4 #[.int .i64 (n : Int),    .bool true] w (BoolR true w) := by
  obtain ⟨i0, hi, hz0, hz1, hz2⟩ := info_parts Try.info35
  obtain ⟨i5, hi5, hz50, hz51, hz52⟩ := info_parts Try.info5
  have q0 : (0 : Int) ≤ (n : Int) := by omega
  have q1 : (n : Int) ≤ 2100 := by omega
  go_enter Try.func4, Try.ntmps4
  go_wp2_with (refine wpList_make_full _ rfl (.tmp 19) (.tmp 19) 22 rfl w.heap.size 35 i0 (.agg #[.int .i64 0, .int .i64 0, .int .i64 0]) 3 Try.underlying22 hi hz0 hz1 .i64 .i64 (n : Int) (n : Int) n rfl rfl rfl rfl (by rw [hz2]; omega) (by unfold maxLen; omega) (Nat.le_refl _) ?_; intro w1 hown hg)
  have HS0 : Hid (LimS w w1 n (mE 1 n 0) (.slice none 0 0) (enL (rE 1 0))) := by
    rw [mE_zero]
    exact ⟨below_of_grown hg, by rw [← made_flV]; exact hown, World.ownsRow_nil _ _ _ _⟩
  clear hown hg hi hz0 hz1 hz2
  go_loopw [6, 7] (fun rv i wr => ∃ k : Nat, k ≤ n ∧ i = .int .i64 k ∧ Hid (LimS w wr n (mE 1 n k) rv (enL (rE 1 k)))) (fun _ i _ => n - (intOf i).toNat)
  case atStart => exact ⟨0, by omega, rfl, HS0⟩
  case round =>
    obtain ⟨k, hk, rfl, hS⟩ := hrel
    by_cases hlt : k < n
    · have hM := hS.out
      rw [mE_at 1 n k hlt] at hM
      have hv := hM.cell (k := k) (e := ⟨0, 0, 0⟩) (by rw [List.getElem?_append_right (by rw [rE_len]; omega), rE_len, Nat.sub_self]; rfl)
      have hf := hM.frz (k * 3)
      have hM2 := (hM.store k (rE_len 1 k) 2).store k (rE_len 1 k) 1
      rw [← mE_succ 1 n k hlt] at hM2
      have HM2 := Lib.hid hM2
      have hraw := hM2.raw
      have hlen := (enL_len (rE_ok (.inl rfl) k (K := 1)).1).2
      rw [rE_len] at hlen
      have hgs := hS.out.bel.size
      have hG : w.heap.size < wr.heap.size := World.block_lt_of_cell? _ _ hv
      clear hM hM2
      have hl2 : (enL (rE 1 k) ++ (1 :: lo 8 0)).length ≤ 17 * k + 9 := by rw [List.length_append]; simp [lo_len]; omega
      go_wp2_with (first | (at_builtin; refine wpList_append_own _ rfl (.tmp 35) (.tmp 42) 24 rfl (w.heap.size + 1) 5 i5 (.int .u8 0) 1 1 Try.underlying24 hi5 hz50 hz51 hz52 rfl (by decide) _ _ _ rfl (hraw.alloc _) ⟨wr.heap.size, 0, none⟩ 9 9 (bV (1 :: lo 8 0)) rfl rfl (news_at _ _ _ _ (by simp [World.setCell])) (bV_one _) (by unfold maxLen; omega) (by omega) (by simp [World.setCell]; omega) ?_; intro v' w3 hown' hgrow _; have HE := Lib.hid (HM2.out.app hgrow hown' rfl); have hr2 := HE.out.raw; have hs3 := HE.out.bel.size; have hw3 : w.heap.size < w3.heap.size := World.block_lt_of_cell? _ _ (HE.out.cell (k := 0) (List.getElem?_eq_getElem (by rw [HE.out.len]; omega))); clear hown' hgrow hraw) | (at_builtin; refine wpList_append_own _ rfl (.tmp 45) (.tmp 46) 24 rfl (w.heap.size + 1) 5 i5 (.int .u8 0) 1 1 Try.underlying24 hi5 hz50 hz51 hz52 rfl (by decide) _ _ _ rfl (hr2.alloc _) ⟨w3.heap.size, 0, none⟩ 8 8 (bV (lo 8 0)) rfl rfl (news_at _ _ _ _ rfl) (bV_one _) (by unfold maxLen; omega) (by omega) (by simp; omega) ?_; intro v2 w4 hown' hgrow _; have HE2 := Lib.hid (HE.out.app hgrow hown' rfl); clear hown' hgrow hr2))
      go_roundw
      case rel => exact ⟨k + 1, by omega, by go_num, by rw [rE_succ, show eb ⟨1, 0, 0⟩ = (1 :: lo 8 0) ++ lo 8 0 from rfl, ← List.append_assoc]; exact HE2⟩
      case measure => simp [intOf]; omega
    · obtain rfl : k = n := by omega
      clear HS0 hi5 hz50 hz51 hz52
      have hSS := hS.out
      rw [mE_all] at hSS
      have HS := Lib.hid hSS
      clear hSS hS
      obtain ⟨ra, rc, rfl, hc1, hc2⟩ := own_cap HS.out.raw
      have HE : Hid (RdE wr (some ⟨w.heap.size, 0, none⟩) k (rE 1 k)) := ⟨rE_len 1 k, Rd.of_own HS.out.own⟩
      have HR : Hid (RdB wr wr.heap.size ra (enL (rE 1 k)).length (enL (rE 1 k))) := RdB.of (enL_byt (rE_ok (.inl rfl) k).1) (Rd.of_own HS.out.raw)
      have HB := Lib.hid HS.out.bel
      have hlen := (enL_len (rE_ok (.inl rfl) k (K := 1)).1).2
      rw [rE_len] at hlen
      by_cases h2 : k ≤ 2000
      · have HD := Lib.hid (rE_dec (.inl rfl) k h2 (K := 1))
        have HO := Lib.hid (rE_ok (.inl rfl) k (K := 1)).1
        clear HS
        go_wp2_with fail
        refine (enc_yes HE.out h2 HO.out).mono ?_
        rintro e w2 ⟨hb2, A, c, hc3, hc4, rfl, hR2⟩
        have HB2 := Lib.hid (HB.out.trans (hb2.mono HB.out.size))
        have HE2 := Lib.hid (HE.out.later hb2)
        have HR2 := Lib.hid (HR.out.later hb2)
        have HQ2 := Lib.hid hR2
        clear hb2 hR2 HE HR HB
        go_wp2_with fail
        refine (dec_yes HR2.out hc1 hc2 (by omega) HD.out).mono ?_
        rintro e w3 ⟨hb3, A3, c3, rfl, hE3⟩
        have HB3 := Lib.hid (HB2.out.trans (hb3.mono HB2.out.size))
        have HE3 := Lib.hid (HE2.out.later hb3)
        have HR3 := Lib.hid (HR2.out.later hb3)
        have HQ3 := Lib.hid (HQ2.out.later hb3)
        have HF3 := Lib.hid hE3
        clear hb3 HE2 HR2 HQ2 HB2 hE3
        go_wp2_with fail
        refine (bytes_yes _ _ _ _ _ _ _ _ _ w3 HQ3.out HR3.out).mono ?_
        rintro e w4 ⟨rfl, rfl⟩
        rw [rE_len] at HF3 ⊢
        go_wp2_with fail
        refine (same_yes _ _ k _ _ (rE 1 k) w3 HE3 HF3 (by omega)).mono ?_
        rintro e w4 ⟨rfl, hb4⟩
        have HB4 := Lib.hid (HB3.out.trans (hb4.mono HB3.out.size))
        clear hb4 HB3
        go_wp2_with fail
        refine (awake_any _).mono ?_
        rintro e w5 ⟨rfl, hb5⟩
        go_wp2_with fail
        go_ret
        exact ⟨rfl, HB4.out.trans (hb5.mono HB4.out.size)⟩
      · have HD := Lib.hid (rE_dec_no (.inl rfl) k (by omega) hn (K := 1))
        have HN : Hid (¬ ((rE 1 k).length ≤ 2000 ∧ allOk (rE 1 k))) := fun h => h2 (by rw [← rE_len 1 k]; exact h.1)
        clear HS
        go_wp2_with fail
        refine (enc_no HE.out (by omega) HN.out).mono ?_
        rintro e w2 ⟨hb2, rfl⟩
        have HB2 := Lib.hid (HB.out.trans (hb2.mono HB.out.size))
        have HR2 := Lib.hid (HR.out.later hb2)
        clear hb2 HE HR HB
        go_wp2_with fail
        refine (dec_not HR2.out hc1 hc2 (by omega) HD.out).mono ?_
        rintro e w3 ⟨hb3, rfl⟩
        have HB3 := Lib.hid (HB2.out.trans (hb3.mono HB2.out.size))
        clear hb3 HR2 HB2
        go_wp2_with fail
        refine (awake_any _).mono ?_
        rintro e w5 ⟨rfl, hb5⟩
        go_wp2_with fail
        go_ret
        exact ⟨rfl, HB3.out.trans (hb5.mono HB3.out.size)⟩
theorem lim_any (n : Int) (r : Bool) (w : World) : Calls Try.prog 4 #[.int .i64 n, .bool r] w (BoolR true w) := by
  by_cases h1 : n < 0
  · exact lim_low n r w h1
  · by_cases h2 : 2100 < n
    · exact lim_high n r w h2
    · obtain ⟨m, rfl⟩ := Int.eq_ofNat_of_zero_le (show 0 ≤ n by omega)
      cases r
      · exact lim_adv m w (by omega)
      · exact lim_run m w (by omega)
end Go.Proofs.Ytfjphbljdijceaa

/- TimerWaits says true. No condition. -/
import Derived.Test.YtmadcnpkaijllaaLwk
import Derived.Deep.CutRange
namespace Go.Proofs.Ytmadcnpkaijllaa
open Go.RowKit Ch
set_option linter.unusedVariables false
set_option maxRecDepth 100000
theorem Ch.RdK.cells1 {w : World} {A : Option Addr} {x : Wk} (h : RdK w A 1 [x]) : ∃ b cs, A = some ⟨b, 0, none⟩ ∧ w.heap[b]? = some (.cells cs 62 (0, 0)) ∧ w.cell? ⟨b, 0, none⟩ = some (.int .i64 x.t) ∧ w.cell? ⟨b, 1, none⟩ = some (.int .i64 x.c) ∧ w.cell? ⟨b, 2, none⟩ = some (.int .i64 x.v) ∧ w.cell? ⟨b, 3, none⟩ = some (.bool x.ok) ∧ w.cell? ⟨b, 4, none⟩ = some (.bool x.pn) := by
  obtain ⟨b, cs, e, hb, hc⟩ := h.2 (by omega)
  have := hc 0 x rfl
  simp only [Nat.zero_mul, Nat.zero_add] at this
  exact ⟨b, cs, e, hb, this⟩
def wE (i : Nat) : Wt := ⟨i, 3, 0⟩
def rsE (n i : Nat) : List Wt := (List.range' i (n - i)).map wE
theorem rsE_end (n i : Nat) (h : n ≤ i) : rsE n i = [] := by simp [rsE, show n - i = 0 by omega]
theorem rsE_in (n i : Nat) (h : i < n) : rsE n i = wE i :: rsE n (i + 1) := by
  have e : n - i = (n - (i + 1)) + 1 := by omega
  unfold rsE
  rw [e, List.range'_succ]
  rfl
theorem rsE_len (n i : Nat) : (rsE n i).length = n - i := by simp [rsE]
theorem rsE_more (k : Nat) : rsE (k + 1) 0 = rsE k 0 ++ [wE k] := by
  simp [rsE, List.range'_concat]
/-- A ticker's channel on which these wait. -/
abbrev cR (rs : List Wt) : CS := ⟨1, false, 1, [], [], rs⟩
theorem wt_more (rs : List Wt) (y : Wt) : wt (cR rs) y false = (cR (rs ++ [y]), 0) := rfl
/-- The ticker, due at D, and those who wait still. -/
def TkS (W : World) (t c : Nat) (d : Int) (n i : Nat) (D : Int) (w : World) : Prop := ∃ z : Int, SS W t [⟨2, 0, some c, 1⟩] 1 (i + 1) [⟨0, D, z⟩] (fput (fun _ => 0) 0 d) [(c, cR (rsE n i))] w
set_option maxHeartbeats 16000000 in
theorem waits_in (n : Nat) (d late : Int) (W : World) (h1 : 1 ≤ n) (h2 : n ≤ 10) (h3 : 1 ≤ d) (h4 : d ≤ 100) (h5 : 0 ≤ late) (h6 : late ≤ 300) : Calls Try.prog 8 #[.int .i64 n, .int .i64 d, .int .i64 late] W (BoolR true W) := by
  have q0 : ¬ (n : Int) < 1 := by omega
  have q1 : ¬ 10 < (n : Int) := by omega
  have q2 : ¬ d < 1 := by omega
  have q3 : ¬ 100 < d := by omega
  have q4 : ¬ late < 0 := by omega
  have q5 : ¬ 300 < late := by omega
  go_enter Try.func8, Try.ntmps8
  go_wp2_with fail
  refine (ss_new (Below.refl _ W)).mono ?_
  rintro e w0 ⟨rfl, h0, -⟩
  have H0 := Lib.hid h0
  clear h0
  generalize W.heap.size = t at *
  go_wp2_with fail
  refine (ticker_ok (now := 0) (d := d) H0.out (by decide) (by omega) (by decide) (by decide) (by decide) (by decide)).mono ?_
  rintro e w1 ⟨c, he, h, -⟩
  rw [wn_small (by decide) (by decide) (by omega) (by omega), Int.zero_add] at h
  obtain rfl : e = .returned (.tuple #[.int .i64 0, .pointer (some ⟨c, 0, none⟩), .int .i64 0]) := he
  have ep : per 2 d = d := by unfold per; rw [if_pos rfl]; exact hz_small (by omega) (by omega)
  rw [ep] at h
  have H1 : Hid (SS W t [⟨2, 0, some c, 1⟩] 1 1 [⟨0, d, 1⟩] (fput (fun _ => 0) 0 d) [(c, cR (rsE 0 0))] w1) := h
  clear h H0 ep
  go_wp2_with fail
  go_loopw [11] (fun i wr => ∃ k : Nat, k ≤ n ∧ i = .int .i64 k ∧ Hid (SS W t [⟨2, 0, some c, 1⟩] 1 1 [⟨0, d, 1⟩] (fput (fun _ => 0) 0 d) [(c, cR (rsE k 0))] wr)) (fun i _ => n - (intOf i).toNat)
  case atStart => exact ⟨0, by omega, rfl, H1⟩
  case round =>
    clear H1
    obtain ⟨k, hk, rfl, hS⟩ := hrel
    by_cases hlt : k < n
    · have k1 : (k : Int) < (n : Int) := by omega
      have k2 : 0 ≤ (k : Int) := by omega
      go_wp2_with fail
      refine (ss_wait (j := 0) (wE k) (wf_of (by simp only [wE]; omega) (by simp only [wE]; omega)) hS.out rfl (by intro b; cases b <;> simp [CS.q, rsE_len] <;> omega) (wt_more _ _)).mono ?_
      rintro e w2 ⟨rfl, h, -⟩
      have S2 : Hid (SS W t [⟨2, 0, some c, 1⟩] 1 1 [⟨0, d, 1⟩] (fput (fun _ => 0) 0 d) [(c, cR (rsE (k + 1) 0))] w2) := by rw [rsE_more]; exact h
      clear h hS
      go_wp2_with fail
      go_roundw
      case rel => exact ⟨k + 1, by omega, by go_num, S2⟩
      case measure => simp [intOf]; omega
    · obtain rfl : k = n := by omega
      have S0 : Hid (TkS W t c d k 0 d wr) := ⟨1, hS.out⟩
      clear hS
      go_wp2_with fail
      go_loopw [12, 13] (fun x y wr => ∃ (i : Nat) (nw D : Int), i ≤ k ∧ x = .int .i64 nw ∧ y = .int .i64 i ∧ 0 ≤ nw ∧ nw ≤ 400 * (i : Int) ∧ 0 ≤ D ∧ D ≤ nw + d ∧ Hid (TkS W t c d k i D wr)) (fun _ y _ => k - (intOf y).toNat)
      case atStart => exact ⟨0, 0, d, by omega, rfl, rfl, by omega, by omega, by omega, by omega, S0⟩
      case round =>
        clear S0
        obtain ⟨i, nw, D, hi, rfl, rfl, n0, n1, n2, n3, hS⟩ := hrel
        by_cases hlt2 : i < k
        · have i1 : (i : Int) < (k : Int) := by omega
          have i2 : 0 ≤ (i : Int) := by omega
          obtain ⟨z, hs⟩ := hS.out
          rw [rsE_in _ _ hlt2] at hs
          have S := Lib.hid hs
          have HG := Lib.hid (gon_row (wh := D) (p := d) (now := nw + d + late) (by omega) (by omega) (by omega) (by omega) (by omega))
          clear hS hs
          go_wp2_with fail
          refine (fire_some (i := 0) (now := nw + d + late) S.out (tk_on (x := ⟨0, D, z⟩) (by show D ≤ nw + d + late; omega) HG.out.1) rfl (Pt.chan (j := 0) (s' := cR (rsE k (i + 1))) rfl rfl rfl (by simp [rsE_len]; omega) rfl) (by simp) (by omega) (by simp)).mono ?_
          rintro e w2 ⟨A, cap, he, hr, h, -⟩
          obtain rfl : e = .returned (.tuple #[.agg #[.int .i64 0, .int .i64 2, .int .i64 D, .int .i64 (nw + d + late), .int .i64 0, .slice A 1 cap, .bool true], .bool true]) := he
          have S2 : Hid (TkS W t c d k (i + 1) (nx D d (nw + d + late)) (w2.alloc (.cells #[.int .i64 0, .int .i64 2, .int .i64 D, .int .i64 (nw + d + late), .int .i64 0, .slice A 1 cap, .bool true] 35))) := ⟨((i + 1 : Nat) : Int) + 1, SS.box h _⟩
          have F2 := Lib.hid (Fbk.new w2 0 2 D (nw + d + late) 0 A 1 cap true)
          have R2 := Lib.hid (RdK.later hr (below_al w2 (.cells #[.int .i64 0, .int .i64 2, .int .i64 D, .int .i64 (nw + d + late), .int .i64 0, .slice A 1 cap, .bool true] 35)))
          have D1 : 0 ≤ nx D d (nw + d + late) := by have := HG.out.2.2.1; omega
          have D2 : nx D d (nw + d + late) ≤ nw + d + late + d := HG.out.2.2.2
          generalize nx D d (nw + d + late) = D' at *
          clear h hr S HG
          go_upto_region 20 with (fail)
          generalize w2.alloc (.cells #[.int .i64 0, .int .i64 2, .int .i64 D, .int .i64 (nw + d + late), .int .i64 0, .slice A 1 cap, .bool true] 35) = w3 at *
          generalize w2.heap.size = b at *
          obtain ⟨p0, p1, p2, p3, p4, p5, p6⟩ := F2.out.cells
          obtain ⟨b2, cs, rfl, hb, r0, r1, r2, r3, r4⟩ := RdK.cells1 R2.out
          simp only [wE] at r0 r1 r2 r3 r4
          clear hb
          go_wp2_with fail
          go_roundw
          case rel => exact ⟨i + 1, nw + d + late, D', by omega, rfl, by go_num, by omega, by omega, by omega, by omega, S2⟩
          case measure => simp [intOf]; omega
        · obtain rfl : i = k := by omega
          obtain ⟨z, hs⟩ := hS.out
          rw [rsE_end _ _ (Nat.le_refl _)] at hs
          have S := Lib.hid hs
          clear hS hs
          go_wp2_with fail
          refine (ss_can false (j := 0) S.out rfl).mono ?_
          rintro e w2 ⟨he, h, -⟩
          obtain rfl : e = .returned (.bool false) := he
          have S2 := Lib.hid h
          clear h S
          go_wp2_with fail
          refine (ms_waiting (i := 0) false S2.out.ms rfl (by simp [CS.q])).mono ?_
          rintro e w3 ⟨A, cap, he, -, hb⟩
          obtain rfl : e = .returned (.slice A 0 cap) := he
          have S3 := Lib.hid (S2.out.later hb)
          clear hb S2
          go_wp2_with fail
          refine (awakes_any _).mono ?_
          rintro e w8 ⟨rfl, hb⟩
          have HB : Hid (Below W.heap.size W w8) := S3.out.bel.trans (hb.mono S3.out.bel.size)
          clear hb S3
          go_wp2_with fail
          go_ret
          exact ⟨rfl, HB.out⟩
set_option maxHeartbeats 4000000 in
theorem waits_any (n d late : Int) (W : World) : Calls Try.prog 8 #[.int .i64 n, .int .i64 d, .int .i64 late] W (BoolR true W) := by
  by_cases q0 : n < 1
  · go_enter Try.func8, Try.ntmps8
    go_wp2_with fail
    refine (awakes_any _).mono ?_
    rintro e w' ⟨rfl, hb⟩
    have HB := Lib.hid hb
    clear hb
    go_wp2_with fail
    go_ret
    exact ⟨rfl, HB.out⟩
  by_cases q1 : 10 < n
  · go_enter Try.func8, Try.ntmps8
    go_wp2_with fail
    refine (awakes_any _).mono ?_
    rintro e w' ⟨rfl, hb⟩
    have HB := Lib.hid hb
    clear hb
    go_wp2_with fail
    go_ret
    exact ⟨rfl, HB.out⟩
  by_cases q2 : d < 1
  · go_enter Try.func8, Try.ntmps8
    go_wp2_with fail
    refine (awakes_any _).mono ?_
    rintro e w' ⟨rfl, hb⟩
    have HB := Lib.hid hb
    clear hb
    go_wp2_with fail
    go_ret
    exact ⟨rfl, HB.out⟩
  by_cases q3 : 100 < d
  · go_enter Try.func8, Try.ntmps8
    go_wp2_with fail
    refine (awakes_any _).mono ?_
    rintro e w' ⟨rfl, hb⟩
    have HB := Lib.hid hb
    clear hb
    go_wp2_with fail
    go_ret
    exact ⟨rfl, HB.out⟩
  by_cases q4 : late < 0
  · go_enter Try.func8, Try.ntmps8
    go_wp2_with fail
    refine (awakes_any _).mono ?_
    rintro e w' ⟨rfl, hb⟩
    have HB := Lib.hid hb
    clear hb
    go_wp2_with fail
    go_ret
    exact ⟨rfl, HB.out⟩
  by_cases q5 : 300 < late
  · go_enter Try.func8, Try.ntmps8
    go_wp2_with fail
    refine (awakes_any _).mono ?_
    rintro e w' ⟨rfl, hb⟩
    have HB := Lib.hid hb
    clear hb
    go_wp2_with fail
    go_ret
    exact ⟨rfl, HB.out⟩
  obtain ⟨m, rfl⟩ : ∃ m : Nat, n = (m : Int) := ⟨n.toNat, by omega⟩
  exact waits_in m d late W (by omega) (by omega) (by omega) (by omega) (by omega) (by omega)
end Go.Proofs.Ytmadcnpkaijllaa

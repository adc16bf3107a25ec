/- The walk of ExpireRows. Condition: the slice reads as it came. -/
import Derived.Test.YtbpoippgioincaaAwt
import Derived.Test.YtbpoippgioincaaRnt
namespace Go.Proofs.Ytbpoippgioincaa
open Go.RowKit
set_option linter.unusedVariables false
set_option maxRecDepth 100000
theorem rows_out (a b : Int) (A0 : Option Addr) (n c0 : Nat) (W : World) (h : a < 0 ∨ 1073741824 < a ∨ b < 1 ∨ 1073741824 < b ∨ 40 < n) : Calls Try.prog 6 #[.int .i64 a, .int .i64 b, .slice A0 n c0] W (BoolR true W) := by
  by_cases h1 : a < 0
  · clear h
    go_enter Try.func6, Try.ntmps6
    go_wp2_with fail
    refine (awaket_any W).mono ?_
    rintro e w' ⟨rfl, hb⟩
    have HB := Lib.hid hb
    clear hb
    go_wp2_with fail
    go_ret
    exact ⟨rfl, HB.out⟩
  by_cases h2 : 1073741824 < a
  · clear h
    go_enter Try.func6, Try.ntmps6
    go_wp2_with fail
    refine (awaket_any W).mono ?_
    rintro e w' ⟨rfl, hb⟩
    have HB := Lib.hid hb
    clear hb
    go_wp2_with fail
    go_ret
    exact ⟨rfl, HB.out⟩
  by_cases h3 : b < 1
  · clear h
    go_enter Try.func6, Try.ntmps6
    go_wp2_with fail
    refine (awaket_any W).mono ?_
    rintro e w' ⟨rfl, hb⟩
    have HB := Lib.hid hb
    clear hb
    go_wp2_with fail
    go_ret
    exact ⟨rfl, HB.out⟩
  by_cases h4 : 1073741824 < b
  · clear h
    go_enter Try.func6, Try.ntmps6
    go_wp2_with fail
    refine (awaket_any W).mono ?_
    rintro e w' ⟨rfl, hb⟩
    have HB := Lib.hid hb
    clear hb
    go_wp2_with fail
    go_ret
    exact ⟨rfl, HB.out⟩
  have h5 : (40 : Int) < (n : Int) := by omega
  clear h
  go_enter Try.func6, Try.ntmps6
  go_wp2_with fail
  refine (awaket_any W).mono ?_
  rintro e w' ⟨rfl, hb⟩
  have HB := Lib.hid hb
  clear hb
  go_wp2_with fail
  go_ret
  exact ⟨rfl, HB.out⟩
/-- Of the row that begins at a, so much apart. -/
def Row1 (a b du : Int) : Prop := ∃ q : Int, du = a + b * q
theorem Row1.mod {a b du : Int} (h : Row1 a b du) : (du - a).tmod b = 0 := by
  obtain ⟨q, rfl⟩ := h
  rw [show a + b * q - a = b * q by omega]
  exact Int.mul_tmod_right b q
theorem Row1.next {a b du : Int} (h : Row1 a b du) (k : Int) : Row1 a b (du + b * k) := by
  obtain ⟨q, rfl⟩ := h
  exact ⟨q + k, by rw [Int.mul_add]; omega⟩
/-- The timers of one, with its period. -/
def One (W : World) (t a' : Nat) (du b : Int) (k : Nat) (w : World) : Prop := ∃ n s, n ≤ k + 1 ∧ XS W t (a' + 1) a' (a' + 2) n [⟨3, du, s⟩] (fput (fun _ => 0) 3 b) w
theorem quo_bd {du b nw : Int} (hb : 1 ≤ b) (h0 : 0 ≤ du) (h1 : du ≤ nw) : nw < du + b * ((nw - du) / b + 1) ∧ du + b * ((nw - du) / b + 1) ≤ nw + b ∧ 0 ≤ (nw - du) / b ∧ (nw - du) / b ≤ nw - du := by
  have e := Int.mul_ediv_add_emod (nw - du) b
  have m0 := Int.emod_nonneg (nw - du) (show b ≠ 0 by omega)
  have m1 := Int.emod_lt_of_pos (nw - du) (show 0 < b by omega)
  have q0 : 0 ≤ (nw - du) / b := Int.ediv_nonneg (by omega) (by omega)
  have q1 : (nw - du) / b ≤ nw - du := Int.ediv_le_self _ (by omega)
  rw [Int.mul_add, Int.mul_one]
  refine ⟨by omega, by omega, q0, q1⟩
theorem nx_quo {du b nw : Int} (hb : 1 ≤ b) (h0 : 0 ≤ du) (h1 : du ≤ nw) (h2 : nw ≤ 100000000000) (h3 : b ≤ 1073741824) : nx du b nw = du + b * ((nw - du) / b + 1) := by
  have := quo_bd hb h0 h1
  rw [nx_mul _ _ _ h1, Int.mul_comm, hd_in _ (by omega) (by omega)]
theorem ins_one (x : It) : ins x [] = [x] := rfl
set_option maxHeartbeats 8000000 in
theorem rows_in (a b : Int) (A0 : Option Addr) (n c0 : Nat) (l : List Int) (W : World) (hR : Rn W A0 n l) (h1 : ¬ a < 0) (h2 : ¬ 1073741824 < a) (h3 : ¬ b < 1) (h4 : ¬ 1073741824 < b) (hn : ¬ 40 < n) : Calls Try.prog 6 #[.int .i64 a, .int .i64 b, .slice A0 n c0] W (BoolR true W) := by
  have c1 : ¬ (40 : Int) < (n : Int) := by omega
  have F1 : Hid (Fit a ∧ Fit b) := ⟨⟨by omega, by omega⟩, ⟨by omega, by omega⟩⟩
  have F2 : Hid (0 ≤ a ∧ a ≤ 1073741824 ∧ 1 ≤ b ∧ b ≤ 1073741824) := by show _ ∧ _; omega
  have R1 := Lib.hid hR
  clear hR
  go_enter Try.func6, Try.ntmps6
  go_wp2_with fail
  refine (xs_new (Below.refl _ W)).mono ?_
  rintro e w0 ⟨rfl, h0, -⟩
  have H0 := Lib.hid h0
  clear h0
  go_wp2_with fail
  generalize W.heap.size + 3 = t at *
  refine (H0.out.run (tn_arm 3 a b H0.out.tn (wf_small (by decide) (by decide)) F1.out.1 F1.out.2 (by decide) (by decide))).mono ?_
  rintro e w1 ⟨rfl, h, -⟩
  have H1 : Hid (One W t W.heap.size a b 0 w1) := ⟨1, 1, by omega, h⟩
  clear h H0
  go_wp2_with fail
  go_loopw [8, 9, 10] (fun x y i wr => ∃ (k : Nat) (nw du : Int), k ≤ n ∧ x = .int .i64 nw ∧ y = .int .i64 du ∧ i = .int .i64 k ∧ 0 ≤ nw ∧ nw ≤ 2147483648 * (k : Int) ∧ 0 ≤ du ∧ du ≤ 2147483648 * (k : Int) + 1073741824 ∧ Hid (Row1 a b du) ∧ Hid (One W t W.heap.size du b k wr)) (fun _ _ i _ => n - (intOf i).toNat)
  case atStart => exact ⟨0, 0, a, by omega, rfl, rfl, rfl, by omega, by omega, F2.out.1, by have := F2.out; omega, ⟨0, by simp⟩, H1⟩
  case round =>
    clear H1
    obtain ⟨k, nw, du, hk, rfl, rfl, rfl, n0, n1, d0, d1, HR, HO⟩ := hrel
    by_cases hlt : k < n
    · obtain ⟨m, s, hm, hS⟩ := HO.out
      have HS := Lib.hid hS
      obtain ⟨bb, off, x, rfl, hbb, hzx, hcx⟩ := R1.out.cell hS.bel hlt
      have k3 : (k : Int) < (n : Int) := by omega
      have hr := round_any x 2147483648 wr (by decide) (by decide)
      have hp := pk_lt x (m := 2147483648) (by decide)
      have b0 : IntKind.i64.wrap (nw + (pk x 2147483648 : Int)) = nw + (pk x 2147483648 : Int) := by rw [IntKind.wrap_i64]; omega
      have b1 : IntKind.i64.wrap ((k : Int) + 1) = (k : Int) + 1 := by rw [IntKind.wrap_i64]; omega
      clear hS hzx HO
      go_wp2_with fail
      refine hr.mono ?_
      rintro e w2 ⟨rfl, rfl⟩
      clear hr
      obtain ⟨nw', hnw⟩ : ∃ z, z = nw + (pk x 2147483648 : Int) := ⟨_, rfl⟩
      rw [← hnw] at b0
      have hb2 : 0 ≤ nw' ∧ nw' ≤ 2147483648 * ((k : Int) + 1) := by omega
      generalize hpk : (pk x 2147483648 : Int) = pv at *
      by_cases hd : du ≤ nw'
      · have hq := quo_bd F2.out.2.2.1 d0 hd
        have hnx := nx_quo F2.out.2.2.1 d0 hd (by omega) F2.out.2.2.2
        have hgon : Gon du (fput (fun _ => (0 : Int)) 3 b 3) nw' := by
          have e0 : fput (fun _ => (0 : Int)) 3 b 3 = b := fput_at _ _ _
          rw [e0]
          refine ⟨?_, by rw [hnx]; exact hq.1⟩
          have := F2.out
          simp [nxB]
          omega
        go_wp2_with fail
        subst hnw
        obtain ⟨q, hqe⟩ : ∃ q, ((nw + pv) - du) / b = q := ⟨_, rfl⟩
        rw [hqe] at hq hnx
        obtain ⟨pq, hpq⟩ : ∃ pq, b * (q + 1) = pq := ⟨_, rfl⟩
        have HR2 := Lib.hid (HR.out.next (q + 1))
        rw [hpq] at hq hnx HR2
        obtain ⟨du', hdu⟩ : ∃ z, du + pq = z := ⟨_, rfl⟩
        rw [hdu] at hq hnx HR2
        have g1 : IntKind.i64.wrap ((nw + pv) - du) = (nw + pv) - du := by rw [IntKind.wrap_i64]; omega
        have g2 : ((nw + pv) - du).tdiv b = q := by rw [Int.tdiv_eq_ediv_of_nonneg (by omega)]; exact hqe
        have g3 : IntKind.i64.wrap q = q := by rw [IntKind.wrap_i64]; omega
        have g4 : IntKind.i64.wrap (q + 1) = q + 1 := by rw [IntKind.wrap_i64]; omega
        have g5 : IntKind.i64.wrap (b * (q + 1)) = pq := by rw [hpq, IntKind.wrap_i64]; omega
        have g6 : IntKind.i64.wrap (du + pq) = du' := by rw [hdu, IntKind.wrap_i64]; omega
        have g7 : (b == 0) = false := by simp <;> omega
        have g8 : (b == -1) = false := by simp <;> omega
        have g9 : IntKind.i64.wrap (du' - a) = du' - a := by rw [IntKind.wrap_i64]; omega
        have g10 : (du' - a).tmod b = 0 := HR2.out.mod
        have g11 : IntKind.i64.wrap 0 = 0 := by rw [IntKind.wrap_i64]; omega
        have hm1 : m ≤ 1000000 := by omega
        refine (HS.out.run (tn_take_on HS.out.tn hm1 (by simp) hd hgon)).mono ?_
        rintro e w3 ⟨rfl, h, -⟩
        have H3 : Hid (XS W t (W.heap.size + 1) W.heap.size (W.heap.size + 2) (m + 1) [⟨3, du', (m : Int) + 1⟩] (fput (fun _ => 0) 3 b) w3) := by
          have e0 : fput (fun _ => (0 : Int)) 3 b 3 = b := fput_at _ _ _
          have h' := h
          simp only [e0, hnx, ins_one] at h'
          exact h'
        clear h HS hgon hnx
        have D3 := Lib.hid (Dbk.new w3 3 du (nw + pv))
        have H5 := Lib.hid (H3.out.box (.cells #[.int .i64 3, .int .i64 du, .int .i64 (nw + pv)] 63))
        clear H3
        go_upto_region 12 with (fail)
        generalize w3.alloc (.cells #[.int .i64 3, .int .i64 du, .int .i64 (nw + pv)] 63) = w4 at *
        generalize w3.heap.size = r at *
        obtain ⟨r0, r1, r2, -⟩ := D3.out.cells
        clear hcx D3
        go_wp2_with fail
        refine (H5.out.run (tn_armed_yes (x := ⟨3, du', (m : Int) + 1⟩) H5.out.tn (by simp) (by simp))).mono ?_
        rintro e w4 ⟨rfl, h, ho⟩
        have H6 := Lib.hid h
        have e0 : fput (fun _ => (0 : Int)) 3 b 3 = b := fput_at _ _ _
        clear h ho H5
        simp only [e0]
        clear e0
        go_wp2_with fail
        go_roundw
        case rel => exact ⟨k + 1, (nw + pv), du', by omega, rfl, rfl, by go_num, by omega, by omega, by omega, by omega, HR2, ⟨m + 1, _, by omega, H6.out⟩⟩
        case measure => simp [intOf]; omega
      · go_wp2_with fail
        subst hnw
        have hnd : (nw + pv) < du := by omega
        refine (HS.out.run (tn_take_no HS.out.tn (by simp) hnd)).mono ?_
        rintro e w3 ⟨rfl, h, -⟩
        have H3 := Lib.hid h
        clear h HS
        have H5 := Lib.hid (H3.out.box (.cells #[.int .i64 0, .int .i64 0, .int .i64 0] 63))
        clear H3
        have g7 : (b == 0) = false := by simp <;> omega
        have g8 : (b == -1) = false := by simp <;> omega
        have g9 : IntKind.i64.wrap (du - a) = du - a := by rw [IntKind.wrap_i64]; omega
        have g10 : (du - a).tmod b = 0 := HR.out.mod
        have g11 : IntKind.i64.wrap 0 = 0 := by rw [IntKind.wrap_i64]; omega
        go_upto_region 12 with (fail)
        generalize w3.alloc (.cells #[.int .i64 0, .int .i64 0, .int .i64 0] 63) = w4 at *
        generalize w3.heap.size = r at *
        clear hcx
        go_wp2_with fail
        refine (H5.out.run (tn_armed_yes (x := ⟨3, du, s⟩) H5.out.tn (by simp) (by simp))).mono ?_
        rintro e w4 ⟨rfl, h, ho⟩
        have H6 := Lib.hid h
        have e0 : fput (fun _ => (0 : Int)) 3 b 3 = b := fput_at _ _ _
        clear h ho H5
        simp only [e0]
        clear e0
        go_wp2_with fail
        go_roundw
        case rel => exact ⟨k + 1, (nw + pv), du, by omega, rfl, rfl, by go_num, by omega, by omega, by omega, by omega, HR, ⟨m, _, by omega, H6.out⟩⟩
        case measure => simp [intOf]; omega
    · obtain rfl : k = n := by omega
      have k3 : ¬ (k : Int) < (k : Int) := by omega
      have HB := Lib.hid (show Below W.heap.size W wr by obtain ⟨_, _, _, h⟩ := HO.out; exact h.bel)
      go_wp2_with fail
      refine (awaket_any wr).mono ?_
      rintro e w2 ⟨rfl, hb⟩
      have HB2 := Lib.hid (HB.out.trans (hb.mono HB.out.size))
      clear hb
      go_wp2_with fail
      go_ret
      exact ⟨rfl, HB2.out⟩
theorem rows_walk (a b : Int) (A0 : Option Addr) (n c0 : Nat) (l : List Int) (W : World) (hR : Rn W A0 n l) : Calls Try.prog 6 #[.int .i64 a, .int .i64 b, .slice A0 n c0] W (BoolR true W) := by
  by_cases h : a < 0 ∨ 1073741824 < a ∨ b < 1 ∨ 1073741824 < b ∨ 40 < n
  · exact rows_out a b A0 n c0 W h
  · exact rows_in a b A0 n c0 l W hR (by omega) (by omega) (by omega) (by omega) (by omega)
end Go.Proofs.Ytbpoippgioincaa

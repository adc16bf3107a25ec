/- The walk of the law on bytes. Condition: the numbers fit their kind. -/
import Derived.Test.YtfjphbljdijceaaAwk
namespace Go.Proofs.Ytfjphbljdijceaa
open Go.RowKit
set_option linter.unusedVariables false

theorem lo8_at (x : Int) (i : Nat) (h : i < 8) : (lo 8 x)[i]? = some (x / 256 ^ i % 256) := lo_at 8 x i h
theorem eb2_at (n d : Int) (i : Nat) (h : i < 8) : (eb ⟨2, n, d⟩)[1 + i]? = some (n / 256 ^ i % 256) := by
  rw [Nat.add_comm]
  simp [eb, lo8_at n i h]
theorem eb1_at (n d : Int) (i : Nat) (h : i < 8) : (eb ⟨1, n, d⟩)[1 + i]? = some (n / 256 ^ i % 256) := by
  rw [Nat.add_comm]
  simp only [eb, List.getElem?_cons_succ]
  rw [List.getElem?_append_left (by rw [lo_len]; exact h), lo8_at n i h]
theorem eb1_at' (n d : Int) (i : Nat) (h : i < 8) : (eb ⟨1, n, d⟩)[9 + i]? = some (d / 256 ^ i % 256) := by
  rw [show 9 + i = (8 + i) + 1 from by omega]
  simp only [eb, List.getElem?_cons_succ, if_true]
  rw [List.getElem?_append_right (by rw [lo_len]; omega), lo_len, show 8 + i - 8 = i from by omega, lo8_at d i h]
theorem byte_u (n : Int) (k : Nat) (h : k < 8) : IntKind.u64.wrap n / 2 ^ (8 * k) % 256 = n / 256 ^ k % 256 := by
  symm
  rw [IntKind.wrap_u64]
  have e1 : (2 : Int) ^ (8 * k) = 256 ^ k := by rw [Int.pow_mul]; rfl
  have e2 : (18446744073709551616 : Int) = 256 ^ k * (256 * 256 ^ (7 - k)) := by
    rw [← Int.mul_assoc, Int.mul_comm (256 ^ k) 256, Int.mul_assoc, ← Int.pow_add, show k + (7 - k) = 7 from by omega]; rfl
  have e3 : (0 : Int) < 256 ^ k := Int.pow_pos (by omega)
  rw [e1, e2]
  generalize (256 : Int) ^ k = p at *
  generalize (256 : Int) ^ (7 - k) = q
  obtain ⟨Q, hQ⟩ : ∃ Q, Q = 256 * q := ⟨_, rfl⟩
  rw [← hQ]
  have e4 := Int.emod_add_mul_ediv n (p * Q)
  have e5 : n / p = n % (p * Q) / p + Q * (n / (p * Q)) := by
    have h := Int.add_mul_ediv_left (n % (p * Q)) (Q * (n / (p * Q))) (show p ≠ 0 by omega)
    rw [← Int.mul_assoc, e4] at h
    exact h
  rw [e5, hQ, Int.mul_assoc, Int.add_mul_emod_self_left]
theorem ok1 (n d : Int) : allOk [⟨1, n, d⟩] := by
  intro e he
  simp at he
  subst he
  exact .inl rfl
theorem ok2 (n : Int) : allOk [⟨2, n, 0⟩] := by
  intro e he
  simp at he
  subst he
  exact .inr ⟨rfl, rfl⟩
set_option maxHeartbeats 400000 in
theorem bytes_adv (n d : Int) (w : World) (h1 : -9223372036854775808 ≤ n) (h2 : n ≤ 9223372036854775807) : Calls Try.prog 6 #[.int .i64 n, .int .i64 d, .bool false] w (BoolR true w) := by
  have hC := fun w0 : World => enc_yes (RdE.new w0 [⟨2, n, 0⟩] 1 #[.int .i64 2, .int .i64 n, .int .i64 0] 35 rfl rfl) (by omega) (ok2 n) (cap := 1)
  have hC1 := hC (w.alloc (.cells #[.int .i64 2, .int .i64 n, .int .i64 0] 35))
  rw [World.size_alloc] at hC1
  have HC := Lib.hid hC1
  clear hC hC1
  go_enter Try.func6, Try.ntmps6
  go_wp2_with fail
  refine HC.out.mono ?_
  rintro e w1 ⟨hb1, A, c, hc1, hc2, rfl, hR⟩
  rw [enL_one, show (eb ⟨2, n, 0⟩).length = 9 from rfl] at hc1 hR ⊢
  have hs1 : w.heap.size < w1.heap.size := by have := hb1.size; simp at this; omega
  have k0 : w1.cell? ⟨w.heap.size, 0, none⟩ = some (.int .i64 2) := (cell_blk (hb1.block _ (by simp; omega)) _).trans (by simp)
  have k1 : w1.cell? ⟨w.heap.size, 1, none⟩ = some (.int .i64 n) := (cell_blk (hb1.block _ (by simp; omega)) _).trans (by simp)
  have k2 : w1.cell? ⟨w.heap.size, 2, none⟩ = some (.int .i64 0) := (cell_blk (hb1.block _ (by simp; omega)) _).trans (by simp)
  have HB1 : Hid (Below w.heap.size w w1) := (below_al w (.cells #[.int .i64 2, .int .i64 n, .int .i64 0] 35)).trans (((below_al _ (.cells #[.int .i64 2, .int .i64 n, .int .i64 0] 35)).trans (hb1.mono (by simp))).mono (by simp))
  obtain ⟨b, off, rfl, hb, hc⟩ := hR.2.2 (by omega)
  have c0 := hc 0 2 rfl
  rw [Nat.add_zero] at c0
  have HCe := Lib.hid hc
  clear hb1 hR hc HC
  go_wp2_with fail
  go_quiet (fail)
  go_wp2_with fail
  go_loopw [11] (fun i wr => ∃ k : Nat, k ≤ 8 ∧ i = .int .i64 k ∧ Hid (Below w1.heap.size w1 wr)) (fun i _ => 8 - (intOf i).toNat)
  case atStart => exact ⟨0, by omega, rfl, below_drewN (Below.refl _ _) _⟩
  case round =>
    obtain ⟨k, hk, rfl, hS⟩ := hrel
    by_cases hlt : k < 8
    · have hx := HCe.out (1 + k) _ (eb2_at n 0 k hlt)
      rw [← cell_blk (hS.out.block b hb)] at hx
      have q1 : (1 + (k : Int)) < 9 := by omega
      have q2 : (0 : Int) ≤ 1 + (k : Int) := by omega
      have q3 : (1 + (k : Int)).toNat = 1 + k := by omega
      have q4 : IntKind.i64.wrap (1 + (k : Int)) = 1 + (k : Int) := IntWalk.i64_in _ (by omega)
      have q5 : IntKind.i64.wrap (8 * (k : Int)) = 8 * (k : Int) := IntWalk.i64_in _ (by omega)
      have q6 : (0 : Int) ≤ 8 * (k : Int) := by omega
      have q8 := byte_u n k hlt
      generalize n / 256 ^ k % 256 = y at hx q8
      have q7 : 8 * (k : Int) ≤ 64 := by omega
      go_wp2_with fail
      go_quiet (fail)
      clear hx
      go_wp2_with fail
      go_roundw
      case rel => exact ⟨k + 1, by omega, by go_num, below_drewN hS.out _⟩
      case measure => simp [intOf]; omega
    · have hks : w.heap.size < w1.heap.size := hs1
      rw [← cell_blk (hS.out.block _ hs1)] at k0 k1 k2
      have HB2 := Lib.hid (HB1.out.trans (hS.out.mono HB1.out.size))
      obtain rfl : k = 8 := by omega
      by_cases hn : 0 ≤ n
      · go_wp2_with fail
        refine (check_adv n _ hn).mono ?_
        rintro e w2 ⟨rfl, hb2⟩
        go_wp2_with fail
        refine (awake_any _).mono ?_
        rintro e w3 ⟨rfl, hb3⟩
        go_wp2_with fail
        go_ret
        exact ⟨rfl, HB2.out.trans ((hb2.trans (hb3.mono hb2.size)).mono HB2.out.size)⟩
      · have g1 : decide (0 ≤ n) = false := by simpa using hn
        go_wp2_with fail
        refine (check_neg n _ (by omega)).mono ?_
        rintro e w2 ⟨rfl, hb2⟩
        go_wp2_with fail
        refine (awake_any _).mono ?_
        rintro e w3 ⟨rfl, hb3⟩
        go_wp2_with fail
        go_ret
        exact ⟨rfl, HB2.out.trans ((hb2.trans (hb3.mono hb2.size)).mono HB2.out.size)⟩
set_option maxHeartbeats 400000 in
theorem bytes_run (n d : Int) (w : World) (h1 : -9223372036854775808 ≤ n) (h2 : n ≤ 9223372036854775807) : Calls Try.prog 6 #[.int .i64 n, .int .i64 d,    .bool true] w (BoolR true w) := by
  have hC := fun w0 : World => enc_yes (RdE.new w0 [⟨1, n, d⟩] 1 #[.int .i64 1, .int .i64 n, .int .i64 d] 35 rfl rfl) (by omega) (ok1 n d) (cap := 1)
  have hC1 := hC (w.alloc (.cells #[.int .i64 1, .int .i64 n, .int .i64 d] 35))
  rw [World.size_alloc] at hC1
  have HC := Lib.hid hC1
  clear hC hC1
  go_enter Try.func6, Try.ntmps6
  go_wp2_with fail
  refine HC.out.mono ?_
  rintro e w1 ⟨hb1, A, c, hc1, hc2, rfl, hR⟩
  rw [enL_one, show (eb ⟨1, n, d⟩).length = 17 from rfl] at hc1 hR ⊢
  have hs1 : w.heap.size < w1.heap.size := by have := hb1.size; simp at this; omega
  have k0 : w1.cell? ⟨w.heap.size, 0, none⟩ = some (.int .i64 1) := (cell_blk (hb1.block _ (by simp; omega)) _).trans (by simp)
  have k1 : w1.cell? ⟨w.heap.size, 1, none⟩ = some (.int .i64 n) := (cell_blk (hb1.block _ (by simp; omega)) _).trans (by simp)
  have k2 : w1.cell? ⟨w.heap.size, 2, none⟩ = some (.int .i64 d) := (cell_blk (hb1.block _ (by simp; omega)) _).trans (by simp)
  have HB1 : Hid (Below w.heap.size w w1) := (below_al w (.cells #[.int .i64 1, .int .i64 n, .int .i64 d] 35)).trans (((below_al _ (.cells #[.int .i64 1, .int .i64 n, .int .i64 d] 35)).trans (hb1.mono (by simp))).mono (by simp))
  obtain ⟨b, off, rfl, hb, hc⟩ := hR.2.2 (by omega)
  have c0 := hc 0 1 rfl
  rw [Nat.add_zero] at c0
  have HCe := Lib.hid hc
  clear hb1 hR hc HC
  go_wp2_with fail
  go_quiet (fail)
  go_wp2_with fail
  go_loopw [11] (fun i wr => ∃ k : Nat, k ≤ 8 ∧ i = .int .i64 k ∧ Hid (Below w1.heap.size w1 wr)) (fun i _ => 8 - (intOf i).toNat)
  case atStart => exact ⟨0, by omega, rfl, below_drewN (Below.refl _ _) _⟩
  case round =>
    obtain ⟨k, hk, rfl, hS⟩ := hrel
    by_cases hlt : k < 8
    · have hx := HCe.out (1 + k) _ (eb1_at n d k hlt)
      have hy := HCe.out (9 + k) _ (eb1_at' n d k hlt)
      rw [← cell_blk (hS.out.block b hb)] at hy
      rw [← cell_blk (hS.out.block b hb)] at hx
      have q1 : (1 + (k : Int)) < 17 := by omega
      have q2 : (0 : Int) ≤ 1 + (k : Int) := by omega
      have q3 : (1 + (k : Int)).toNat = 1 + k := by omega
      have q4 : IntKind.i64.wrap (1 + (k : Int)) = 1 + (k : Int) := IntWalk.i64_in _ (by omega)
      have q5 : IntKind.i64.wrap (8 * (k : Int)) = 8 * (k : Int) := IntWalk.i64_in _ (by omega)
      have q6 : (0 : Int) ≤ 8 * (k : Int) := by omega
      have q8 := byte_u n k hlt
      have q9 := byte_u d k hlt
      generalize n / 256 ^ k % 256 = y at hx q8
      generalize d / 256 ^ k % 256 = z at hy q9
      have p1 : (9 + (k : Int)) < 17 := by omega
      have p2 : (0 : Int) ≤ 9 + (k : Int) := by omega
      have p3 : (9 + (k : Int)).toNat = 9 + k := by omega
      have p4 : IntKind.i64.wrap (9 + (k : Int)) = 9 + (k : Int) := IntWalk.i64_in _ (by omega)
      have q7 : 8 * (k : Int) ≤ 64 := by omega
      go_wp2_with fail
      go_quiet (fail)
      clear hx hy
      go_wp2_with fail
      go_roundw
      case rel => exact ⟨k + 1, by omega, by go_num, below_drewN hS.out _⟩
      case measure => simp [intOf]; omega
    · have hks : w.heap.size < w1.heap.size := hs1
      rw [← cell_blk (hS.out.block _ hs1)] at k0 k1 k2
      have HB2 := Lib.hid (HB1.out.trans (hS.out.mono HB1.out.size))
      obtain rfl : k = 8 := by omega
      go_wp2_with fail
      refine (check_run n d _).mono ?_
      rintro e w2 ⟨rfl, hb2⟩
      go_wp2_with fail
      refine (awake_any _).mono ?_
      rintro e w3 ⟨rfl, hb3⟩
      go_wp2_with fail
      go_ret
      exact ⟨rfl, HB2.out.trans ((hb2.trans (hb3.mono hb2.size)).mono HB2.out.size)⟩
theorem bytes_any (n d : Int) (r : Bool) (hn : (Lit.int .i64 n).wf = true) (w : World) : Calls Try.prog 6 #[.int .i64 n, .int .i64 d, .bool r] w (BoolR true w) := by
  have h : -9223372036854775808 ≤ n ∧ n ≤ 9223372036854775807 := by simpa [Lit.wf, IntKind.min, IntKind.max, IntKind.signed, IntKind.bits] using hn
  cases r
  · exact bytes_adv n d w h.1 h.2
  · exact bytes_run n d w h.1 h.2
end Go.Proofs.Ytfjphbljdijceaa

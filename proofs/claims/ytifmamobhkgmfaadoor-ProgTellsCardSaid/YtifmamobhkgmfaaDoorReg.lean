/- Sets of registers as numbers: with, has, rising, readByCases tell what they say. Conditions: each theorem's own premises. -/
import Derived.Test.YtifmamobhkgmfaaDoorChk
namespace Go.Proofs.YtifmamobhkgmfaaDoor
open Go.RowKit
set_option linter.unusedVariables false

theorem pow8 : ∀ n : Nat, n < 8 → (2 : Int) ^ n % 256 = ((2 ^ n : Nat) : Int) ∧ 2 ^ n < 256 := by
  intro n h
  match n, h with
  | 0, _ => decide
  | 1, _ => decide
  | 2, _ => decide
  | 3, _ => decide
  | 4, _ => decide
  | 5, _ => decide
  | 6, _ => decide
  | 7, _ => decide
theorem or8 {a b : Nat} (ha : a < 256) (hb : b < 256) : a ||| b < 256 := Nat.or_lt_two_pow (n := 8) ha hb
theorem bit8 : ∀ m : Fin 256, ∀ n : Fin 8, (((m.val &&& 2 ^ n.val : Nat) : Int) != 0) = m.val.testBit n.val := by decide +kernel
theorem with_any (m : Nat) (n : Nat) (hm : m < 256) (hn : n < 8) (w : World) : Calls Tryd.prog 34 #[.int .u8 m, .int .i64 n] w fun e w' => e = .returned (.int .u8 (m ||| 2 ^ n : Nat)) ∧ w = w' := by
  have HE : Hid (bits BinOp.or IntKind.u8 (m : Int) (2 ^ n % 256) = ((m ||| 2 ^ n : Nat) : Int)) := by
    show _ = _
    rw [(pow8 n hn).1, u8_or_nat _ _ hm (pow8 n hn).2]
  go_enter Tryd.func34, Tryd.ntmps34
  go_wp2
  go_ret
  refine ⟨?_, rfl⟩
  show Ending.returned (.int .u8 (bits BinOp.or IntKind.u8 (m : Int) (2 ^ n % 256))) = _
  rw [HE.out]
theorem with_zero (n : Nat) (hn : n < 8) (w : World) : Calls Tryd.prog 34 #[.int .u8 0, .int .i64 n] w fun e w' => e = .returned (.int .u8 (2 ^ n : Nat)) ∧ w = w' := by
  have h := with_any 0 n (by omega) hn w
  rwa [Nat.zero_or] at h
theorem has_any (m : Nat) (n : Nat) (hm : m < 256) (hn : n < 8) (w : World) : Calls Tryd.prog 33 #[.int .u8 m, .int .i64 n] w fun e w' => e = .returned (.bool (m.testBit n)) ∧ w = w' := by
  have HE : Hid ((bits BinOp.and IntKind.u8 (m : Int) (2 ^ n % 256) != 0) = m.testBit n) := by
    show _ = _
    rw [(pow8 n hn).1, u8_and_nat _ _ hm (pow8 n hn).2]
    exact bit8 ⟨m, hm⟩ ⟨n, hn⟩
  go_enter Tryd.func33, Tryd.ntmps33
  go_wp2
  go_ret
  refine ⟨?_, rfl⟩
  show Ending.returned (.bool (bits BinOp.and IntKind.u8 (m : Int) (2 ^ n % 256) != 0)) = _
  rw [HE.out]

/-- The set with a case's registers. -/
def caM (m : Nat) (c : Ca) : Nat := if c.s then (m ||| 2 ^ c.ch.toNat) ||| 2 ^ c.v.toNat else m ||| 2 ^ c.ch.toNat
def casM (cs : List Ca) : Nat := cs.foldl caM 0
theorem reg_nat {n : Int} (h : regB n = true) : ∃ k : Nat, k < 8 ∧ n = k := by
  have h1 : 0 ≤ n ∧ n ≤ 7 := by simpa [regB] using h
  exact ⟨n.toNat, by omega, by omega⟩
theorem caM_lt {m : Nat} {c : Ca} (hm : m < 256) (h : caB c = true) : caM m c < 256 := by
  unfold caM
  unfold caB at h
  simp only [Bool.and_eq_true] at h
  obtain ⟨k, hk, e⟩ := reg_nat h.1
  have e1 : c.ch.toNat = k := by rw [e]; rfl
  have e2 := (pow8 k hk).2
  cases hs : c.s with
  | true =>
    rw [hs] at h
    obtain ⟨j, hj, e'⟩ := reg_nat (by simpa using h.2)
    have e3 : c.v.toNat = j := by rw [e']; rfl
    have e4 := (pow8 j hj).2
    rw [e1, e3]
    exact or8 (or8 hm e2) e4
  | false =>
    rw [e1]
    exact or8 hm e2
theorem casM_lt : ∀ (cs : List Ca) (m : Nat), m < 256 → cs.all caB = true → cs.foldl caM m < 256
  | [], m, hm, _ => hm
  | c :: l, m, hm, h => by
    simp only [List.all_cons, Bool.and_eq_true] at h
    exact casM_lt l _ (caM_lt hm h.1) h.2
theorem casM_next {cs : List Ca} {k : Nat} {x : Ca} (h : cs.take (k + 1) = cs.take k ++ [x]) : casM (cs.take (k + 1)) = caM (casM (cs.take k)) x := by
  unfold casM; rw [h, List.foldl_append]; rfl
theorem all_take {cs : List Ca} (h : cs.all caB = true) (k : Nat) : (cs.take k).all caB = true := by
  rw [List.all_eq_true] at h ⊢
  exact fun x hx => h x (List.mem_of_mem_take hx)

def RegR (m : Nat) (w : World) (e : Ending) (w' : World) : Prop := e = .returned (.int .u8 m) ∧ Below w.heap.size w w'
set_option maxHeartbeats 1000000 in
theorem readCases_any (A : Option Addr) (n cap : Nat) (cs : List Ca) (w : World) (hn : n ≤ 16) (hR : Hid (RdC w A n cs)) (hA : Hid (cs.all caB = true)) : Calls Tryd.prog 35 #[.slice A n cap] w (RegR (casM cs) w) := by
  go_enter Tryd.func35, Tryd.ntmps35
  go_wp2
  go_loopw [3, 8] (fun mv i wr => ∃ k : Nat, k ≤ n ∧ i = .int .i64 k ∧ mv = .int .u8 (casM (cs.take k)) ∧ Hid (Below w.heap.size w wr)) (fun _ i _ => n - (intOf i).toNat)
  case atStart => exact ⟨0, by omega, rfl, rfl, Below.refl _ _⟩
  case round =>
    obtain ⟨k, hk, rfl, rfl, hB⟩ := hrel
    by_cases hlt : k < n
    · obtain ⟨bb, off, rfl, hb, hc⟩ := hR.out.cells (by omega)
      have hky : k < cs.length := by rw [hR.out.1]; exact hlt
      obtain ⟨c0, c1, c2⟩ := hc k (cs[k]'hky) (List.getElem?_eq_getElem hky)
      have HN : Hid (casM (cs.take (k + 1)) = caM (casM (cs.take k)) (cs[k]'hky)) := casM_next (List.take_succ_eq_append_getElem hky)
      have hx : caB (cs[k]'hky) = true := by have h := hA.out; rw [List.all_eq_true] at h; exact h _ (List.getElem_mem hky)
      have HM : Hid (casM (cs.take k) < 256) := casM_lt _ 0 (by omega) (all_take hA.out k)
      rw [← cell_blk (hB.out.block bb hb)] at c0 c1 c2
      generalize cs[k]'hky = x at *
      obtain ⟨s, ch, v⟩ := x
      simp only at c0 c1 c2
      generalize casM (cs.take k) = m at *
      have HB1 : Hid (Below w.heap.size w (wr.alloc (.cells #[.bool s, .int .i64 ch, .int .i64 v] 41))) := hB.out.trans ((below_al wr _).mono hB.out.size)
      clear hc hky
      unfold caB at hx
      simp only [Bool.and_eq_true] at hx
      obtain ⟨j, hj, rfl⟩ := reg_nat hx.1
      have HJ := Lib.hid hj
      cases s with
      | true =>
        obtain ⟨q, hq, rfl⟩ := reg_nat (by simpa using hx.2)
        have HQ := Lib.hid hq
        clear hx hj hq
        have HM2 := Lib.hid (or8 HM.out (pow8 j HJ.out).2)
        go_wp2_with fail
        refine (with_any m j HM.out HJ.out _).mono ?_
        rintro e w1 ⟨rfl, rfl⟩
        go_wp2_with fail
        refine (with_any _ q HM2.out HQ.out _).mono ?_
        rintro e w1 ⟨rfl, rfl⟩
        go_wp2_with fail
        go_roundw
        case rel => exact ⟨k + 1, by omega, by go_num, by rw [HN.out]; rfl, HB1.out⟩
        case measure => simp [intOf]; omega
      | false =>
        clear hx hj
        go_wp2_with fail
        refine (with_any m j HM.out HJ.out _).mono ?_
        rintro e w1 ⟨rfl, rfl⟩
        go_wp2_with fail
        go_roundw
        case rel => exact ⟨k + 1, by omega, by go_num, by rw [HN.out]; rfl, HB1.out⟩
        case measure => simp [intOf]; omega
    · obtain rfl : k = n := by omega
      go_wp2
      go_ret
      exact ⟨by rw [List.take_of_length_le (by rw [hR.out.1]; omega)]; rfl, hB.out⟩
end Go.Proofs.YtifmamobhkgmfaaDoor

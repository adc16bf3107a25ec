/- formatBase10 at so many places, of a number of at most one digit more than that: what stands there is a plain function of both. Condition: the row lies in memory. -/
import Derived.Test.YtbefcakakoaieaaShl
import Derived.Shelf.RegionOpenPlain
import Derived.Lib.Walk
import Derived.Lib.ItoaWalk
import Derived.WalkKit
import Derived.RegionTactic
import Derived.BigCall
import Derived.BigGuard
import Derived.CellFam
namespace Go.Proofs.Ytbefcakakoaieaa
open Go.RowKit Go.Sort Go.Lib
set_option linter.unusedVariables false

/-- Two digits of v at i. -/
def put2 (d : Array UInt8) (i v : Nat) : Array UInt8 := (d.setIfInBounds (i + 1) (sm (v % 100 * 2 + 1))).setIfInBounds i (sm (v % 100 * 2))
theorem put2_size (d : Array UInt8) (i v : Nat) : (put2 d i v).size = d.size := by simp [put2]
/-- The last places. -/
def fmtT : Nat → Nat → Array UInt8 → Array UInt8
  | 0, _, d => d
  | 1, v, d => d.setIfInBounds 0 (UInt8.ofNat (48 + v))
  | n + 2, v, d => fmtT n (v / 100) (put2 d n v)
/-- Eight places and eight again, then the last ones. -/
def fmtF : Nat → Nat → Array UInt8 → Array UInt8
  | n + 8, v, d => fmtF n (v / 100000000) (put2 (put2 (put2 (put2 d (n + 6) v) (n + 4) (v / 100)) (n + 2) (v / 100 / 100)) n (v / 100 / 100 / 100))
  | n, v, d => fmtT n v d
abbrev bC : UInt8 → Value := fun (b : UInt8) => Value.int .u8 (b.toNat : Int)
structure FI (w : World) (blk off : Nat) (d : Array UInt8) (u : Nat) (nd v : Nat) (dk : Array UInt8) : Prop where
  eq : fmtF nd v dk = fmtF d.size u d
  size : dk.size = d.size
  le : nd ≤ d.size
  lt : v < 10 ^ (nd + 1)
  big : v < 18446744073709551616
theorem FI.step {w : World} {blk off : Nat} {d : Array UInt8} {u m v : Nat} {dk : Array UInt8} (h : FI w blk off d u (m + 8) v dk) : FI w blk off d u m (v / 100000000) (put2 (put2 (put2 (put2 dk (m + 6) v) (m + 4) (v / 100)) (m + 2) (v / 100 / 100)) m (v / 100 / 100 / 100)) := by
  refine ⟨by rw [← h.eq]; rfl, by simp only [put2_size]; exact h.size, by have := h.le; omega, ?_, by have := h.big; omega⟩
  have h1 := h.lt
  rw [show m + 8 + 1 = (m + 1) + 8 by omega, Nat.pow_add] at h1
  exact Nat.div_lt_of_lt_mul (by rw [Nat.mul_comm]; exact h1)

set_option maxHeartbeats 12800000 in
set_option maxRecDepth 100000 in
theorem fmt_any (blk off cap : Nat) (u : Nat) (d : Array UInt8) (w : World) (hH : Holds bC w blk off d) (hu : u < 10 ^ (d.size + 1)) (hu64 : u < 18446744073709551616) (hsz : d.size < 4611686018427387904) :
    Calls Try.prog 59 #[.slice (some ⟨blk, off, none⟩) d.size cap, .int .u64 u] w fun e w' =>
      e = .returned (.tuple #[]) ∧ ∃ n : Nat, w' = (putRow bC w blk off (fmtF d.size u d)).drewN n := by
  have mixed : Try.prog.follows Departure.mixedOrders = true := by kernel_rfl
  go_enter Try.func59, Try.ntmps59
  go_name_bytes SM hSM
  have eSM : SM = Lib.smalls := by rw [← hSM]; decide +kernel
  subst eSM
  clear hSM
  go_wp2
  go_loopw [1, 4] (fun vu vn wr => ∃ (nd v n : Nat) (dk : Array UInt8), vu = .int .u64 v ∧ vn = .int .i64 nd ∧ wr = (putRow bC w blk off dk).drewN n ∧ Hid (FI w blk off d u nd v dk)) (fun _ vn _ => (RowKit.intOf vn).toNat)
  case atStart => exact ⟨d.size, u, 0, d, rfl, rfl, (putRow_self _ _ _ _ _ hH).symm, ⟨rfl, rfl, Nat.le_refl _, hu, hu64⟩⟩
  case round =>
    obtain ⟨nd, v, n, dk0, rfl, rfl, hw0, HI0⟩ := hrel
    rename World => W0
    have AH := Lib.hid hH
    clear hH
    have hv64 : v < 18446744073709551616 := HI0.out.big
    have hs0 := HI0.out.size
    have hleT := HI0.out.le
    have hH0 : Holds bC W0 blk off dk0 := by rw [hw0]; exact holds_putRow _ w blk off d dk0 AH.out hs0
    obtain ⟨G0, hG0⟩ : ∃ G : Nat → Int, ∀ t, G t = (dk0[t]!.toNat : Int) := ⟨_, fun _ => rfl⟩
    have hc0 : ∀ t, t < d.size → W0.cell? ⟨blk, off + t, none⟩ = some (.int .u8 (G0 t)) := fun t ht => by rw [hG0]; exact (hH0 t (by omega)).1
    have hf0 : ∀ t, t < d.size → W0.frozen? ⟨blk, off + t, none⟩ = false := fun t ht => (hH0 t (by omega)).2
    have AW0 := Lib.hid hw0
    clear hw0 hG0 hH0
    by_cases h8 : 8 ≤ nd
    · obtain ⟨m, rfl⟩ : ∃ m, nd = m + 8 := ⟨nd - 8, by omega⟩
      go_wp2
      go_name_slot 9 x0 hx0
      have hxe0 : x0 = ((v % 100 * 2 : Nat) : Int) := by omega
      have hXa0 : ∀ w, (Instr.index 9 (.string Lib.smalls) (.int .u32 (x0 + 1))).run Try.prog w = .ok (.int .u8 ((sm (v % 100 * 2 + 1)).toNat : Int)) w := idx_smalls 9 Try.underlying9 .u32 _ _ (by omega) (by omega)
      have hXb0 : ∀ w, (Instr.index 9 (.string Lib.smalls) (.int .u32 x0)).run Try.prog w = .ok (.int .u8 ((sm (v % 100 * 2)).toNat : Int)) w := idx_smalls 9 Try.underlying9 .u32 _ _ (by omega) (by omega)
      have hlo0 : 0 ≤ x0 := by omega
      have hhi0 : x0 ≤ 198 := by omega
      clear hx0 hxe0
      go_region_o
      go_wp2
      go_name_world W1 hW1
      have hw1 : W1 = (putRow bC w blk off (put2 dk0 (m + 6) (v))).drewN (n + 1) := by rw [← hW1, AW0.out]; exact store2_world w blk off dk0 (n) (m + 6 + 1) (m + 6) _ _ (by omega) (by omega)
      have hs1 : (put2 dk0 (m + 6) (v)).size = d.size := by rw [put2_size]; exact hs0
      generalize hdk1 : put2 dk0 (m + 6) (v) = dk1 at hw1 hs1
      have HD1 := Lib.hid hdk1
      clear hW1 hc0 hf0 AW0 hXa0 hXb0 hs0 hdk1
      have hH1 : Holds bC W1 blk off dk1 := by rw [hw1]; exact holds_putRow _ w blk off d dk1 AH.out hs1
      obtain ⟨G1, hG1⟩ : ∃ G : Nat → Int, ∀ t, G t = (dk1[t]!.toNat : Int) := ⟨_, fun _ => rfl⟩
      have hc1 : ∀ t, t < d.size → W1.cell? ⟨blk, off + t, none⟩ = some (.int .u8 (G1 t)) := fun t ht => by rw [hG1]; exact (hH1 t (by omega)).1
      have hf1 : ∀ t, t < d.size → W1.frozen? ⟨blk, off + t, none⟩ = false := fun t ht => (hH1 t (by omega)).2
      have AW1 := Lib.hid hw1
      clear hw1 hG1 hH1
      go_name_slot 8 x1 hx1
      have hxe1 : x1 = ((v / 100 % 100 * 2 : Nat) : Int) := by omega
      have hXa1 : ∀ w, (Instr.index 9 (.string Lib.smalls) (.int .u32 (x1 + 1))).run Try.prog w = .ok (.int .u8 ((sm (v / 100 % 100 * 2 + 1)).toNat : Int)) w := idx_smalls 9 Try.underlying9 .u32 _ _ (by omega) (by omega)
      have hXb1 : ∀ w, (Instr.index 9 (.string Lib.smalls) (.int .u32 x1)).run Try.prog w = .ok (.int .u8 ((sm (v / 100 % 100 * 2)).toNat : Int)) w := idx_smalls 9 Try.underlying9 .u32 _ _ (by omega) (by omega)
      have hlo1 : 0 ≤ x1 := by omega
      have hhi1 : x1 ≤ 198 := by omega
      clear hx1 hxe1
      go_region_o
      go_wp2
      go_name_world W2 hW2
      have hw2 : W2 = (putRow bC w blk off (put2 dk1 (m + 4) (v / 100))).drewN (n + 1 + 1) := by rw [← hW2, AW1.out]; exact store2_world w blk off dk1 (n + 1) (m + 4 + 1) (m + 4) _ _ (by omega) (by omega)
      have hs2 : (put2 dk1 (m + 4) (v / 100)).size = d.size := by rw [put2_size]; exact hs1
      generalize hdk2 : put2 dk1 (m + 4) (v / 100) = dk2 at hw2 hs2
      have HD2 := Lib.hid hdk2
      clear hW2 hc1 hf1 AW1 hXa1 hXb1 hs1 hdk2
      have hH2 : Holds bC W2 blk off dk2 := by rw [hw2]; exact holds_putRow _ w blk off d dk2 AH.out hs2
      obtain ⟨G2, hG2⟩ : ∃ G : Nat → Int, ∀ t, G t = (dk2[t]!.toNat : Int) := ⟨_, fun _ => rfl⟩
      have hc2 : ∀ t, t < d.size → W2.cell? ⟨blk, off + t, none⟩ = some (.int .u8 (G2 t)) := fun t ht => by rw [hG2]; exact (hH2 t (by omega)).1
      have hf2 : ∀ t, t < d.size → W2.frozen? ⟨blk, off + t, none⟩ = false := fun t ht => (hH2 t (by omega)).2
      have AW2 := Lib.hid hw2
      clear hw2 hG2 hH2
      go_name_slot 11 x2 hx2
      have hxe2 : x2 = ((v / 100 / 100 % 100 * 2 : Nat) : Int) := by omega
      have hXa2 : ∀ w, (Instr.index 9 (.string Lib.smalls) (.int .u32 (x2 + 1))).run Try.prog w = .ok (.int .u8 ((sm (v / 100 / 100 % 100 * 2 + 1)).toNat : Int)) w := idx_smalls 9 Try.underlying9 .u32 _ _ (by omega) (by omega)
      have hXb2 : ∀ w, (Instr.index 9 (.string Lib.smalls) (.int .u32 x2)).run Try.prog w = .ok (.int .u8 ((sm (v / 100 / 100 % 100 * 2)).toNat : Int)) w := idx_smalls 9 Try.underlying9 .u32 _ _ (by omega) (by omega)
      have hlo2 : 0 ≤ x2 := by omega
      have hhi2 : x2 ≤ 198 := by omega
      clear hx2 hxe2
      go_region_o
      go_wp2
      go_name_world W3 hW3
      have hw3 : W3 = (putRow bC w blk off (put2 dk2 (m + 2) (v / 100 / 100))).drewN (n + 1 + 1 + 1) := by rw [← hW3, AW2.out]; exact store2_world w blk off dk2 (n + 1 + 1) (m + 2 + 1) (m + 2) _ _ (by omega) (by omega)
      have hs3 : (put2 dk2 (m + 2) (v / 100 / 100)).size = d.size := by rw [put2_size]; exact hs2
      generalize hdk3 : put2 dk2 (m + 2) (v / 100 / 100) = dk3 at hw3 hs3
      have HD3 := Lib.hid hdk3
      clear hW3 hc2 hf2 AW2 hXa2 hXb2 hs2 hdk3
      have hH3 : Holds bC W3 blk off dk3 := by rw [hw3]; exact holds_putRow _ w blk off d dk3 AH.out hs3
      obtain ⟨G3, hG3⟩ : ∃ G : Nat → Int, ∀ t, G t = (dk3[t]!.toNat : Int) := ⟨_, fun _ => rfl⟩
      have hc3 : ∀ t, t < d.size → W3.cell? ⟨blk, off + t, none⟩ = some (.int .u8 (G3 t)) := fun t ht => by rw [hG3]; exact (hH3 t (by omega)).1
      have hf3 : ∀ t, t < d.size → W3.frozen? ⟨blk, off + t, none⟩ = false := fun t ht => (hH3 t (by omega)).2
      have AW3 := Lib.hid hw3
      clear hw3 hG3 hH3
      go_name_slot 10 x3 hx3
      have hxe3 : x3 = ((v / 100 / 100 / 100 % 100 * 2 : Nat) : Int) := by omega
      have hXa3 : ∀ w, (Instr.index 9 (.string Lib.smalls) (.int .u32 (x3 + 1))).run Try.prog w = .ok (.int .u8 ((sm (v / 100 / 100 / 100 % 100 * 2 + 1)).toNat : Int)) w := idx_smalls 9 Try.underlying9 .u32 _ _ (by omega) (by omega)
      have hXb3 : ∀ w, (Instr.index 9 (.string Lib.smalls) (.int .u32 x3)).run Try.prog w = .ok (.int .u8 ((sm (v / 100 / 100 / 100 % 100 * 2)).toNat : Int)) w := idx_smalls 9 Try.underlying9 .u32 _ _ (by omega) (by omega)
      have hlo3 : 0 ≤ x3 := by omega
      have hhi3 : x3 ≤ 198 := by omega
      clear hx3 hxe3
      go_region_o
      go_wp2
      go_roundw
      case rel =>
        refine ⟨m, v / 100000000, n + 1 + 1 + 1 + 1, put2 dk3 m (v / 100 / 100 / 100), by first | go_num | (congr 1; omega), by first | go_num | (congr 1; omega), by rw [AW3.out]; exact store2_world w blk off dk3 (n + 1 + 1 + 1) (m + 1) m _ _ (by omega) (by omega), ?_⟩
        have h := HI0.out.step
        rw [HD1.out, HD2.out, HD3.out] at h
        exact h
      case measure => simp [RowKit.intOf]; omega
    · have hc8 : nd = 0 ∨ nd = 1 ∨ nd = 2 ∨ nd = 3 ∨ nd = 4 ∨ nd = 5 ∨ nd = 6 ∨ nd = 7 := by omega
      rcases hc8 with rfl | rfl | rfl | rfl | rfl | rfl | rfl | rfl
      · -- nd = 0
        have hv7 : v < 10 := HI0.out.lt
        go_wp2
        go_end0
        exact ⟨rfl, n, by rw [AW0.out, ← HI0.out.eq]; rfl⟩
      · -- nd = 1
        have hv7 : v < 100 := HI0.out.lt
        go_wp2
        go_end0
        refine ⟨rfl, n, ?_⟩
        rw [← HI0.out.eq, AW0.out]
        exact store1_world0 w blk off dk0 n _ v (by omega) (by omega)
      · -- nd = 2
        have hv7 : v < 1000 := HI0.out.lt
        go_wp2
        go_name_slot 16 x0 hx0
        have hxe0 : x0 = ((v % 100 * 2 : Nat) : Int) := by omega
        have hXa0 : ∀ w, (Instr.index 9 (.string Lib.smalls) (.int .u32 (x0 + 1))).run Try.prog w = .ok (.int .u8 ((sm (v % 100 * 2 + 1)).toNat : Int)) w := idx_smalls 9 Try.underlying9 .u32 _ _ (by omega) (by omega)
        have hXb0 : ∀ w, (Instr.index 9 (.string Lib.smalls) (.int .u32 x0)).run Try.prog w = .ok (.int .u8 ((sm (v % 100 * 2)).toNat : Int)) w := idx_smalls 9 Try.underlying9 .u32 _ _ (by omega) (by omega)
        have hlo0 : 0 ≤ x0 := by omega
        have hhi0 : x0 ≤ 198 := by omega
        clear hx0 hxe0
        go_region_o
        go_wp2
        go_end0
        refine ⟨rfl, n + 1, ?_⟩
        have hE : fmtF 2 v dk0 = put2 dk0 0 (v) := by rfl
        rw [← HI0.out.eq, hE, AW0.out]
        exact store2_world w blk off dk0 (n) (0 + 1) 0 _ _ (by omega) (by omega)
      · -- nd = 3
        have hv7 : v < 10000 := HI0.out.lt
        go_wp2
        go_name_slot 16 x0 hx0
        have hxe0 : x0 = ((v % 100 * 2 : Nat) : Int) := by omega
        have hXa0 : ∀ w, (Instr.index 9 (.string Lib.smalls) (.int .u32 (x0 + 1))).run Try.prog w = .ok (.int .u8 ((sm (v % 100 * 2 + 1)).toNat : Int)) w := idx_smalls 9 Try.underlying9 .u32 _ _ (by omega) (by omega)
        have hXb0 : ∀ w, (Instr.index 9 (.string Lib.smalls) (.int .u32 x0)).run Try.prog w = .ok (.int .u8 ((sm (v % 100 * 2)).toNat : Int)) w := idx_smalls 9 Try.underlying9 .u32 _ _ (by omega) (by omega)
        have hlo0 : 0 ≤ x0 := by omega
        have hhi0 : x0 ≤ 198 := by omega
        clear hx0 hxe0
        go_region_o
        go_wp2
        go_end0
        refine ⟨rfl, n + 1, ?_⟩
        have hE : fmtF 3 v dk0 = (put2 dk0 1 (v)).setIfInBounds 0 (UInt8.ofNat (48 + (v / 100))) := by rfl
        rw [← HI0.out.eq, hE, AW0.out]
        exact store21_world w blk off dk0 (n) (1 + 1) 1 _ _ _ (v / 100) (by omega) (by omega) (by omega)
      · -- nd = 4
        have hv7 : v < 100000 := HI0.out.lt
        go_wp2
        go_name_slot 15 x0 hx0
        have hxe0 : x0 = ((v % 100 * 2 : Nat) : Int) := by omega
        have hXa0 : ∀ w, (Instr.index 9 (.string Lib.smalls) (.int .u32 (x0 + 1))).run Try.prog w = .ok (.int .u8 ((sm (v % 100 * 2 + 1)).toNat : Int)) w := idx_smalls 9 Try.underlying9 .u32 _ _ (by omega) (by omega)
        have hXb0 : ∀ w, (Instr.index 9 (.string Lib.smalls) (.int .u32 x0)).run Try.prog w = .ok (.int .u8 ((sm (v % 100 * 2)).toNat : Int)) w := idx_smalls 9 Try.underlying9 .u32 _ _ (by omega) (by omega)
        have hlo0 : 0 ≤ x0 := by omega
        have hhi0 : x0 ≤ 198 := by omega
        clear hx0 hxe0
        go_region_o
        go_wp2
        go_name_world W1 hW1
        have hw1 : W1 = (putRow bC w blk off (put2 dk0 (2) (v))).drewN (n + 1) := by rw [← hW1, AW0.out]; exact store2_world w blk off dk0 (n) (2 + 1) (2) _ _ (by omega) (by omega)
        have hs1 : (put2 dk0 (2) (v)).size = d.size := by rw [put2_size]; exact hs0
        generalize hdk1 : put2 dk0 (2) (v) = dk1 at hw1 hs1
        have HD1 := Lib.hid hdk1
        clear hW1 hc0 hf0 AW0 hXa0 hXb0 hs0 hdk1
        have hH1 : Holds bC W1 blk off dk1 := by rw [hw1]; exact holds_putRow _ w blk off d dk1 AH.out hs1
        obtain ⟨G1, hG1⟩ : ∃ G : Nat → Int, ∀ t, G t = (dk1[t]!.toNat : Int) := ⟨_, fun _ => rfl⟩
        have hc1 : ∀ t, t < d.size → W1.cell? ⟨blk, off + t, none⟩ = some (.int .u8 (G1 t)) := fun t ht => by rw [hG1]; exact (hH1 t (by omega)).1
        have hf1 : ∀ t, t < d.size → W1.frozen? ⟨blk, off + t, none⟩ = false := fun t ht => (hH1 t (by omega)).2
        have AW1 := Lib.hid hw1
        clear hw1 hG1 hH1
        go_name_slot 14 x1 hx1
        have hxe1 : x1 = ((v / 100 % 100 * 2 : Nat) : Int) := by omega
        have hXa1 : ∀ w, (Instr.index 9 (.string Lib.smalls) (.int .u32 (x1 + 1))).run Try.prog w = .ok (.int .u8 ((sm (v / 100 % 100 * 2 + 1)).toNat : Int)) w := idx_smalls 9 Try.underlying9 .u32 _ _ (by omega) (by omega)
        have hXb1 : ∀ w, (Instr.index 9 (.string Lib.smalls) (.int .u32 x1)).run Try.prog w = .ok (.int .u8 ((sm (v / 100 % 100 * 2)).toNat : Int)) w := idx_smalls 9 Try.underlying9 .u32 _ _ (by omega) (by omega)
        have hlo1 : 0 ≤ x1 := by omega
        have hhi1 : x1 ≤ 198 := by omega
        clear hx1 hxe1
        go_region_o
        go_wp2
        go_end0
        refine ⟨rfl, n + 1 + 1, ?_⟩
        have hE : fmtF 4 v dk0 = put2 dk1 0 (v / 100) := by rw [← HD1.out]; rfl
        rw [← HI0.out.eq, hE, AW1.out]
        exact store2_world w blk off dk1 (n + 1) (0 + 1) 0 _ _ (by omega) (by omega)
      · -- nd = 5
        have hv7 : v < 1000000 := HI0.out.lt
        go_wp2
        go_name_slot 15 x0 hx0
        have hxe0 : x0 = ((v % 100 * 2 : Nat) : Int) := by omega
        have hXa0 : ∀ w, (Instr.index 9 (.string Lib.smalls) (.int .u32 (x0 + 1))).run Try.prog w = .ok (.int .u8 ((sm (v % 100 * 2 + 1)).toNat : Int)) w := idx_smalls 9 Try.underlying9 .u32 _ _ (by omega) (by omega)
        have hXb0 : ∀ w, (Instr.index 9 (.string Lib.smalls) (.int .u32 x0)).run Try.prog w = .ok (.int .u8 ((sm (v % 100 * 2)).toNat : Int)) w := idx_smalls 9 Try.underlying9 .u32 _ _ (by omega) (by omega)
        have hlo0 : 0 ≤ x0 := by omega
        have hhi0 : x0 ≤ 198 := by omega
        clear hx0 hxe0
        go_region_o
        go_wp2
        go_name_world W1 hW1
        have hw1 : W1 = (putRow bC w blk off (put2 dk0 (3) (v))).drewN (n + 1) := by rw [← hW1, AW0.out]; exact store2_world w blk off dk0 (n) (3 + 1) (3) _ _ (by omega) (by omega)
        have hs1 : (put2 dk0 (3) (v)).size = d.size := by rw [put2_size]; exact hs0
        generalize hdk1 : put2 dk0 (3) (v) = dk1 at hw1 hs1
        have HD1 := Lib.hid hdk1
        clear hW1 hc0 hf0 AW0 hXa0 hXb0 hs0 hdk1
        have hH1 : Holds bC W1 blk off dk1 := by rw [hw1]; exact holds_putRow _ w blk off d dk1 AH.out hs1
        obtain ⟨G1, hG1⟩ : ∃ G : Nat → Int, ∀ t, G t = (dk1[t]!.toNat : Int) := ⟨_, fun _ => rfl⟩
        have hc1 : ∀ t, t < d.size → W1.cell? ⟨blk, off + t, none⟩ = some (.int .u8 (G1 t)) := fun t ht => by rw [hG1]; exact (hH1 t (by omega)).1
        have hf1 : ∀ t, t < d.size → W1.frozen? ⟨blk, off + t, none⟩ = false := fun t ht => (hH1 t (by omega)).2
        have AW1 := Lib.hid hw1
        clear hw1 hG1 hH1
        go_name_slot 14 x1 hx1
        have hxe1 : x1 = ((v / 100 % 100 * 2 : Nat) : Int) := by omega
        have hXa1 : ∀ w, (Instr.index 9 (.string Lib.smalls) (.int .u32 (x1 + 1))).run Try.prog w = .ok (.int .u8 ((sm (v / 100 % 100 * 2 + 1)).toNat : Int)) w := idx_smalls 9 Try.underlying9 .u32 _ _ (by omega) (by omega)
        have hXb1 : ∀ w, (Instr.index 9 (.string Lib.smalls) (.int .u32 x1)).run Try.prog w = .ok (.int .u8 ((sm (v / 100 % 100 * 2)).toNat : Int)) w := idx_smalls 9 Try.underlying9 .u32 _ _ (by omega) (by omega)
        have hlo1 : 0 ≤ x1 := by omega
        have hhi1 : x1 ≤ 198 := by omega
        clear hx1 hxe1
        go_region_o
        go_wp2
        go_end0
        refine ⟨rfl, n + 1 + 1, ?_⟩
        have hE : fmtF 5 v dk0 = (put2 dk1 1 (v / 100)).setIfInBounds 0 (UInt8.ofNat (48 + (v / 100 / 100))) := by rw [← HD1.out]; rfl
        rw [← HI0.out.eq, hE, AW1.out]
        exact store21_world w blk off dk1 (n + 1) (1 + 1) 1 _ _ _ (v / 100 / 100) (by omega) (by omega) (by omega)
      · -- nd = 6
        have hv7 : v < 10000000 := HI0.out.lt
        go_wp2
        go_name_slot 15 x0 hx0
        have hxe0 : x0 = ((v % 100 * 2 : Nat) : Int) := by omega
        have hXa0 : ∀ w, (Instr.index 9 (.string Lib.smalls) (.int .u32 (x0 + 1))).run Try.prog w = .ok (.int .u8 ((sm (v % 100 * 2 + 1)).toNat : Int)) w := idx_smalls 9 Try.underlying9 .u32 _ _ (by omega) (by omega)
        have hXb0 : ∀ w, (Instr.index 9 (.string Lib.smalls) (.int .u32 x0)).run Try.prog w = .ok (.int .u8 ((sm (v % 100 * 2)).toNat : Int)) w := idx_smalls 9 Try.underlying9 .u32 _ _ (by omega) (by omega)
        have hlo0 : 0 ≤ x0 := by omega
        have hhi0 : x0 ≤ 198 := by omega
        clear hx0 hxe0
        go_region_o
        go_wp2
        go_name_world W1 hW1
        have hw1 : W1 = (putRow bC w blk off (put2 dk0 (4) (v))).drewN (n + 1) := by rw [← hW1, AW0.out]; exact store2_world w blk off dk0 (n) (4 + 1) (4) _ _ (by omega) (by omega)
        have hs1 : (put2 dk0 (4) (v)).size = d.size := by rw [put2_size]; exact hs0
        generalize hdk1 : put2 dk0 (4) (v) = dk1 at hw1 hs1
        have HD1 := Lib.hid hdk1
        clear hW1 hc0 hf0 AW0 hXa0 hXb0 hs0 hdk1
        have hH1 : Holds bC W1 blk off dk1 := by rw [hw1]; exact holds_putRow _ w blk off d dk1 AH.out hs1
        obtain ⟨G1, hG1⟩ : ∃ G : Nat → Int, ∀ t, G t = (dk1[t]!.toNat : Int) := ⟨_, fun _ => rfl⟩
        have hc1 : ∀ t, t < d.size → W1.cell? ⟨blk, off + t, none⟩ = some (.int .u8 (G1 t)) := fun t ht => by rw [hG1]; exact (hH1 t (by omega)).1
        have hf1 : ∀ t, t < d.size → W1.frozen? ⟨blk, off + t, none⟩ = false := fun t ht => (hH1 t (by omega)).2
        have AW1 := Lib.hid hw1
        clear hw1 hG1 hH1
        go_name_slot 14 x1 hx1
        have hxe1 : x1 = ((v / 100 % 100 * 2 : Nat) : Int) := by omega
        have hXa1 : ∀ w, (Instr.index 9 (.string Lib.smalls) (.int .u32 (x1 + 1))).run Try.prog w = .ok (.int .u8 ((sm (v / 100 % 100 * 2 + 1)).toNat : Int)) w := idx_smalls 9 Try.underlying9 .u32 _ _ (by omega) (by omega)
        have hXb1 : ∀ w, (Instr.index 9 (.string Lib.smalls) (.int .u32 x1)).run Try.prog w = .ok (.int .u8 ((sm (v / 100 % 100 * 2)).toNat : Int)) w := idx_smalls 9 Try.underlying9 .u32 _ _ (by omega) (by omega)
        have hlo1 : 0 ≤ x1 := by omega
        have hhi1 : x1 ≤ 198 := by omega
        clear hx1 hxe1
        go_region_o
        go_wp2
        go_name_world W2 hW2
        have hw2 : W2 = (putRow bC w blk off (put2 dk1 (2) (v / 100))).drewN (n + 1 + 1) := by rw [← hW2, AW1.out]; exact store2_world w blk off dk1 (n + 1) (2 + 1) (2) _ _ (by omega) (by omega)
        have hs2 : (put2 dk1 (2) (v / 100)).size = d.size := by rw [put2_size]; exact hs1
        generalize hdk2 : put2 dk1 (2) (v / 100) = dk2 at hw2 hs2
        have HD2 := Lib.hid hdk2
        clear hW2 hc1 hf1 AW1 hXa1 hXb1 hs1 hdk2
        have hH2 : Holds bC W2 blk off dk2 := by rw [hw2]; exact holds_putRow _ w blk off d dk2 AH.out hs2
        obtain ⟨G2, hG2⟩ : ∃ G : Nat → Int, ∀ t, G t = (dk2[t]!.toNat : Int) := ⟨_, fun _ => rfl⟩
        have hc2 : ∀ t, t < d.size → W2.cell? ⟨blk, off + t, none⟩ = some (.int .u8 (G2 t)) := fun t ht => by rw [hG2]; exact (hH2 t (by omega)).1
        have hf2 : ∀ t, t < d.size → W2.frozen? ⟨blk, off + t, none⟩ = false := fun t ht => (hH2 t (by omega)).2
        have AW2 := Lib.hid hw2
        clear hw2 hG2 hH2
        go_name_slot 16 x2 hx2
        have hxe2 : x2 = ((v / 100 / 100 % 100 * 2 : Nat) : Int) := by omega
        have hXa2 : ∀ w, (Instr.index 9 (.string Lib.smalls) (.int .u32 (x2 + 1))).run Try.prog w = .ok (.int .u8 ((sm (v / 100 / 100 % 100 * 2 + 1)).toNat : Int)) w := idx_smalls 9 Try.underlying9 .u32 _ _ (by omega) (by omega)
        have hXb2 : ∀ w, (Instr.index 9 (.string Lib.smalls) (.int .u32 x2)).run Try.prog w = .ok (.int .u8 ((sm (v / 100 / 100 % 100 * 2)).toNat : Int)) w := idx_smalls 9 Try.underlying9 .u32 _ _ (by omega) (by omega)
        have hlo2 : 0 ≤ x2 := by omega
        have hhi2 : x2 ≤ 198 := by omega
        clear hx2 hxe2
        go_region_o
        go_wp2
        go_end0
        refine ⟨rfl, n + 1 + 1 + 1, ?_⟩
        have hE : fmtF 6 v dk0 = put2 dk2 0 (v / 100 / 100) := by rw [← HD2.out, ← HD1.out]; rfl
        rw [← HI0.out.eq, hE, AW2.out]
        exact store2_world w blk off dk2 (n + 1 + 1) (0 + 1) 0 _ _ (by omega) (by omega)
      · -- nd = 7
        have hv7 : v < 100000000 := HI0.out.lt
        go_wp2
        go_name_slot 15 x0 hx0
        have hxe0 : x0 = ((v % 100 * 2 : Nat) : Int) := by omega
        have hXa0 : ∀ w, (Instr.index 9 (.string Lib.smalls) (.int .u32 (x0 + 1))).run Try.prog w = .ok (.int .u8 ((sm (v % 100 * 2 + 1)).toNat : Int)) w := idx_smalls 9 Try.underlying9 .u32 _ _ (by omega) (by omega)
        have hXb0 : ∀ w, (Instr.index 9 (.string Lib.smalls) (.int .u32 x0)).run Try.prog w = .ok (.int .u8 ((sm (v % 100 * 2)).toNat : Int)) w := idx_smalls 9 Try.underlying9 .u32 _ _ (by omega) (by omega)
        have hlo0 : 0 ≤ x0 := by omega
        have hhi0 : x0 ≤ 198 := by omega
        clear hx0 hxe0
        go_region_o
        go_wp2
        go_name_world W1 hW1
        have hw1 : W1 = (putRow bC w blk off (put2 dk0 (5) (v))).drewN (n + 1) := by rw [← hW1, AW0.out]; exact store2_world w blk off dk0 (n) (5 + 1) (5) _ _ (by omega) (by omega)
        have hs1 : (put2 dk0 (5) (v)).size = d.size := by rw [put2_size]; exact hs0
        generalize hdk1 : put2 dk0 (5) (v) = dk1 at hw1 hs1
        have HD1 := Lib.hid hdk1
        clear hW1 hc0 hf0 AW0 hXa0 hXb0 hs0 hdk1
        have hH1 : Holds bC W1 blk off dk1 := by rw [hw1]; exact holds_putRow _ w blk off d dk1 AH.out hs1
        obtain ⟨G1, hG1⟩ : ∃ G : Nat → Int, ∀ t, G t = (dk1[t]!.toNat : Int) := ⟨_, fun _ => rfl⟩
        have hc1 : ∀ t, t < d.size → W1.cell? ⟨blk, off + t, none⟩ = some (.int .u8 (G1 t)) := fun t ht => by rw [hG1]; exact (hH1 t (by omega)).1
        have hf1 : ∀ t, t < d.size → W1.frozen? ⟨blk, off + t, none⟩ = false := fun t ht => (hH1 t (by omega)).2
        have AW1 := Lib.hid hw1
        clear hw1 hG1 hH1
        go_name_slot 14 x1 hx1
        have hxe1 : x1 = ((v / 100 % 100 * 2 : Nat) : Int) := by omega
        have hXa1 : ∀ w, (Instr.index 9 (.string Lib.smalls) (.int .u32 (x1 + 1))).run Try.prog w = .ok (.int .u8 ((sm (v / 100 % 100 * 2 + 1)).toNat : Int)) w := idx_smalls 9 Try.underlying9 .u32 _ _ (by omega) (by omega)
        have hXb1 : ∀ w, (Instr.index 9 (.string Lib.smalls) (.int .u32 x1)).run Try.prog w = .ok (.int .u8 ((sm (v / 100 % 100 * 2)).toNat : Int)) w := idx_smalls 9 Try.underlying9 .u32 _ _ (by omega) (by omega)
        have hlo1 : 0 ≤ x1 := by omega
        have hhi1 : x1 ≤ 198 := by omega
        clear hx1 hxe1
        go_region_o
        go_wp2
        go_name_world W2 hW2
        have hw2 : W2 = (putRow bC w blk off (put2 dk1 (3) (v / 100))).drewN (n + 1 + 1) := by rw [← hW2, AW1.out]; exact store2_world w blk off dk1 (n + 1) (3 + 1) (3) _ _ (by omega) (by omega)
        have hs2 : (put2 dk1 (3) (v / 100)).size = d.size := by rw [put2_size]; exact hs1
        generalize hdk2 : put2 dk1 (3) (v / 100) = dk2 at hw2 hs2
        have HD2 := Lib.hid hdk2
        clear hW2 hc1 hf1 AW1 hXa1 hXb1 hs1 hdk2
        have hH2 : Holds bC W2 blk off dk2 := by rw [hw2]; exact holds_putRow _ w blk off d dk2 AH.out hs2
        obtain ⟨G2, hG2⟩ : ∃ G : Nat → Int, ∀ t, G t = (dk2[t]!.toNat : Int) := ⟨_, fun _ => rfl⟩
        have hc2 : ∀ t, t < d.size → W2.cell? ⟨blk, off + t, none⟩ = some (.int .u8 (G2 t)) := fun t ht => by rw [hG2]; exact (hH2 t (by omega)).1
        have hf2 : ∀ t, t < d.size → W2.frozen? ⟨blk, off + t, none⟩ = false := fun t ht => (hH2 t (by omega)).2
        have AW2 := Lib.hid hw2
        clear hw2 hG2 hH2
        go_name_slot 16 x2 hx2
        have hxe2 : x2 = ((v / 100 / 100 % 100 * 2 : Nat) : Int) := by omega
        have hXa2 : ∀ w, (Instr.index 9 (.string Lib.smalls) (.int .u32 (x2 + 1))).run Try.prog w = .ok (.int .u8 ((sm (v / 100 / 100 % 100 * 2 + 1)).toNat : Int)) w := idx_smalls 9 Try.underlying9 .u32 _ _ (by omega) (by omega)
        have hXb2 : ∀ w, (Instr.index 9 (.string Lib.smalls) (.int .u32 x2)).run Try.prog w = .ok (.int .u8 ((sm (v / 100 / 100 % 100 * 2)).toNat : Int)) w := idx_smalls 9 Try.underlying9 .u32 _ _ (by omega) (by omega)
        have hlo2 : 0 ≤ x2 := by omega
        have hhi2 : x2 ≤ 198 := by omega
        clear hx2 hxe2
        go_region_o
        go_wp2
        go_end0
        refine ⟨rfl, n + 1 + 1 + 1, ?_⟩
        have hE : fmtF 7 v dk0 = (put2 dk2 1 (v / 100 / 100)).setIfInBounds 0 (UInt8.ofNat (48 + (v / 100 / 100 / 100))) := by rw [← HD2.out, ← HD1.out]; rfl
        rw [← HI0.out.eq, hE, AW2.out]
        exact store21_world w blk off dk2 (n + 1 + 1) (1 + 1) 1 _ _ _ (v / 100 / 100 / 100) (by omega) (by omega) (by omega)
#print axioms fmt_any
end Go.Proofs.Ytbefcakakoaieaa

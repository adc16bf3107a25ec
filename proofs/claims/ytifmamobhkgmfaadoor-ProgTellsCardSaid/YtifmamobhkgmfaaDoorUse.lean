/- readBy, writtenBy, Reads and Writes tell the registers of an instruction. Conditions: the table lies in its variable; the cases lie where the instruction says. -/
import Derived.Test.YtifmamobhkgmfaaDoorRby
import Derived.Test.YtifmamobhkgmfaaDoorWby
namespace Go.Proofs.YtifmamobhkgmfaaDoor
open Go.RowKit
set_option linter.unusedVariables false

def rdT : List Nat := [0, 0, 2, 1, 0, 1, 1, 0, 0, 0, 3, 1, 1, 1, 1, 5, 0, 2, 2, 2, 1, 3, 2, 4, 4, 2, 3, 1, 1, 1, 1, 2, 1]
def wrT : List Nat := [0, 1, 1, 1, 0, 0, 0, 0, 1, 1, 0, 3, 0, 2, 2, 5, 1, 4, 4, 1, 2, 6, 1, 1, 1, 1, 0, 2, 2, 2, 3, 1, 2]
/-- What an instruction that may be reads, as a set. -/
def readM (e : In) : Nat :=
  match rdT.getD e.op.toNat 0 with
  | 1 => 2 ^ e.a.toNat
  | 2 => 2 ^ e.b.toNat
  | 3 => 2 ^ e.b.toNat ||| 2 ^ e.a.toNat
  | 4 => 2 ^ e.c.toNat ||| 2 ^ e.b.toNat
  | 5 => casM e.cs
  | _ => 0
/-- What it writes. -/
def writeM (e : In) : Nat :=
  match wrT.getD e.op.toNat 0 with
  | 1 => 2 ^ e.a.toNat
  | 2 => 2 ^ e.b.toNat
  | 3 => 2 ^ e.c.toNat ||| 2 ^ e.b.toNat
  | 4 => 2 ^ e.c.toNat ||| 2 ^ e.a.toNat
  | 5 => 2 ^ e.a.toNat ||| 2 ^ e.c.toNat ||| 2 ^ e.b.toNat
  | 6 => 2 ^ e.c.toNat
  | _ => 0
theorem may_parts {k : Nat} (h1 : 1 ≤ k) (h2 : k ≤ 32) {a b c : Int} {A : Option Addr} {n cap : Nat} {d : Bool} {cs : List Ca} (h : mayB 100 16 ⟨k, a, b, c, A, n, cap, d, cs⟩ = true) :
    ((row k).a = 1 → regB a = true) ∧ ((row k).b = 1 → regB b = true) ∧ ((row k).c = 1 → regB c = true) ∧ (k = 15 → cs.length ≤ 16 ∧ cs.all caB = true) := by
  rw [mayB_in 100 16 k h1 h2] at h
  simp only [Bool.and_eq_true] at h
  obtain ⟨f1, f2, f3, f4⟩ := h
  refine ⟨fun e => ?_, fun e => ?_, fun e => ?_, fun e => ?_⟩
  · rw [e, reg_fits] at f1; exact f1
  · rw [e, reg_fits] at f2; exact f2
  · rw [e, reg_fits] at f3; exact f3
  · subst e
    simpa [casB] using f4
theorem may_op {ins pr : Int} {e : In} (h : mayB ins pr e = true) : 1 ≤ e.op ∧ e.op ≤ 32 := by
  by_cases h1 : 1 ≤ e.op ∧ e.op ≤ 32
  · exact h1
  · rw [mayB_out _ _ _ h1] at h; cases h

theorem readBy_any (e : In) (h : mayB 100 16 e = true) (w : World) (hR : Hid (RdC w e.A e.n e.cs)) : Calls Tryd.prog 27 #[vI e] w (RegR (readM e) w) := by
  have ho := may_op h
  obtain ⟨op, a, b, c, A, n, cap, d, cs⟩ := e
  simp only at ho
  obtain ⟨k, rfl⟩ := Int.eq_ofNat_of_zero_le (show 0 ≤ op by omega)
  obtain ⟨p1, p2, p3, p4⟩ := may_parts (by omega) (by omega) h
  have hk : k < 33 := by omega
  have hk0 : 0 < k := by omega
  clear ho h
  match k, hk, hk0, p1, p2, p3, p4 with
  | 1, _, _, p1, p2, p3, p4 =>
    exact rb1 a b c A n cap d cs w
  | 2, _, _, p1, p2, p3, p4 =>
    obtain ⟨y, hy, rfl⟩ := reg_nat (p2 rfl)
    exact rb2 a y hy c A n cap d cs w
  | 3, _, _, p1, p2, p3, p4 =>
    obtain ⟨x, hx, rfl⟩ := reg_nat (p1 rfl)
    exact rb3 x hx b c A n cap d cs w
  | 4, _, _, p1, p2, p3, p4 =>
    exact rb4 a b c A n cap d cs w
  | 5, _, _, p1, p2, p3, p4 =>
    obtain ⟨x, hx, rfl⟩ := reg_nat (p1 rfl)
    exact rb5 x hx b c A n cap d cs w
  | 6, _, _, p1, p2, p3, p4 =>
    obtain ⟨x, hx, rfl⟩ := reg_nat (p1 rfl)
    exact rb6 x hx b c A n cap d cs w
  | 7, _, _, p1, p2, p3, p4 =>
    exact rb7 a b c A n cap d cs w
  | 8, _, _, p1, p2, p3, p4 =>
    exact rb8 a b c A n cap d cs w
  | 9, _, _, p1, p2, p3, p4 =>
    exact rb9 a b c A n cap d cs w
  | 10, _, _, p1, p2, p3, p4 =>
    obtain ⟨x, hx, rfl⟩ := reg_nat (p1 rfl)
    obtain ⟨y, hy, rfl⟩ := reg_nat (p2 rfl)
    exact rb10 x hx y hy c A n cap d cs w
  | 11, _, _, p1, p2, p3, p4 =>
    obtain ⟨x, hx, rfl⟩ := reg_nat (p1 rfl)
    exact rb11 x hx b c A n cap d cs w
  | 12, _, _, p1, p2, p3, p4 =>
    obtain ⟨x, hx, rfl⟩ := reg_nat (p1 rfl)
    exact rb12 x hx b c A n cap d cs w
  | 13, _, _, p1, p2, p3, p4 =>
    obtain ⟨x, hx, rfl⟩ := reg_nat (p1 rfl)
    exact rb13 x hx b c A n cap d cs w
  | 14, _, _, p1, p2, p3, p4 =>
    obtain ⟨x, hx, rfl⟩ := reg_nat (p1 rfl)
    exact rb14 x hx b c A n cap d cs w
  | 15, _, _, p1, p2, p3, p4 => exact rb15 a b c A n cap d cs w (by have h8 : cs.length = n := hR.out.1; have h9 := (p4 rfl).1; omega) hR (p4 rfl).2
  | 16, _, _, p1, p2, p3, p4 =>
    exact rb16 a b c A n cap d cs w
  | 17, _, _, p1, p2, p3, p4 =>
    obtain ⟨y, hy, rfl⟩ := reg_nat (p2 rfl)
    exact rb17 a y hy c A n cap d cs w
  | 18, _, _, p1, p2, p3, p4 =>
    obtain ⟨y, hy, rfl⟩ := reg_nat (p2 rfl)
    exact rb18 a y hy c A n cap d cs w
  | 19, _, _, p1, p2, p3, p4 =>
    obtain ⟨y, hy, rfl⟩ := reg_nat (p2 rfl)
    exact rb19 a y hy c A n cap d cs w
  | 20, _, _, p1, p2, p3, p4 =>
    obtain ⟨x, hx, rfl⟩ := reg_nat (p1 rfl)
    exact rb20 x hx b c A n cap d cs w
  | 21, _, _, p1, p2, p3, p4 =>
    obtain ⟨x, hx, rfl⟩ := reg_nat (p1 rfl)
    obtain ⟨y, hy, rfl⟩ := reg_nat (p2 rfl)
    exact rb21 x hx y hy c A n cap d cs w
  | 22, _, _, p1, p2, p3, p4 =>
    obtain ⟨y, hy, rfl⟩ := reg_nat (p2 rfl)
    exact rb22 a y hy c A n cap d cs w
  | 23, _, _, p1, p2, p3, p4 =>
    obtain ⟨y, hy, rfl⟩ := reg_nat (p2 rfl)
    obtain ⟨z, hz, rfl⟩ := reg_nat (p3 rfl)
    exact rb23 a y hy z hz A n cap d cs w
  | 24, _, _, p1, p2, p3, p4 =>
    obtain ⟨y, hy, rfl⟩ := reg_nat (p2 rfl)
    obtain ⟨z, hz, rfl⟩ := reg_nat (p3 rfl)
    exact rb24 a y hy z hz A n cap d cs w
  | 25, _, _, p1, p2, p3, p4 =>
    obtain ⟨y, hy, rfl⟩ := reg_nat (p2 rfl)
    exact rb25 a y hy c A n cap d cs w
  | 26, _, _, p1, p2, p3, p4 =>
    obtain ⟨x, hx, rfl⟩ := reg_nat (p1 rfl)
    obtain ⟨y, hy, rfl⟩ := reg_nat (p2 rfl)
    exact rb26 x hx y hy c A n cap d cs w
  | 27, _, _, p1, p2, p3, p4 =>
    obtain ⟨x, hx, rfl⟩ := reg_nat (p1 rfl)
    exact rb27 x hx b c A n cap d cs w
  | 28, _, _, p1, p2, p3, p4 =>
    obtain ⟨x, hx, rfl⟩ := reg_nat (p1 rfl)
    exact rb28 x hx b c A n cap d cs w
  | 29, _, _, p1, p2, p3, p4 =>
    obtain ⟨x, hx, rfl⟩ := reg_nat (p1 rfl)
    exact rb29 x hx b c A n cap d cs w
  | 30, _, _, p1, p2, p3, p4 =>
    obtain ⟨x, hx, rfl⟩ := reg_nat (p1 rfl)
    exact rb30 x hx b c A n cap d cs w
  | 31, _, _, p1, p2, p3, p4 =>
    obtain ⟨y, hy, rfl⟩ := reg_nat (p2 rfl)
    exact rb31 a y hy c A n cap d cs w
  | 32, _, _, p1, p2, p3, p4 =>
    obtain ⟨x, hx, rfl⟩ := reg_nat (p1 rfl)
    exact rb32 x hx b c A n cap d cs w
  | k + 33, hk, _, _, _, _, _ => exact absurd hk (by omega)
theorem writtenBy_any (e : In) (h : mayB 100 16 e = true) (w : World) : Calls Tryd.prog 30 #[vI e] w (RegR (writeM e) w) := by
  have ho := may_op h
  obtain ⟨op, a, b, c, A, n, cap, d, cs⟩ := e
  simp only at ho
  obtain ⟨k, rfl⟩ := Int.eq_ofNat_of_zero_le (show 0 ≤ op by omega)
  obtain ⟨p1, p2, p3, p4⟩ := may_parts (by omega) (by omega) h
  have hk : k < 33 := by omega
  have hk0 : 0 < k := by omega
  clear ho h
  match k, hk, hk0, p1, p2, p3, p4 with
  | 1, _, _, p1, p2, p3, p4 =>
    obtain ⟨x, hx, rfl⟩ := reg_nat (p1 rfl)
    exact wb1 x hx b c A n cap d cs w
  | 2, _, _, p1, p2, p3, p4 =>
    obtain ⟨x, hx, rfl⟩ := reg_nat (p1 rfl)
    exact wb2 x hx b c A n cap d cs w
  | 3, _, _, p1, p2, p3, p4 =>
    obtain ⟨x, hx, rfl⟩ := reg_nat (p1 rfl)
    exact wb3 x hx b c A n cap d cs w
  | 4, _, _, p1, p2, p3, p4 =>
    exact wb4 a b c A n cap d cs w
  | 5, _, _, p1, p2, p3, p4 =>
    exact wb5 a b c A n cap d cs w
  | 6, _, _, p1, p2, p3, p4 =>
    exact wb6 a b c A n cap d cs w
  | 7, _, _, p1, p2, p3, p4 =>
    exact wb7 a b c A n cap d cs w
  | 8, _, _, p1, p2, p3, p4 =>
    obtain ⟨x, hx, rfl⟩ := reg_nat (p1 rfl)
    exact wb8 x hx b c A n cap d cs w
  | 9, _, _, p1, p2, p3, p4 =>
    obtain ⟨x, hx, rfl⟩ := reg_nat (p1 rfl)
    exact wb9 x hx b c A n cap d cs w
  | 10, _, _, p1, p2, p3, p4 =>
    exact wb10 a b c A n cap d cs w
  | 11, _, _, p1, p2, p3, p4 =>
    obtain ⟨y, hy, rfl⟩ := reg_nat (p2 rfl)
    obtain ⟨z, hz, rfl⟩ := reg_nat (p3 rfl)
    exact wb11 a y hy z hz A n cap d cs w
  | 12, _, _, p1, p2, p3, p4 =>
    exact wb12 a b c A n cap d cs w
  | 13, _, _, p1, p2, p3, p4 =>
    obtain ⟨y, hy, rfl⟩ := reg_nat (p2 rfl)
    exact wb13 a y hy c A n cap d cs w
  | 14, _, _, p1, p2, p3, p4 =>
    obtain ⟨y, hy, rfl⟩ := reg_nat (p2 rfl)
    exact wb14 a y hy c A n cap d cs w
  | 15, _, _, p1, p2, p3, p4 =>
    obtain ⟨x, hx, rfl⟩ := reg_nat (p1 rfl)
    obtain ⟨y, hy, rfl⟩ := reg_nat (p2 rfl)
    obtain ⟨z, hz, rfl⟩ := reg_nat (p3 rfl)
    exact wb15 x hx y hy z hz A n cap d cs w
  | 16, _, _, p1, p2, p3, p4 =>
    obtain ⟨x, hx, rfl⟩ := reg_nat (p1 rfl)
    exact wb16 x hx b c A n cap d cs w
  | 17, _, _, p1, p2, p3, p4 =>
    obtain ⟨x, hx, rfl⟩ := reg_nat (p1 rfl)
    obtain ⟨z, hz, rfl⟩ := reg_nat (p3 rfl)
    exact wb17 x hx b z hz A n cap d cs w
  | 18, _, _, p1, p2, p3, p4 =>
    obtain ⟨x, hx, rfl⟩ := reg_nat (p1 rfl)
    obtain ⟨z, hz, rfl⟩ := reg_nat (p3 rfl)
    exact wb18 x hx b z hz A n cap d cs w
  | 19, _, _, p1, p2, p3, p4 =>
    obtain ⟨x, hx, rfl⟩ := reg_nat (p1 rfl)
    exact wb19 x hx b c A n cap d cs w
  | 20, _, _, p1, p2, p3, p4 =>
    obtain ⟨y, hy, rfl⟩ := reg_nat (p2 rfl)
    exact wb20 a y hy c A n cap d cs w
  | 21, _, _, p1, p2, p3, p4 =>
    obtain ⟨z, hz, rfl⟩ := reg_nat (p3 rfl)
    exact wb21 a b z hz A n cap d cs w
  | 22, _, _, p1, p2, p3, p4 =>
    obtain ⟨x, hx, rfl⟩ := reg_nat (p1 rfl)
    exact wb22 x hx b c A n cap d cs w
  | 23, _, _, p1, p2, p3, p4 =>
    obtain ⟨x, hx, rfl⟩ := reg_nat (p1 rfl)
    exact wb23 x hx b c A n cap d cs w
  | 24, _, _, p1, p2, p3, p4 =>
    obtain ⟨x, hx, rfl⟩ := reg_nat (p1 rfl)
    exact wb24 x hx b c A n cap d cs w
  | 25, _, _, p1, p2, p3, p4 =>
    obtain ⟨x, hx, rfl⟩ := reg_nat (p1 rfl)
    exact wb25 x hx b c A n cap d cs w
  | 26, _, _, p1, p2, p3, p4 =>
    exact wb26 a b c A n cap d cs w
  | 27, _, _, p1, p2, p3, p4 =>
    obtain ⟨y, hy, rfl⟩ := reg_nat (p2 rfl)
    exact wb27 a y hy c A n cap d cs w
  | 28, _, _, p1, p2, p3, p4 =>
    obtain ⟨y, hy, rfl⟩ := reg_nat (p2 rfl)
    exact wb28 a y hy c A n cap d cs w
  | 29, _, _, p1, p2, p3, p4 =>
    obtain ⟨y, hy, rfl⟩ := reg_nat (p2 rfl)
    exact wb29 a y hy c A n cap d cs w
  | 30, _, _, p1, p2, p3, p4 =>
    obtain ⟨y, hy, rfl⟩ := reg_nat (p2 rfl)
    obtain ⟨z, hz, rfl⟩ := reg_nat (p3 rfl)
    exact wb30 a y hy z hz A n cap d cs w
  | 31, _, _, p1, p2, p3, p4 =>
    obtain ⟨x, hx, rfl⟩ := reg_nat (p1 rfl)
    exact wb31 x hx b c A n cap d cs w
  | 32, _, _, p1, p2, p3, p4 =>
    obtain ⟨y, hy, rfl⟩ := reg_nat (p2 rfl)
    exact wb32 a y hy c A n cap d cs w
  | k + 33, hk, _, _, _, _, _ => exact absurd hk (by omega)

theorem pw_lt {n : Int} (h : regB n = true) : 2 ^ n.toNat < 256 := by
  obtain ⟨k, hk, rfl⟩ := reg_nat h
  exact (pow8 k hk).2
theorem row_tab : ∀ k : Fin 33, (rdT.getD k.val 0 = 1 → (row k.val).a = 1) ∧ (rdT.getD k.val 0 = 2 → (row k.val).b = 1) ∧ (rdT.getD k.val 0 = 3 → (row k.val).b = 1 ∧ (row k.val).a = 1) ∧ (rdT.getD k.val 0 = 4 → (row k.val).c = 1 ∧ (row k.val).b = 1) ∧ (rdT.getD k.val 0 = 5 → k.val = 15) := by decide +kernel
theorem row_wtab : ∀ k : Fin 33, (wrT.getD k.val 0 = 1 → (row k.val).a = 1) ∧ (wrT.getD k.val 0 = 2 → (row k.val).b = 1) ∧ (wrT.getD k.val 0 = 3 → (row k.val).c = 1 ∧ (row k.val).b = 1) ∧ (wrT.getD k.val 0 = 4 → (row k.val).c = 1 ∧ (row k.val).a = 1) ∧ (wrT.getD k.val 0 = 5 → (row k.val).a = 1 ∧ (row k.val).c = 1 ∧ (row k.val).b = 1) ∧ (wrT.getD k.val 0 = 6 → (row k.val).c = 1) := by decide +kernel
theorem readM_lt {e : In} (h : mayB 100 16 e = true) : readM e < 256 := by
  have ho := may_op h
  obtain ⟨op, a, b, c, A, n, cap, d, cs⟩ := e
  simp only at ho
  obtain ⟨k, rfl⟩ := Int.eq_ofNat_of_zero_le (show 0 ≤ op by omega)
  obtain ⟨p1, p2, p3, p4⟩ := may_parts (by omega) (by omega) h
  obtain ⟨q1, q2, q3, q4, q5⟩ := row_tab ⟨k, by omega⟩
  simp only at q1 q2 q3 q4 q5
  unfold readM
  simp only [Int.toNat_natCast]
  generalize rdT.getD k 0 = z at *
  split
  · exact pw_lt (p1 (q1 rfl))
  · exact pw_lt (p2 (q2 rfl))
  · exact or8 (pw_lt (p2 (q3 rfl).1)) (pw_lt (p1 (q3 rfl).2))
  · exact or8 (pw_lt (p3 (q4 rfl).1)) (pw_lt (p2 (q4 rfl).2))
  · exact casM_lt _ 0 (by omega) (p4 (q5 rfl)).2
  · omega
theorem writeM_lt {e : In} (h : mayB 100 16 e = true) : writeM e < 256 := by
  have ho := may_op h
  obtain ⟨op, a, b, c, A, n, cap, d, cs⟩ := e
  simp only at ho
  obtain ⟨k, rfl⟩ := Int.eq_ofNat_of_zero_le (show 0 ≤ op by omega)
  obtain ⟨p1, p2, p3, p4⟩ := may_parts (by omega) (by omega) h
  obtain ⟨q1, q2, q3, q4, q5, q6⟩ := row_wtab ⟨k, by omega⟩
  simp only at q1 q2 q3 q4 q5 q6
  unfold writeM
  simp only [Int.toNat_natCast]
  generalize wrT.getD k 0 = z at *
  split
  · exact pw_lt (p1 (q1 rfl))
  · exact pw_lt (p2 (q2 rfl))
  · exact or8 (pw_lt (p3 (q3 rfl).1)) (pw_lt (p2 (q3 rfl).2))
  · exact or8 (pw_lt (p3 (q4 rfl).1)) (pw_lt (p1 (q4 rfl).2))
  · exact or8 (or8 (pw_lt (p1 (q5 rfl).1)) (pw_lt (p3 (q5 rfl).2.1))) (pw_lt (p2 (q5 rfl).2.2))
  · exact pw_lt (p3 (q6 rfl))
  · omega

def readL (e : In) : List Int := if mayB 100 16 e = true then risP (readM e).testBit 8 else []
def writeL (e : In) : List Int := if mayB 100 16 e = true then risP (writeM e).testBit 8 else []
theorem alone_yes {e : In} (h : mayB 100 16 e = true) (w : World) (hF : Hid (FT w)) (hR : Hid (RdC w e.A e.n e.cs)) : Calls Tryd.prog 25 #[vI e] w (BoolR true w) := by
  have h1 := alone_any e w hF hR
  rwa [h] at h1
theorem alone_no {e : In} (h : mayB 100 16 e = false) (w : World) (hF : Hid (FT w)) (hR : Hid (RdC w e.A e.n e.cs)) : Calls Tryd.prog 25 #[vI e] w (BoolR false w) := by
  have h1 := alone_any e w hF hR
  rwa [h] at h1
theorem ListR.later {xs : List Int} {w w1 : World} {e : Ending} {w' : World} (hb : Below w.heap.size w w1) (h : ListR xs w1 e w') : ListR xs w e w' := ⟨hb.trans (h.1.mono hb.size), h.2⟩
theorem ListR.none (w w' : World) (hb : Below w.heap.size w w') : ListR [] w (.returned (.slice .none 0 0)) w' := ⟨hb, .none, 0, by simp, by omega, rfl, RdN.nil _ _⟩
abbrev boxI (w : World) (op a b c : Int) (A : Option Addr) (n cap : Nat) (d : Bool) : World := w.alloc (.cells #[.int .i64 op, .int .i64 a, .int .i64 b, .int .i64 c, .slice A n cap, .bool d] 36)
theorem cells_of_box (w : World) (op a b c : Int) (A : Option Addr) (n cap : Nat) (d : Bool) : ∀ w1, Below (boxI w op a b c A n cap d).heap.size (boxI w op a b c A n cap d) w1 →
    w1.cell? ⟨w.heap.size, 0, none⟩ = some (.int .i64 op) ∧ w1.cell? ⟨w.heap.size, 1, none⟩ = some (.int .i64 a) ∧ w1.cell? ⟨w.heap.size, 2, none⟩ = some (.int .i64 b) ∧ w1.cell? ⟨w.heap.size, 3, none⟩ = some (.int .i64 c) ∧ w1.cell? ⟨w.heap.size, 4, none⟩ = some (.slice A n cap) ∧ w1.cell? ⟨w.heap.size, 5, none⟩ = some (.bool d) := by
  intro w1 hb
  have h : ∀ j, w1.cell? ⟨w.heap.size, j, none⟩ = (#[Value.int .i64 op, .int .i64 a, .int .i64 b, .int .i64 c, .slice A n cap, .bool d])[j]? := fun j => by
    rw [cell_blk (hb.block _ (by simp)) j, World.cell?_alloc_at _ _ _ _ rfl]
  exact ⟨h 0, h 1, h 2, h 3, h 4, h 5⟩
set_option maxHeartbeats 1000000 in
theorem Reads_any (e : In) (w : World) (hF : Hid (FT w)) (hR : Hid (RdC w e.A e.n e.cs)) : Calls Tryd.prog 17 #[vI e] w (ListR (readL e) w) := by
  by_cases h : mayB 100 16 e = true
  · have HL : Hid (readL e = risP (readM e).testBit 8) := if_pos h
    have HM := Lib.hid (readM_lt h)
    have HH := Lib.hid h
    clear h
    obtain ⟨op, a, b, c, A, n, cap, d, cs⟩ := e
    have HB0 := Lib.hid (below_al w (.cells #[.int .i64 op, .int .i64 a, .int .i64 b, .int .i64 c, .slice A n cap, .bool d] 36))
    have HX := Lib.hid (cells_of_box w op a b c A n cap d)
    have HK := Lib.hid (alone_yes HH.out _ (hF.out.later HB0.out) (hR.out.later HB0.out))
    go_enter Tryd.func17, Tryd.ntmps17
    go_wp2_with fail
    refine HK.out.mono ?_
    rintro e w1 ⟨rfl, hb⟩
    obtain ⟨i0, i1, i2, i3, i4, i5⟩ := HX.out w1 hb
    have hs : w.heap.size < w1.heap.size := by have := hb.size; simp at this; omega
    have HB1 := Lib.hid (HB0.out.trans (hb.mono HB0.out.size))
    clear hb HK HX
    go_wp2_with fail
    refine (readBy_any ⟨op, a, b, c, A, n, cap, d, cs⟩ HH.out w1 (hR.out.later HB1.out)).mono ?_
    rintro e w2 ⟨rfl, hb⟩
    have HB2 := Lib.hid (HB1.out.trans (hb.mono HB1.out.size))
    clear hb i0 i1 i2 i3 i4 i5 hs
    generalize readM ⟨op, a, b, c, A, n, cap, d, cs⟩ = m at *
    go_wp2_with fail
    refine (rising_any m HM.out w2).mono ?_
    rintro e w3 ⟨hb, B, cp, h1, h2, rfl, h3⟩
    have HR3 : Hid (ListR (risP m.testBit 8) w (.returned (.slice B (risP m.testBit 8).length cp)) w3) := ⟨HB2.out.trans (hb.mono HB2.out.size), B, cp, h1, h2, rfl, h3⟩
    clear hb h1 h2 h3
    generalize risP m.testBit 8 = xs at *
    generalize xs.length = N at *
    go_wp2_with fail
    go_ret
    rw [HL.out]
    exact HR3.out
  · have HL : Hid (readL e = []) := if_neg h
    have HH := Lib.hid (eq_false_of_ne_true h)
    clear h
    obtain ⟨op, a, b, c, A, n, cap, d, cs⟩ := e
    have HB0 := Lib.hid (below_al w (.cells #[.int .i64 op, .int .i64 a, .int .i64 b, .int .i64 c, .slice A n cap, .bool d] 36))
    have HK := Lib.hid (alone_no HH.out _ (hF.out.later HB0.out) (hR.out.later HB0.out))
    go_enter Tryd.func17, Tryd.ntmps17
    go_wp2_with fail
    refine HK.out.mono ?_
    rintro e w1 ⟨rfl, hb⟩
    have HB1 := Lib.hid (HB0.out.trans (hb.mono HB0.out.size))
    clear hb HK
    go_wp2_with fail
    go_ret
    rw [HL.out]
    exact ListR.none w w1 HB1.out
set_option maxHeartbeats 1000000 in
theorem Writes_any (e : In) (w : World) (hF : Hid (FT w)) (hR : Hid (RdC w e.A e.n e.cs)) : Calls Tryd.prog 19 #[vI e] w (ListR (writeL e) w) := by
  by_cases h : mayB 100 16 e = true
  · have HL : Hid (writeL e = risP (writeM e).testBit 8) := if_pos h
    have HM := Lib.hid (writeM_lt h)
    have HH := Lib.hid h
    clear h
    obtain ⟨op, a, b, c, A, n, cap, d, cs⟩ := e
    have HB0 := Lib.hid (below_al w (.cells #[.int .i64 op, .int .i64 a, .int .i64 b, .int .i64 c, .slice A n cap, .bool d] 36))
    have HX := Lib.hid (cells_of_box w op a b c A n cap d)
    have HK := Lib.hid (alone_yes HH.out _ (hF.out.later HB0.out) (hR.out.later HB0.out))
    go_enter Tryd.func19, Tryd.ntmps19
    go_wp2_with fail
    refine HK.out.mono ?_
    rintro e w1 ⟨rfl, hb⟩
    obtain ⟨i0, i1, i2, i3, i4, i5⟩ := HX.out w1 hb
    have hs : w.heap.size < w1.heap.size := by have := hb.size; simp at this; omega
    have HB1 := Lib.hid (HB0.out.trans (hb.mono HB0.out.size))
    clear hb HK HX
    go_wp2_with fail
    refine (writtenBy_any ⟨op, a, b, c, A, n, cap, d, cs⟩ HH.out w1).mono ?_
    rintro e w2 ⟨rfl, hb⟩
    have HB2 := Lib.hid (HB1.out.trans (hb.mono HB1.out.size))
    clear hb i0 i1 i2 i3 i4 i5 hs
    generalize writeM ⟨op, a, b, c, A, n, cap, d, cs⟩ = m at *
    go_wp2_with fail
    refine (rising_any m HM.out w2).mono ?_
    rintro e w3 ⟨hb, B, cp, h1, h2, rfl, h3⟩
    have HR3 : Hid (ListR (risP m.testBit 8) w (.returned (.slice B (risP m.testBit 8).length cp)) w3) := ⟨HB2.out.trans (hb.mono HB2.out.size), B, cp, h1, h2, rfl, h3⟩
    clear hb h1 h2 h3
    generalize risP m.testBit 8 = xs at *
    generalize xs.length = N at *
    go_wp2_with fail
    go_ret
    rw [HL.out]
    exact HR3.out
  · have HL : Hid (writeL e = []) := if_neg h
    have HH := Lib.hid (eq_false_of_ne_true h)
    clear h
    obtain ⟨op, a, b, c, A, n, cap, d, cs⟩ := e
    have HB0 := Lib.hid (below_al w (.cells #[.int .i64 op, .int .i64 a, .int .i64 b, .int .i64 c, .slice A n cap, .bool d] 36))
    have HK := Lib.hid (alone_no HH.out _ (hF.out.later HB0.out) (hR.out.later HB0.out))
    go_enter Tryd.func19, Tryd.ntmps19
    go_wp2_with fail
    refine HK.out.mono ?_
    rintro e w1 ⟨rfl, hb⟩
    have HB1 := Lib.hid (HB0.out.trans (hb.mono HB0.out.size))
    clear hb HK
    go_wp2_with fail
    go_ret
    rw [HL.out]
    exact ListR.none w w1 HB1.out
end Go.Proofs.YtifmamobhkgmfaaDoor

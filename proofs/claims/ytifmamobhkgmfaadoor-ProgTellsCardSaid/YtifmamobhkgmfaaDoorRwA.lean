/- Registers marked in an array, and what is marked of an instruction: mathematics and memory. No condition. -/
import Derived.Test.YtifmamobhkgmfaaDoorOne
import Derived.Test.YtifmamobhkgmfaaDoorRsr
namespace Go.Proofs.YtifmamobhkgmfaaDoor
open Go.RowKit
set_option linter.unusedVariables false

def pR (code : Int) : Bool := decide (code = 1) || decide (code = 6)
def pW (code : Int) : Bool := decide (code = 2) || decide (code = 6)
/-- What is marked behind the first m fields. -/
def mk (P : Int → Bool) (f x : Rf) : Nat → Nat → Bool
  | 0, _ => false
  | m + 1, j => mk P f x m j || (P (rfAt f m) && decide ((j : Int) = rfAt x m))
theorem mk3 (P : Int → Bool) (f x : Rf) (j : Nat) : mk P f x 3 j = ((P f.a && decide ((j : Int) = x.a)) || (P f.b && decide ((j : Int) = x.b)) || (P f.c && decide ((j : Int) = x.c))) := by
  simp [mk, rfAt]
def csg (cs : List Ca) (j : Nat) : Bool := cs.any fun c => decide ((j : Int) = c.ch) || (c.s && decide ((j : Int) = c.v))
theorem csg_next {cs : List Ca} {x : Ca} {m : Nat} (h : cs.take (m + 1) = cs.take m ++ [x]) (j : Nat) : csg (cs.take (m + 1)) j = (csg (cs.take m) j || (decide ((j : Int) = x.ch) || (x.s && decide ((j : Int) = x.v)))) := by
  unfold csg; rw [h, List.any_append]; simp
theorem tb {n : Int} (h : regB n = true) (j : Nat) : (2 ^ n.toNat).testBit j = decide ((j : Int) = n) := by
  obtain ⟨k, _, rfl⟩ := reg_nat h
  rw [Int.toNat_natCast, Nat.testBit_two_pow]
  congr 1; simp; omega
theorem casM_bit : ∀ (cs : List Ca) (m : Nat), cs.all caB = true → ∀ j, (cs.foldl caM m).testBit j = (m.testBit j || csg cs j)
  | [], m, _, j => by simp [csg]
  | c :: l, m, h, j => by
    simp only [List.all_cons, Bool.and_eq_true] at h
    rw [List.foldl_cons, casM_bit l (caM m c) h.2 j]
    have h1 := h.1
    unfold caB at h1
    simp only [Bool.and_eq_true] at h1
    have e : (caM m c).testBit j = (m.testBit j || (decide ((j : Int) = c.ch) || (c.s && decide ((j : Int) = c.v)))) := by
      unfold caM
      cases hs : c.s with
      | true =>
        rw [hs] at h1
        simp only [if_true] at h1 ⊢
        rw [Nat.testBit_or, Nat.testBit_or, tb h1.1, tb h1.2]
        simp [Bool.or_assoc]
      | false =>
        simp only [Bool.false_eq_true, if_false]
        rw [Nat.testBit_or, tb h1.1]
        simp
    rw [e]
    unfold csg
    rw [List.any_cons]
    simp [Bool.or_assoc]
theorem csg_nil (j : Nat) : csg [] j = false := rfl
set_option maxHeartbeats 1000000 in
theorem read_eq (k : Nat) (h1 : 1 ≤ k) (h2 : k ≤ 32) (a b c : Int) (A : Option Addr) (n cap : Nat) (d : Bool) (cs : List Ca) (h : mayB 100 16 ⟨k, a, b, c, A, n, cap, d, cs⟩ = true) (j : Nat) :
    (readM ⟨k, a, b, c, A, n, cap, d, cs⟩).testBit j = (mk pR (rf k) ⟨a, b, c⟩ 3 j || csg cs j) := by
  obtain ⟨p1, p2, p3, p4⟩ := may_parts h1 h2 h
  have hcs : k ≠ 15 → cs = [] := fun hk => by
    rw [may_ref 100 k h1 h2] at h
    simp only [Bool.and_eq_true] at h
    have h9 := h.2
    unfold casB at h9
    rw [if_neg (by show ¬ (k : Int) = 15; omega)] at h9
    simp only [Bool.and_eq_true, decide_eq_true_eq] at h9
    exact List.length_eq_zero_iff.1 h9.1
  have hk : k < 33 := by omega
  have hk0 : 0 < k := by omega
  clear h h1 h2
  rw [mk3]
  match k, hk, hk0, p1, p2, p3, p4, hcs with
  | 1, _, _, p1, p2, p3, _, hcs =>
    rw [hcs (by omega), csg_nil]
    show (0 : Nat).testBit j = ((pR (rf 1).a && _) || (pR (rf 1).b && _) || (pR (rf 1).c && _) || false)
    rw [Nat.zero_testBit, show pR (rf 1).a = false from rfl, show pR (rf 1).b = false from rfl, show pR (rf 1).c = false from rfl]
    simp
  | 2, _, _, p1, p2, p3, _, hcs =>
    rw [hcs (by omega), csg_nil]
    show (2 ^ b.toNat : Nat).testBit j = ((pR (rf 2).a && _) || (pR (rf 2).b && _) || (pR (rf 2).c && _) || false)
    rw [tb (p2 rfl) j, show pR (rf 2).a = false from rfl, show pR (rf 2).b = true from rfl, show pR (rf 2).c = false from rfl]
    simp
  | 3, _, _, p1, p2, p3, _, hcs =>
    rw [hcs (by omega), csg_nil]
    show (2 ^ a.toNat : Nat).testBit j = ((pR (rf 3).a && _) || (pR (rf 3).b && _) || (pR (rf 3).c && _) || false)
    rw [tb (p1 rfl) j, show pR (rf 3).a = true from rfl, show pR (rf 3).b = false from rfl, show pR (rf 3).c = false from rfl]
    simp
  | 4, _, _, p1, p2, p3, _, hcs =>
    rw [hcs (by omega), csg_nil]
    show (0 : Nat).testBit j = ((pR (rf 4).a && _) || (pR (rf 4).b && _) || (pR (rf 4).c && _) || false)
    rw [Nat.zero_testBit, show pR (rf 4).a = false from rfl, show pR (rf 4).b = false from rfl, show pR (rf 4).c = false from rfl]
    simp
  | 5, _, _, p1, p2, p3, _, hcs =>
    rw [hcs (by omega), csg_nil]
    show (2 ^ a.toNat : Nat).testBit j = ((pR (rf 5).a && _) || (pR (rf 5).b && _) || (pR (rf 5).c && _) || false)
    rw [tb (p1 rfl) j, show pR (rf 5).a = true from rfl, show pR (rf 5).b = false from rfl, show pR (rf 5).c = false from rfl]
    simp
  | 6, _, _, p1, p2, p3, _, hcs =>
    rw [hcs (by omega), csg_nil]
    show (2 ^ a.toNat : Nat).testBit j = ((pR (rf 6).a && _) || (pR (rf 6).b && _) || (pR (rf 6).c && _) || false)
    rw [tb (p1 rfl) j, show pR (rf 6).a = true from rfl, show pR (rf 6).b = false from rfl, show pR (rf 6).c = false from rfl]
    simp
  | 7, _, _, p1, p2, p3, _, hcs =>
    rw [hcs (by omega), csg_nil]
    show (0 : Nat).testBit j = ((pR (rf 7).a && _) || (pR (rf 7).b && _) || (pR (rf 7).c && _) || false)
    rw [Nat.zero_testBit, show pR (rf 7).a = false from rfl, show pR (rf 7).b = false from rfl, show pR (rf 7).c = false from rfl]
    simp
  | 8, _, _, p1, p2, p3, _, hcs =>
    rw [hcs (by omega), csg_nil]
    show (0 : Nat).testBit j = ((pR (rf 8).a && _) || (pR (rf 8).b && _) || (pR (rf 8).c && _) || false)
    rw [Nat.zero_testBit, show pR (rf 8).a = false from rfl, show pR (rf 8).b = false from rfl, show pR (rf 8).c = false from rfl]
    simp
  | 9, _, _, p1, p2, p3, _, hcs =>
    rw [hcs (by omega), csg_nil]
    show (0 : Nat).testBit j = ((pR (rf 9).a && _) || (pR (rf 9).b && _) || (pR (rf 9).c && _) || false)
    rw [Nat.zero_testBit, show pR (rf 9).a = false from rfl, show pR (rf 9).b = false from rfl, show pR (rf 9).c = false from rfl]
    simp
  | 10, _, _, p1, p2, p3, _, hcs =>
    rw [hcs (by omega), csg_nil]
    show (2 ^ b.toNat ||| 2 ^ a.toNat : Nat).testBit j = ((pR (rf 10).a && _) || (pR (rf 10).b && _) || (pR (rf 10).c && _) || false)
    rw [Nat.testBit_or, tb (p2 rfl) j, tb (p1 rfl) j, show pR (rf 10).a = true from rfl, show pR (rf 10).b = true from rfl, show pR (rf 10).c = false from rfl]
    simp [Bool.or_comm]
  | 11, _, _, p1, p2, p3, _, hcs =>
    rw [hcs (by omega), csg_nil]
    show (2 ^ a.toNat : Nat).testBit j = ((pR (rf 11).a && _) || (pR (rf 11).b && _) || (pR (rf 11).c && _) || false)
    rw [tb (p1 rfl) j, show pR (rf 11).a = true from rfl, show pR (rf 11).b = false from rfl, show pR (rf 11).c = false from rfl]
    simp
  | 12, _, _, p1, p2, p3, _, hcs =>
    rw [hcs (by omega), csg_nil]
    show (2 ^ a.toNat : Nat).testBit j = ((pR (rf 12).a && _) || (pR (rf 12).b && _) || (pR (rf 12).c && _) || false)
    rw [tb (p1 rfl) j, show pR (rf 12).a = true from rfl, show pR (rf 12).b = false from rfl, show pR (rf 12).c = false from rfl]
    simp
  | 13, _, _, p1, p2, p3, _, hcs =>
    rw [hcs (by omega), csg_nil]
    show (2 ^ a.toNat : Nat).testBit j = ((pR (rf 13).a && _) || (pR (rf 13).b && _) || (pR (rf 13).c && _) || false)
    rw [tb (p1 rfl) j, show pR (rf 13).a = true from rfl, show pR (rf 13).b = false from rfl, show pR (rf 13).c = false from rfl]
    simp
  | 14, _, _, p1, p2, p3, _, hcs =>
    rw [hcs (by omega), csg_nil]
    show (2 ^ a.toNat : Nat).testBit j = ((pR (rf 14).a && _) || (pR (rf 14).b && _) || (pR (rf 14).c && _) || false)
    rw [tb (p1 rfl) j, show pR (rf 14).a = true from rfl, show pR (rf 14).b = false from rfl, show pR (rf 14).c = false from rfl]
    simp
  | 15, _, _, _, _, _, p4, _ =>
    rw [show readM ⟨((15 : Nat) : Int), a, b, c, A, n, cap, d, cs⟩ = cs.foldl caM 0 from rfl, casM_bit cs 0 (p4 rfl).2 j]
    show _ = ((false && _) || (false && _) || (false && _) || _)
    simp
  | 16, _, _, p1, p2, p3, _, hcs =>
    rw [hcs (by omega), csg_nil]
    show (0 : Nat).testBit j = ((pR (rf 16).a && _) || (pR (rf 16).b && _) || (pR (rf 16).c && _) || false)
    rw [Nat.zero_testBit, show pR (rf 16).a = false from rfl, show pR (rf 16).b = false from rfl, show pR (rf 16).c = false from rfl]
    simp
  | 17, _, _, p1, p2, p3, _, hcs =>
    rw [hcs (by omega), csg_nil]
    show (2 ^ b.toNat : Nat).testBit j = ((pR (rf 17).a && _) || (pR (rf 17).b && _) || (pR (rf 17).c && _) || false)
    rw [tb (p2 rfl) j, show pR (rf 17).a = false from rfl, show pR (rf 17).b = true from rfl, show pR (rf 17).c = false from rfl]
    simp
  | 18, _, _, p1, p2, p3, _, hcs =>
    rw [hcs (by omega), csg_nil]
    show (2 ^ b.toNat : Nat).testBit j = ((pR (rf 18).a && _) || (pR (rf 18).b && _) || (pR (rf 18).c && _) || false)
    rw [tb (p2 rfl) j, show pR (rf 18).a = false from rfl, show pR (rf 18).b = true from rfl, show pR (rf 18).c = false from rfl]
    simp
  | 19, _, _, p1, p2, p3, _, hcs =>
    rw [hcs (by omega), csg_nil]
    show (2 ^ b.toNat : Nat).testBit j = ((pR (rf 19).a && _) || (pR (rf 19).b && _) || (pR (rf 19).c && _) || false)
    rw [tb (p2 rfl) j, show pR (rf 19).a = false from rfl, show pR (rf 19).b = true from rfl, show pR (rf 19).c = false from rfl]
    simp
  | 20, _, _, p1, p2, p3, _, hcs =>
    rw [hcs (by omega), csg_nil]
    show (2 ^ a.toNat : Nat).testBit j = ((pR (rf 20).a && _) || (pR (rf 20).b && _) || (pR (rf 20).c && _) || false)
    rw [tb (p1 rfl) j, show pR (rf 20).a = true from rfl, show pR (rf 20).b = false from rfl, show pR (rf 20).c = false from rfl]
    simp
  | 21, _, _, p1, p2, p3, _, hcs =>
    rw [hcs (by omega), csg_nil]
    show (2 ^ b.toNat ||| 2 ^ a.toNat : Nat).testBit j = ((pR (rf 21).a && _) || (pR (rf 21).b && _) || (pR (rf 21).c && _) || false)
    rw [Nat.testBit_or, tb (p2 rfl) j, tb (p1 rfl) j, show pR (rf 21).a = true from rfl, show pR (rf 21).b = true from rfl, show pR (rf 21).c = false from rfl]
    simp [Bool.or_comm]
  | 22, _, _, p1, p2, p3, _, hcs =>
    rw [hcs (by omega), csg_nil]
    show (2 ^ b.toNat : Nat).testBit j = ((pR (rf 22).a && _) || (pR (rf 22).b && _) || (pR (rf 22).c && _) || false)
    rw [tb (p2 rfl) j, show pR (rf 22).a = false from rfl, show pR (rf 22).b = true from rfl, show pR (rf 22).c = false from rfl]
    simp
  | 23, _, _, p1, p2, p3, _, hcs =>
    rw [hcs (by omega), csg_nil]
    show (2 ^ c.toNat ||| 2 ^ b.toNat : Nat).testBit j = ((pR (rf 23).a && _) || (pR (rf 23).b && _) || (pR (rf 23).c && _) || false)
    rw [Nat.testBit_or, tb (p3 rfl) j, tb (p2 rfl) j, show pR (rf 23).a = false from rfl, show pR (rf 23).b = true from rfl, show pR (rf 23).c = true from rfl]
    simp [Bool.or_comm]
  | 24, _, _, p1, p2, p3, _, hcs =>
    rw [hcs (by omega), csg_nil]
    show (2 ^ c.toNat ||| 2 ^ b.toNat : Nat).testBit j = ((pR (rf 24).a && _) || (pR (rf 24).b && _) || (pR (rf 24).c && _) || false)
    rw [Nat.testBit_or, tb (p3 rfl) j, tb (p2 rfl) j, show pR (rf 24).a = false from rfl, show pR (rf 24).b = true from rfl, show pR (rf 24).c = true from rfl]
    simp [Bool.or_comm]
  | 25, _, _, p1, p2, p3, _, hcs =>
    rw [hcs (by omega), csg_nil]
    show (2 ^ b.toNat : Nat).testBit j = ((pR (rf 25).a && _) || (pR (rf 25).b && _) || (pR (rf 25).c && _) || false)
    rw [tb (p2 rfl) j, show pR (rf 25).a = false from rfl, show pR (rf 25).b = true from rfl, show pR (rf 25).c = false from rfl]
    simp
  | 26, _, _, p1, p2, p3, _, hcs =>
    rw [hcs (by omega), csg_nil]
    show (2 ^ b.toNat ||| 2 ^ a.toNat : Nat).testBit j = ((pR (rf 26).a && _) || (pR (rf 26).b && _) || (pR (rf 26).c && _) || false)
    rw [Nat.testBit_or, tb (p2 rfl) j, tb (p1 rfl) j, show pR (rf 26).a = true from rfl, show pR (rf 26).b = true from rfl, show pR (rf 26).c = false from rfl]
    simp [Bool.or_comm]
  | 27, _, _, p1, p2, p3, _, hcs =>
    rw [hcs (by omega), csg_nil]
    show (2 ^ a.toNat : Nat).testBit j = ((pR (rf 27).a && _) || (pR (rf 27).b && _) || (pR (rf 27).c && _) || false)
    rw [tb (p1 rfl) j, show pR (rf 27).a = true from rfl, show pR (rf 27).b = false from rfl, show pR (rf 27).c = false from rfl]
    simp
  | 28, _, _, p1, p2, p3, _, hcs =>
    rw [hcs (by omega), csg_nil]
    show (2 ^ a.toNat : Nat).testBit j = ((pR (rf 28).a && _) || (pR (rf 28).b && _) || (pR (rf 28).c && _) || false)
    rw [tb (p1 rfl) j, show pR (rf 28).a = true from rfl, show pR (rf 28).b = false from rfl, show pR (rf 28).c = false from rfl]
    simp
  | 29, _, _, p1, p2, p3, _, hcs =>
    rw [hcs (by omega), csg_nil]
    show (2 ^ a.toNat : Nat).testBit j = ((pR (rf 29).a && _) || (pR (rf 29).b && _) || (pR (rf 29).c && _) || false)
    rw [tb (p1 rfl) j, show pR (rf 29).a = true from rfl, show pR (rf 29).b = false from rfl, show pR (rf 29).c = false from rfl]
    simp
  | 30, _, _, p1, p2, p3, _, hcs =>
    rw [hcs (by omega), csg_nil]
    show (2 ^ a.toNat : Nat).testBit j = ((pR (rf 30).a && _) || (pR (rf 30).b && _) || (pR (rf 30).c && _) || false)
    rw [tb (p1 rfl) j, show pR (rf 30).a = true from rfl, show pR (rf 30).b = false from rfl, show pR (rf 30).c = false from rfl]
    simp
  | 31, _, _, p1, p2, p3, _, hcs =>
    rw [hcs (by omega), csg_nil]
    show (2 ^ b.toNat : Nat).testBit j = ((pR (rf 31).a && _) || (pR (rf 31).b && _) || (pR (rf 31).c && _) || false)
    rw [tb (p2 rfl) j, show pR (rf 31).a = false from rfl, show pR (rf 31).b = true from rfl, show pR (rf 31).c = false from rfl]
    simp
  | 32, _, _, p1, p2, p3, _, hcs =>
    rw [hcs (by omega), csg_nil]
    show (2 ^ a.toNat : Nat).testBit j = ((pR (rf 32).a && _) || (pR (rf 32).b && _) || (pR (rf 32).c && _) || false)
    rw [tb (p1 rfl) j, show pR (rf 32).a = true from rfl, show pR (rf 32).b = false from rfl, show pR (rf 32).c = false from rfl]
    simp
  | k + 33, hk, _, _, _, _, _, _ => exact absurd hk (by omega)
set_option maxHeartbeats 1000000 in
theorem write_eq (k : Nat) (h1 : 1 ≤ k) (h2 : k ≤ 32) (a b c : Int) (A : Option Addr) (n cap : Nat) (d : Bool) (cs : List Ca) (h : mayB 100 16 ⟨k, a, b, c, A, n, cap, d, cs⟩ = true) (j : Nat) :
    (writeM ⟨k, a, b, c, A, n, cap, d, cs⟩).testBit j = mk pW (rf k) ⟨a, b, c⟩ 3 j := by
  obtain ⟨p1, p2, p3, p4⟩ := may_parts h1 h2 h
  have hk : k < 33 := by omega
  have hk0 : 0 < k := by omega
  clear h h1 h2
  rw [mk3]
  match k, hk, hk0, p1, p2, p3 with
  | 1, _, _, p1, p2, p3 =>
    show (2 ^ a.toNat : Nat).testBit j = ((pW (rf 1).a && _) || (pW (rf 1).b && _) || (pW (rf 1).c && _))
    rw [tb (p1 rfl) j, show pW (rf 1).a = true from rfl, show pW (rf 1).b = false from rfl, show pW (rf 1).c = false from rfl]
    simp
  | 2, _, _, p1, p2, p3 =>
    show (2 ^ a.toNat : Nat).testBit j = ((pW (rf 2).a && _) || (pW (rf 2).b && _) || (pW (rf 2).c && _))
    rw [tb (p1 rfl) j, show pW (rf 2).a = true from rfl, show pW (rf 2).b = false from rfl, show pW (rf 2).c = false from rfl]
    simp
  | 3, _, _, p1, p2, p3 =>
    show (2 ^ a.toNat : Nat).testBit j = ((pW (rf 3).a && _) || (pW (rf 3).b && _) || (pW (rf 3).c && _))
    rw [tb (p1 rfl) j, show pW (rf 3).a = true from rfl, show pW (rf 3).b = false from rfl, show pW (rf 3).c = false from rfl]
    simp
  | 4, _, _, p1, p2, p3 =>
    show (0 : Nat).testBit j = ((pW (rf 4).a && _) || (pW (rf 4).b && _) || (pW (rf 4).c && _))
    rw [Nat.zero_testBit, show pW (rf 4).a = false from rfl, show pW (rf 4).b = false from rfl, show pW (rf 4).c = false from rfl]
    simp
  | 5, _, _, p1, p2, p3 =>
    show (0 : Nat).testBit j = ((pW (rf 5).a && _) || (pW (rf 5).b && _) || (pW (rf 5).c && _))
    rw [Nat.zero_testBit, show pW (rf 5).a = false from rfl, show pW (rf 5).b = false from rfl, show pW (rf 5).c = false from rfl]
    simp
  | 6, _, _, p1, p2, p3 =>
    show (0 : Nat).testBit j = ((pW (rf 6).a && _) || (pW (rf 6).b && _) || (pW (rf 6).c && _))
    rw [Nat.zero_testBit, show pW (rf 6).a = false from rfl, show pW (rf 6).b = false from rfl, show pW (rf 6).c = false from rfl]
    simp
  | 7, _, _, p1, p2, p3 =>
    show (0 : Nat).testBit j = ((pW (rf 7).a && _) || (pW (rf 7).b && _) || (pW (rf 7).c && _))
    rw [Nat.zero_testBit, show pW (rf 7).a = false from rfl, show pW (rf 7).b = false from rfl, show pW (rf 7).c = false from rfl]
    simp
  | 8, _, _, p1, p2, p3 =>
    show (2 ^ a.toNat : Nat).testBit j = ((pW (rf 8).a && _) || (pW (rf 8).b && _) || (pW (rf 8).c && _))
    rw [tb (p1 rfl) j, show pW (rf 8).a = true from rfl, show pW (rf 8).b = false from rfl, show pW (rf 8).c = false from rfl]
    simp
  | 9, _, _, p1, p2, p3 =>
    show (2 ^ a.toNat : Nat).testBit j = ((pW (rf 9).a && _) || (pW (rf 9).b && _) || (pW (rf 9).c && _))
    rw [tb (p1 rfl) j, show pW (rf 9).a = true from rfl, show pW (rf 9).b = false from rfl, show pW (rf 9).c = false from rfl]
    simp
  | 10, _, _, p1, p2, p3 =>
    show (0 : Nat).testBit j = ((pW (rf 10).a && _) || (pW (rf 10).b && _) || (pW (rf 10).c && _))
    rw [Nat.zero_testBit, show pW (rf 10).a = false from rfl, show pW (rf 10).b = false from rfl, show pW (rf 10).c = false from rfl]
    simp
  | 11, _, _, p1, p2, p3 =>
    show (2 ^ c.toNat ||| 2 ^ b.toNat : Nat).testBit j = ((pW (rf 11).a && _) || (pW (rf 11).b && _) || (pW (rf 11).c && _))
    rw [Nat.testBit_or, tb (p3 rfl) j, tb (p2 rfl) j, show pW (rf 11).a = false from rfl, show pW (rf 11).b = true from rfl, show pW (rf 11).c = true from rfl]
    simp [Bool.or_comm]
  | 12, _, _, p1, p2, p3 =>
    show (0 : Nat).testBit j = ((pW (rf 12).a && _) || (pW (rf 12).b && _) || (pW (rf 12).c && _))
    rw [Nat.zero_testBit, show pW (rf 12).a = false from rfl, show pW (rf 12).b = false from rfl, show pW (rf 12).c = false from rfl]
    simp
  | 13, _, _, p1, p2, p3 =>
    show (2 ^ b.toNat : Nat).testBit j = ((pW (rf 13).a && _) || (pW (rf 13).b && _) || (pW (rf 13).c && _))
    rw [tb (p2 rfl) j, show pW (rf 13).a = false from rfl, show pW (rf 13).b = true from rfl, show pW (rf 13).c = false from rfl]
    simp
  | 14, _, _, p1, p2, p3 =>
    show (2 ^ b.toNat : Nat).testBit j = ((pW (rf 14).a && _) || (pW (rf 14).b && _) || (pW (rf 14).c && _))
    rw [tb (p2 rfl) j, show pW (rf 14).a = false from rfl, show pW (rf 14).b = true from rfl, show pW (rf 14).c = false from rfl]
    simp
  | 15, _, _, p1, p2, p3 =>
    show (2 ^ a.toNat ||| 2 ^ c.toNat ||| 2 ^ b.toNat : Nat).testBit j = ((pW (rf 15).a && _) || (pW (rf 15).b && _) || (pW (rf 15).c && _))
    rw [Nat.testBit_or, Nat.testBit_or, tb (p1 rfl) j, tb (p3 rfl) j, tb (p2 rfl) j, show pW (rf 15).a = true from rfl, show pW (rf 15).b = true from rfl, show pW (rf 15).c = true from rfl]
    simp only [Bool.true_and]
    generalize decide ((j : Int) = a) = u
    generalize decide ((j : Int) = b) = v
    generalize decide ((j : Int) = c) = z
    cases u <;> cases v <;> cases z <;> rfl
  | 16, _, _, p1, p2, p3 =>
    show (2 ^ a.toNat : Nat).testBit j = ((pW (rf 16).a && _) || (pW (rf 16).b && _) || (pW (rf 16).c && _))
    rw [tb (p1 rfl) j, show pW (rf 16).a = true from rfl, show pW (rf 16).b = false from rfl, show pW (rf 16).c = false from rfl]
    simp
  | 17, _, _, p1, p2, p3 =>
    show (2 ^ c.toNat ||| 2 ^ a.toNat : Nat).testBit j = ((pW (rf 17).a && _) || (pW (rf 17).b && _) || (pW (rf 17).c && _))
    rw [Nat.testBit_or, tb (p3 rfl) j, tb (p1 rfl) j, show pW (rf 17).a = true from rfl, show pW (rf 17).b = false from rfl, show pW (rf 17).c = true from rfl]
    simp [Bool.or_comm]
  | 18, _, _, p1, p2, p3 =>
    show (2 ^ c.toNat ||| 2 ^ a.toNat : Nat).testBit j = ((pW (rf 18).a && _) || (pW (rf 18).b && _) || (pW (rf 18).c && _))
    rw [Nat.testBit_or, tb (p3 rfl) j, tb (p1 rfl) j, show pW (rf 18).a = true from rfl, show pW (rf 18).b = false from rfl, show pW (rf 18).c = true from rfl]
    simp [Bool.or_comm]
  | 19, _, _, p1, p2, p3 =>
    show (2 ^ a.toNat : Nat).testBit j = ((pW (rf 19).a && _) || (pW (rf 19).b && _) || (pW (rf 19).c && _))
    rw [tb (p1 rfl) j, show pW (rf 19).a = true from rfl, show pW (rf 19).b = false from rfl, show pW (rf 19).c = false from rfl]
    simp
  | 20, _, _, p1, p2, p3 =>
    show (2 ^ b.toNat : Nat).testBit j = ((pW (rf 20).a && _) || (pW (rf 20).b && _) || (pW (rf 20).c && _))
    rw [tb (p2 rfl) j, show pW (rf 20).a = false from rfl, show pW (rf 20).b = true from rfl, show pW (rf 20).c = false from rfl]
    simp
  | 21, _, _, p1, p2, p3 =>
    show (2 ^ c.toNat : Nat).testBit j = ((pW (rf 21).a && _) || (pW (rf 21).b && _) || (pW (rf 21).c && _))
    rw [tb (p3 rfl) j, show pW (rf 21).a = false from rfl, show pW (rf 21).b = false from rfl, show pW (rf 21).c = true from rfl]
    simp
  | 22, _, _, p1, p2, p3 =>
    show (2 ^ a.toNat : Nat).testBit j = ((pW (rf 22).a && _) || (pW (rf 22).b && _) || (pW (rf 22).c && _))
    rw [tb (p1 rfl) j, show pW (rf 22).a = true from rfl, show pW (rf 22).b = false from rfl, show pW (rf 22).c = false from rfl]
    simp
  | 23, _, _, p1, p2, p3 =>
    show (2 ^ a.toNat : Nat).testBit j = ((pW (rf 23).a && _) || (pW (rf 23).b && _) || (pW (rf 23).c && _))
    rw [tb (p1 rfl) j, show pW (rf 23).a = true from rfl, show pW (rf 23).b = false from rfl, show pW (rf 23).c = false from rfl]
    simp
  | 24, _, _, p1, p2, p3 =>
    show (2 ^ a.toNat : Nat).testBit j = ((pW (rf 24).a && _) || (pW (rf 24).b && _) || (pW (rf 24).c && _))
    rw [tb (p1 rfl) j, show pW (rf 24).a = true from rfl, show pW (rf 24).b = false from rfl, show pW (rf 24).c = false from rfl]
    simp
  | 25, _, _, p1, p2, p3 =>
    show (2 ^ a.toNat : Nat).testBit j = ((pW (rf 25).a && _) || (pW (rf 25).b && _) || (pW (rf 25).c && _))
    rw [tb (p1 rfl) j, show pW (rf 25).a = true from rfl, show pW (rf 25).b = false from rfl, show pW (rf 25).c = false from rfl]
    simp
  | 26, _, _, p1, p2, p3 =>
    show (0 : Nat).testBit j = ((pW (rf 26).a && _) || (pW (rf 26).b && _) || (pW (rf 26).c && _))
    rw [Nat.zero_testBit, show pW (rf 26).a = false from rfl, show pW (rf 26).b = false from rfl, show pW (rf 26).c = false from rfl]
    simp
  | 27, _, _, p1, p2, p3 =>
    show (2 ^ b.toNat : Nat).testBit j = ((pW (rf 27).a && _) || (pW (rf 27).b && _) || (pW (rf 27).c && _))
    rw [tb (p2 rfl) j, show pW (rf 27).a = false from rfl, show pW (rf 27).b = true from rfl, show pW (rf 27).c = false from rfl]
    simp
  | 28, _, _, p1, p2, p3 =>
    show (2 ^ b.toNat : Nat).testBit j = ((pW (rf 28).a && _) || (pW (rf 28).b && _) || (pW (rf 28).c && _))
    rw [tb (p2 rfl) j, show pW (rf 28).a = false from rfl, show pW (rf 28).b = true from rfl, show pW (rf 28).c = false from rfl]
    simp
  | 29, _, _, p1, p2, p3 =>
    show (2 ^ b.toNat : Nat).testBit j = ((pW (rf 29).a && _) || (pW (rf 29).b && _) || (pW (rf 29).c && _))
    rw [tb (p2 rfl) j, show pW (rf 29).a = false from rfl, show pW (rf 29).b = true from rfl, show pW (rf 29).c = false from rfl]
    simp
  | 30, _, _, p1, p2, p3 =>
    show (2 ^ c.toNat ||| 2 ^ b.toNat : Nat).testBit j = ((pW (rf 30).a && _) || (pW (rf 30).b && _) || (pW (rf 30).c && _))
    rw [Nat.testBit_or, tb (p3 rfl) j, tb (p2 rfl) j, show pW (rf 30).a = false from rfl, show pW (rf 30).b = true from rfl, show pW (rf 30).c = true from rfl]
    simp [Bool.or_comm]
  | 31, _, _, p1, p2, p3 =>
    show (2 ^ a.toNat : Nat).testBit j = ((pW (rf 31).a && _) || (pW (rf 31).b && _) || (pW (rf 31).c && _))
    rw [tb (p1 rfl) j, show pW (rf 31).a = true from rfl, show pW (rf 31).b = false from rfl, show pW (rf 31).c = false from rfl]
    simp
  | 32, _, _, p1, p2, p3 =>
    show (2 ^ b.toNat : Nat).testBit j = ((pW (rf 32).a && _) || (pW (rf 32).b && _) || (pW (rf 32).c && _))
    rw [tb (p2 rfl) j, show pW (rf 32).a = false from rfl, show pW (rf 32).b = true from rfl, show pW (rf 32).c = false from rfl]
    simp
  | k + 33, hk, _, _, _, _ => exact absurd hk (by omega)
end Go.Proofs.YtifmamobhkgmfaaDoor

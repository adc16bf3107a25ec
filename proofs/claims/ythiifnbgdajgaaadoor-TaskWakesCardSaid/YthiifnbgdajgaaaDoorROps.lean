/- What each call of package ready that leaves a list as it is answers. Conditions: each theorem's own premises. -/
import Derived.Test.YthiifnbgdajgaaaDoorRMem
namespace Go.Proofs.YthiifnbgdajgaaaDoor
open Go.RowKit
set_option linter.unusedVariables false
set_option maxRecDepth 100000

/-- A new list. -/
def NewR (w : World) (e : Ending) (w' : World) : Prop := e = .returned (.pointer (some ⟨w.heap.size + 1, 0, none⟩)) ∧ (∀ B, B ≤ w.heap.size → RG B w' (w.heap.size + 1) w.heap.size none 0 []) ∧ Below w.heap.size w w'
theorem new_at (w : World) : NewR w (.returned (.pointer (some ⟨w.heap.size + 1, 0, none⟩))) ((w.alloc (.map #[] 0)).alloc (.cells #[.slice none 0 0, .map (some w.heap.size)] 79)) :=
  ⟨rfl, fun B hB => ⟨fun _ => 0, RS.new w hB _, fun p x h => by simp at h⟩, (below_al w _).alloc (by simp) _⟩
theorem new_any (w : World) : Calls Tryd.prog 23 #[] w (NewR w) := by
  have hmm := @run_makeMap Tryd.prog
  go_enter Tryd.func23, Tryd.ntmps23
  go_wp2
  go_ret
  exact new_at w

theorem len_nil (w : World) : Calls Tryd.prog 44 #[.pointer none] w fun e w' => e = .returned (.int .i64 0) ∧ w = w' := by
  go_enter Tryd.func44, Tryd.ntmps44
  go_wp2
  go_ret
  exact ⟨rfl, rfl⟩
theorem all_nil (w : World) : Calls Tryd.prog 33 #[.pointer none] w fun e w' => e = .returned (.slice none 0 0) ∧ w = w' := by
  go_enter Tryd.func33, Tryd.ntmps33
  go_wp2
  go_ret
  exact ⟨rfl, rfl⟩
theorem remove_nil (x : Int) (w : World) : Calls Tryd.prog 31 #[.pointer none, .int .i64 x] w fun e w' => e = .returned (.bool false) ∧ w = w' := by
  go_enter Tryd.func31, Tryd.ntmps31
  go_wp2
  go_ret
  exact ⟨rfl, rfl⟩
theorem add_nil (x : Int) (w : World) : Calls Tryd.prog 25 #[.pointer none, .int .i64 x] w fun e w' => e = .returned (.int .i64 1) ∧ w = w' := by
  go_enter Tryd.func25, Tryd.ntmps25
  go_wp2
  go_ret
  exact ⟨rfl, rfl⟩
theorem pick_nil (n : Int) (w : World) : Calls Tryd.prog 36 #[.pointer none, .int .i64 n] w fun e w' => e = .returned (.tuple #[.int .i64 0, .bool false]) ∧ w = w' := by
  go_enter Tryd.func36, Tryd.ntmps36
  go_wp2_with fail
  refine (len_nil w).mono ?_
  rintro e w' ⟨rfl, rfl⟩
  go_wp2_with fail
  go_ret2
  exact ⟨rfl, rfl⟩
/-- The one at n of so many, going round. -/
def pk (n : Int) (m : Nat) : Nat := (n % (m : Int)).toNat
theorem pk_lt (n : Int) {m : Nat} (h : 0 < m) : pk n m < m := by
  unfold pk
  have := Int.emod_lt_of_pos n (show (0 : Int) < (m : Int) by omega)
  have := Int.emod_nonneg n (show (m : Int) ≠ 0 by omega)
  omega
theorem tmod_emod (n m : Int) (hm : 0 < m) : n % m = if n.tmod m < 0 then n.tmod m + m else n.tmod m := by
  have h1 := Int.emod_emod_of_dvd n (Int.dvd_refl m)
  have h2 := Int.tmod_lt_of_pos n hm
  have h3 : -m < n.tmod m := by
    have h4 := Int.tmod_add_mul_tdiv n m
    by_cases h : 0 ≤ n
    · have := Int.tmod_nonneg m h; omega
    · have h5 := Int.tmod_lt_of_pos (-n) hm
      rw [Int.neg_tmod] at h5
      omega
  have h4 : (n.tmod m) % m = n % m := by
    rw [Int.tmod_def, Int.sub_mul_emod_self_left]
  split
  · rw [← h4, ← Int.add_emod_right, Int.emod_eq_of_lt (by omega) (by omega)]
  · rw [← h4, Int.emod_eq_of_lt (by omega) (by omega)]
theorem pk_pos {n : Int} {m : Nat} (h : 0 < m) (h0 : ¬ n.tmod m < 0) : n.tmod (m : Int) = (pk n m : Int) := by
  unfold pk
  rw [tmod_emod n m (by omega), if_neg h0]; omega
theorem pk_neg {n : Int} {m : Nat} (h : 0 < m) (h0 : n.tmod m < 0) : n.tmod (m : Int) + (m : Int) = (pk n m : Int) := by
  have h1 := pk_lt n h
  have h2 := Int.emod_nonneg n (show (m : Int) ≠ 0 by omega)
  have h3 := tmod_emod n m (by omega)
  rw [if_pos h0] at h3
  unfold pk
  omega
theorem low {n : Int} {m : Nat} (h : 0 < m) : -(m : Int) ≤ n.tmod m := by
  have h3 := tmod_emod n m (by omega)
  have h2 := Int.emod_nonneg n (show (m : Int) ≠ 0 by omega)
  have h4 := Int.emod_lt_of_pos n (show (0 : Int) < (m : Int) by omega)
  by_cases c : n.tmod (m : Int) < 0
  · rw [if_pos c] at h3; omega
  · omega
theorem spick (n : Int) (m : Nat) (w : World) (h : 0 < m) (hm : m ≤ 1000) : Calls Tryd.prog 45 #[.int .i64 n, .int .i64 (m : Int)] w fun e w' => e = .returned (.int .i64 (pk n m : Int)) ∧ w = w' := by
  have b1 : ¬ (m : Int) < 1 := by omega
  have b2 : ((m : Int) == 0) = false := by simp <;> omega
  have b3 : ((m : Int) == -1) = false := by simp <;> omega
  have l1 := low (n := n) h
  by_cases c1 : n.tmod (m : Int) < 0
  · have e1 := pk_neg h c1
    have e2 : IntKind.i64.wrap (n.tmod (m : Int) + (m : Int)) = n.tmod (m : Int) + (m : Int) := by rw [IntKind.wrap_i64]; omega
    go_enter Tryd.func45, Tryd.ntmps45
    go_wp2
    go_ret
    exact ⟨congrArg (fun z => Ending.returned (.int .i64 z)) (by first | exact e1 | omega), rfl⟩
  · have e1 := pk_pos h c1
    go_enter Tryd.func45, Tryd.ntmps45
    go_wp2
    go_ret
    exact ⟨congrArg (fun z => Ending.returned (.int .i64 z)) (by first | exact e1 | omega), rfl⟩
section
variable {B o b c : Nat} {P : Option Addr} {l : List Int} {f : Int → Int}
theorem has_any (x : Int) (w : World) (h : RS B w o b P c l f) (hx : Wf x) : Calls Tryd.prog 38 #[.pointer (some ⟨o, 0, none⟩), .int .i64 x] w fun e w' => e = .returned (.bool (decide (x ∈ l))) ∧ w = w' := by
  obtain ⟨z, hrun⟩ := h.tm.look hx
  have h1 := h.c1
  clear h
  generalize decide (x ∈ l) = d at *
  go_enter Tryd.func38, Tryd.ntmps38
  go_wp2_with fail
  go_ret
  exact ⟨rfl, rfl⟩
theorem len_any (w : World) (h : RS B w o b P c l f) : Calls Tryd.prog 44 #[.pointer (some ⟨o, 0, none⟩)] w fun e w' => e = .returned (.int .i64 (l.length : Int)) ∧ w = w' := by
  have h0 := h.c0
  clear h
  go_enter Tryd.func44, Tryd.ntmps44
  go_wp2
  go_ret
  exact ⟨rfl, rfl⟩
theorem pick_none (n : Int) (w : World) (h : RS B w o b P c [] f) : Calls Tryd.prog 36 #[.pointer (some ⟨o, 0, none⟩), .int .i64 n] w fun e w' => e = .returned (.tuple #[.int .i64 0, .bool false]) ∧ w = w' := by
  go_enter Tryd.func36, Tryd.ntmps36
  go_wp2_with fail
  refine (len_any w h).mono ?_
  rintro e w' ⟨rfl, rfl⟩
  go_wp2_with fail
  go_ret2
  exact ⟨rfl, rfl⟩
theorem pick_any (n : Int) (x : Int) (w : World) (h : RS B w o b P c l f) (h0 : 0 < l.length) (hm : l.length ≤ 1000) (hx : l[pk n l.length]? = some x) : Calls Tryd.prog 36 #[.pointer (some ⟨o, 0, none⟩), .int .i64 n] w fun e w' => e = .returned (.tuple #[.int .i64 x, .bool true]) ∧ ∃ q, w' = w.drewN q := by
  obtain ⟨g, rfl, hc⟩ := h.at hx
  have h1 := h.c0
  have hp := pk_lt n h0
  have HA := Lib.hid h
  have b1 : ((l.length : Int) == 0) = false := by simp; intro e; subst e; simp at h0
  have b2 : ((pk n l.length : Nat) : Int) < (l.length : Int) := by omega
  have b3 : (0 : Int) ≤ ((pk n l.length : Nat) : Int) := by omega
  clear h
  go_enter Tryd.func36, Tryd.ntmps36
  go_wp2_with fail
  refine (len_any w HA.out).mono ?_
  rintro e w' ⟨rfl, rfl⟩
  go_wp2_with fail
  go_quiet (exact Calls.quiet_of_same ((spick n l.length _ h0 hm).mono fun _ _ h => ⟨h.1, h.2.symm⟩))
  go_wp2_with fail
  go_ret2
  exact ⟨rfl, _, rfl⟩
end
end Go.Proofs.YthiifnbgdajgaaaDoor

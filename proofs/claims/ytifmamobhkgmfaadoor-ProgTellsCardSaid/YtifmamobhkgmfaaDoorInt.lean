/- Ints tells whether two lists of integers are the same; Round takes a number into a range. Conditions: the lists lie there; the range is not empty. -/
import Derived.Test.YtifmamobhkgmfaaDoorUse
namespace Go.Proofs.YtifmamobhkgmfaaDoor
open Go.RowKit
set_option linter.unusedVariables false

set_option maxHeartbeats 1000000 in
theorem Ints_any (A B : Option Addr) (n m c1 c2 : Nat) (l r : List Int) (w : World) (hn : n ≤ 4611686018427387904) (hA : Hid (RdN w A n l)) (hB : Hid (RdN w B m r)) : Calls Tryd.prog 16 #[.slice A n c1, .slice B m c2] w (BoolR (decide (l = r)) w) := by
  by_cases hnm : n = m
  · subst hnm
    go_enter Tryd.func16, Tryd.ntmps16
    go_wp2
    go_loopw [5] (fun i wr => ∃ k : Nat, k ≤ n ∧ i = .int .i64 k ∧ Hid (Below w.heap.size w wr) ∧ Hid (l.take k = r.take k)) (fun i _ => n - (intOf i).toNat)
    case atStart => exact ⟨0, by omega, rfl, Below.refl _ _, rfl⟩
    case round =>
      obtain ⟨k, hk, rfl, hW, hE⟩ := hrel
      by_cases hlt : k < n
      · obtain ⟨b1, o1, rfl, hb1, hc1⟩ := hA.out.cells (by omega)
        obtain ⟨b2, o2, rfl, hb2, hc2⟩ := hB.out.cells (by omega)
        have hl : k < l.length := by rw [hA.out.1]; exact hlt
        have hr : k < r.length := by rw [hB.out.1]; exact hlt
        have d1 := hc1 k (l[k]'hl) (List.getElem?_eq_getElem hl)
        have d2 := hc2 k (r[k]'hr) (List.getElem?_eq_getElem hr)
        have HL : Hid (l[k]? = some (l[k]'hl)) := List.getElem?_eq_getElem hl
        have HR : Hid (r[k]? = some (r[k]'hr)) := List.getElem?_eq_getElem hr
        have HT1 : Hid (l.take (k + 1) = l.take k ++ [l[k]'hl]) := List.take_succ_eq_append_getElem hl
        have HT2 : Hid (r.take (k + 1) = r.take k ++ [r[k]'hr]) := List.take_succ_eq_append_getElem hr
        rw [← cell_blk (hW.out.block b1 hb1)] at d1
        rw [← cell_blk (hW.out.block b2 hb2)] at d2
        generalize l[k]'hl = x at *
        generalize r[k]'hr = y at *
        clear hc1 hc2 hl hr
        by_cases hxy : x = y
        · subst hxy
          have HW2 : Hid (∀ q, Below w.heap.size w (wr.drewN q)) := fun q => hW.out.trans ⟨rfl, rfl, rfl, Nat.le_refl _, fun _ _ => rfl⟩
          go_wp2_with fail
          go_quiet (fail)
          go_wp2_with fail
          go_roundw
          case rel => exact ⟨k + 1, by omega, by go_num, HW2.out _, by show _ = _; rw [HT1.out, HT2.out, hE.out]⟩
          case measure => simp [intOf]; omega
        · have g : (x == y) = false := by simpa using hxy
          have HW2 : Hid (∀ q, Below w.heap.size w (wr.drewN q)) := fun q => hW.out.trans ⟨rfl, rfl, rfl, Nat.le_refl _, fun _ _ => rfl⟩
          go_wp2_with fail
          go_quiet (fail)
          go_wp2_with fail
          go_ret
          exact ⟨ret_bool (by rw [decide_eq_false]; intro h; subst h; rw [HL.out] at HR; exact hxy (Option.some.inj HR.out)), HW2.out _⟩
      · obtain rfl : k = n := by omega
        go_wp2
        go_ret
        refine ⟨ret_bool ?_, hW.out⟩
        have h := hE.out
        rw [List.take_of_length_le (by rw [hA.out.1]; omega), List.take_of_length_le (by rw [hB.out.1]; omega)] at h
        exact (decide_eq_true h).symm
  · have g : ((n : Int) == m) = false := by simp; omega
    go_enter Tryd.func16, Tryd.ntmps16
    go_wp2
    go_ret
    exact ⟨ret_bool (by rw [decide_eq_false]; intro h; subst h; exact hnm (hA.out.1.symm.trans hB.out.1)), Below.refl _ _⟩
theorem Ints_yes {A B : Option Addr} {n m c1 c2 : Nat} {l r : List Int} {w : World} (hn : n ≤ 4611686018427387904) (hA : RdN w A n l) (hB : RdN w B m r) (h : l = r) : Calls Tryd.prog 16 #[.slice A n c1, .slice B m c2] w (BoolR true w) := by
  have h1 := Ints_any A B n m c1 c2 l r w hn hA hB
  rwa [decide_eq_true h] at h1
end Go.Proofs.YtifmamobhkgmfaaDoor

/- Whatever world a call begins in: the table that strconv reads holds numbers. No condition. -/
import Derived.Test.YtbefcakakoaieaaIto
import GoSem.Claims
namespace Go.Proofs.Ytbefcakakoaieaa
open Go.RowKit
set_option maxRecDepth 100000
theorem tab_of_shape {w : World} (h : w.ShapedOpen Try.prog) : ∃ T, TabT T w := by
  obtain ⟨cs, hh, hs, hr⟩ := h.1 0 (Array.replicate 20 (.int .u64 0)) 104 (of_decide_eq_true (by kernel_rfl)) (by kernel_rfl)
  obtain ⟨ts, hts, _, hall⟩ := hr (by kernel_rfl)
  obtain rfl : List.replicate 20 60 = ts := Option.some.inj ((show Try.prog.cellTypes Try.prog.depth 104 = some (List.replicate 20 60) by kernel_rfl).symm.trans hts)
  have hsz : cs.size = 20 := by rw [hs]; simp
  have hlt : 0 < w.heap.size := (Array.getElem?_eq_some_iff.1 hh).1
  have hat : ∀ i, i < 20 → ∃ n : Nat, w.cell? ⟨0, i, none⟩ = some (.int .u64 n) ∧ n < 18446744073709551616 := fun i hi => by
    have hv : cs[i]? = some (cs[i]'(by omega)) := Array.getElem?_eq_getElem (by omega)
    obtain ⟨u, hu, hok⟩ := hall i _ hv
    have : u = 60 := by
      rw [List.length_replicate, Nat.mod_eq_of_lt hi, List.getElem?_replicate, if_pos hi] at hu
      exact (Option.some.inj hu).symm
    subst this
    rw [cell_of_row w 0 i cs 104 (0, 0) hh, hv]
    unfold Cell.ok at hok
    rw [Try.underlying60] at hok
    cases hc : cs[i]'(by omega) <;> rw [hc] at hok <;> simp at hok
    case int k n =>
      obtain ⟨rfl, hn⟩ := hok
      have hn2 : 0 ≤ n ∧ n ≤ 18446744073709551615 := by simpa [IntKind.has, IntKind.min, IntKind.max, IntKind.signed, IntKind.bits] using hn
      exact ⟨n.toNat, by rw [Int.toNat_of_nonneg hn2.1], by omega⟩
  refine ⟨fun i => if hi : i < 20 then (hat i hi).choose else 0, hlt, fun i hi => ?_⟩
  have := (hat i hi).choose_spec
  simp only [dif_pos hi]
  exact this
#print axioms tab_of_shape
end Go.Proofs.Ytbefcakakoaieaa

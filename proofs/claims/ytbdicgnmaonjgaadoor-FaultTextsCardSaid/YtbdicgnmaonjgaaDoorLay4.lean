/- What the condition of a row that lists four variables gives a walk, and a world that meets it. No condition. -/
import Derived.Test.YtbdicgnmaonjgaaDoorLay
import Derived.LaidMore
import Derived.Lib.LaidTab
namespace Go.Proofs.YtbdicgnmaonjgaaDoor
open Go.ChangeShapes Go.WideShapes Go.RowKit

abbrev laid4 : List (String × DataW Unit) := Rows.faultTextsRow.laid

theorem tab_of_three {W : World} (h : laidMet Tryd.prog [("math/bits.deBruijn32tab", Rows.laid_math_bits_deBruijn32tab), ("math/bits.deBruijn64tab", Rows.laid_math_bits_deBruijn64tab), ("internal/strconv.uint64pow10", Rows.laid_internal_strconv_uint64pow10)] W) : TabW W := by
  obtain ⟨ps, ⟨_, _, _, _, _, _, _, _, _, _, ⟨_, _, _, _, _, _, _, _, _, _, ⟨g', t', cs, fuel, p, q, hg', ht', hvar, hd, _, _⟩, _⟩, _⟩, _⟩ := h
  obtain rfl := Option.some.inj (Tryd.g1.symm.trans hg')
  obtain rfl := Option.some.inj ((show (Tryd.prog.globals[1]?).map (·.type) = some 102 by kernel_rfl).symm.trans ht')
  have hd' : DataW.trod (fun _ => ()) Tryd.prog W 0 (fun _ => true) false fuel 102 cs.toList = some (Lib.tabData .u64 Lib.pow10Tab, p) := hd
  show W.var? Tryd.prog "internal/strconv.uint64pow10" = _
  rw [hvar, ← Lib.cells_of_tab Tryd.underlying102 Tryd.underlying94 (by kernel_rfl) (by kernel_rfl) hd']

theorem four_of_laid {W : World} (h : laidMetH Tryd.prog laid4 W) : ETy W ∧ TabW W := by
  have h' : laidMet Tryd.prog [("math/bits.deBruijn32tab", Rows.laid_math_bits_deBruijn32tab), ("math/bits.deBruijn64tab", Rows.laid_math_bits_deBruijn64tab), ("internal/strconv.uint64pow10", Rows.laid_internal_strconv_uint64pow10)] W ∧ handlesMet Tryd.prog laid1 W := h
  exact ⟨ety_of_handles h'.2 (List.mem_singleton.2 rfl), tab_of_three h'.1⟩
theorem tab_pos {W : World} (h : TabW W) : 1 < W.heap.size := by
  have := Lib.TabIs.cell h Tryd.g1 0 (by decide)
  exact World.block_lt_of_cell? W _ this

theorem door_met (os : Os) (args : Array Value) : laidMetH Tryd.prog laid4 ((World.doorLaid Tryd.prog 200 os).forCall (fun _ _ => 0) ⟨#[], args, []⟩).memory :=
  laidMetH_of_parts3 (fuel := 8) (laidMet_of_run' 8 (by kernel_rfl) (by kernel_rfl)) (by kernel_rfl) (by kernel_rfl)
end Go.Proofs.YtbdicgnmaonjgaaDoor

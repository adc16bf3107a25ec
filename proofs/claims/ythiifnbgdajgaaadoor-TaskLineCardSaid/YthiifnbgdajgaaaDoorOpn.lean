/- Arguments opened: a slice of numbers. No condition. -/
import Derived.Test.YthiifnbgdajgaaaDoorRTwo
import Derived.Deep.Slices
import Derived.ChangeSame
import Derived.ChangeSlices
import Derived.ProofKit
import Derived.OpenShut
namespace Go.Proofs.YthiifnbgdajgaaaDoor
open Go.RowKit Go.ChangeShapes Go.WideShapes Go.Deep
set_option linter.unusedVariables false

theorem open_nums {H : Type} {enc : TypeId × Value → H} {W : World} {base : Nat} {spare : Nat → Bool} {held : Bool} {a : Option Addr} {len cap : Nat} {d : DataW H} {p : List MemPlace}
    (h : ∃ n, DataW.trod enc Tryd.prog W base spare held n 22 (Value.slice a len cap).cells.toList = some (d, p)) (hs : ∀ k, spare k = true) : ∃ zs, Rn W a len zs := by
  obtain ⟨fuel, hf⟩ := h
  rcases open_ints Tryd.underlying22 Tryd.underlying3 (by kernel_rfl) hf with ⟨hcs, _⟩ | ⟨x, l, c, zs, hcs, _, hl, hm, hz, _, hcell, hwz⟩
  · simp [Value.cells] at hcs
    obtain ⟨rfl, rfl, rfl⟩ := hcs
    exact ⟨[], Rn.nil _ _⟩
  · simp [Value.cells] at hcs
    obtain ⟨rfl, rfl, rfl⟩ := hcs
    exact ⟨zs.take len, rn_of (.inr ⟨_, rfl, hl, hm, by simpa [hs] using hz, hcell, hwz⟩)⟩
theorem open_row {H : Type} {enc : TypeId × Value → H} {W : World} {a : Option Addr} {len cap : Nat} {d : DataW H} {p : List MemPlace}
    (h : ∃ n, DataW.trod enc Tryd.prog W 0 (fun _ => true) true n 22 (Value.slice a len cap).cells.toList = some (d, p)) : ∃ zs, Rn W a len zs := open_nums h fun _ => rfl
end Go.Proofs.YthiifnbgdajgaaaDoor

/-
  No cell of these rows narrows 'for every input' (looked for: loops, veiled, ifaces, maps, wideKeys, modest, calm, conditions, laid).
  DERIVED. THE GIVEN ROWS OF THIS SEAT. 3 by the template 'for every input the law returns true; each argument reads behind the call as it read before'; 0 by the template 'total and deterministic' (their statements: YtdmdmaolbbjboaaTotals.lean).
  GIVEN WITH THE SEED: the statements are not yours to turn. If you find one false, say at which input.
  Laid BY PROGRAM, IN A SANDBOX (cutbox-rows.mjs): the forced cells as the released guide's own fill.sh prints them over the translation 539bf7e5aae8ad83… (all of the seat's roots in one cut). By AI agents, Wed Nov 11 2026. No macro, syntax, notation, axiom, sorry.
-/
import Derived.Test.YtdmdmaolbbjboaaChecked
import GoSem.Claim
import GoSem.ClaimJoined
import GoSem.ClaimMapViews
import Derived.JoinedTies
import Derived.KernelRfl
namespace Go.Proofs.Ytdmdmaolbbjboaa
/- THE CELL 'sum', in the pinned program and in every row, IS THE sha256 OF THE DUMP (.gsa) THAT YtdmdmaolbbjboaaProg.lean LOADS. Nothing in Lean hashes anything: it is a label: what it is worth is what the hold of that sum in a sandbox is worth. -/
noncomputable def Try.pinned : Pinned := { name := "ytdmdmaolbbjboaa", sum := "539bf7e5aae8ad831812289286f6cd2c7c92f9b6b2e9c1aff2dd7ee5387b7cdc", checked := Try.checked }
namespace Rows
def none {H : Type} : Left H := { results := [], args := [] }

/-- 'tarpaulinlaw6.WaitActs': WHATEVER THE INPUT: true; the input reads as it did. -/
def waitActsSpec : ChangeSpec := { name := "waitActs", fn := fun _ => fun
  | [d] => { results := [.lit (.bool true)], args := [d] }
  | _ => none }
def waitActsRow : OpenClaim := { program := "ytdmdmaolbbjboaa", sum := "539bf7e5aae8ad831812289286f6cd2c7c92f9b6b2e9c1aff2dd7ee5387b7cdc", func := "tarpaulin/tarpaulinlaw6.WaitActs", spec := "waitActs", apart := false }
def WaitActsSaid : Prop := waitActsRow.holds Try.pinned (OpenSpec.ofChange waitActsSpec)

/-- ITS FALSE NEIGHBOUR: 'it returns false'. Refute it at one input. -/
def waitActsWrong : ChangeSpec := { name := "waitActs", fn := fun _ => fun
  | [d] => { results := [.lit (.bool false)], args := [d] }
  | _ => none }
def WaitActsWrongFalsely : Prop := waitActsRow.holds Try.pinned (OpenSpec.ofChange waitActsWrong)

/-- 'tarpaulinlaw6.WaitRows': WHATEVER THE INPUT: true; the input reads as it did. -/
def waitRowsSpec : ChangeSpec := { name := "waitRows", fn := fun _ => fun
  | [d1, d2] => { results := [.lit (.bool true)], args := [d1, d2] }
  | _ => none }
def waitRowsRow : OpenClaim := { program := "ytdmdmaolbbjboaa", sum := "539bf7e5aae8ad831812289286f6cd2c7c92f9b6b2e9c1aff2dd7ee5387b7cdc", func := "tarpaulin/tarpaulinlaw6.WaitRows", spec := "waitRows", apart := false }
def WaitRowsSaid : Prop := waitRowsRow.holds Try.pinned (OpenSpec.ofChange waitRowsSpec)

/-- ITS FALSE NEIGHBOUR: 'it returns false'. Refute it at one input. -/
def waitRowsWrong : ChangeSpec := { name := "waitRows", fn := fun _ => fun
  | [d1, d2] => { results := [.lit (.bool false)], args := [d1, d2] }
  | _ => none }
def WaitRowsWrongFalsely : Prop := waitRowsRow.holds Try.pinned (OpenSpec.ofChange waitRowsWrong)

/-- 'tarpaulinlaw6.WaitTakes': WHATEVER THE INPUT: true; the input reads as it did. -/
def waitTakesSpec : ChangeSpec := { name := "waitTakes", fn := fun _ => fun
  | [d1, d2, d3, d4] => { results := [.lit (.bool true)], args := [d1, d2, d3, d4] }
  | _ => none }
def waitTakesRow : OpenClaim := { program := "ytdmdmaolbbjboaa", sum := "539bf7e5aae8ad831812289286f6cd2c7c92f9b6b2e9c1aff2dd7ee5387b7cdc", func := "tarpaulin/tarpaulinlaw6.WaitTakes", spec := "waitTakes", apart := false }
def WaitTakesSaid : Prop := waitTakesRow.holds Try.pinned (OpenSpec.ofChange waitTakesSpec)

/-- ITS FALSE NEIGHBOUR: 'it returns false'. Refute it at one input. -/
def waitTakesWrong : ChangeSpec := { name := "waitTakes", fn := fun _ => fun
  | [d1, d2, d3, d4] => { results := [.lit (.bool false)], args := [d1, d2, d3, d4] }
  | _ => none }
def WaitTakesWrongFalsely : Prop := waitTakesRow.holds Try.pinned (OpenSpec.ofChange waitTakesWrong)

/- THE SECOND FORM. 'bulk': how many values and letters a reading holds, each counted each time it is reached (what is shared counts as often as it is met; a slice's spare places count too). A statement '..UptoSaid' is the law's where the arguments, and the package variables that the reading takes, are together of bulk at most 1048576: NARROWER than '..Said'. Prove '..Said' where nothing that the law and all that it calls make is longer than what came in: it says more and counts as full. Else prove '..UptoSaid'. A law counts once. -/
mutual
def uptoBulk {H : Type} : DataW H → Nat
  | .lit (.string bytes) => bytes.length + 1
  | .lit _ => 1
  | .nil => 1
  | .ptr d => uptoBulk d + 1
  | .slice elems spare => uptoBulkAll elems + uptoBulkAll spare + 1
  | .agg parts => uptoBulkAll parts + 1
  | .iface _ d => uptoBulk d + 1
  | .map entries => uptoBulkEntries entries + 1
  | .held _ => 1
def uptoBulkAll {H : Type} : List (DataW H) → Nat
  | [] => 0
  | d :: r => uptoBulk d + uptoBulkAll r
def uptoBulkEntries {H : Type} : List (Lit × DataW H) → Nat
  | [] => 0
  | x :: r => uptoBulkEntry x + uptoBulkEntries r
def uptoBulkEntry {H : Type} : Lit × DataW H → Nat
  | (.string bytes, d) => bytes.length + uptoBulk d + 1
  | (_, d) => uptoBulk d + 1
 end
def uptoSmall : (H : Type) → List (DataW H) → Bool := fun _ ds => decide (uptoBulkAll ds ≤ 1048576)
def OpenSpec.upto (s : _root_.Go.ChangeSpec) : _root_.Go.OpenSpec := { _root_.Go.OpenSpec.ofChange s with cond := some uptoSmall }

/-- 'tarpaulinlaw6.WaitActs', WHERE WHAT IT READS IS OF BULK AT MOST 1048576: true; the input reads as it did. -/
def waitActsUptoRow : OpenClaim := { program := "ytdmdmaolbbjboaa", sum := "539bf7e5aae8ad831812289286f6cd2c7c92f9b6b2e9c1aff2dd7ee5387b7cdc", func := "tarpaulin/tarpaulinlaw6.WaitActs", spec := "waitActs", apart := false, narrowed := true }
def WaitActsUptoSaid : Prop := waitActsUptoRow.holds Try.pinned (OpenSpec.upto waitActsSpec)

/-- 'tarpaulinlaw6.WaitRows', WHERE WHAT IT READS IS OF BULK AT MOST 1048576: true; the input reads as it did. -/
def waitRowsUptoRow : OpenClaim := { program := "ytdmdmaolbbjboaa", sum := "539bf7e5aae8ad831812289286f6cd2c7c92f9b6b2e9c1aff2dd7ee5387b7cdc", func := "tarpaulin/tarpaulinlaw6.WaitRows", spec := "waitRows", apart := false, narrowed := true }
def WaitRowsUptoSaid : Prop := waitRowsUptoRow.holds Try.pinned (OpenSpec.upto waitRowsSpec)

/-- 'tarpaulinlaw6.WaitTakes', WHERE WHAT IT READS IS OF BULK AT MOST 1048576: true; the input reads as it did. -/
def waitTakesUptoRow : OpenClaim := { program := "ytdmdmaolbbjboaa", sum := "539bf7e5aae8ad831812289286f6cd2c7c92f9b6b2e9c1aff2dd7ee5387b7cdc", func := "tarpaulin/tarpaulinlaw6.WaitTakes", spec := "waitTakes", apart := false, narrowed := true }
def WaitTakesUptoSaid : Prop := waitTakesUptoRow.holds Try.pinned (OpenSpec.upto waitTakesSpec)

end Rows
end Go.Proofs.Ytdmdmaolbbjboaa

/-
  No cell of these rows narrows 'for every input' (looked for: loops, veiled, ifaces, maps, wideKeys, modest, calm, conditions, laid).
  DERIVED. THE GIVEN ROWS OF THIS SEAT. 5 by the template 'for every input the law returns true; each argument reads behind the call as it read before'; 0 by the template 'total and deterministic' (their statements: YtplckaodenpdbaaTotals.lean).
  GIVEN WITH THE SEED: the statements are not yours to turn. If you find one false, say at which input.
  Laid BY PROGRAM, IN A SANDBOX (cutbox-rows.mjs): the forced cells as the released guide's own fill.sh prints them over the translation 337354a5d8ee3f1c… (all of the seat's roots in one cut). By AI agents, Wed Nov 11 2026. No macro, syntax, notation, axiom, sorry.
-/
import Derived.Test.YtplckaodenpdbaaChecked
import GoSem.Claim
import GoSem.ClaimJoined
import GoSem.ClaimMapViews
import Derived.JoinedTies
import Derived.KernelRfl
namespace Go.Proofs.Ytplckaodenpdbaa
/- THE CELL 'sum', in the pinned program and in every row, IS THE sha256 OF THE DUMP (.gsa) THAT YtplckaodenpdbaaProg.lean LOADS. Nothing in Lean hashes anything: it is a label: what it is worth is what the hold of that sum in a sandbox is worth. -/
noncomputable def Try.pinned : Pinned := { name := "ytplckaodenpdbaa", sum := "337354a5d8ee3f1c987bfe3b0b54ea2872e74ec6cbc21a613e9616c63e5af8c3", checked := Try.checked }
namespace Rows
def none {H : Type} : Left H := { results := [], args := [] }

/-- 'tarpaulinlaw14.TreeActs': WHATEVER THE INPUT: true; the input reads as it did. -/
def treeActsSpec : ChangeSpec := { name := "treeActs", fn := fun _ => fun
  | [d] => { results := [.lit (.bool true)], args := [d] }
  | _ => none }
def treeActsRow : OpenClaim := { program := "ytplckaodenpdbaa", sum := "337354a5d8ee3f1c987bfe3b0b54ea2872e74ec6cbc21a613e9616c63e5af8c3", func := "tarpaulin/tarpaulinlaw14.TreeActs", spec := "treeActs", unfollowed := true, recurses := true, apart := false }
def TreeActsSaid : Prop := treeActsRow.holds Try.pinned (OpenSpec.ofChange treeActsSpec)

/-- ITS FALSE NEIGHBOUR: 'it returns false'. Refute it at one input. -/
def treeActsWrong : ChangeSpec := { name := "treeActs", fn := fun _ => fun
  | [d] => { results := [.lit (.bool false)], args := [d] }
  | _ => none }
def TreeActsWrongFalsely : Prop := treeActsRow.holds Try.pinned (OpenSpec.ofChange treeActsWrong)

/-- 'tarpaulinlaw14.TreeWalks': WHATEVER THE INPUT: true; the input reads as it did. -/
def treeWalksSpec : ChangeSpec := { name := "treeWalks", fn := fun _ => fun
  | [d1, d2] => { results := [.lit (.bool true)], args := [d1, d2] }
  | _ => none }
def treeWalksRow : OpenClaim := { program := "ytplckaodenpdbaa", sum := "337354a5d8ee3f1c987bfe3b0b54ea2872e74ec6cbc21a613e9616c63e5af8c3", func := "tarpaulin/tarpaulinlaw14.TreeWalks", spec := "treeWalks", unfollowed := true, recurses := true, apart := false }
def TreeWalksSaid : Prop := treeWalksRow.holds Try.pinned (OpenSpec.ofChange treeWalksSpec)

/-- ITS FALSE NEIGHBOUR: 'it returns false'. Refute it at one input. -/
def treeWalksWrong : ChangeSpec := { name := "treeWalks", fn := fun _ => fun
  | [d1, d2] => { results := [.lit (.bool false)], args := [d1, d2] }
  | _ => none }
def TreeWalksWrongFalsely : Prop := treeWalksRow.holds Try.pinned (OpenSpec.ofChange treeWalksWrong)

/-- 'tarpaulinlaw14.TreeDetach': WHATEVER THE INPUT: true; the input reads as it did. -/
def treeDetachSpec : ChangeSpec := { name := "treeDetach", fn := fun _ => fun
  | [d1, d2] => { results := [.lit (.bool true)], args := [d1, d2] }
  | _ => none }
def treeDetachRow : OpenClaim := { program := "ytplckaodenpdbaa", sum := "337354a5d8ee3f1c987bfe3b0b54ea2872e74ec6cbc21a613e9616c63e5af8c3", func := "tarpaulin/tarpaulinlaw14.TreeDetach", spec := "treeDetach", unfollowed := true, recurses := true, apart := false }
def TreeDetachSaid : Prop := treeDetachRow.holds Try.pinned (OpenSpec.ofChange treeDetachSpec)

/-- ITS FALSE NEIGHBOUR: 'it returns false'. Refute it at one input. -/
def treeDetachWrong : ChangeSpec := { name := "treeDetach", fn := fun _ => fun
  | [d1, d2] => { results := [.lit (.bool false)], args := [d1, d2] }
  | _ => none }
def TreeDetachWrongFalsely : Prop := treeDetachRow.holds Try.pinned (OpenSpec.ofChange treeDetachWrong)

/-- 'tarpaulinlaw14.TreeUnder': WHATEVER THE INPUT: true; the input reads as it did. -/
def treeUnderSpec : ChangeSpec := { name := "treeUnder", fn := fun _ => fun
  | [d1, d2, d3] => { results := [.lit (.bool true)], args := [d1, d2, d3] }
  | _ => none }
def treeUnderRow : OpenClaim := { program := "ytplckaodenpdbaa", sum := "337354a5d8ee3f1c987bfe3b0b54ea2872e74ec6cbc21a613e9616c63e5af8c3", func := "tarpaulin/tarpaulinlaw14.TreeUnder", spec := "treeUnder", unfollowed := true, recurses := true, apart := false }
def TreeUnderSaid : Prop := treeUnderRow.holds Try.pinned (OpenSpec.ofChange treeUnderSpec)

/-- ITS FALSE NEIGHBOUR: 'it returns false'. Refute it at one input. -/
def treeUnderWrong : ChangeSpec := { name := "treeUnder", fn := fun _ => fun
  | [d1, d2, d3] => { results := [.lit (.bool false)], args := [d1, d2, d3] }
  | _ => none }
def TreeUnderWrongFalsely : Prop := treeUnderRow.holds Try.pinned (OpenSpec.ofChange treeUnderWrong)

/-- 'tarpaulinlaw14.TreeLines': WHATEVER THE INPUT: true; the input reads as it did. -/
def treeLinesSpec : ChangeSpec := { name := "treeLines", fn := fun _ => fun
  | [d1, d2] => { results := [.lit (.bool true)], args := [d1, d2] }
  | _ => none }
def treeLinesRow : OpenClaim := { program := "ytplckaodenpdbaa", sum := "337354a5d8ee3f1c987bfe3b0b54ea2872e74ec6cbc21a613e9616c63e5af8c3", func := "tarpaulin/tarpaulinlaw14.TreeLines", spec := "treeLines", unfollowed := true, recurses := true, apart := false }
def TreeLinesSaid : Prop := treeLinesRow.holds Try.pinned (OpenSpec.ofChange treeLinesSpec)

/-- ITS FALSE NEIGHBOUR: 'it returns false'. Refute it at one input. -/
def treeLinesWrong : ChangeSpec := { name := "treeLines", fn := fun _ => fun
  | [d1, d2] => { results := [.lit (.bool false)], args := [d1, d2] }
  | _ => none }
def TreeLinesWrongFalsely : Prop := treeLinesRow.holds Try.pinned (OpenSpec.ofChange treeLinesWrong)

/- THE SECOND FORM. 'bulk': how many values and letters a reading holds, each counted each time it is reached (what is shared counts as often as it is met; a slice's spare places count too). A statement '..UptoSaid' is the law's where the arguments, and the package variables that the reading takes, are together of bulk at most 1048576: NARROWER than '..Said'. Prove '..Said' where nothing that the law and all that it calls make is longer than what came in: it says more and counts as full. Else prove '..UptoSaid'. A law counts once. -/
mutual
def uptoBulk {H : Type} : DataW H → Nat
  | .lit (.string bytes) => bytes.length + 1
  | .lit _ => 1
  | .nil => 1
  | .ptr d => uptoBulk d + 1
  | .slice elems spare => uptoBulkAll elems + uptoBulkAll spare + 1
  | .agg parts => uptoBulkAll parts + 1
  | .iface _ d => uptoBulk d + 1
  | .map entries => uptoBulkEntries entries + 1
  | .held _ => 1
def uptoBulkAll {H : Type} : List (DataW H) → Nat
  | [] => 0
  | d :: r => uptoBulk d + uptoBulkAll r
def uptoBulkEntries {H : Type} : List (Lit × DataW H) → Nat
  | [] => 0
  | x :: r => uptoBulkEntry x + uptoBulkEntries r
def uptoBulkEntry {H : Type} : Lit × DataW H → Nat
  | (.string bytes, d) => bytes.length + uptoBulk d + 1
  | (_, d) => uptoBulk d + 1
 end
def uptoSmall : (H : Type) → List (DataW H) → Bool := fun _ ds => decide (uptoBulkAll ds ≤ 1048576)
def OpenSpec.upto (s : _root_.Go.ChangeSpec) : _root_.Go.OpenSpec := { _root_.Go.OpenSpec.ofChange s with cond := some uptoSmall }

/-- 'tarpaulinlaw14.TreeActs', WHERE WHAT IT READS IS OF BULK AT MOST 1048576: true; the input reads as it did. -/
def treeActsUptoRow : OpenClaim := { program := "ytplckaodenpdbaa", sum := "337354a5d8ee3f1c987bfe3b0b54ea2872e74ec6cbc21a613e9616c63e5af8c3", func := "tarpaulin/tarpaulinlaw14.TreeActs", spec := "treeActs", unfollowed := true, recurses := true, apart := false, narrowed := true }
def TreeActsUptoSaid : Prop := treeActsUptoRow.holds Try.pinned (OpenSpec.upto treeActsSpec)

/-- 'tarpaulinlaw14.TreeWalks', WHERE WHAT IT READS IS OF BULK AT MOST 1048576: true; the input reads as it did. -/
def treeWalksUptoRow : OpenClaim := { program := "ytplckaodenpdbaa", sum := "337354a5d8ee3f1c987bfe3b0b54ea2872e74ec6cbc21a613e9616c63e5af8c3", func := "tarpaulin/tarpaulinlaw14.TreeWalks", spec := "treeWalks", unfollowed := true, recurses := true, apart := false, narrowed := true }
def TreeWalksUptoSaid : Prop := treeWalksUptoRow.holds Try.pinned (OpenSpec.upto treeWalksSpec)

/-- 'tarpaulinlaw14.TreeDetach', WHERE WHAT IT READS IS OF BULK AT MOST 1048576: true; the input reads as it did. -/
def treeDetachUptoRow : OpenClaim := { program := "ytplckaodenpdbaa", sum := "337354a5d8ee3f1c987bfe3b0b54ea2872e74ec6cbc21a613e9616c63e5af8c3", func := "tarpaulin/tarpaulinlaw14.TreeDetach", spec := "treeDetach", unfollowed := true, recurses := true, apart := false, narrowed := true }
def TreeDetachUptoSaid : Prop := treeDetachUptoRow.holds Try.pinned (OpenSpec.upto treeDetachSpec)

/-- 'tarpaulinlaw14.TreeUnder', WHERE WHAT IT READS IS OF BULK AT MOST 1048576: true; the input reads as it did. -/
def treeUnderUptoRow : OpenClaim := { program := "ytplckaodenpdbaa", sum := "337354a5d8ee3f1c987bfe3b0b54ea2872e74ec6cbc21a613e9616c63e5af8c3", func := "tarpaulin/tarpaulinlaw14.TreeUnder", spec := "treeUnder", unfollowed := true, recurses := true, apart := false, narrowed := true }
def TreeUnderUptoSaid : Prop := treeUnderUptoRow.holds Try.pinned (OpenSpec.upto treeUnderSpec)

/-- 'tarpaulinlaw14.TreeLines', WHERE WHAT IT READS IS OF BULK AT MOST 1048576: true; the input reads as it did. -/
def treeLinesUptoRow : OpenClaim := { program := "ytplckaodenpdbaa", sum := "337354a5d8ee3f1c987bfe3b0b54ea2872e74ec6cbc21a613e9616c63e5af8c3", func := "tarpaulin/tarpaulinlaw14.TreeLines", spec := "treeLines", unfollowed := true, recurses := true, apart := false, narrowed := true }
def TreeLinesUptoSaid : Prop := treeLinesUptoRow.holds Try.pinned (OpenSpec.upto treeLinesSpec)

end Rows
end Go.Proofs.Ytplckaodenpdbaa

/-
  No cell of these rows narrows 'for every input' (looked for: loops, veiled, ifaces, maps, wideKeys, modest, calm, conditions, laid).
  DERIVED. THE GIVEN ROWS OF THIS SEAT. 4 by the template 'for every input the law returns true; each argument reads behind the call as it read before'; 0 by the template 'total and deterministic' (their statements: YtbefcakakoaieaaTotals.lean).
  GIVEN WITH THE SEED: the statements are not yours to turn. If you find one false, say at which input.
  Laid BY PROGRAM, IN A SANDBOX (cutbox-rows.mjs): the forced cells as the released guide's own fill.sh prints them over the translation 1aa9ffc9597c99a5… (all of the seat's roots in one cut). By AI agents, Wed Nov 11 2026. No macro, syntax, notation, axiom, sorry.
-/
import Derived.Test.YtbefcakakoaieaaChecked
import GoSem.Claim
import GoSem.ClaimJoined
import GoSem.ClaimMapViews
import Derived.JoinedTies
import Derived.KernelRfl
namespace Go.Proofs.Ytbefcakakoaieaa
/- THE CELL 'sum', in the pinned program and in every row, IS THE sha256 OF THE DUMP (.gsa) THAT YtbefcakakoaieaaProg.lean LOADS. Nothing in Lean hashes anything: it is a label: what it is worth is what the hold of that sum in a sandbox is worth. -/
noncomputable def Try.pinned : Pinned := { name := "ytbefcakakoaieaa", sum := "1aa9ffc9597c99a58aabf92d30b332c249866ecb897b23cd907a7feb2dd6a70c", checked := Try.checked }
namespace Rows
def none {H : Type} : Left H := { results := [], args := [] }

/-- 'tarpaulinlaw16.WhyTells': WHATEVER THE INPUT: true; the input reads as it did. -/
def whyTellsSpec : ChangeSpec := { name := "whyTells", fn := fun _ => fun
  | [d1, d2, d3] => { results := [.lit (.bool true)], args := [d1, d2, d3] }
  | _ => none }
def whyTellsRow : OpenClaim := { program := "ytbefcakakoaieaa", sum := "1aa9ffc9597c99a58aabf92d30b332c249866ecb897b23cd907a7feb2dd6a70c", func := "tarpaulin/tarpaulinlaw16.WhyTells", spec := "whyTells", inPlace := ["internal/reflectlite.TypeOf"], unfollowed := true, recurses := true, apart := false }
def WhyTellsSaid : Prop := whyTellsRow.holds Try.pinned (OpenSpec.ofChange whyTellsSpec)

/-- ITS FALSE NEIGHBOUR: 'it returns false'. Refute it at one input. -/
def whyTellsWrong : ChangeSpec := { name := "whyTells", fn := fun _ => fun
  | [d1, d2, d3] => { results := [.lit (.bool false)], args := [d1, d2, d3] }
  | _ => none }
def WhyTellsWrongFalsely : Prop := whyTellsRow.holds Try.pinned (OpenSpec.ofChange whyTellsWrong)

/-- 'tarpaulinlaw16.WhyIs': WHATEVER THE INPUT: true; the input reads as it did. -/
def whyIsSpec : ChangeSpec := { name := "whyIs", fn := fun _ => fun
  | [d1, d2] => { results := [.lit (.bool true)], args := [d1, d2] }
  | _ => none }
def whyIsRow : OpenClaim := { program := "ytbefcakakoaieaa", sum := "1aa9ffc9597c99a58aabf92d30b332c249866ecb897b23cd907a7feb2dd6a70c", func := "tarpaulin/tarpaulinlaw16.WhyIs", spec := "whyIs", inPlace := ["internal/reflectlite.TypeOf"], unfollowed := true, recurses := true, apart := false }
def WhyIsSaid : Prop := whyIsRow.holds Try.pinned (OpenSpec.ofChange whyIsSpec)

/-- ITS FALSE NEIGHBOUR: 'it returns false'. Refute it at one input. -/
def whyIsWrong : ChangeSpec := { name := "whyIs", fn := fun _ => fun
  | [d1, d2] => { results := [.lit (.bool false)], args := [d1, d2] }
  | _ => none }
def WhyIsWrongFalsely : Prop := whyIsRow.holds Try.pinned (OpenSpec.ofChange whyIsWrong)

/-- 'tarpaulinlaw16.WhyWraps': WHATEVER THE INPUT: true; the input reads as it did. -/
def whyWrapsSpec : ChangeSpec := { name := "whyWraps", fn := fun _ => fun
  | [d1, d2, d3] => { results := [.lit (.bool true)], args := [d1, d2, d3] }
  | _ => none }
def whyWrapsRow : OpenClaim := { program := "ytbefcakakoaieaa", sum := "1aa9ffc9597c99a58aabf92d30b332c249866ecb897b23cd907a7feb2dd6a70c", func := "tarpaulin/tarpaulinlaw16.WhyWraps", spec := "whyWraps", inPlace := ["internal/reflectlite.TypeOf"], unfollowed := true, recurses := true, apart := false }
def WhyWrapsSaid : Prop := whyWrapsRow.holds Try.pinned (OpenSpec.ofChange whyWrapsSpec)

/-- ITS FALSE NEIGHBOUR: 'it returns false'. Refute it at one input. -/
def whyWrapsWrong : ChangeSpec := { name := "whyWraps", fn := fun _ => fun
  | [d1, d2, d3] => { results := [.lit (.bool false)], args := [d1, d2, d3] }
  | _ => none }
def WhyWrapsWrongFalsely : Prop := whyWrapsRow.holds Try.pinned (OpenSpec.ofChange whyWrapsWrong)

/-- 'tarpaulinlaw16.WhyDeep': WHATEVER THE INPUT: true; the input reads as it did. -/
def whyDeepSpec : ChangeSpec := { name := "whyDeep", fn := fun _ => fun
  | [d] => { results := [.lit (.bool true)], args := [d] }
  | _ => none }
def whyDeepRow : OpenClaim := { program := "ytbefcakakoaieaa", sum := "1aa9ffc9597c99a58aabf92d30b332c249866ecb897b23cd907a7feb2dd6a70c", func := "tarpaulin/tarpaulinlaw16.WhyDeep", spec := "whyDeep", inPlace := ["internal/reflectlite.TypeOf"], unfollowed := true, recurses := true, apart := false }
def WhyDeepSaid : Prop := whyDeepRow.holds Try.pinned (OpenSpec.ofChange whyDeepSpec)

/-- ITS FALSE NEIGHBOUR: 'it returns false'. Refute it at one input. -/
def whyDeepWrong : ChangeSpec := { name := "whyDeep", fn := fun _ => fun
  | [d] => { results := [.lit (.bool false)], args := [d] }
  | _ => none }
def WhyDeepWrongFalsely : Prop := whyDeepRow.holds Try.pinned (OpenSpec.ofChange whyDeepWrong)

/- THE SECOND FORM. 'bulk': how many values and letters a reading holds, each counted each time it is reached (what is shared counts as often as it is met; a slice's spare places count too). A statement '..UptoSaid' is the law's where the arguments, and the package variables that the reading takes, are together of bulk at most 1048576: NARROWER than '..Said'. Prove '..Said' where nothing that the law and all that it calls make is longer than what came in: it says more and counts as full. Else prove '..UptoSaid'. A law counts once. -/
mutual
def uptoBulk {H : Type} : DataW H → Nat
  | .lit (.string bytes) => bytes.length + 1
  | .lit _ => 1
  | .nil => 1
  | .ptr d => uptoBulk d + 1
  | .slice elems spare => uptoBulkAll elems + uptoBulkAll spare + 1
  | .agg parts => uptoBulkAll parts + 1
  | .iface _ d => uptoBulk d + 1
  | .map entries => uptoBulkEntries entries + 1
  | .held _ => 1
def uptoBulkAll {H : Type} : List (DataW H) → Nat
  | [] => 0
  | d :: r => uptoBulk d + uptoBulkAll r
def uptoBulkEntries {H : Type} : List (Lit × DataW H) → Nat
  | [] => 0
  | x :: r => uptoBulkEntry x + uptoBulkEntries r
def uptoBulkEntry {H : Type} : Lit × DataW H → Nat
  | (.string bytes, d) => bytes.length + uptoBulk d + 1
  | (_, d) => uptoBulk d + 1
 end
def uptoSmall : (H : Type) → List (DataW H) → Bool := fun _ ds => decide (uptoBulkAll ds ≤ 1048576)
def OpenSpec.upto (s : _root_.Go.ChangeSpec) : _root_.Go.OpenSpec := { _root_.Go.OpenSpec.ofChange s with cond := some uptoSmall }

/-- 'tarpaulinlaw16.WhyTells', WHERE WHAT IT READS IS OF BULK AT MOST 1048576: true; the input reads as it did. -/
def whyTellsUptoRow : OpenClaim := { program := "ytbefcakakoaieaa", sum := "1aa9ffc9597c99a58aabf92d30b332c249866ecb897b23cd907a7feb2dd6a70c", func := "tarpaulin/tarpaulinlaw16.WhyTells", spec := "whyTells", inPlace := ["internal/reflectlite.TypeOf"], unfollowed := true, recurses := true, apart := false, narrowed := true }
def WhyTellsUptoSaid : Prop := whyTellsUptoRow.holds Try.pinned (OpenSpec.upto whyTellsSpec)

/-- 'tarpaulinlaw16.WhyIs', WHERE WHAT IT READS IS OF BULK AT MOST 1048576: true; the input reads as it did. -/
def whyIsUptoRow : OpenClaim := { program := "ytbefcakakoaieaa", sum := "1aa9ffc9597c99a58aabf92d30b332c249866ecb897b23cd907a7feb2dd6a70c", func := "tarpaulin/tarpaulinlaw16.WhyIs", spec := "whyIs", inPlace := ["internal/reflectlite.TypeOf"], unfollowed := true, recurses := true, apart := false, narrowed := true }
def WhyIsUptoSaid : Prop := whyIsUptoRow.holds Try.pinned (OpenSpec.upto whyIsSpec)

/-- 'tarpaulinlaw16.WhyWraps', WHERE WHAT IT READS IS OF BULK AT MOST 1048576: true; the input reads as it did. -/
def whyWrapsUptoRow : OpenClaim := { program := "ytbefcakakoaieaa", sum := "1aa9ffc9597c99a58aabf92d30b332c249866ecb897b23cd907a7feb2dd6a70c", func := "tarpaulin/tarpaulinlaw16.WhyWraps", spec := "whyWraps", inPlace := ["internal/reflectlite.TypeOf"], unfollowed := true, recurses := true, apart := false, narrowed := true }
def WhyWrapsUptoSaid : Prop := whyWrapsUptoRow.holds Try.pinned (OpenSpec.upto whyWrapsSpec)

/-- 'tarpaulinlaw16.WhyDeep', WHERE WHAT IT READS IS OF BULK AT MOST 1048576: true; the input reads as it did. -/
def whyDeepUptoRow : OpenClaim := { program := "ytbefcakakoaieaa", sum := "1aa9ffc9597c99a58aabf92d30b332c249866ecb897b23cd907a7feb2dd6a70c", func := "tarpaulin/tarpaulinlaw16.WhyDeep", spec := "whyDeep", inPlace := ["internal/reflectlite.TypeOf"], unfollowed := true, recurses := true, apart := false, narrowed := true }
def WhyDeepUptoSaid : Prop := whyDeepUptoRow.holds Try.pinned (OpenSpec.upto whyDeepSpec)

end Rows
end Go.Proofs.Ytbefcakakoaieaa

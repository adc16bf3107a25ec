/-
  No cell of these rows narrows 'for every input' (looked for: loops, veiled, ifaces, maps, wideKeys, modest, calm, conditions, laid).
  DERIVED. THE GIVEN ROWS OF THIS SEAT. 4 by the template 'for every input the law returns true; each argument reads behind the call as it read before'; 0 by the template 'total and deterministic' (their statements: YtbgllnooodhgpaaTotals.lean).
  GIVEN WITH THE SEED: the statements are not yours to turn. If you find one false, say at which input.
  Laid BY PROGRAM, IN A SANDBOX (cutbox-rows.mjs): the forced cells as the released guide's own fill.sh prints them over the translation de324964e76438da… (all of the seat's roots in one cut). By AI agents, Wed Nov 11 2026. No macro, syntax, notation, axiom, sorry.
-/
import Derived.Test.YtbgllnooodhgpaaChecked
import GoSem.Claim
import GoSem.ClaimJoined
import GoSem.ClaimMapViews
import Derived.JoinedTies
import Derived.KernelRfl
namespace Go.Proofs.Ytbgllnooodhgpaa
/- THE CELL 'sum', in the pinned program and in every row, IS THE sha256 OF THE DUMP (.gsa) THAT YtbgllnooodhgpaaProg.lean LOADS. Nothing in Lean hashes anything: it is a label: what it is worth is what the hold of that sum in a sandbox is worth. -/
noncomputable def Try.pinned : Pinned := { name := "ytbgllnooodhgpaa", sum := "de324964e76438da755dae15830c1909ad36ce802f1c0e33679538ef49bd981f", checked := Try.checked }
namespace Rows
def none {H : Type} : Left H := { results := [], args := [] }

/-- 'tarpaulinlaw8.ReadyActs': WHATEVER THE INPUT: true; the input reads as it did. -/
def readyActsSpec : ChangeSpec := { name := "readyActs", fn := fun _ => fun
  | [d] => { results := [.lit (.bool true)], args := [d] }
  | _ => none }
def readyActsRow : OpenClaim := { program := "ytbgllnooodhgpaa", sum := "de324964e76438da755dae15830c1909ad36ce802f1c0e33679538ef49bd981f", func := "tarpaulin/tarpaulinlaw8.ReadyActs", spec := "readyActs", apart := false }
def ReadyActsSaid : Prop := readyActsRow.holds Try.pinned (OpenSpec.ofChange readyActsSpec)

/-- ITS FALSE NEIGHBOUR: 'it returns false'. Refute it at one input. -/
def readyActsWrong : ChangeSpec := { name := "readyActs", fn := fun _ => fun
  | [d] => { results := [.lit (.bool false)], args := [d] }
  | _ => none }
def ReadyActsWrongFalsely : Prop := readyActsRow.holds Try.pinned (OpenSpec.ofChange readyActsWrong)

/-- 'tarpaulinlaw8.ReadyTurns': WHATEVER THE INPUT: true; the input reads as it did. -/
def readyTurnsSpec : ChangeSpec := { name := "readyTurns", fn := fun _ => fun
  | [d1, d2] => { results := [.lit (.bool true)], args := [d1, d2] }
  | _ => none }
def readyTurnsRow : OpenClaim := { program := "ytbgllnooodhgpaa", sum := "de324964e76438da755dae15830c1909ad36ce802f1c0e33679538ef49bd981f", func := "tarpaulin/tarpaulinlaw8.ReadyTurns", spec := "readyTurns", apart := false }
def ReadyTurnsSaid : Prop := readyTurnsRow.holds Try.pinned (OpenSpec.ofChange readyTurnsSpec)

/-- ITS FALSE NEIGHBOUR: 'it returns false'. Refute it at one input. -/
def readyTurnsWrong : ChangeSpec := { name := "readyTurns", fn := fun _ => fun
  | [d1, d2] => { results := [.lit (.bool false)], args := [d1, d2] }
  | _ => none }
def ReadyTurnsWrongFalsely : Prop := readyTurnsRow.holds Try.pinned (OpenSpec.ofChange readyTurnsWrong)

/-- 'tarpaulinlaw8.ReadyBehind': WHATEVER THE INPUT: true; the input reads as it did. -/
def readyBehindSpec : ChangeSpec := { name := "readyBehind", fn := fun _ => fun
  | [d1, d2] => { results := [.lit (.bool true)], args := [d1, d2] }
  | _ => none }
def readyBehindRow : OpenClaim := { program := "ytbgllnooodhgpaa", sum := "de324964e76438da755dae15830c1909ad36ce802f1c0e33679538ef49bd981f", func := "tarpaulin/tarpaulinlaw8.ReadyBehind", spec := "readyBehind", apart := false }
def ReadyBehindSaid : Prop := readyBehindRow.holds Try.pinned (OpenSpec.ofChange readyBehindSpec)

/-- ITS FALSE NEIGHBOUR: 'it returns false'. Refute it at one input. -/
def readyBehindWrong : ChangeSpec := { name := "readyBehind", fn := fun _ => fun
  | [d1, d2] => { results := [.lit (.bool false)], args := [d1, d2] }
  | _ => none }
def ReadyBehindWrongFalsely : Prop := readyBehindRow.holds Try.pinned (OpenSpec.ofChange readyBehindWrong)

/-- 'tarpaulinlaw8.ReadyNone': WHATEVER THE INPUT: true; the input reads as it did. -/
def readyNoneSpec : ChangeSpec := { name := "readyNone", fn := fun _ => fun
  | [d1, d2] => { results := [.lit (.bool true)], args := [d1, d2] }
  | _ => none }
def readyNoneRow : OpenClaim := { program := "ytbgllnooodhgpaa", sum := "de324964e76438da755dae15830c1909ad36ce802f1c0e33679538ef49bd981f", func := "tarpaulin/tarpaulinlaw8.ReadyNone", spec := "readyNone", apart := false }
def ReadyNoneSaid : Prop := readyNoneRow.holds Try.pinned (OpenSpec.ofChange readyNoneSpec)

/-- ITS FALSE NEIGHBOUR: 'it returns false'. Refute it at one input. -/
def readyNoneWrong : ChangeSpec := { name := "readyNone", fn := fun _ => fun
  | [d1, d2] => { results := [.lit (.bool false)], args := [d1, d2] }
  | _ => none }
def ReadyNoneWrongFalsely : Prop := readyNoneRow.holds Try.pinned (OpenSpec.ofChange readyNoneWrong)

/- THE SECOND FORM. 'bulk': how many values and letters a reading holds, each counted each time it is reached (what is shared counts as often as it is met; a slice's spare places count too). A statement '..UptoSaid' is the law's where the arguments, and the package variables that the reading takes, are together of bulk at most 1048576: NARROWER than '..Said'. Prove '..Said' where nothing that the law and all that it calls make is longer than what came in: it says more and counts as full. Else prove '..UptoSaid'. A law counts once. -/
mutual
def uptoBulk {H : Type} : DataW H → Nat
  | .lit (.string bytes) => bytes.length + 1
  | .lit _ => 1
  | .nil => 1
  | .ptr d => uptoBulk d + 1
  | .slice elems spare => uptoBulkAll elems + uptoBulkAll spare + 1
  | .agg parts => uptoBulkAll parts + 1
  | .iface _ d => uptoBulk d + 1
  | .map entries => uptoBulkEntries entries + 1
  | .held _ => 1
def uptoBulkAll {H : Type} : List (DataW H) → Nat
  | [] => 0
  | d :: r => uptoBulk d + uptoBulkAll r
def uptoBulkEntries {H : Type} : List (Lit × DataW H) → Nat
  | [] => 0
  | x :: r => uptoBulkEntry x + uptoBulkEntries r
def uptoBulkEntry {H : Type} : Lit × DataW H → Nat
  | (.string bytes, d) => bytes.length + uptoBulk d + 1
  | (_, d) => uptoBulk d + 1
 end
def uptoSmall : (H : Type) → List (DataW H) → Bool := fun _ ds => decide (uptoBulkAll ds ≤ 1048576)
def OpenSpec.upto (s : _root_.Go.ChangeSpec) : _root_.Go.OpenSpec := { _root_.Go.OpenSpec.ofChange s with cond := some uptoSmall }

/-- 'tarpaulinlaw8.ReadyActs', WHERE WHAT IT READS IS OF BULK AT MOST 1048576: true; the input reads as it did. -/
def readyActsUptoRow : OpenClaim := { program := "ytbgllnooodhgpaa", sum := "de324964e76438da755dae15830c1909ad36ce802f1c0e33679538ef49bd981f", func := "tarpaulin/tarpaulinlaw8.ReadyActs", spec := "readyActs", apart := false, narrowed := true }
def ReadyActsUptoSaid : Prop := readyActsUptoRow.holds Try.pinned (OpenSpec.upto readyActsSpec)

/-- 'tarpaulinlaw8.ReadyTurns', WHERE WHAT IT READS IS OF BULK AT MOST 1048576: true; the input reads as it did. -/
def readyTurnsUptoRow : OpenClaim := { program := "ytbgllnooodhgpaa", sum := "de324964e76438da755dae15830c1909ad36ce802f1c0e33679538ef49bd981f", func := "tarpaulin/tarpaulinlaw8.ReadyTurns", spec := "readyTurns", apart := false, narrowed := true }
def ReadyTurnsUptoSaid : Prop := readyTurnsUptoRow.holds Try.pinned (OpenSpec.upto readyTurnsSpec)

/-- 'tarpaulinlaw8.ReadyBehind', WHERE WHAT IT READS IS OF BULK AT MOST 1048576: true; the input reads as it did. -/
def readyBehindUptoRow : OpenClaim := { program := "ytbgllnooodhgpaa", sum := "de324964e76438da755dae15830c1909ad36ce802f1c0e33679538ef49bd981f", func := "tarpaulin/tarpaulinlaw8.ReadyBehind", spec := "readyBehind", apart := false, narrowed := true }
def ReadyBehindUptoSaid : Prop := readyBehindUptoRow.holds Try.pinned (OpenSpec.upto readyBehindSpec)

/-- 'tarpaulinlaw8.ReadyNone', WHERE WHAT IT READS IS OF BULK AT MOST 1048576: true; the input reads as it did. -/
def readyNoneUptoRow : OpenClaim := { program := "ytbgllnooodhgpaa", sum := "de324964e76438da755dae15830c1909ad36ce802f1c0e33679538ef49bd981f", func := "tarpaulin/tarpaulinlaw8.ReadyNone", spec := "readyNone", apart := false, narrowed := true }
def ReadyNoneUptoSaid : Prop := readyNoneUptoRow.holds Try.pinned (OpenSpec.upto readyNoneSpec)

end Rows
end Go.Proofs.Ytbgllnooodhgpaa

/-
  NARROWER THAN 'FOR EVERY INPUT', by the rows' own cells (each row's printed sentence says how): TaskLine: laid · TaskWakes: laid · TaskEnds: laid · TaskFull: laid · TaskPicks: laid.
  DERIVED. THE GIVEN ROWS OF THIS SEAT. 5 by the template 'for every input the law returns true; each argument reads behind the call as it read before'; 0 by the template 'total and deterministic' (their statements: YthiifnbgdajgaaaDoorTotals.lean).
  GIVEN WITH THE SEED: the statements are not yours to turn. If you find one false, say at which input.
  Laid BY PROGRAM, IN A SANDBOX (cutbox-rows.mjs): the forced cells as the released guide's own fill.sh prints them over the translation 70bb9ed1abfa1c48… (all of the seat's roots in one cut). By AI agents, Wed Nov 11 2026. No macro, syntax, notation, axiom, sorry.
-/
import Derived.Test.YthiifnbgdajgaaaDoorChecked
import GoSem.Claim
import GoSem.ClaimJoined
import GoSem.ClaimMapViews
import Derived.JoinedTies
import Derived.KernelRfl
namespace Go.Proofs.YthiifnbgdajgaaaDoor
/- THE CELL 'sum', in the pinned program and in every row, IS THE sha256 OF THE DUMP (.gsa) THAT YthiifnbgdajgaaaDoorProg.lean LOADS. Nothing in Lean hashes anything: it is a label: what it is worth is what the hold of that sum in a sandbox is worth. -/
noncomputable def Tryd.pinned : Pinned := { name := "ythiifnbgdajgaaadoor", sum := "70bb9ed1abfa1c48b76a38913298687e930dfe73c3ac6d0975fa4ab9ede5e307", checked := Tryd.checked }
namespace Rows
def none {H : Type} : Left H := { results := [], args := [] }

/- WHAT THE LISTED PACKAGE-LEVEL VARIABLES READ AS WHEN THE CALL BEGINS. Each datum BY PROGRAM (the guide's laid-datum.mjs) off the statement by which the dump's own 'gosem.cut.vars' lays the variable. In a bare row this is a premise. The card (YthiifnbgdajgaaaDoorCards.lean) ties it to the program's text. -/
def laid_tarpaulin_prog_forms {H : Type} : DataW H := .agg [.agg [.lit (.string []), .lit (.int .u8 0), .lit (.int .u8 0), .lit (.int .u8 0)], .agg [.lit (.string [115, 101, 116]), .lit (.int .u8 1), .lit (.int .u8 4), .lit (.int .u8 0)], .agg [.lit (.string [109, 111, 118, 101]), .lit (.int .u8 1), .lit (.int .u8 1), .lit (.int .u8 0)], .agg [.lit (.string [105, 110, 99]), .lit (.int .u8 1), .lit (.int .u8 4), .lit (.int .u8 0)], .agg [.lit (.string [106, 117, 109, 112]), .lit (.int .u8 2), .lit (.int .u8 0), .lit (.int .u8 0)], .agg [.lit (.string [122, 101, 114, 111]), .lit (.int .u8 1), .lit (.int .u8 2), .lit (.int .u8 0)], .agg [.lit (.string [101, 109, 105, 116]), .lit (.int .u8 1), .lit (.int .u8 0), .lit (.int .u8 0)], .agg [.lit (.string [101, 120, 105, 116]), .lit (.int .u8 0), .lit (.int .u8 0), .lit (.int .u8 0)], .agg [.lit (.string [103, 111]), .lit (.int .u8 1), .lit (.int .u8 3), .lit (.int .u8 0)], .agg [.lit (.string [109, 97, 107, 101]), .lit (.int .u8 1), .lit (.int .u8 4), .lit (.int .u8 0)], .agg [.lit (.string [115, 101, 110, 100]), .lit (.int .u8 1), .lit (.int .u8 1), .lit (.int .u8 0)], .agg [.lit (.string [114, 101, 99, 118]), .lit (.int .u8 1), .lit (.int .u8 1), .lit (.int .u8 1)], .agg [.lit (.string [99, 108, 111, 115, 101]), .lit (.int .u8 1), .lit (.int .u8 0), .lit (.int .u8 0)], .agg [.lit (.string [108, 101, 110]), .lit (.int .u8 1), .lit (.int .u8 1), .lit (.int .u8 0)], .agg [.lit (.string [99, 97, 112]), .lit (.int .u8 1), .lit (.int .u8 1), .lit (.int .u8 0)], .agg [.lit (.string [115, 101, 108, 101, 99, 116]), .lit (.int .u8 1), .lit (.int .u8 1), .lit (.int .u8 1)], .agg [.lit (.string [110, 111, 119]), .lit (.int .u8 1), .lit (.int .u8 0), .lit (.int .u8 0)], .agg [.lit (.string [110, 101, 119, 116, 105, 109, 101, 114]), .lit (.int .u8 1), .lit (.int .u8 1), .lit (.int .u8 1)], .agg [.lit (.string [116, 105, 99, 107, 101, 114]), .lit (.int .u8 1), .lit (.int .u8 1), .lit (.int .u8 1)], .agg [.lit (.string [102, 117, 110, 99]), .lit (.int .u8 1), .lit (.int .u8 1), .lit (.int .u8 3)], .agg [.lit (.string [115, 116, 111, 112]), .lit (.int .u8 1), .lit (.int .u8 1), .lit (.int .u8 0)], .agg [.lit (.string [114, 101, 115, 101, 116]), .lit (.int .u8 1), .lit (.int .u8 1), .lit (.int .u8 1)], .agg [.lit (.string [99, 97, 110, 99, 101, 108, 115]), .lit (.int .u8 1), .lit (.int .u8 1), .lit (.int .u8 0)], .agg [.lit (.string [100, 101, 97, 100, 108, 105, 110, 101]), .lit (.int .u8 1), .lit (.int .u8 1), .lit (.int .u8 1)], .agg [.lit (.string [116, 105, 109, 101, 111, 117, 116]), .lit (.int .u8 1), .lit (.int .u8 1), .lit (.int .u8 1)], .agg [.lit (.string [119, 105, 116, 104, 111, 117, 116]), .lit (.int .u8 1), .lit (.int .u8 1), .lit (.int .u8 0)], .agg [.lit (.string [99, 97, 110, 99, 101, 108]), .lit (.int .u8 1), .lit (.int .u8 1), .lit (.int .u8 0)], .agg [.lit (.string [101, 114, 114]), .lit (.int .u8 1), .lit (.int .u8 1), .lit (.int .u8 0)], .agg [.lit (.string [99, 97, 117, 115, 101]), .lit (.int .u8 1), .lit (.int .u8 1), .lit (.int .u8 0)], .agg [.lit (.string [100, 111, 110, 101]), .lit (.int .u8 1), .lit (.int .u8 1), .lit (.int .u8 0)], .agg [.lit (.string [117, 110, 116, 105, 108]), .lit (.int .u8 1), .lit (.int .u8 1), .lit (.int .u8 1)], .agg [.lit (.string [97, 102, 116, 101, 114]), .lit (.int .u8 1), .lit (.int .u8 1), .lit (.int .u8 3)], .agg [.lit (.string [117, 110, 97, 102, 116, 101, 114]), .lit (.int .u8 1), .lit (.int .u8 1), .lit (.int .u8 0)]]

/-- 'tarpaulinlaw17.TaskLine': WHATEVER THE INPUT: true; the input reads as it did. -/
def taskLineSpec : ChangeSpec := { name := "taskLine", fn := fun _ => fun
  | [d] => { results := [.lit (.bool true)], args := [d] }
  | _ => none }
def taskLineRow : OpenClaim := { program := "ythiifnbgdajgaaadoor", sum := "70bb9ed1abfa1c48b76a38913298687e930dfe73c3ac6d0975fa4ab9ede5e307", func := "tarpaulin/tarpaulinlaw17.TaskLine", spec := "taskLine", named := ["tarpaulin/prog.forms"], apart := false, laid := [("tarpaulin/prog.forms", laid_tarpaulin_prog_forms)] }
def TaskLineSaid : Prop := taskLineRow.holds Tryd.pinned (OpenSpec.ofChange taskLineSpec)

/-- ITS FALSE NEIGHBOUR: 'it returns false'. Refute it at one input. -/
def taskLineWrong : ChangeSpec := { name := "taskLine", fn := fun _ => fun
  | [d] => { results := [.lit (.bool false)], args := [d] }
  | _ => none }
def TaskLineWrongFalsely : Prop := taskLineRow.holds Tryd.pinned (OpenSpec.ofChange taskLineWrong)

/-- 'tarpaulinlaw17.TaskWakes': WHATEVER THE INPUT: true; the input reads as it did. -/
def taskWakesSpec : ChangeSpec := { name := "taskWakes", fn := fun _ => fun
  | [d1, d2, d3, d4, d5, d6, d7] => { results := [.lit (.bool true)], args := [d1, d2, d3, d4, d5, d6, d7] }
  | _ => none }
def taskWakesRow : OpenClaim := { program := "ythiifnbgdajgaaadoor", sum := "70bb9ed1abfa1c48b76a38913298687e930dfe73c3ac6d0975fa4ab9ede5e307", func := "tarpaulin/tarpaulinlaw17.TaskWakes", spec := "taskWakes", named := ["tarpaulin/prog.forms"], apart := false, laid := [("tarpaulin/prog.forms", laid_tarpaulin_prog_forms)] }
def TaskWakesSaid : Prop := taskWakesRow.holds Tryd.pinned (OpenSpec.ofChange taskWakesSpec)

/-- ITS FALSE NEIGHBOUR: 'it returns false'. Refute it at one input. -/
def taskWakesWrong : ChangeSpec := { name := "taskWakes", fn := fun _ => fun
  | [d1, d2, d3, d4, d5, d6, d7] => { results := [.lit (.bool false)], args := [d1, d2, d3, d4, d5, d6, d7] }
  | _ => none }
def TaskWakesWrongFalsely : Prop := taskWakesRow.holds Tryd.pinned (OpenSpec.ofChange taskWakesWrong)

/-- 'tarpaulinlaw17.TaskEnds': WHATEVER THE INPUT: true; the input reads as it did. -/
def taskEndsSpec : ChangeSpec := { name := "taskEnds", fn := fun _ => fun
  | [d1, d2, d3, d4] => { results := [.lit (.bool true)], args := [d1, d2, d3, d4] }
  | _ => none }
def taskEndsRow : OpenClaim := { program := "ythiifnbgdajgaaadoor", sum := "70bb9ed1abfa1c48b76a38913298687e930dfe73c3ac6d0975fa4ab9ede5e307", func := "tarpaulin/tarpaulinlaw17.TaskEnds", spec := "taskEnds", named := ["tarpaulin/prog.forms"], apart := false, laid := [("tarpaulin/prog.forms", laid_tarpaulin_prog_forms)] }
def TaskEndsSaid : Prop := taskEndsRow.holds Tryd.pinned (OpenSpec.ofChange taskEndsSpec)

/-- ITS FALSE NEIGHBOUR: 'it returns false'. Refute it at one input. -/
def taskEndsWrong : ChangeSpec := { name := "taskEnds", fn := fun _ => fun
  | [d1, d2, d3, d4] => { results := [.lit (.bool false)], args := [d1, d2, d3, d4] }
  | _ => none }
def TaskEndsWrongFalsely : Prop := taskEndsRow.holds Tryd.pinned (OpenSpec.ofChange taskEndsWrong)

/-- 'tarpaulinlaw17.TaskFull': WHATEVER THE INPUT: true; the input reads as it did. -/
def taskFullSpec : ChangeSpec := { name := "taskFull", fn := fun _ => fun
  | [d1, d2] => { results := [.lit (.bool true)], args := [d1, d2] }
  | _ => none }
def taskFullRow : OpenClaim := { program := "ythiifnbgdajgaaadoor", sum := "70bb9ed1abfa1c48b76a38913298687e930dfe73c3ac6d0975fa4ab9ede5e307", func := "tarpaulin/tarpaulinlaw17.TaskFull", spec := "taskFull", named := ["tarpaulin/prog.forms"], apart := false, laid := [("tarpaulin/prog.forms", laid_tarpaulin_prog_forms)] }
def TaskFullSaid : Prop := taskFullRow.holds Tryd.pinned (OpenSpec.ofChange taskFullSpec)

/-- ITS FALSE NEIGHBOUR: 'it returns false'. Refute it at one input. -/
def taskFullWrong : ChangeSpec := { name := "taskFull", fn := fun _ => fun
  | [d1, d2] => { results := [.lit (.bool false)], args := [d1, d2] }
  | _ => none }
def TaskFullWrongFalsely : Prop := taskFullRow.holds Tryd.pinned (OpenSpec.ofChange taskFullWrong)

/-- 'tarpaulinlaw17.TaskPicks': WHATEVER THE INPUT: true; the input reads as it did. -/
def taskPicksSpec : ChangeSpec := { name := "taskPicks", fn := fun _ => fun
  | [d1, d2] => { results := [.lit (.bool true)], args := [d1, d2] }
  | _ => none }
def taskPicksRow : OpenClaim := { program := "ythiifnbgdajgaaadoor", sum := "70bb9ed1abfa1c48b76a38913298687e930dfe73c3ac6d0975fa4ab9ede5e307", func := "tarpaulin/tarpaulinlaw17.TaskPicks", spec := "taskPicks", named := ["tarpaulin/prog.forms"], apart := false, laid := [("tarpaulin/prog.forms", laid_tarpaulin_prog_forms)] }
def TaskPicksSaid : Prop := taskPicksRow.holds Tryd.pinned (OpenSpec.ofChange taskPicksSpec)

/-- ITS FALSE NEIGHBOUR: 'it returns false'. Refute it at one input. -/
def taskPicksWrong : ChangeSpec := { name := "taskPicks", fn := fun _ => fun
  | [d1, d2] => { results := [.lit (.bool false)], args := [d1, d2] }
  | _ => none }
def TaskPicksWrongFalsely : Prop := taskPicksRow.holds Tryd.pinned (OpenSpec.ofChange taskPicksWrong)

/- THE SECOND FORM. 'bulk': how many values and letters a reading holds, each counted each time it is reached (what is shared counts as often as it is met; a slice's spare places count too). A statement '..UptoSaid' is the law's where the arguments, and the package variables that the reading takes, are together of bulk at most 1048576: NARROWER than '..Said'. Prove '..Said' where nothing that the law and all that it calls make is longer than what came in: it says more and counts as full. Else prove '..UptoSaid'. A law counts once. -/
mutual
def uptoBulk {H : Type} : DataW H → Nat
  | .lit (.string bytes) => bytes.length + 1
  | .lit _ => 1
  | .nil => 1
  | .ptr d => uptoBulk d + 1
  | .slice elems spare => uptoBulkAll elems + uptoBulkAll spare + 1
  | .agg parts => uptoBulkAll parts + 1
  | .iface _ d => uptoBulk d + 1
  | .map entries => uptoBulkEntries entries + 1
  | .held _ => 1
def uptoBulkAll {H : Type} : List (DataW H) → Nat
  | [] => 0
  | d :: r => uptoBulk d + uptoBulkAll r
def uptoBulkEntries {H : Type} : List (Lit × DataW H) → Nat
  | [] => 0
  | x :: r => uptoBulkEntry x + uptoBulkEntries r
def uptoBulkEntry {H : Type} : Lit × DataW H → Nat
  | (.string bytes, d) => bytes.length + uptoBulk d + 1
  | (_, d) => uptoBulk d + 1
 end
def uptoSmall : (H : Type) → List (DataW H) → Bool := fun _ ds => decide (uptoBulkAll ds ≤ 1048576)
def OpenSpec.upto (s : _root_.Go.ChangeSpec) : _root_.Go.OpenSpec := { _root_.Go.OpenSpec.ofChange s with cond := some uptoSmall }

/-- 'tarpaulinlaw17.TaskLine', WHERE WHAT IT READS IS OF BULK AT MOST 1048576: true; the input reads as it did. -/
def taskLineUptoRow : OpenClaim := { program := "ythiifnbgdajgaaadoor", sum := "70bb9ed1abfa1c48b76a38913298687e930dfe73c3ac6d0975fa4ab9ede5e307", func := "tarpaulin/tarpaulinlaw17.TaskLine", spec := "taskLine", named := ["tarpaulin/prog.forms"], apart := false, laid := [("tarpaulin/prog.forms", laid_tarpaulin_prog_forms)], narrowed := true }
def TaskLineUptoSaid : Prop := taskLineUptoRow.holds Tryd.pinned (OpenSpec.upto taskLineSpec)

/-- 'tarpaulinlaw17.TaskWakes', WHERE WHAT IT READS IS OF BULK AT MOST 1048576: true; the input reads as it did. -/
def taskWakesUptoRow : OpenClaim := { program := "ythiifnbgdajgaaadoor", sum := "70bb9ed1abfa1c48b76a38913298687e930dfe73c3ac6d0975fa4ab9ede5e307", func := "tarpaulin/tarpaulinlaw17.TaskWakes", spec := "taskWakes", named := ["tarpaulin/prog.forms"], apart := false, laid := [("tarpaulin/prog.forms", laid_tarpaulin_prog_forms)], narrowed := true }
def TaskWakesUptoSaid : Prop := taskWakesUptoRow.holds Tryd.pinned (OpenSpec.upto taskWakesSpec)

/-- 'tarpaulinlaw17.TaskEnds', WHERE WHAT IT READS IS OF BULK AT MOST 1048576: true; the input reads as it did. -/
def taskEndsUptoRow : OpenClaim := { program := "ythiifnbgdajgaaadoor", sum := "70bb9ed1abfa1c48b76a38913298687e930dfe73c3ac6d0975fa4ab9ede5e307", func := "tarpaulin/tarpaulinlaw17.TaskEnds", spec := "taskEnds", named := ["tarpaulin/prog.forms"], apart := false, laid := [("tarpaulin/prog.forms", laid_tarpaulin_prog_forms)], narrowed := true }
def TaskEndsUptoSaid : Prop := taskEndsUptoRow.holds Tryd.pinned (OpenSpec.upto taskEndsSpec)

/-- 'tarpaulinlaw17.TaskFull', WHERE WHAT IT READS IS OF BULK AT MOST 1048576: true; the input reads as it did. -/
def taskFullUptoRow : OpenClaim := { program := "ythiifnbgdajgaaadoor", sum := "70bb9ed1abfa1c48b76a38913298687e930dfe73c3ac6d0975fa4ab9ede5e307", func := "tarpaulin/tarpaulinlaw17.TaskFull", spec := "taskFull", named := ["tarpaulin/prog.forms"], apart := false, laid := [("tarpaulin/prog.forms", laid_tarpaulin_prog_forms)], narrowed := true }
def TaskFullUptoSaid : Prop := taskFullUptoRow.holds Tryd.pinned (OpenSpec.upto taskFullSpec)

/-- 'tarpaulinlaw17.TaskPicks', WHERE WHAT IT READS IS OF BULK AT MOST 1048576: true; the input reads as it did. -/
def taskPicksUptoRow : OpenClaim := { program := "ythiifnbgdajgaaadoor", sum := "70bb9ed1abfa1c48b76a38913298687e930dfe73c3ac6d0975fa4ab9ede5e307", func := "tarpaulin/tarpaulinlaw17.TaskPicks", spec := "taskPicks", named := ["tarpaulin/prog.forms"], apart := false, laid := [("tarpaulin/prog.forms", laid_tarpaulin_prog_forms)], narrowed := true }
def TaskPicksUptoSaid : Prop := taskPicksUptoRow.holds Tryd.pinned (OpenSpec.upto taskPicksSpec)

end Rows
end Go.Proofs.YthiifnbgdajgaaaDoor

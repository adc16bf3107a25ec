/-
  NARROWER THAN 'FOR EVERY INPUT', by the rows' own cells (each row's printed sentence says how): LocalDoes: laid · LocalLoops: laid · LocalSums: laid · LocalRefuses: laid.
  DERIVED. THE GIVEN ROWS OF THIS SEAT. 4 by the template 'for every input the law returns true; each argument reads behind the call as it read before'; 0 by the template 'total and deterministic' (their statements: YtgojnhbmelnpnaaDoorTotals.lean).
  GIVEN WITH THE SEED: the statements are not yours to turn. If you find one false, say at which input.
  Laid BY PROGRAM, IN A SANDBOX (cutbox-rows.mjs): the forced cells as the released guide's own fill.sh prints them over the translation a4849de36b55cddd… (all of the seat's roots in one cut). By AI agents, Wed Nov 11 2026. No macro, syntax, notation, axiom, sorry.
-/
import Derived.Test.YtgojnhbmelnpnaaDoorChecked
import GoSem.Claim
import GoSem.ClaimJoined
import GoSem.ClaimMapViews
import Derived.JoinedTies
import Derived.KernelRfl
namespace Go.Proofs.YtgojnhbmelnpnaaDoor
/- THE CELL 'sum', in the pinned program and in every row, IS THE sha256 OF THE DUMP (.gsa) THAT YtgojnhbmelnpnaaDoorProg.lean LOADS. Nothing in Lean hashes anything: it is a label: what it is worth is what the hold of that sum in a sandbox is worth. -/
noncomputable def Tryd.pinned : Pinned := { name := "ytgojnhbmelnpnaadoor", sum := "a4849de36b55cddd371267e71bc8880b895fc7f53574ff04dcb5f76afe20f967", checked := Tryd.checked }
namespace Rows
def none {H : Type} : Left H := { results := [], args := [] }

/- WHAT THE LISTED PACKAGE-LEVEL VARIABLES READ AS WHEN THE CALL BEGINS. Each datum BY PROGRAM (the guide's laid-datum.mjs) off the statement by which the dump's own 'gosem.cut.vars' lays the variable. In a bare row this is a premise. The card (YtgojnhbmelnpnaaDoorCards.lean) ties it to the program's text. -/
def laid_tarpaulin_prog_forms {H : Type} : DataW H := .agg [.agg [.lit (.string []), .lit (.int .u8 0), .lit (.int .u8 0), .lit (.int .u8 0)], .agg [.lit (.string [115, 101, 116]), .lit (.int .u8 1), .lit (.int .u8 4), .lit (.int .u8 0)], .agg [.lit (.string [109, 111, 118, 101]), .lit (.int .u8 1), .lit (.int .u8 1), .lit (.int .u8 0)], .agg [.lit (.string [105, 110, 99]), .lit (.int .u8 1), .lit (.int .u8 4), .lit (.int .u8 0)], .agg [.lit (.string [106, 117, 109, 112]), .lit (.int .u8 2), .lit (.int .u8 0), .lit (.int .u8 0)], .agg [.lit (.string [122, 101, 114, 111]), .lit (.int .u8 1), .lit (.int .u8 2), .lit (.int .u8 0)], .agg [.lit (.string [101, 109, 105, 116]), .lit (.int .u8 1), .lit (.int .u8 0), .lit (.int .u8 0)], .agg [.lit (.string [101, 120, 105, 116]), .lit (.int .u8 0), .lit (.int .u8 0), .lit (.int .u8 0)], .agg [.lit (.string [103, 111]), .lit (.int .u8 1), .lit (.int .u8 3), .lit (.int .u8 0)], .agg [.lit (.string [109, 97, 107, 101]), .lit (.int .u8 1), .lit (.int .u8 4), .lit (.int .u8 0)], .agg [.lit (.string [115, 101, 110, 100]), .lit (.int .u8 1), .lit (.int .u8 1), .lit (.int .u8 0)], .agg [.lit (.string [114, 101, 99, 118]), .lit (.int .u8 1), .lit (.int .u8 1), .lit (.int .u8 1)], .agg [.lit (.string [99, 108, 111, 115, 101]), .lit (.int .u8 1), .lit (.int .u8 0), .lit (.int .u8 0)], .agg [.lit (.string [108, 101, 110]), .lit (.int .u8 1), .lit (.int .u8 1), .lit (.int .u8 0)], .agg [.lit (.string [99, 97, 112]), .lit (.int .u8 1), .lit (.int .u8 1), .lit (.int .u8 0)], .agg [.lit (.string [115, 101, 108, 101, 99, 116]), .lit (.int .u8 1), .lit (.int .u8 1), .lit (.int .u8 1)], .agg [.lit (.string [110, 111, 119]), .lit (.int .u8 1), .lit (.int .u8 0), .lit (.int .u8 0)], .agg [.lit (.string [110, 101, 119, 116, 105, 109, 101, 114]), .lit (.int .u8 1), .lit (.int .u8 1), .lit (.int .u8 1)], .agg [.lit (.string [116, 105, 99, 107, 101, 114]), .lit (.int .u8 1), .lit (.int .u8 1), .lit (.int .u8 1)], .agg [.lit (.string [102, 117, 110, 99]), .lit (.int .u8 1), .lit (.int .u8 1), .lit (.int .u8 3)], .agg [.lit (.string [115, 116, 111, 112]), .lit (.int .u8 1), .lit (.int .u8 1), .lit (.int .u8 0)], .agg [.lit (.string [114, 101, 115, 101, 116]), .lit (.int .u8 1), .lit (.int .u8 1), .lit (.int .u8 1)], .agg [.lit (.string [99, 97, 110, 99, 101, 108, 115]), .lit (.int .u8 1), .lit (.int .u8 1), .lit (.int .u8 0)], .agg [.lit (.string [100, 101, 97, 100, 108, 105, 110, 101]), .lit (.int .u8 1), .lit (.int .u8 1), .lit (.int .u8 1)], .agg [.lit (.string [116, 105, 109, 101, 111, 117, 116]), .lit (.int .u8 1), .lit (.int .u8 1), .lit (.int .u8 1)], .agg [.lit (.string [119, 105, 116, 104, 111, 117, 116]), .lit (.int .u8 1), .lit (.int .u8 1), .lit (.int .u8 0)], .agg [.lit (.string [99, 97, 110, 99, 101, 108]), .lit (.int .u8 1), .lit (.int .u8 1), .lit (.int .u8 0)], .agg [.lit (.string [101, 114, 114]), .lit (.int .u8 1), .lit (.int .u8 1), .lit (.int .u8 0)], .agg [.lit (.string [99, 97, 117, 115, 101]), .lit (.int .u8 1), .lit (.int .u8 1), .lit (.int .u8 0)], .agg [.lit (.string [100, 111, 110, 101]), .lit (.int .u8 1), .lit (.int .u8 1), .lit (.int .u8 0)], .agg [.lit (.string [117, 110, 116, 105, 108]), .lit (.int .u8 1), .lit (.int .u8 1), .lit (.int .u8 1)], .agg [.lit (.string [97, 102, 116, 101, 114]), .lit (.int .u8 1), .lit (.int .u8 1), .lit (.int .u8 3)], .agg [.lit (.string [117, 110, 97, 102, 116, 101, 114]), .lit (.int .u8 1), .lit (.int .u8 1), .lit (.int .u8 0)]]

/-- 'tarpaulinlaw18.LocalDoes': WHATEVER THE INPUT: true; the input reads as it did. -/
def localDoesSpec : ChangeSpec := { name := "localDoes", fn := fun _ => fun
  | [d1, d2, d3, d4, d5] => { results := [.lit (.bool true)], args := [d1, d2, d3, d4, d5] }
  | _ => none }
def localDoesRow : OpenClaim := { program := "ytgojnhbmelnpnaadoor", sum := "a4849de36b55cddd371267e71bc8880b895fc7f53574ff04dcb5f76afe20f967", func := "tarpaulin/tarpaulinlaw18.LocalDoes", spec := "localDoes", named := ["tarpaulin/prog.forms"], apart := false, laid := [("tarpaulin/prog.forms", laid_tarpaulin_prog_forms)] }
def LocalDoesSaid : Prop := localDoesRow.holds Tryd.pinned (OpenSpec.ofChange localDoesSpec)

/-- ITS FALSE NEIGHBOUR: 'it returns false'. Refute it at one input. -/
def localDoesWrong : ChangeSpec := { name := "localDoes", fn := fun _ => fun
  | [d1, d2, d3, d4, d5] => { results := [.lit (.bool false)], args := [d1, d2, d3, d4, d5] }
  | _ => none }
def LocalDoesWrongFalsely : Prop := localDoesRow.holds Tryd.pinned (OpenSpec.ofChange localDoesWrong)

/-- 'tarpaulinlaw18.LocalLoops': WHATEVER THE INPUT: true; the input reads as it did. -/
def localLoopsSpec : ChangeSpec := { name := "localLoops", fn := fun _ => fun
  | [d1, d2] => { results := [.lit (.bool true)], args := [d1, d2] }
  | _ => none }
def localLoopsRow : OpenClaim := { program := "ytgojnhbmelnpnaadoor", sum := "a4849de36b55cddd371267e71bc8880b895fc7f53574ff04dcb5f76afe20f967", func := "tarpaulin/tarpaulinlaw18.LocalLoops", spec := "localLoops", named := ["tarpaulin/prog.forms"], apart := false, laid := [("tarpaulin/prog.forms", laid_tarpaulin_prog_forms)] }
def LocalLoopsSaid : Prop := localLoopsRow.holds Tryd.pinned (OpenSpec.ofChange localLoopsSpec)

/-- ITS FALSE NEIGHBOUR: 'it returns false'. Refute it at one input. -/
def localLoopsWrong : ChangeSpec := { name := "localLoops", fn := fun _ => fun
  | [d1, d2] => { results := [.lit (.bool false)], args := [d1, d2] }
  | _ => none }
def LocalLoopsWrongFalsely : Prop := localLoopsRow.holds Tryd.pinned (OpenSpec.ofChange localLoopsWrong)

/-- 'tarpaulinlaw18.LocalSums': WHATEVER THE INPUT: true; the input reads as it did. -/
def localSumsSpec : ChangeSpec := { name := "localSums", fn := fun _ => fun
  | [d1, d2] => { results := [.lit (.bool true)], args := [d1, d2] }
  | _ => none }
def localSumsRow : OpenClaim := { program := "ytgojnhbmelnpnaadoor", sum := "a4849de36b55cddd371267e71bc8880b895fc7f53574ff04dcb5f76afe20f967", func := "tarpaulin/tarpaulinlaw18.LocalSums", spec := "localSums", named := ["tarpaulin/prog.forms"], apart := false, laid := [("tarpaulin/prog.forms", laid_tarpaulin_prog_forms)] }
def LocalSumsSaid : Prop := localSumsRow.holds Tryd.pinned (OpenSpec.ofChange localSumsSpec)

/-- ITS FALSE NEIGHBOUR: 'it returns false'. Refute it at one input. -/
def localSumsWrong : ChangeSpec := { name := "localSums", fn := fun _ => fun
  | [d1, d2] => { results := [.lit (.bool false)], args := [d1, d2] }
  | _ => none }
def LocalSumsWrongFalsely : Prop := localSumsRow.holds Tryd.pinned (OpenSpec.ofChange localSumsWrong)

/-- 'tarpaulinlaw18.LocalRefuses': WHATEVER THE INPUT: true; the input reads as it did. -/
def localRefusesSpec : ChangeSpec := { name := "localRefuses", fn := fun _ => fun
  | [d1, d2, d3] => { results := [.lit (.bool true)], args := [d1, d2, d3] }
  | _ => none }
def localRefusesRow : OpenClaim := { program := "ytgojnhbmelnpnaadoor", sum := "a4849de36b55cddd371267e71bc8880b895fc7f53574ff04dcb5f76afe20f967", func := "tarpaulin/tarpaulinlaw18.LocalRefuses", spec := "localRefuses", named := ["tarpaulin/prog.forms"], apart := false, laid := [("tarpaulin/prog.forms", laid_tarpaulin_prog_forms)] }
def LocalRefusesSaid : Prop := localRefusesRow.holds Tryd.pinned (OpenSpec.ofChange localRefusesSpec)

/-- ITS FALSE NEIGHBOUR: 'it returns false'. Refute it at one input. -/
def localRefusesWrong : ChangeSpec := { name := "localRefuses", fn := fun _ => fun
  | [d1, d2, d3] => { results := [.lit (.bool false)], args := [d1, d2, d3] }
  | _ => none }
def LocalRefusesWrongFalsely : Prop := localRefusesRow.holds Tryd.pinned (OpenSpec.ofChange localRefusesWrong)

/- THE SECOND FORM. 'bulk': how many values and letters a reading holds, each counted each time it is reached (what is shared counts as often as it is met; a slice's spare places count too). A statement '..UptoSaid' is the law's where the arguments, and the package variables that the reading takes, are together of bulk at most 1048576: NARROWER than '..Said'. Prove '..Said' where nothing that the law and all that it calls make is longer than what came in: it says more and counts as full. Else prove '..UptoSaid'. A law counts once. -/
mutual
def uptoBulk {H : Type} : DataW H → Nat
  | .lit (.string bytes) => bytes.length + 1
  | .lit _ => 1
  | .nil => 1
  | .ptr d => uptoBulk d + 1
  | .slice elems spare => uptoBulkAll elems + uptoBulkAll spare + 1
  | .agg parts => uptoBulkAll parts + 1
  | .iface _ d => uptoBulk d + 1
  | .map entries => uptoBulkEntries entries + 1
  | .held _ => 1
def uptoBulkAll {H : Type} : List (DataW H) → Nat
  | [] => 0
  | d :: r => uptoBulk d + uptoBulkAll r
def uptoBulkEntries {H : Type} : List (Lit × DataW H) → Nat
  | [] => 0
  | x :: r => uptoBulkEntry x + uptoBulkEntries r
def uptoBulkEntry {H : Type} : Lit × DataW H → Nat
  | (.string bytes, d) => bytes.length + uptoBulk d + 1
  | (_, d) => uptoBulk d + 1
 end
def uptoSmall : (H : Type) → List (DataW H) → Bool := fun _ ds => decide (uptoBulkAll ds ≤ 1048576)
def OpenSpec.upto (s : _root_.Go.ChangeSpec) : _root_.Go.OpenSpec := { _root_.Go.OpenSpec.ofChange s with cond := some uptoSmall }

/-- 'tarpaulinlaw18.LocalDoes', WHERE WHAT IT READS IS OF BULK AT MOST 1048576: true; the input reads as it did. -/
def localDoesUptoRow : OpenClaim := { program := "ytgojnhbmelnpnaadoor", sum := "a4849de36b55cddd371267e71bc8880b895fc7f53574ff04dcb5f76afe20f967", func := "tarpaulin/tarpaulinlaw18.LocalDoes", spec := "localDoes", named := ["tarpaulin/prog.forms"], apart := false, laid := [("tarpaulin/prog.forms", laid_tarpaulin_prog_forms)], narrowed := true }
def LocalDoesUptoSaid : Prop := localDoesUptoRow.holds Tryd.pinned (OpenSpec.upto localDoesSpec)

/-- 'tarpaulinlaw18.LocalLoops', WHERE WHAT IT READS IS OF BULK AT MOST 1048576: true; the input reads as it did. -/
def localLoopsUptoRow : OpenClaim := { program := "ytgojnhbmelnpnaadoor", sum := "a4849de36b55cddd371267e71bc8880b895fc7f53574ff04dcb5f76afe20f967", func := "tarpaulin/tarpaulinlaw18.LocalLoops", spec := "localLoops", named := ["tarpaulin/prog.forms"], apart := false, laid := [("tarpaulin/prog.forms", laid_tarpaulin_prog_forms)], narrowed := true }
def LocalLoopsUptoSaid : Prop := localLoopsUptoRow.holds Tryd.pinned (OpenSpec.upto localLoopsSpec)

/-- 'tarpaulinlaw18.LocalSums', WHERE WHAT IT READS IS OF BULK AT MOST 1048576: true; the input reads as it did. -/
def localSumsUptoRow : OpenClaim := { program := "ytgojnhbmelnpnaadoor", sum := "a4849de36b55cddd371267e71bc8880b895fc7f53574ff04dcb5f76afe20f967", func := "tarpaulin/tarpaulinlaw18.LocalSums", spec := "localSums", named := ["tarpaulin/prog.forms"], apart := false, laid := [("tarpaulin/prog.forms", laid_tarpaulin_prog_forms)], narrowed := true }
def LocalSumsUptoSaid : Prop := localSumsUptoRow.holds Tryd.pinned (OpenSpec.upto localSumsSpec)

/-- 'tarpaulinlaw18.LocalRefuses', WHERE WHAT IT READS IS OF BULK AT MOST 1048576: true; the input reads as it did. -/
def localRefusesUptoRow : OpenClaim := { program := "ytgojnhbmelnpnaadoor", sum := "a4849de36b55cddd371267e71bc8880b895fc7f53574ff04dcb5f76afe20f967", func := "tarpaulin/tarpaulinlaw18.LocalRefuses", spec := "localRefuses", named := ["tarpaulin/prog.forms"], apart := false, laid := [("tarpaulin/prog.forms", laid_tarpaulin_prog_forms)], narrowed := true }
def LocalRefusesUptoSaid : Prop := localRefusesUptoRow.holds Tryd.pinned (OpenSpec.upto localRefusesSpec)

end Rows
end Go.Proofs.YtgojnhbmelnpnaaDoor

/-
  NARROWER THAN 'FOR EVERY INPUT', by the rows' own cells (each row's printed sentence says how): ProgTells: laid · ProgOne: laid · ProgLimits: laid · ProgRegs: laid · ProgNames: laid.
  DERIVED. THE GIVEN ROWS OF THIS SEAT. 5 by the template 'for every input the law returns true; each argument reads behind the call as it read before'; 0 by the template 'total and deterministic' (their statements: YtifmamobhkgmfaaDoorTotals.lean).
  GIVEN WITH THE SEED: the statements are not yours to turn. If you find one false, say at which input.
  Laid BY PROGRAM, IN A SANDBOX (cutbox-rows.mjs): the forced cells as the released guide's own fill.sh prints them over the translation 4548db878e392ce4… (all of the seat's roots in one cut). By AI agents, Wed Nov 11 2026. No macro, syntax, notation, axiom, sorry.
-/
import Derived.Test.YtifmamobhkgmfaaDoorChecked
import GoSem.Claim
import GoSem.ClaimJoined
import GoSem.ClaimMapViews
import Derived.JoinedTies
import Derived.KernelRfl
namespace Go.Proofs.YtifmamobhkgmfaaDoor
/- THE CELL 'sum', in the pinned program and in every row, IS THE sha256 OF THE DUMP (.gsa) THAT YtifmamobhkgmfaaDoorProg.lean LOADS. Nothing in Lean hashes anything: it is a label: what it is worth is what the hold of that sum in a sandbox is worth. -/
noncomputable def Tryd.pinned : Pinned := { name := "ytifmamobhkgmfaadoor", sum := "4548db878e392ce4df6e7399270c37ed178a58128c66fa7cd1113fdf32e06c19", checked := Tryd.checked }
namespace Rows
def none {H : Type} : Left H := { results := [], args := [] }

/- WHAT THE LISTED PACKAGE-LEVEL VARIABLES READ AS WHEN THE CALL BEGINS. Each datum BY PROGRAM (the guide's laid-datum.mjs) off the statement by which the dump's own 'gosem.cut.vars' lays the variable. In a bare row this is a premise. The card (YtifmamobhkgmfaaDoorCards.lean) ties it to the program's text. -/
def laid_tarpaulin_prog_forms {H : Type} : DataW H := .agg [.agg [.lit (.string []), .lit (.int .u8 0), .lit (.int .u8 0), .lit (.int .u8 0)], .agg [.lit (.string [115, 101, 116]), .lit (.int .u8 1), .lit (.int .u8 4), .lit (.int .u8 0)], .agg [.lit (.string [109, 111, 118, 101]), .lit (.int .u8 1), .lit (.int .u8 1), .lit (.int .u8 0)], .agg [.lit (.string [105, 110, 99]), .lit (.int .u8 1), .lit (.int .u8 4), .lit (.int .u8 0)], .agg [.lit (.string [106, 117, 109, 112]), .lit (.int .u8 2), .lit (.int .u8 0), .lit (.int .u8 0)], .agg [.lit (.string [122, 101, 114, 111]), .lit (.int .u8 1), .lit (.int .u8 2), .lit (.int .u8 0)], .agg [.lit (.string [101, 109, 105, 116]), .lit (.int .u8 1), .lit (.int .u8 0), .lit (.int .u8 0)], .agg [.lit (.string [101, 120, 105, 116]), .lit (.int .u8 0), .lit (.int .u8 0), .lit (.int .u8 0)], .agg [.lit (.string [103, 111]), .lit (.int .u8 1), .lit (.int .u8 3), .lit (.int .u8 0)], .agg [.lit (.string [109, 97, 107, 101]), .lit (.int .u8 1), .lit (.int .u8 4), .lit (.int .u8 0)], .agg [.lit (.string [115, 101, 110, 100]), .lit (.int .u8 1), .lit (.int .u8 1), .lit (.int .u8 0)], .agg [.lit (.string [114, 101, 99, 118]), .lit (.int .u8 1), .lit (.int .u8 1), .lit (.int .u8 1)], .agg [.lit (.string [99, 108, 111, 115, 101]), .lit (.int .u8 1), .lit (.int .u8 0), .lit (.int .u8 0)], .agg [.lit (.string [108, 101, 110]), .lit (.int .u8 1), .lit (.int .u8 1), .lit (.int .u8 0)], .agg [.lit (.string [99, 97, 112]), .lit (.int .u8 1), .lit (.int .u8 1), .lit (.int .u8 0)], .agg [.lit (.string [115, 101, 108, 101, 99, 116]), .lit (.int .u8 1), .lit (.int .u8 1), .lit (.int .u8 1)], .agg [.lit (.string [110, 111, 119]), .lit (.int .u8 1), .lit (.int .u8 0), .lit (.int .u8 0)], .agg [.lit (.string [110, 101, 119, 116, 105, 109, 101, 114]), .lit (.int .u8 1), .lit (.int .u8 1), .lit (.int .u8 1)], .agg [.lit (.string [116, 105, 99, 107, 101, 114]), .lit (.int .u8 1), .lit (.int .u8 1), .lit (.int .u8 1)], .agg [.lit (.string [102, 117, 110, 99]), .lit (.int .u8 1), .lit (.int .u8 1), .lit (.int .u8 3)], .agg [.lit (.string [115, 116, 111, 112]), .lit (.int .u8 1), .lit (.int .u8 1), .lit (.int .u8 0)], .agg [.lit (.string [114, 101, 115, 101, 116]), .lit (.int .u8 1), .lit (.int .u8 1), .lit (.int .u8 1)], .agg [.lit (.string [99, 97, 110, 99, 101, 108, 115]), .lit (.int .u8 1), .lit (.int .u8 1), .lit (.int .u8 0)], .agg [.lit (.string [100, 101, 97, 100, 108, 105, 110, 101]), .lit (.int .u8 1), .lit (.int .u8 1), .lit (.int .u8 1)], .agg [.lit (.string [116, 105, 109, 101, 111, 117, 116]), .lit (.int .u8 1), .lit (.int .u8 1), .lit (.int .u8 1)], .agg [.lit (.string [119, 105, 116, 104, 111, 117, 116]), .lit (.int .u8 1), .lit (.int .u8 1), .lit (.int .u8 0)], .agg [.lit (.string [99, 97, 110, 99, 101, 108]), .lit (.int .u8 1), .lit (.int .u8 1), .lit (.int .u8 0)], .agg [.lit (.string [101, 114, 114]), .lit (.int .u8 1), .lit (.int .u8 1), .lit (.int .u8 0)], .agg [.lit (.string [99, 97, 117, 115, 101]), .lit (.int .u8 1), .lit (.int .u8 1), .lit (.int .u8 0)], .agg [.lit (.string [100, 111, 110, 101]), .lit (.int .u8 1), .lit (.int .u8 1), .lit (.int .u8 0)], .agg [.lit (.string [117, 110, 116, 105, 108]), .lit (.int .u8 1), .lit (.int .u8 1), .lit (.int .u8 1)], .agg [.lit (.string [97, 102, 116, 101, 114]), .lit (.int .u8 1), .lit (.int .u8 1), .lit (.int .u8 3)], .agg [.lit (.string [117, 110, 97, 102, 116, 101, 114]), .lit (.int .u8 1), .lit (.int .u8 1), .lit (.int .u8 0)]]

/-- 'tarpaulinlaw4.ProgTells': WHATEVER THE INPUT: true; the input reads as it did. -/
def progTellsSpec : ChangeSpec := { name := "progTells", fn := fun _ => fun
  | [d1, d2] => { results := [.lit (.bool true)], args := [d1, d2] }
  | _ => none }
def progTellsRow : OpenClaim := { program := "ytifmamobhkgmfaadoor", sum := "4548db878e392ce4df6e7399270c37ed178a58128c66fa7cd1113fdf32e06c19", func := "tarpaulin/tarpaulinlaw4.ProgTells", spec := "progTells", named := ["tarpaulin/prog.forms"], apart := false, laid := [("tarpaulin/prog.forms", laid_tarpaulin_prog_forms)] }
def ProgTellsSaid : Prop := progTellsRow.holds Tryd.pinned (OpenSpec.ofChange progTellsSpec)

/-- ITS FALSE NEIGHBOUR: 'it returns false'. Refute it at one input. -/
def progTellsWrong : ChangeSpec := { name := "progTells", fn := fun _ => fun
  | [d1, d2] => { results := [.lit (.bool false)], args := [d1, d2] }
  | _ => none }
def ProgTellsWrongFalsely : Prop := progTellsRow.holds Tryd.pinned (OpenSpec.ofChange progTellsWrong)

/-- 'tarpaulinlaw4.ProgOne': WHATEVER THE INPUT: true; the input reads as it did. -/
def progOneSpec : ChangeSpec := { name := "progOne", fn := fun _ => fun
  | [d1, d2] => { results := [.lit (.bool true)], args := [d1, d2] }
  | _ => none }
def progOneRow : OpenClaim := { program := "ytifmamobhkgmfaadoor", sum := "4548db878e392ce4df6e7399270c37ed178a58128c66fa7cd1113fdf32e06c19", func := "tarpaulin/tarpaulinlaw4.ProgOne", spec := "progOne", named := ["tarpaulin/prog.forms"], apart := false, laid := [("tarpaulin/prog.forms", laid_tarpaulin_prog_forms)] }
def ProgOneSaid : Prop := progOneRow.holds Tryd.pinned (OpenSpec.ofChange progOneSpec)

/-- ITS FALSE NEIGHBOUR: 'it returns false'. Refute it at one input. -/
def progOneWrong : ChangeSpec := { name := "progOne", fn := fun _ => fun
  | [d1, d2] => { results := [.lit (.bool false)], args := [d1, d2] }
  | _ => none }
def ProgOneWrongFalsely : Prop := progOneRow.holds Tryd.pinned (OpenSpec.ofChange progOneWrong)

/-- 'tarpaulinlaw4.ProgLimits': WHATEVER THE INPUT: true; the input reads as it did. -/
def progLimitsSpec : ChangeSpec := { name := "progLimits", fn := fun _ => fun
  | [d1, d2] => { results := [.lit (.bool true)], args := [d1, d2] }
  | _ => none }
def progLimitsRow : OpenClaim := { program := "ytifmamobhkgmfaadoor", sum := "4548db878e392ce4df6e7399270c37ed178a58128c66fa7cd1113fdf32e06c19", func := "tarpaulin/tarpaulinlaw4.ProgLimits", spec := "progLimits", named := ["tarpaulin/prog.forms"], apart := false, laid := [("tarpaulin/prog.forms", laid_tarpaulin_prog_forms)] }
def ProgLimitsSaid : Prop := progLimitsRow.holds Tryd.pinned (OpenSpec.ofChange progLimitsSpec)

/-- ITS FALSE NEIGHBOUR: 'it returns false'. Refute it at one input. -/
def progLimitsWrong : ChangeSpec := { name := "progLimits", fn := fun _ => fun
  | [d1, d2] => { results := [.lit (.bool false)], args := [d1, d2] }
  | _ => none }
def ProgLimitsWrongFalsely : Prop := progLimitsRow.holds Tryd.pinned (OpenSpec.ofChange progLimitsWrong)

/-- 'tarpaulinlaw4.ProgRegs': WHATEVER THE INPUT: true; the input reads as it did. -/
def progRegsSpec : ChangeSpec := { name := "progRegs", fn := fun _ => fun
  | [d] => { results := [.lit (.bool true)], args := [d] }
  | _ => none }
def progRegsRow : OpenClaim := { program := "ytifmamobhkgmfaadoor", sum := "4548db878e392ce4df6e7399270c37ed178a58128c66fa7cd1113fdf32e06c19", func := "tarpaulin/tarpaulinlaw4.ProgRegs", spec := "progRegs", named := ["tarpaulin/prog.forms"], apart := false, laid := [("tarpaulin/prog.forms", laid_tarpaulin_prog_forms)] }
def ProgRegsSaid : Prop := progRegsRow.holds Tryd.pinned (OpenSpec.ofChange progRegsSpec)

/-- ITS FALSE NEIGHBOUR: 'it returns false'. Refute it at one input. -/
def progRegsWrong : ChangeSpec := { name := "progRegs", fn := fun _ => fun
  | [d] => { results := [.lit (.bool false)], args := [d] }
  | _ => none }
def ProgRegsWrongFalsely : Prop := progRegsRow.holds Tryd.pinned (OpenSpec.ofChange progRegsWrong)

/-- 'tarpaulinlaw4.ProgNames': WHATEVER THE INPUT: true; the input reads as it did. -/
def progNamesSpec : ChangeSpec := { name := "progNames", fn := fun _ => fun
  | [d1, d2] => { results := [.lit (.bool true)], args := [d1, d2] }
  | _ => none }
def progNamesRow : OpenClaim := { program := "ytifmamobhkgmfaadoor", sum := "4548db878e392ce4df6e7399270c37ed178a58128c66fa7cd1113fdf32e06c19", func := "tarpaulin/tarpaulinlaw4.ProgNames", spec := "progNames", named := ["tarpaulin/prog.forms"], apart := false, laid := [("tarpaulin/prog.forms", laid_tarpaulin_prog_forms)] }
def ProgNamesSaid : Prop := progNamesRow.holds Tryd.pinned (OpenSpec.ofChange progNamesSpec)

/-- ITS FALSE NEIGHBOUR: 'it returns false'. Refute it at one input. -/
def progNamesWrong : ChangeSpec := { name := "progNames", fn := fun _ => fun
  | [d1, d2] => { results := [.lit (.bool false)], args := [d1, d2] }
  | _ => none }
def ProgNamesWrongFalsely : Prop := progNamesRow.holds Tryd.pinned (OpenSpec.ofChange progNamesWrong)

/- THE SECOND FORM. 'bulk': how many values and letters a reading holds, each counted each time it is reached (what is shared counts as often as it is met; a slice's spare places count too). A statement '..UptoSaid' is the law's where the arguments, and the package variables that the reading takes, are together of bulk at most 1048576: NARROWER than '..Said'. Prove '..Said' where nothing that the law and all that it calls make is longer than what came in: it says more and counts as full. Else prove '..UptoSaid'. A law counts once. -/
mutual
def uptoBulk {H : Type} : DataW H → Nat
  | .lit (.string bytes) => bytes.length + 1
  | .lit _ => 1
  | .nil => 1
  | .ptr d => uptoBulk d + 1
  | .slice elems spare => uptoBulkAll elems + uptoBulkAll spare + 1
  | .agg parts => uptoBulkAll parts + 1
  | .iface _ d => uptoBulk d + 1
  | .map entries => uptoBulkEntries entries + 1
  | .held _ => 1
def uptoBulkAll {H : Type} : List (DataW H) → Nat
  | [] => 0
  | d :: r => uptoBulk d + uptoBulkAll r
def uptoBulkEntries {H : Type} : List (Lit × DataW H) → Nat
  | [] => 0
  | x :: r => uptoBulkEntry x + uptoBulkEntries r
def uptoBulkEntry {H : Type} : Lit × DataW H → Nat
  | (.string bytes, d) => bytes.length + uptoBulk d + 1
  | (_, d) => uptoBulk d + 1
 end
def uptoSmall : (H : Type) → List (DataW H) → Bool := fun _ ds => decide (uptoBulkAll ds ≤ 1048576)
def OpenSpec.upto (s : _root_.Go.ChangeSpec) : _root_.Go.OpenSpec := { _root_.Go.OpenSpec.ofChange s with cond := some uptoSmall }

/-- 'tarpaulinlaw4.ProgTells', WHERE WHAT IT READS IS OF BULK AT MOST 1048576: true; the input reads as it did. -/
def progTellsUptoRow : OpenClaim := { program := "ytifmamobhkgmfaadoor", sum := "4548db878e392ce4df6e7399270c37ed178a58128c66fa7cd1113fdf32e06c19", func := "tarpaulin/tarpaulinlaw4.ProgTells", spec := "progTells", named := ["tarpaulin/prog.forms"], apart := false, laid := [("tarpaulin/prog.forms", laid_tarpaulin_prog_forms)], narrowed := true }
def ProgTellsUptoSaid : Prop := progTellsUptoRow.holds Tryd.pinned (OpenSpec.upto progTellsSpec)

/-- 'tarpaulinlaw4.ProgOne', WHERE WHAT IT READS IS OF BULK AT MOST 1048576: true; the input reads as it did. -/
def progOneUptoRow : OpenClaim := { program := "ytifmamobhkgmfaadoor", sum := "4548db878e392ce4df6e7399270c37ed178a58128c66fa7cd1113fdf32e06c19", func := "tarpaulin/tarpaulinlaw4.ProgOne", spec := "progOne", named := ["tarpaulin/prog.forms"], apart := false, laid := [("tarpaulin/prog.forms", laid_tarpaulin_prog_forms)], narrowed := true }
def ProgOneUptoSaid : Prop := progOneUptoRow.holds Tryd.pinned (OpenSpec.upto progOneSpec)

/-- 'tarpaulinlaw4.ProgLimits', WHERE WHAT IT READS IS OF BULK AT MOST 1048576: true; the input reads as it did. -/
def progLimitsUptoRow : OpenClaim := { program := "ytifmamobhkgmfaadoor", sum := "4548db878e392ce4df6e7399270c37ed178a58128c66fa7cd1113fdf32e06c19", func := "tarpaulin/tarpaulinlaw4.ProgLimits", spec := "progLimits", named := ["tarpaulin/prog.forms"], apart := false, laid := [("tarpaulin/prog.forms", laid_tarpaulin_prog_forms)], narrowed := true }
def ProgLimitsUptoSaid : Prop := progLimitsUptoRow.holds Tryd.pinned (OpenSpec.upto progLimitsSpec)

/-- 'tarpaulinlaw4.ProgRegs', WHERE WHAT IT READS IS OF BULK AT MOST 1048576: true; the input reads as it did. -/
def progRegsUptoRow : OpenClaim := { program := "ytifmamobhkgmfaadoor", sum := "4548db878e392ce4df6e7399270c37ed178a58128c66fa7cd1113fdf32e06c19", func := "tarpaulin/tarpaulinlaw4.ProgRegs", spec := "progRegs", named := ["tarpaulin/prog.forms"], apart := false, laid := [("tarpaulin/prog.forms", laid_tarpaulin_prog_forms)], narrowed := true }
def ProgRegsUptoSaid : Prop := progRegsUptoRow.holds Tryd.pinned (OpenSpec.upto progRegsSpec)

/-- 'tarpaulinlaw4.ProgNames', WHERE WHAT IT READS IS OF BULK AT MOST 1048576: true; the input reads as it did. -/
def progNamesUptoRow : OpenClaim := { program := "ytifmamobhkgmfaadoor", sum := "4548db878e392ce4df6e7399270c37ed178a58128c66fa7cd1113fdf32e06c19", func := "tarpaulin/tarpaulinlaw4.ProgNames", spec := "progNames", named := ["tarpaulin/prog.forms"], apart := false, laid := [("tarpaulin/prog.forms", laid_tarpaulin_prog_forms)], narrowed := true }
def ProgNamesUptoSaid : Prop := progNamesUptoRow.holds Tryd.pinned (OpenSpec.upto progNamesSpec)

end Rows
end Go.Proofs.YtifmamobhkgmfaaDoor

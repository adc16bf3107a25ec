/-
  DERIVED. GIVEN WITH THE SEED: THE CARDS: each row of YtbdicgnmaonjgaaDoorRows.lean that lists a variable, with what it lists TIED to the program's text (the seventh form; the later family's looks); each row that meets fmt, with fmt's text TOLD by the authors' own Lean function (tested against real Go, not proved from fmt's source: count such statements apart). THE CARD IS WHAT COUNTS. Prove the row's statement (the work); the ties are given (YtbdicgnmaonjgaaDoorTie.lean); close each card by the builder's one call (the guide's Derived/Test/ToyasCard.lean, 'card_holds'). Laid BY PROGRAM, IN A SANDBOX (cutbox-door.mjs). By AI agents, Wed Nov 11 2026. No macro, syntax, notation, axiom, sorry.
-/
import Derived.Test.YtbdicgnmaonjgaaDoorRows
import GoSem.ClaimSeven
namespace Go.Proofs.YtbdicgnmaonjgaaDoor
namespace Rows

/-- THE TIED CARD OF 'tarpaulinlaw2.FaultWraps'. -/
def faultWrapsCard : Claim7 := { stood := { row := faultWrapsRow, standIns := [], harness := (true, "9b04289a23a428e86241692cc49c49efe4798f704e3abde7e0fcfb4e1f3afcb8"), looks := true }, kinds := [], alts := [], laidByText := true, laidKinds := [.handle], laidTests := true, laidLooks := .later }
def FaultWrapsCardSaid : Prop := Claim7.holds Tryd.pinned (.plain (OpenSpec.ofChange faultWrapsSpec)) faultWrapsCard

/-- THE TIED CARD OF 'tarpaulinlaw2.FaultDeep'. -/
def faultDeepCard : Claim7 := { stood := { row := faultDeepRow, standIns := [], harness := (true, "9b04289a23a428e86241692cc49c49efe4798f704e3abde7e0fcfb4e1f3afcb8"), looks := true }, kinds := [], alts := [], laidByText := true, laidKinds := [.handle], laidTests := true, laidLooks := .later }
def FaultDeepCardSaid : Prop := Claim7.holds Tryd.pinned (.plain (OpenSpec.ofChange faultDeepSpec)) faultDeepCard

/-- THE TIED CARD OF 'tarpaulinlaw2.FaultTexts'. -/
def faultTextsCard : Claim7 := { stood := { row := faultTextsRow, standIns := [], harness := (true, "9b04289a23a428e86241692cc49c49efe4798f704e3abde7e0fcfb4e1f3afcb8"), looks := true }, kinds := [], alts := [], laidByText := true, laidKinds := [.data, .data, .data, .handle], laidTests := true, laidLooks := .later }
def FaultTextsCardSaid : Prop := Claim7.holds Tryd.pinned (.plain (OpenSpec.ofChange faultTextsSpec)) faultTextsCard

/-- THE TIED CARD OF 'tarpaulinlaw2.FaultStrange'. -/
def faultStrangeCard : Claim7 := { stood := { row := faultStrangeRow, standIns := [], harness := (true, "9b04289a23a428e86241692cc49c49efe4798f704e3abde7e0fcfb4e1f3afcb8"), looks := true }, kinds := [], alts := [], laidByText := true, laidKinds := [.handle], laidTests := true, laidLooks := .later }
def FaultStrangeCardSaid : Prop := Claim7.holds Tryd.pinned (.plain (OpenSpec.ofChange faultStrangeSpec)) faultStrangeCard

/-- THE SECOND FORM's CARD OF 'tarpaulinlaw2.FaultWraps'. -/
def faultWrapsUptoCard : Claim7 := { stood := { row := faultWrapsUptoRow, standIns := [], harness := (true, "9b04289a23a428e86241692cc49c49efe4798f704e3abde7e0fcfb4e1f3afcb8"), looks := true }, kinds := [], alts := [], laidByText := true, laidKinds := [.handle], laidTests := true, laidLooks := .later }
def FaultWrapsUptoCardSaid : Prop := Claim7.holds Tryd.pinned (.plain (OpenSpec.upto faultWrapsSpec)) faultWrapsUptoCard

/-- THE SECOND FORM's CARD OF 'tarpaulinlaw2.FaultDeep'. -/
def faultDeepUptoCard : Claim7 := { stood := { row := faultDeepUptoRow, standIns := [], harness := (true, "9b04289a23a428e86241692cc49c49efe4798f704e3abde7e0fcfb4e1f3afcb8"), looks := true }, kinds := [], alts := [], laidByText := true, laidKinds := [.handle], laidTests := true, laidLooks := .later }
def FaultDeepUptoCardSaid : Prop := Claim7.holds Tryd.pinned (.plain (OpenSpec.upto faultDeepSpec)) faultDeepUptoCard

/-- THE SECOND FORM's CARD OF 'tarpaulinlaw2.FaultTexts'. -/
def faultTextsUptoCard : Claim7 := { stood := { row := faultTextsUptoRow, standIns := [], harness := (true, "9b04289a23a428e86241692cc49c49efe4798f704e3abde7e0fcfb4e1f3afcb8"), looks := true }, kinds := [], alts := [], laidByText := true, laidKinds := [.data, .data, .data, .handle], laidTests := true, laidLooks := .later }
def FaultTextsUptoCardSaid : Prop := Claim7.holds Tryd.pinned (.plain (OpenSpec.upto faultTextsSpec)) faultTextsUptoCard

/-- THE SECOND FORM's CARD OF 'tarpaulinlaw2.FaultStrange'. -/
def faultStrangeUptoCard : Claim7 := { stood := { row := faultStrangeUptoRow, standIns := [], harness := (true, "9b04289a23a428e86241692cc49c49efe4798f704e3abde7e0fcfb4e1f3afcb8"), looks := true }, kinds := [], alts := [], laidByText := true, laidKinds := [.handle], laidTests := true, laidLooks := .later }
def FaultStrangeUptoCardSaid : Prop := Claim7.holds Tryd.pinned (.plain (OpenSpec.upto faultStrangeSpec)) faultStrangeUptoCard
end Rows
end Go.Proofs.YtbdicgnmaonjgaaDoor

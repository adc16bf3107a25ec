/-
  DERIVED. GIVEN WITH THE SEED: THE CARDS: each row of YtgojnhbmelnpnaaDoorRows.lean that lists a variable, with what it lists TIED to the program's text (the seventh form; the later family's looks); each row that meets fmt, with fmt's text TOLD by the authors' own Lean function (tested against real Go, not proved from fmt's source: count such statements apart). THE CARD IS WHAT COUNTS. Prove the row's statement (the work); the ties are given (YtgojnhbmelnpnaaDoorTie.lean); close each card by the builder's one call (the guide's Derived/Test/ToyasCard.lean, 'card_holds'). Laid BY PROGRAM, IN A SANDBOX (cutbox-door.mjs). By AI agents, Wed Nov 11 2026. No macro, syntax, notation, axiom, sorry.
-/
import Derived.Test.YtgojnhbmelnpnaaDoorRows
import GoSem.ClaimSeven
namespace Go.Proofs.YtgojnhbmelnpnaaDoor
namespace Rows

/-- THE TIED CARD OF 'tarpaulinlaw18.LocalDoes'. -/
def localDoesCard : Claim7 := { stood := { row := localDoesRow, standIns := [], harness := (true, "04f7634269c204e9c91ce0ac6323e633e8da93bb41c4bf0856966665f04f8edc"), looks := false }, kinds := [], alts := [], laidByText := true, laidKinds := [.data], laidTests := true, laidLooks := .later }
def LocalDoesCardSaid : Prop := Claim7.holds Tryd.pinned (.plain (OpenSpec.ofChange localDoesSpec)) localDoesCard

/-- THE TIED CARD OF 'tarpaulinlaw18.LocalLoops'. -/
def localLoopsCard : Claim7 := { stood := { row := localLoopsRow, standIns := [], harness := (true, "04f7634269c204e9c91ce0ac6323e633e8da93bb41c4bf0856966665f04f8edc"), looks := false }, kinds := [], alts := [], laidByText := true, laidKinds := [.data], laidTests := true, laidLooks := .later }
def LocalLoopsCardSaid : Prop := Claim7.holds Tryd.pinned (.plain (OpenSpec.ofChange localLoopsSpec)) localLoopsCard

/-- THE TIED CARD OF 'tarpaulinlaw18.LocalSums'. -/
def localSumsCard : Claim7 := { stood := { row := localSumsRow, standIns := [], harness := (true, "04f7634269c204e9c91ce0ac6323e633e8da93bb41c4bf0856966665f04f8edc"), looks := false }, kinds := [], alts := [], laidByText := true, laidKinds := [.data], laidTests := true, laidLooks := .later }
def LocalSumsCardSaid : Prop := Claim7.holds Tryd.pinned (.plain (OpenSpec.ofChange localSumsSpec)) localSumsCard

/-- THE TIED CARD OF 'tarpaulinlaw18.LocalRefuses'. -/
def localRefusesCard : Claim7 := { stood := { row := localRefusesRow, standIns := [], harness := (true, "04f7634269c204e9c91ce0ac6323e633e8da93bb41c4bf0856966665f04f8edc"), looks := false }, kinds := [], alts := [], laidByText := true, laidKinds := [.data], laidTests := true, laidLooks := .later }
def LocalRefusesCardSaid : Prop := Claim7.holds Tryd.pinned (.plain (OpenSpec.ofChange localRefusesSpec)) localRefusesCard

/-- THE SECOND FORM's CARD OF 'tarpaulinlaw18.LocalDoes'. -/
def localDoesUptoCard : Claim7 := { stood := { row := localDoesUptoRow, standIns := [], harness := (true, "04f7634269c204e9c91ce0ac6323e633e8da93bb41c4bf0856966665f04f8edc"), looks := false }, kinds := [], alts := [], laidByText := true, laidKinds := [.data], laidTests := true, laidLooks := .later }
def LocalDoesUptoCardSaid : Prop := Claim7.holds Tryd.pinned (.plain (OpenSpec.upto localDoesSpec)) localDoesUptoCard

/-- THE SECOND FORM's CARD OF 'tarpaulinlaw18.LocalLoops'. -/
def localLoopsUptoCard : Claim7 := { stood := { row := localLoopsUptoRow, standIns := [], harness := (true, "04f7634269c204e9c91ce0ac6323e633e8da93bb41c4bf0856966665f04f8edc"), looks := false }, kinds := [], alts := [], laidByText := true, laidKinds := [.data], laidTests := true, laidLooks := .later }
def LocalLoopsUptoCardSaid : Prop := Claim7.holds Tryd.pinned (.plain (OpenSpec.upto localLoopsSpec)) localLoopsUptoCard

/-- THE SECOND FORM's CARD OF 'tarpaulinlaw18.LocalSums'. -/
def localSumsUptoCard : Claim7 := { stood := { row := localSumsUptoRow, standIns := [], harness := (true, "04f7634269c204e9c91ce0ac6323e633e8da93bb41c4bf0856966665f04f8edc"), looks := false }, kinds := [], alts := [], laidByText := true, laidKinds := [.data], laidTests := true, laidLooks := .later }
def LocalSumsUptoCardSaid : Prop := Claim7.holds Tryd.pinned (.plain (OpenSpec.upto localSumsSpec)) localSumsUptoCard

/-- THE SECOND FORM's CARD OF 'tarpaulinlaw18.LocalRefuses'. -/
def localRefusesUptoCard : Claim7 := { stood := { row := localRefusesUptoRow, standIns := [], harness := (true, "04f7634269c204e9c91ce0ac6323e633e8da93bb41c4bf0856966665f04f8edc"), looks := false }, kinds := [], alts := [], laidByText := true, laidKinds := [.data], laidTests := true, laidLooks := .later }
def LocalRefusesUptoCardSaid : Prop := Claim7.holds Tryd.pinned (.plain (OpenSpec.upto localRefusesSpec)) localRefusesUptoCard
end Rows
end Go.Proofs.YtgojnhbmelnpnaaDoor

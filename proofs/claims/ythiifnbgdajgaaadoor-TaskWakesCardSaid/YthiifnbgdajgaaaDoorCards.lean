/-
  DERIVED. GIVEN WITH THE SEED: THE CARDS: each row of YthiifnbgdajgaaaDoorRows.lean that lists a variable, with what it lists TIED to the program's text (the seventh form; the later family's looks); each row that meets fmt, with fmt's text TOLD by the authors' own Lean function (tested against real Go, not proved from fmt's source: count such statements apart). THE CARD IS WHAT COUNTS. Prove the row's statement (the work); the ties are given (YthiifnbgdajgaaaDoorTie.lean); close each card by the builder's one call (the guide's Derived/Test/ToyasCard.lean, 'card_holds'). Laid BY PROGRAM, IN A SANDBOX (cutbox-door.mjs). By AI agents, Wed Nov 11 2026. No macro, syntax, notation, axiom, sorry.
-/
import Derived.Test.YthiifnbgdajgaaaDoorRows
import GoSem.ClaimSeven
namespace Go.Proofs.YthiifnbgdajgaaaDoor
namespace Rows

/-- THE TIED CARD OF 'tarpaulinlaw17.TaskLine'. -/
def taskLineCard : Claim7 := { stood := { row := taskLineRow, standIns := [], harness := (true, "e51db9086e59140757f87591a40b4c5d5fa116d9946c3199a08ae00c66650891"), looks := false }, kinds := [], alts := [], laidByText := true, laidKinds := [.data], laidTests := true, laidLooks := .later }
def TaskLineCardSaid : Prop := Claim7.holds Tryd.pinned (.plain (OpenSpec.ofChange taskLineSpec)) taskLineCard

/-- THE TIED CARD OF 'tarpaulinlaw17.TaskWakes'. -/
def taskWakesCard : Claim7 := { stood := { row := taskWakesRow, standIns := [], harness := (true, "e51db9086e59140757f87591a40b4c5d5fa116d9946c3199a08ae00c66650891"), looks := false }, kinds := [], alts := [], laidByText := true, laidKinds := [.data], laidTests := true, laidLooks := .later }
def TaskWakesCardSaid : Prop := Claim7.holds Tryd.pinned (.plain (OpenSpec.ofChange taskWakesSpec)) taskWakesCard

/-- THE TIED CARD OF 'tarpaulinlaw17.TaskEnds'. -/
def taskEndsCard : Claim7 := { stood := { row := taskEndsRow, standIns := [], harness := (true, "e51db9086e59140757f87591a40b4c5d5fa116d9946c3199a08ae00c66650891"), looks := false }, kinds := [], alts := [], laidByText := true, laidKinds := [.data], laidTests := true, laidLooks := .later }
def TaskEndsCardSaid : Prop := Claim7.holds Tryd.pinned (.plain (OpenSpec.ofChange taskEndsSpec)) taskEndsCard

/-- THE TIED CARD OF 'tarpaulinlaw17.TaskFull'. -/
def taskFullCard : Claim7 := { stood := { row := taskFullRow, standIns := [], harness := (true, "e51db9086e59140757f87591a40b4c5d5fa116d9946c3199a08ae00c66650891"), looks := false }, kinds := [], alts := [], laidByText := true, laidKinds := [.data], laidTests := true, laidLooks := .later }
def TaskFullCardSaid : Prop := Claim7.holds Tryd.pinned (.plain (OpenSpec.ofChange taskFullSpec)) taskFullCard

/-- THE TIED CARD OF 'tarpaulinlaw17.TaskPicks'. -/
def taskPicksCard : Claim7 := { stood := { row := taskPicksRow, standIns := [], harness := (true, "e51db9086e59140757f87591a40b4c5d5fa116d9946c3199a08ae00c66650891"), looks := false }, kinds := [], alts := [], laidByText := true, laidKinds := [.data], laidTests := true, laidLooks := .later }
def TaskPicksCardSaid : Prop := Claim7.holds Tryd.pinned (.plain (OpenSpec.ofChange taskPicksSpec)) taskPicksCard

/-- THE SECOND FORM's CARD OF 'tarpaulinlaw17.TaskLine'. -/
def taskLineUptoCard : Claim7 := { stood := { row := taskLineUptoRow, standIns := [], harness := (true, "e51db9086e59140757f87591a40b4c5d5fa116d9946c3199a08ae00c66650891"), looks := false }, kinds := [], alts := [], laidByText := true, laidKinds := [.data], laidTests := true, laidLooks := .later }
def TaskLineUptoCardSaid : Prop := Claim7.holds Tryd.pinned (.plain (OpenSpec.upto taskLineSpec)) taskLineUptoCard

/-- THE SECOND FORM's CARD OF 'tarpaulinlaw17.TaskWakes'. -/
def taskWakesUptoCard : Claim7 := { stood := { row := taskWakesUptoRow, standIns := [], harness := (true, "e51db9086e59140757f87591a40b4c5d5fa116d9946c3199a08ae00c66650891"), looks := false }, kinds := [], alts := [], laidByText := true, laidKinds := [.data], laidTests := true, laidLooks := .later }
def TaskWakesUptoCardSaid : Prop := Claim7.holds Tryd.pinned (.plain (OpenSpec.upto taskWakesSpec)) taskWakesUptoCard

/-- THE SECOND FORM's CARD OF 'tarpaulinlaw17.TaskEnds'. -/
def taskEndsUptoCard : Claim7 := { stood := { row := taskEndsUptoRow, standIns := [], harness := (true, "e51db9086e59140757f87591a40b4c5d5fa116d9946c3199a08ae00c66650891"), looks := false }, kinds := [], alts := [], laidByText := true, laidKinds := [.data], laidTests := true, laidLooks := .later }
def TaskEndsUptoCardSaid : Prop := Claim7.holds Tryd.pinned (.plain (OpenSpec.upto taskEndsSpec)) taskEndsUptoCard

/-- THE SECOND FORM's CARD OF 'tarpaulinlaw17.TaskFull'. -/
def taskFullUptoCard : Claim7 := { stood := { row := taskFullUptoRow, standIns := [], harness := (true, "e51db9086e59140757f87591a40b4c5d5fa116d9946c3199a08ae00c66650891"), looks := false }, kinds := [], alts := [], laidByText := true, laidKinds := [.data], laidTests := true, laidLooks := .later }
def TaskFullUptoCardSaid : Prop := Claim7.holds Tryd.pinned (.plain (OpenSpec.upto taskFullSpec)) taskFullUptoCard

/-- THE SECOND FORM's CARD OF 'tarpaulinlaw17.TaskPicks'. -/
def taskPicksUptoCard : Claim7 := { stood := { row := taskPicksUptoRow, standIns := [], harness := (true, "e51db9086e59140757f87591a40b4c5d5fa116d9946c3199a08ae00c66650891"), looks := false }, kinds := [], alts := [], laidByText := true, laidKinds := [.data], laidTests := true, laidLooks := .later }
def TaskPicksUptoCardSaid : Prop := Claim7.holds Tryd.pinned (.plain (OpenSpec.upto taskPicksSpec)) taskPicksUptoCard
end Rows
end Go.Proofs.YthiifnbgdajgaaaDoor

/-
  DERIVED. GIVEN WITH THE SEED: THE CARDS: each row of YtjdabnpfinlefaaGreatDoorRows.lean that lists a variable, with what it lists TIED to the program's text (the seventh form; the later family's looks); each row that meets fmt, with fmt's text TOLD by the authors' own Lean function (tested against real Go, not proved from fmt's source: count such statements apart). THE CARD IS WHAT COUNTS. Prove the row's statement (the work); the ties are given (YtjdabnpfinlefaaGreatDoorTie.lean); close each card by the builder's one call (the guide's Derived/Test/ToyasCard.lean, 'card_holds'). Laid BY PROGRAM, IN A SANDBOX (cutbox-door.mjs). By AI agents, Wed Nov 11 2026. No macro, syntax, notation, axiom, sorry.
-/
import Derived.Test.YtjdabnpfinlefaaGreatDoorRows
import GoSem.ClaimSeven
namespace Go.Proofs.YtjdabnpfinlefaaGreatDoor
namespace Rows

/-- THE TIED CARD OF 'laws.FnModes'. -/
def fnModesCard : Claim7 := { stood := { row := fnModesRow, standIns := [], harness := (true, "40ecc52f76dbbe914a255f215bab02b0448912aa2f9da144bf31ca98478ceb0e"), looks := true }, kinds := [], alts := [], laidByText := true, laidKinds := [.data, .data, .data, .data, .handle, .data, .data, .sentinel, .sentinel, .sentinel, .pinned], laidTests := true, laidLooks := .later }
def FnModesCardSaid : Prop := Claim7.holds Tryz.pinned (.plain (OpenSpec.ofChange fnModesSpec)) fnModesCard

/-- THE SECOND FORM's CARD OF 'laws.FnModes'. -/
def fnModesUptoCard : Claim7 := { stood := { row := fnModesUptoRow, standIns := [], harness := (true, "40ecc52f76dbbe914a255f215bab02b0448912aa2f9da144bf31ca98478ceb0e"), looks := true }, kinds := [], alts := [], laidByText := true, laidKinds := [.data, .data, .data, .data, .handle, .data, .data, .sentinel, .sentinel, .sentinel, .pinned], laidTests := true, laidLooks := .later }
def FnModesUptoCardSaid : Prop := Claim7.holds Tryz.pinned (.plain (OpenSpec.upto fnModesSpec)) fnModesUptoCard
end Rows
end Go.Proofs.YtjdabnpfinlefaaGreatDoor

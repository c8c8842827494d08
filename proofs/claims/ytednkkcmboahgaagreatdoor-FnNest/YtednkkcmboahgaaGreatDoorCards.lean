/-
  DERIVED. GIVEN WITH THE SEED: THE CARDS: each row of YtednkkcmboahgaaGreatDoorRows.lean that lists a variable, with what it lists TIED to the program's text (the seventh form; the later family's looks); each row that meets fmt, with fmt's text TOLD by the authors' own Lean function (tested against real Go, not proved from fmt's source: count such statements apart). THE CARD IS WHAT COUNTS. Prove the row's statement (the work); the ties are given (YtednkkcmboahgaaGreatDoorTie.lean); close each card by the builder's one call (the guide's Derived/Test/ToyasCard.lean, 'card_holds'). Laid BY PROGRAM, IN A SANDBOX (cutbox-door.mjs). By AI agents, Wed Nov 11 2026. No macro, syntax, notation, axiom, sorry.
-/
import Derived.Test.YtednkkcmboahgaaGreatDoorRows
import GoSem.ClaimSeven
namespace Go.Proofs.YtednkkcmboahgaaGreatDoor
namespace Rows

/-- THE TIED CARD OF 'laws.FnNest'. -/
def fnNestCard : Claim7 := { stood := { row := fnNestRow, standIns := [], harness := (true, "2c479def7070818b8a3a2e22b3ea0874e136fe0d47efcd90a082cf40da48b56d"), looks := true }, kinds := [], alts := [], laidByText := true, laidKinds := [.data, .data, .data, .data, .handle, .data, .data, .sentinel, .sentinel, .sentinel, .pinned], laidTests := true, laidLooks := .later }
def FnNestCardSaid : Prop := Claim7.holds Tryz.pinned (.plain (OpenSpec.ofChange fnNestSpec)) fnNestCard

/-- THE SECOND FORM's CARD OF 'laws.FnNest'. -/
def fnNestUptoCard : Claim7 := { stood := { row := fnNestUptoRow, standIns := [], harness := (true, "2c479def7070818b8a3a2e22b3ea0874e136fe0d47efcd90a082cf40da48b56d"), looks := true }, kinds := [], alts := [], laidByText := true, laidKinds := [.data, .data, .data, .data, .handle, .data, .data, .sentinel, .sentinel, .sentinel, .pinned], laidTests := true, laidLooks := .later }
def FnNestUptoCardSaid : Prop := Claim7.holds Tryz.pinned (.plain (OpenSpec.upto fnNestSpec)) fnNestUptoCard
end Rows
end Go.Proofs.YtednkkcmboahgaaGreatDoor

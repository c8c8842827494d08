/-
  DERIVED. GIVEN WITH THE SEED: THE CARDS: each row of YtjgekikcmkicmaaGreatDoorRows.lean that lists a variable, with what it lists TIED to the program's text (the seventh form; the later family's looks); each row that meets fmt, with fmt's text TOLD by the authors' own Lean function (tested against real Go, not proved from fmt's source: count such statements apart). THE CARD IS WHAT COUNTS. Prove the row's statement (the work); the ties are given (YtjgekikcmkicmaaGreatDoorTie.lean); close each card by the builder's one call (the guide's Derived/Test/ToyasCard.lean, 'card_holds'). Laid BY PROGRAM, IN A SANDBOX (cutbox-door.mjs). By AI agents, Wed Nov 11 2026. No macro, syntax, notation, axiom, sorry.
-/
import Derived.Test.YtjgekikcmkicmaaGreatDoorRows
import GoSem.ClaimSeven
namespace Go.Proofs.YtjgekikcmkicmaaGreatDoor
namespace Rows

/-- THE TIED CARD OF 'laws.FnValues'. -/
def fnValuesCard : Claim7 := { stood := { row := fnValuesRow, standIns := [], harness := (true, "4d9e85a23cac67b3ccbba812c40dd6734ab5884ba102807f7bf9c88aeb7ce022"), looks := true }, kinds := [], alts := [], laidByText := true, laidKinds := [.data, .data, .data, .data, .handle, .data, .pinned], laidTests := true, laidLooks := .later }
def FnValuesCardSaid : Prop := Claim7.holds Tryz.pinned (.plain (OpenSpec.ofChange fnValuesSpec)) fnValuesCard

/-- THE TIED CARD OF 'laws.FnCompute'. -/
def fnComputeCard : Claim7 := { stood := { row := fnComputeRow, standIns := [], harness := (true, "4d9e85a23cac67b3ccbba812c40dd6734ab5884ba102807f7bf9c88aeb7ce022"), looks := true }, kinds := [], alts := [], laidByText := true, laidKinds := [.data, .data, .data, .data, .handle, .pinned], laidTests := true, laidLooks := .later }
def FnComputeCardSaid : Prop := Claim7.holds Tryz.pinned (.plain (OpenSpec.ofChange fnComputeSpec)) fnComputeCard

/-- THE TIED CARD OF 'laws.FnAddresses'. -/
def fnAddressesCard : Claim7 := { stood := { row := fnAddressesRow, standIns := [], harness := (true, "4d9e85a23cac67b3ccbba812c40dd6734ab5884ba102807f7bf9c88aeb7ce022"), looks := true }, kinds := [], alts := [], laidByText := true, laidKinds := [.data, .data, .data, .data], laidTests := true, laidLooks := .later }
def FnAddressesCardSaid : Prop := Claim7.holds Tryz.pinned (.plain (OpenSpec.ofChange fnAddressesSpec)) fnAddressesCard

/-- THE SECOND FORM's CARD OF 'laws.FnValues'. -/
def fnValuesUptoCard : Claim7 := { stood := { row := fnValuesUptoRow, standIns := [], harness := (true, "4d9e85a23cac67b3ccbba812c40dd6734ab5884ba102807f7bf9c88aeb7ce022"), looks := true }, kinds := [], alts := [], laidByText := true, laidKinds := [.data, .data, .data, .data, .handle, .data, .pinned], laidTests := true, laidLooks := .later }
def FnValuesUptoCardSaid : Prop := Claim7.holds Tryz.pinned (.plain (OpenSpec.upto fnValuesSpec)) fnValuesUptoCard

/-- THE SECOND FORM's CARD OF 'laws.FnCompute'. -/
def fnComputeUptoCard : Claim7 := { stood := { row := fnComputeUptoRow, standIns := [], harness := (true, "4d9e85a23cac67b3ccbba812c40dd6734ab5884ba102807f7bf9c88aeb7ce022"), looks := true }, kinds := [], alts := [], laidByText := true, laidKinds := [.data, .data, .data, .data, .handle, .pinned], laidTests := true, laidLooks := .later }
def FnComputeUptoCardSaid : Prop := Claim7.holds Tryz.pinned (.plain (OpenSpec.upto fnComputeSpec)) fnComputeUptoCard

/-- THE SECOND FORM's CARD OF 'laws.FnAddresses'. -/
def fnAddressesUptoCard : Claim7 := { stood := { row := fnAddressesUptoRow, standIns := [], harness := (true, "4d9e85a23cac67b3ccbba812c40dd6734ab5884ba102807f7bf9c88aeb7ce022"), looks := true }, kinds := [], alts := [], laidByText := true, laidKinds := [.data, .data, .data, .data], laidTests := true, laidLooks := .later }
def FnAddressesUptoCardSaid : Prop := Claim7.holds Tryz.pinned (.plain (OpenSpec.upto fnAddressesSpec)) fnAddressesUptoCard
end Rows
end Go.Proofs.YtjgekikcmkicmaaGreatDoor

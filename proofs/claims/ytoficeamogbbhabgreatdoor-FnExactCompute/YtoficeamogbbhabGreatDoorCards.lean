/-
  DERIVED. GIVEN WITH THE SEED: THE CARDS: each row of YtoficeamogbbhabGreatDoorRows.lean that lists a variable, with what it lists TIED to the program's text (the seventh form; the later family's looks); each row that meets fmt, with fmt's text TOLD by the authors' own Lean function (tested against real Go, not proved from fmt's source: count such statements apart). THE CARD IS WHAT COUNTS. Prove the row's statement (the work); the ties are given (YtoficeamogbbhabGreatDoorTie.lean); close each card by the builder's one call (the guide's Derived/Test/ToyasCard.lean, 'card_holds'). Laid BY PROGRAM, IN A SANDBOX (cutbox-door.mjs). By AI agents, Wed Nov 11 2026. No macro, syntax, notation, axiom, sorry.
-/
import Derived.Test.YtoficeamogbbhabGreatDoorRows
import GoSem.ClaimSeven
namespace Go.Proofs.YtoficeamogbbhabGreatDoor
namespace Rows

/-- THE TIED CARD OF 'laws.FnExactScriptRead'. -/
def fnExactScriptReadCard : Claim7 := { stood := { row := fnExactScriptReadRow, standIns := [], harness := (true, "2118507c0edf30d416a6cf7e51ba3c666566202d37bed1cc7869243737d3ac69"), looks := true }, kinds := [], alts := [], laidByText := true, laidKinds := [.data], laidTests := true, laidLooks := .later }
def FnExactScriptReadCardSaid : Prop := Claim7.holds Tryz.pinned (.plain (OpenSpec.ofChange fnExactScriptReadSpec)) fnExactScriptReadCard

/-- THE TIED CARD OF 'laws.FnExactEqual'. -/
def fnExactEqualCard : Claim7 := { stood := { row := fnExactEqualRow, standIns := [], harness := (true, "2118507c0edf30d416a6cf7e51ba3c666566202d37bed1cc7869243737d3ac69"), looks := true }, kinds := [], alts := [], laidByText := true, laidKinds := [.data, .data, .data, .data, .handle, .pinned], laidTests := true, laidLooks := .later }
def FnExactEqualCardSaid : Prop := Claim7.holds Tryz.pinned (.plain (OpenSpec.ofChange fnExactEqualSpec)) fnExactEqualCard

/-- THE TIED CARD OF 'laws.FnExactLess'. -/
def fnExactLessCard : Claim7 := { stood := { row := fnExactLessRow, standIns := [], harness := (true, "2118507c0edf30d416a6cf7e51ba3c666566202d37bed1cc7869243737d3ac69"), looks := true }, kinds := [], alts := [], laidByText := true, laidKinds := [.data, .data, .data, .data, .handle, .pinned], laidTests := true, laidLooks := .later }
def FnExactLessCardSaid : Prop := Claim7.holds Tryz.pinned (.plain (OpenSpec.ofChange fnExactLessSpec)) fnExactLessCard

/-- THE TIED CARD OF 'laws.FnExactCompute'. -/
def fnExactComputeCard : Claim7 := { stood := { row := fnExactComputeRow, standIns := [], harness := (true, "2118507c0edf30d416a6cf7e51ba3c666566202d37bed1cc7869243737d3ac69"), looks := true }, kinds := [], alts := [], laidByText := true, laidKinds := [.data, .data, .data, .data, .handle, .pinned], laidTests := true, laidLooks := .later }
def FnExactComputeCardSaid : Prop := Claim7.holds Tryz.pinned (.plain (OpenSpec.ofChange fnExactComputeSpec)) fnExactComputeCard

/-- THE SECOND FORM's CARD OF 'laws.FnExactScriptRead'. -/
def fnExactScriptReadUptoCard : Claim7 := { stood := { row := fnExactScriptReadUptoRow, standIns := [], harness := (true, "2118507c0edf30d416a6cf7e51ba3c666566202d37bed1cc7869243737d3ac69"), looks := true }, kinds := [], alts := [], laidByText := true, laidKinds := [.data], laidTests := true, laidLooks := .later }
def FnExactScriptReadUptoCardSaid : Prop := Claim7.holds Tryz.pinned (.plain (OpenSpec.upto fnExactScriptReadSpec)) fnExactScriptReadUptoCard

/-- THE SECOND FORM's CARD OF 'laws.FnExactEqual'. -/
def fnExactEqualUptoCard : Claim7 := { stood := { row := fnExactEqualUptoRow, standIns := [], harness := (true, "2118507c0edf30d416a6cf7e51ba3c666566202d37bed1cc7869243737d3ac69"), looks := true }, kinds := [], alts := [], laidByText := true, laidKinds := [.data, .data, .data, .data, .handle, .pinned], laidTests := true, laidLooks := .later }
def FnExactEqualUptoCardSaid : Prop := Claim7.holds Tryz.pinned (.plain (OpenSpec.upto fnExactEqualSpec)) fnExactEqualUptoCard

/-- THE SECOND FORM's CARD OF 'laws.FnExactLess'. -/
def fnExactLessUptoCard : Claim7 := { stood := { row := fnExactLessUptoRow, standIns := [], harness := (true, "2118507c0edf30d416a6cf7e51ba3c666566202d37bed1cc7869243737d3ac69"), looks := true }, kinds := [], alts := [], laidByText := true, laidKinds := [.data, .data, .data, .data, .handle, .pinned], laidTests := true, laidLooks := .later }
def FnExactLessUptoCardSaid : Prop := Claim7.holds Tryz.pinned (.plain (OpenSpec.upto fnExactLessSpec)) fnExactLessUptoCard

/-- THE SECOND FORM's CARD OF 'laws.FnExactCompute'. -/
def fnExactComputeUptoCard : Claim7 := { stood := { row := fnExactComputeUptoRow, standIns := [], harness := (true, "2118507c0edf30d416a6cf7e51ba3c666566202d37bed1cc7869243737d3ac69"), looks := true }, kinds := [], alts := [], laidByText := true, laidKinds := [.data, .data, .data, .data, .handle, .pinned], laidTests := true, laidLooks := .later }
def FnExactComputeUptoCardSaid : Prop := Claim7.holds Tryz.pinned (.plain (OpenSpec.upto fnExactComputeSpec)) fnExactComputeUptoCard
end Rows
end Go.Proofs.YtoficeamogbbhabGreatDoor

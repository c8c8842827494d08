/-
  DERIVED. GIVEN WITH THE SEED: THE CARDS: each row of YtoficeamogbbhabDoorRows.lean that lists a variable, with what it lists TIED to the program's text (the seventh form; the later family's looks); each row that meets fmt, with fmt's text TOLD by the authors' own Lean function (tested against real Go, not proved from fmt's source: count such statements apart). THE CARD IS WHAT COUNTS. Prove the row's statement (the work); the ties are given (YtoficeamogbbhabDoorTie.lean); close each card by the builder's one call (the guide's Derived/Test/ToyasCard.lean, 'card_holds'). Laid BY PROGRAM, IN A SANDBOX (cutbox-door.mjs). By AI agents, Wed Nov 11 2026. No macro, syntax, notation, axiom, sorry.
-/
import Derived.Test.YtoficeamogbbhabDoorRows
import GoSem.ClaimSeven
namespace Go.Proofs.YtoficeamogbbhabDoor
namespace Rows

/-- THE TIED CARD OF 'laws.FnExactToNumber'. -/
def fnExactToNumberCard : Claim7 := { stood := { row := fnExactToNumberRow, standIns := [], harness := (true, "b4579beb54de584d94a0a3f4daf37cb944cf704e78ef5679b584b28e2ac2a2e0"), looks := true }, kinds := [], alts := [], laidByText := true, laidKinds := [.data, .handle, .pinned], laidTests := true, laidLooks := .later }
def FnExactToNumberCardSaid : Prop := Claim7.holds Tryd.pinned (.plain (OpenSpec.ofChange fnExactToNumberSpec)) fnExactToNumberCard

/-- THE TIED CARD OF 'laws.FnExactToText'. -/
def fnExactToTextCard : Claim7 := { stood := { row := fnExactToTextRow, standIns := [], harness := (true, "b4579beb54de584d94a0a3f4daf37cb944cf704e78ef5679b584b28e2ac2a2e0"), looks := true }, kinds := [], alts := [], laidByText := true, laidKinds := [.data, .data, .data], laidTests := true, laidLooks := .later }
def FnExactToTextCardSaid : Prop := Claim7.holds Tryd.pinned (.plain (OpenSpec.ofChange fnExactToTextSpec)) fnExactToTextCard

/-- THE TIED CARD OF 'laws.FnExactTypeOf'. -/
def fnExactTypeOfCard : Claim7 := { stood := { row := fnExactTypeOfRow, standIns := [], harness := (true, "b4579beb54de584d94a0a3f4daf37cb944cf704e78ef5679b584b28e2ac2a2e0"), looks := true }, kinds := [], alts := [], laidByText := true, laidKinds := [.data], laidTests := true, laidLooks := .later }
def FnExactTypeOfCardSaid : Prop := Claim7.holds Tryd.pinned (.plain (OpenSpec.ofChange fnExactTypeOfSpec)) fnExactTypeOfCard

/-- THE SECOND FORM's CARD OF 'laws.FnExactToNumber'. -/
def fnExactToNumberUptoCard : Claim7 := { stood := { row := fnExactToNumberUptoRow, standIns := [], harness := (true, "b4579beb54de584d94a0a3f4daf37cb944cf704e78ef5679b584b28e2ac2a2e0"), looks := true }, kinds := [], alts := [], laidByText := true, laidKinds := [.data, .handle, .pinned], laidTests := true, laidLooks := .later }
def FnExactToNumberUptoCardSaid : Prop := Claim7.holds Tryd.pinned (.plain (OpenSpec.upto fnExactToNumberSpec)) fnExactToNumberUptoCard

/-- THE SECOND FORM's CARD OF 'laws.FnExactToText'. -/
def fnExactToTextUptoCard : Claim7 := { stood := { row := fnExactToTextUptoRow, standIns := [], harness := (true, "b4579beb54de584d94a0a3f4daf37cb944cf704e78ef5679b584b28e2ac2a2e0"), looks := true }, kinds := [], alts := [], laidByText := true, laidKinds := [.data, .data, .data], laidTests := true, laidLooks := .later }
def FnExactToTextUptoCardSaid : Prop := Claim7.holds Tryd.pinned (.plain (OpenSpec.upto fnExactToTextSpec)) fnExactToTextUptoCard

/-- THE SECOND FORM's CARD OF 'laws.FnExactTypeOf'. -/
def fnExactTypeOfUptoCard : Claim7 := { stood := { row := fnExactTypeOfUptoRow, standIns := [], harness := (true, "b4579beb54de584d94a0a3f4daf37cb944cf704e78ef5679b584b28e2ac2a2e0"), looks := true }, kinds := [], alts := [], laidByText := true, laidKinds := [.data], laidTests := true, laidLooks := .later }
def FnExactTypeOfUptoCardSaid : Prop := Claim7.holds Tryd.pinned (.plain (OpenSpec.upto fnExactTypeOfSpec)) fnExactTypeOfUptoCard
end Rows
end Go.Proofs.YtoficeamogbbhabDoor

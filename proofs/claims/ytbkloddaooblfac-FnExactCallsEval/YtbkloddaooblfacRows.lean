/-
  NARROWER THAN 'FOR EVERY INPUT', by the rows' own cells (each row's printed sentence says how): FnExactCallsEval: loops.
  DERIVED. THE GIVEN ROWS OF THIS SEAT. 6 by the template 'for every input the law returns true; each argument reads behind the call as it read before'; 0 by the template 'total and deterministic' (their statements: YtbkloddaooblfacTotals.lean).
  GIVEN WITH THE SEED: the statements are not yours to turn. If you find one false, say at which input.
  Laid BY PROGRAM, IN A SANDBOX (cutbox-rows.mjs): the forced cells as the released guide's own fill.sh prints them over the translation 844dd16bc10ae55a… (all of the seat's roots in one cut). By AI agents, Wed Nov 11 2026. No macro, syntax, notation, axiom, sorry.
-/
import Derived.Test.YtbkloddaooblfacChecked
import GoSem.Claim
import GoSem.ClaimJoined
import GoSem.ClaimMapViews
import Derived.JoinedTies
import Derived.KernelRfl
namespace Go.Proofs.Ytbkloddaooblfac
/- THE CELL 'sum', in the pinned program and in every row, IS THE sha256 OF THE DUMP (.gsa) THAT YtbkloddaooblfacProg.lean LOADS. Nothing in Lean hashes anything: it is a label: what it is worth is what the hold of that sum in a sandbox is worth. -/
noncomputable def Try.pinned : Pinned := { name := "ytbkloddaooblfac", sum := "844dd16bc10ae55ae355762b1936ed2938415fdcaaede9615550a17415ca4862", checked := Try.checked }
namespace Rows
def none {H : Type} : Left H := { results := [], args := [] }

/-- 'laws.FnExactHeapHas': WHATEVER THE INPUT: true; the input reads as it did. -/
def fnExactHeapHasSpec : ChangeSpec := { name := "fnExactHeapHas", fn := fun _ => fun
  | [d1, d2, d3] => { results := [.lit (.bool true)], args := [d1, d2, d3] }
  | _ => none }
def fnExactHeapHasRow : OpenClaim := { program := "ytbkloddaooblfac", sum := "844dd16bc10ae55ae355762b1936ed2938415fdcaaede9615550a17415ca4862", func := "loop.example/g00317/laws.FnExactHeapHas", spec := "fnExactHeapHas", unfollowed := true, recurses := true, plainKeys := false, apart := false }
def FnExactHeapHasSaid : Prop := fnExactHeapHasRow.holds Try.pinned (OpenSpec.ofChange fnExactHeapHasSpec)

/-- ITS FALSE NEIGHBOUR: 'it returns false'. Refute it at one input. -/
def fnExactHeapHasWrong : ChangeSpec := { name := "fnExactHeapHas", fn := fun _ => fun
  | [d1, d2, d3] => { results := [.lit (.bool false)], args := [d1, d2, d3] }
  | _ => none }
def FnExactHeapHasWrongFalsely : Prop := fnExactHeapHasRow.holds Try.pinned (OpenSpec.ofChange fnExactHeapHasWrong)

/-- 'laws.FnExactHeapGet': WHATEVER THE INPUT: true; the input reads as it did. -/
def fnExactHeapGetSpec : ChangeSpec := { name := "fnExactHeapGet", fn := fun _ => fun
  | [d1, d2, d3] => { results := [.lit (.bool true)], args := [d1, d2, d3] }
  | _ => none }
def fnExactHeapGetRow : OpenClaim := { program := "ytbkloddaooblfac", sum := "844dd16bc10ae55ae355762b1936ed2938415fdcaaede9615550a17415ca4862", func := "loop.example/g00317/laws.FnExactHeapGet", spec := "fnExactHeapGet", unfollowed := true, recurses := true, plainKeys := false, apart := false }
def FnExactHeapGetSaid : Prop := fnExactHeapGetRow.holds Try.pinned (OpenSpec.ofChange fnExactHeapGetSpec)

/-- ITS FALSE NEIGHBOUR: 'it returns false'. Refute it at one input. -/
def fnExactHeapGetWrong : ChangeSpec := { name := "fnExactHeapGet", fn := fun _ => fun
  | [d1, d2, d3] => { results := [.lit (.bool false)], args := [d1, d2, d3] }
  | _ => none }
def FnExactHeapGetWrongFalsely : Prop := fnExactHeapGetRow.holds Try.pinned (OpenSpec.ofChange fnExactHeapGetWrong)

/-- 'laws.FnExactHeapPut': WHATEVER THE INPUT: true; the input reads as it did. -/
def fnExactHeapPutSpec : ChangeSpec := { name := "fnExactHeapPut", fn := fun _ => fun
  | [d1, d2, d3, d4] => { results := [.lit (.bool true)], args := [d1, d2, d3, d4] }
  | _ => none }
def fnExactHeapPutRow : OpenClaim := { program := "ytbkloddaooblfac", sum := "844dd16bc10ae55ae355762b1936ed2938415fdcaaede9615550a17415ca4862", func := "loop.example/g00317/laws.FnExactHeapPut", spec := "fnExactHeapPut", unfollowed := true, recurses := true, plainKeys := false, apart := false }
def FnExactHeapPutSaid : Prop := fnExactHeapPutRow.holds Try.pinned (OpenSpec.ofChange fnExactHeapPutSpec)

/-- ITS FALSE NEIGHBOUR: 'it returns false'. Refute it at one input. -/
def fnExactHeapPutWrong : ChangeSpec := { name := "fnExactHeapPut", fn := fun _ => fun
  | [d1, d2, d3, d4] => { results := [.lit (.bool false)], args := [d1, d2, d3, d4] }
  | _ => none }
def FnExactHeapPutWrongFalsely : Prop := fnExactHeapPutRow.holds Try.pinned (OpenSpec.ofChange fnExactHeapPutWrong)

/-- 'laws.FnExactHeapDelete': WHATEVER THE INPUT: true; the input reads as it did. -/
def fnExactHeapDeleteSpec : ChangeSpec := { name := "fnExactHeapDelete", fn := fun _ => fun
  | [d1, d2, d3] => { results := [.lit (.bool true)], args := [d1, d2, d3] }
  | _ => none }
def fnExactHeapDeleteRow : OpenClaim := { program := "ytbkloddaooblfac", sum := "844dd16bc10ae55ae355762b1936ed2938415fdcaaede9615550a17415ca4862", func := "loop.example/g00317/laws.FnExactHeapDelete", spec := "fnExactHeapDelete", unfollowed := true, recurses := true, plainKeys := false, apart := false }
def FnExactHeapDeleteSaid : Prop := fnExactHeapDeleteRow.holds Try.pinned (OpenSpec.ofChange fnExactHeapDeleteSpec)

/-- ITS FALSE NEIGHBOUR: 'it returns false'. Refute it at one input. -/
def fnExactHeapDeleteWrong : ChangeSpec := { name := "fnExactHeapDelete", fn := fun _ => fun
  | [d1, d2, d3] => { results := [.lit (.bool false)], args := [d1, d2, d3] }
  | _ => none }
def FnExactHeapDeleteWrongFalsely : Prop := fnExactHeapDeleteRow.holds Try.pinned (OpenSpec.ofChange fnExactHeapDeleteWrong)

/-- 'laws.FnExactHeapKeys': WHATEVER THE INPUT: true; the input reads as it did. -/
def fnExactHeapKeysSpec : ChangeSpec := { name := "fnExactHeapKeys", fn := fun _ => fun
  | [d1, d2] => { results := [.lit (.bool true)], args := [d1, d2] }
  | _ => none }
def fnExactHeapKeysRow : OpenClaim := { program := "ytbkloddaooblfac", sum := "844dd16bc10ae55ae355762b1936ed2938415fdcaaede9615550a17415ca4862", func := "loop.example/g00317/laws.FnExactHeapKeys", spec := "fnExactHeapKeys", unfollowed := true, recurses := true, plainKeys := false, apart := false }
def FnExactHeapKeysSaid : Prop := fnExactHeapKeysRow.holds Try.pinned (OpenSpec.ofChange fnExactHeapKeysSpec)

/-- ITS FALSE NEIGHBOUR: 'it returns false'. Refute it at one input. -/
def fnExactHeapKeysWrong : ChangeSpec := { name := "fnExactHeapKeys", fn := fun _ => fun
  | [d1, d2] => { results := [.lit (.bool false)], args := [d1, d2] }
  | _ => none }
def FnExactHeapKeysWrongFalsely : Prop := fnExactHeapKeysRow.holds Try.pinned (OpenSpec.ofChange fnExactHeapKeysWrong)

/-- 'laws.FnExactCallsEval': WHATEVER THE INPUT: true; the input reads as it did. -/
def fnExactCallsEvalSpec : ChangeSpec := { name := "fnExactCallsEval", fn := fun _ => fun
  | [d] => { results := [.lit (.bool true)], args := [d] }
  | _ => none }
def fnExactCallsEvalRow : OpenClaim := { program := "ytbkloddaooblfac", sum := "844dd16bc10ae55ae355762b1936ed2938415fdcaaede9615550a17415ca4862", func := "loop.example/g00317/laws.FnExactCallsEval", spec := "fnExactCallsEval", unfollowed := true, recurses := true, loops := true, plainKeys := false, apart := false }
def FnExactCallsEvalSaid : Prop := fnExactCallsEvalRow.holds Try.pinned (OpenSpec.ofChange fnExactCallsEvalSpec)

/-- ITS FALSE NEIGHBOUR: 'it returns false'. Refute it at one input. -/
def fnExactCallsEvalWrong : ChangeSpec := { name := "fnExactCallsEval", fn := fun _ => fun
  | [d] => { results := [.lit (.bool false)], args := [d] }
  | _ => none }
def FnExactCallsEvalWrongFalsely : Prop := fnExactCallsEvalRow.holds Try.pinned (OpenSpec.ofChange fnExactCallsEvalWrong)

/- THE SECOND FORM. 'bulk': how many values and letters a reading holds, each counted each time it is reached (what is shared counts as often as it is met; a slice's spare places count too). A statement '..UptoSaid' is the law's where the arguments, and the package variables that the reading takes, are together of bulk at most 1048576: NARROWER than '..Said'. Prove '..Said' where nothing that the law and all that it calls make is longer than what came in: it says more and counts as full. Else prove '..UptoSaid'. A law counts once. -/
mutual
def uptoBulk {H : Type} : DataW H → Nat
  | .lit (.string bytes) => bytes.length + 1
  | .lit _ => 1
  | .nil => 1
  | .ptr d => uptoBulk d + 1
  | .slice elems spare => uptoBulkAll elems + uptoBulkAll spare + 1
  | .agg parts => uptoBulkAll parts + 1
  | .iface _ d => uptoBulk d + 1
  | .map entries => uptoBulkEntries entries + 1
  | .held _ => 1
def uptoBulkAll {H : Type} : List (DataW H) → Nat
  | [] => 0
  | d :: r => uptoBulk d + uptoBulkAll r
def uptoBulkEntries {H : Type} : List (Lit × DataW H) → Nat
  | [] => 0
  | x :: r => uptoBulkEntry x + uptoBulkEntries r
def uptoBulkEntry {H : Type} : Lit × DataW H → Nat
  | (.string bytes, d) => bytes.length + uptoBulk d + 1
  | (_, d) => uptoBulk d + 1
 end
def uptoSmall : (H : Type) → List (DataW H) → Bool := fun _ ds => decide (uptoBulkAll ds ≤ 1048576)
def OpenSpec.upto (s : _root_.Go.ChangeSpec) : _root_.Go.OpenSpec := { _root_.Go.OpenSpec.ofChange s with cond := some uptoSmall }

/-- 'laws.FnExactHeapHas', WHERE WHAT IT READS IS OF BULK AT MOST 1048576: true; the input reads as it did. -/
def fnExactHeapHasUptoRow : OpenClaim := { program := "ytbkloddaooblfac", sum := "844dd16bc10ae55ae355762b1936ed2938415fdcaaede9615550a17415ca4862", func := "loop.example/g00317/laws.FnExactHeapHas", spec := "fnExactHeapHas", unfollowed := true, recurses := true, plainKeys := false, apart := false, narrowed := true }
def FnExactHeapHasUptoSaid : Prop := fnExactHeapHasUptoRow.holds Try.pinned (OpenSpec.upto fnExactHeapHasSpec)

/-- 'laws.FnExactHeapGet', WHERE WHAT IT READS IS OF BULK AT MOST 1048576: true; the input reads as it did. -/
def fnExactHeapGetUptoRow : OpenClaim := { program := "ytbkloddaooblfac", sum := "844dd16bc10ae55ae355762b1936ed2938415fdcaaede9615550a17415ca4862", func := "loop.example/g00317/laws.FnExactHeapGet", spec := "fnExactHeapGet", unfollowed := true, recurses := true, plainKeys := false, apart := false, narrowed := true }
def FnExactHeapGetUptoSaid : Prop := fnExactHeapGetUptoRow.holds Try.pinned (OpenSpec.upto fnExactHeapGetSpec)

/-- 'laws.FnExactHeapPut', WHERE WHAT IT READS IS OF BULK AT MOST 1048576: true; the input reads as it did. -/
def fnExactHeapPutUptoRow : OpenClaim := { program := "ytbkloddaooblfac", sum := "844dd16bc10ae55ae355762b1936ed2938415fdcaaede9615550a17415ca4862", func := "loop.example/g00317/laws.FnExactHeapPut", spec := "fnExactHeapPut", unfollowed := true, recurses := true, plainKeys := false, apart := false, narrowed := true }
def FnExactHeapPutUptoSaid : Prop := fnExactHeapPutUptoRow.holds Try.pinned (OpenSpec.upto fnExactHeapPutSpec)

/-- 'laws.FnExactHeapDelete', WHERE WHAT IT READS IS OF BULK AT MOST 1048576: true; the input reads as it did. -/
def fnExactHeapDeleteUptoRow : OpenClaim := { program := "ytbkloddaooblfac", sum := "844dd16bc10ae55ae355762b1936ed2938415fdcaaede9615550a17415ca4862", func := "loop.example/g00317/laws.FnExactHeapDelete", spec := "fnExactHeapDelete", unfollowed := true, recurses := true, plainKeys := false, apart := false, narrowed := true }
def FnExactHeapDeleteUptoSaid : Prop := fnExactHeapDeleteUptoRow.holds Try.pinned (OpenSpec.upto fnExactHeapDeleteSpec)

/-- 'laws.FnExactHeapKeys', WHERE WHAT IT READS IS OF BULK AT MOST 1048576: true; the input reads as it did. -/
def fnExactHeapKeysUptoRow : OpenClaim := { program := "ytbkloddaooblfac", sum := "844dd16bc10ae55ae355762b1936ed2938415fdcaaede9615550a17415ca4862", func := "loop.example/g00317/laws.FnExactHeapKeys", spec := "fnExactHeapKeys", unfollowed := true, recurses := true, plainKeys := false, apart := false, narrowed := true }
def FnExactHeapKeysUptoSaid : Prop := fnExactHeapKeysUptoRow.holds Try.pinned (OpenSpec.upto fnExactHeapKeysSpec)

/-- 'laws.FnExactCallsEval', WHERE WHAT IT READS IS OF BULK AT MOST 1048576: true; the input reads as it did. -/
def fnExactCallsEvalUptoRow : OpenClaim := { program := "ytbkloddaooblfac", sum := "844dd16bc10ae55ae355762b1936ed2938415fdcaaede9615550a17415ca4862", func := "loop.example/g00317/laws.FnExactCallsEval", spec := "fnExactCallsEval", unfollowed := true, recurses := true, loops := true, plainKeys := false, apart := false, narrowed := true }
def FnExactCallsEvalUptoSaid : Prop := fnExactCallsEvalUptoRow.holds Try.pinned (OpenSpec.upto fnExactCallsEvalSpec)

end Rows
end Go.Proofs.Ytbkloddaooblfac

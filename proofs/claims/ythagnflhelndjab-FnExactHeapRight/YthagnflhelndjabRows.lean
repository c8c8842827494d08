/-
  NARROWER THAN 'FOR EVERY INPUT', by the rows' own cells (each row's printed sentence says how): FnExactNodeCount: loops.
  DERIVED. THE GIVEN ROWS OF THIS SEAT. 5 by the template 'for every input the law returns true; each argument reads behind the call as it read before'; 0 by the template 'total and deterministic' (their statements: YthagnflhelndjabTotals.lean).
  GIVEN WITH THE SEED: the statements are not yours to turn. If you find one false, say at which input.
  Laid BY PROGRAM, IN A SANDBOX (cutbox-rows.mjs): the forced cells as the released guide's own fill.sh prints them over the translation e2dde4cc5279cd2d… (all of the seat's roots in one cut). By AI agents, Wed Nov 11 2026. No macro, syntax, notation, axiom, sorry.
-/
import Derived.Test.YthagnflhelndjabChecked
import GoSem.Claim
import GoSem.ClaimJoined
import GoSem.ClaimMapViews
import Derived.JoinedTies
import Derived.KernelRfl
namespace Go.Proofs.Ythagnflhelndjab
/- THE CELL 'sum', in the pinned program and in every row, IS THE sha256 OF THE DUMP (.gsa) THAT YthagnflhelndjabProg.lean LOADS. Nothing in Lean hashes anything: it is a label: what it is worth is what the hold of that sum in a sandbox is worth. -/
noncomputable def Try.pinned : Pinned := { name := "ythagnflhelndjab", sum := "e2dde4cc5279cd2dd2fbb166370f27c0bcef0788602b9e4b4a2611f7886ed951", checked := Try.checked }
namespace Rows
def none {H : Type} : Left H := { results := [], args := [] }

/-- 'laws.FnExactNodeCount': WHATEVER THE INPUT: true; the input reads as it did. -/
def fnExactNodeCountSpec : ChangeSpec := { name := "fnExactNodeCount", fn := fun _ => fun
  | [d] => { results := [.lit (.bool true)], args := [d] }
  | _ => none }
def fnExactNodeCountRow : OpenClaim := { program := "ythagnflhelndjab", sum := "e2dde4cc5279cd2dd2fbb166370f27c0bcef0788602b9e4b4a2611f7886ed951", func := "loop.example/g00317/laws.FnExactNodeCount", spec := "fnExactNodeCount", recurses := true, loops := true, apart := false }
def FnExactNodeCountSaid : Prop := fnExactNodeCountRow.holds Try.pinned (OpenSpec.ofChange fnExactNodeCountSpec)

/-- ITS FALSE NEIGHBOUR: 'it returns false'. Refute it at one input. -/
def fnExactNodeCountWrong : ChangeSpec := { name := "fnExactNodeCount", fn := fun _ => fun
  | [d] => { results := [.lit (.bool false)], args := [d] }
  | _ => none }
def FnExactNodeCountWrongFalsely : Prop := fnExactNodeCountRow.holds Try.pinned (OpenSpec.ofChange fnExactNodeCountWrong)

/-- 'laws.FnExactValueRight': WHATEVER THE INPUT: true; the input reads as it did. -/
def fnExactValueRightSpec : ChangeSpec := { name := "fnExactValueRight", fn := fun _ => fun
  | [d] => { results := [.lit (.bool true)], args := [d] }
  | _ => none }
def fnExactValueRightRow : OpenClaim := { program := "ythagnflhelndjab", sum := "e2dde4cc5279cd2dd2fbb166370f27c0bcef0788602b9e4b4a2611f7886ed951", func := "loop.example/g00317/laws.FnExactValueRight", spec := "fnExactValueRight", apart := false }
def FnExactValueRightSaid : Prop := fnExactValueRightRow.holds Try.pinned (OpenSpec.ofChange fnExactValueRightSpec)

/-- ITS FALSE NEIGHBOUR: 'it returns false'. Refute it at one input. -/
def fnExactValueRightWrong : ChangeSpec := { name := "fnExactValueRight", fn := fun _ => fun
  | [d] => { results := [.lit (.bool false)], args := [d] }
  | _ => none }
def FnExactValueRightWrongFalsely : Prop := fnExactValueRightRow.holds Try.pinned (OpenSpec.ofChange fnExactValueRightWrong)

/-- 'laws.FnExactTruth': WHATEVER THE INPUT: true; the input reads as it did. -/
def fnExactTruthSpec : ChangeSpec := { name := "fnExactTruth", fn := fun _ => fun
  | [d] => { results := [.lit (.bool true)], args := [d] }
  | _ => none }
def fnExactTruthRow : OpenClaim := { program := "ythagnflhelndjab", sum := "e2dde4cc5279cd2dd2fbb166370f27c0bcef0788602b9e4b4a2611f7886ed951", func := "loop.example/g00317/laws.FnExactTruth", spec := "fnExactTruth", apart := false }
def FnExactTruthSaid : Prop := fnExactTruthRow.holds Try.pinned (OpenSpec.ofChange fnExactTruthSpec)

/-- ITS FALSE NEIGHBOUR: 'it returns false'. Refute it at one input. -/
def fnExactTruthWrong : ChangeSpec := { name := "fnExactTruth", fn := fun _ => fun
  | [d] => { results := [.lit (.bool false)], args := [d] }
  | _ => none }
def FnExactTruthWrongFalsely : Prop := fnExactTruthRow.holds Try.pinned (OpenSpec.ofChange fnExactTruthWrong)

/-- 'laws.FnExactAlike': WHATEVER THE INPUT: true; the input reads as it did. -/
def fnExactAlikeSpec : ChangeSpec := { name := "fnExactAlike", fn := fun _ => fun
  | [d1, d2] => { results := [.lit (.bool true)], args := [d1, d2] }
  | _ => none }
def fnExactAlikeRow : OpenClaim := { program := "ythagnflhelndjab", sum := "e2dde4cc5279cd2dd2fbb166370f27c0bcef0788602b9e4b4a2611f7886ed951", func := "loop.example/g00317/laws.FnExactAlike", spec := "fnExactAlike", apart := false }
def FnExactAlikeSaid : Prop := fnExactAlikeRow.holds Try.pinned (OpenSpec.ofChange fnExactAlikeSpec)

/-- ITS FALSE NEIGHBOUR: 'it returns false'. Refute it at one input. -/
def fnExactAlikeWrong : ChangeSpec := { name := "fnExactAlike", fn := fun _ => fun
  | [d1, d2] => { results := [.lit (.bool false)], args := [d1, d2] }
  | _ => none }
def FnExactAlikeWrongFalsely : Prop := fnExactAlikeRow.holds Try.pinned (OpenSpec.ofChange fnExactAlikeWrong)

/-- 'laws.FnExactHeapRight': WHATEVER THE INPUT: true; the input reads as it did. -/
def fnExactHeapRightSpec : ChangeSpec := { name := "fnExactHeapRight", fn := fun _ => fun
  | [d] => { results := [.lit (.bool true)], args := [d] }
  | _ => none }
def fnExactHeapRightRow : OpenClaim := { program := "ythagnflhelndjab", sum := "e2dde4cc5279cd2dd2fbb166370f27c0bcef0788602b9e4b4a2611f7886ed951", func := "loop.example/g00317/laws.FnExactHeapRight", spec := "fnExactHeapRight", apart := false }
def FnExactHeapRightSaid : Prop := fnExactHeapRightRow.holds Try.pinned (OpenSpec.ofChange fnExactHeapRightSpec)

/-- ITS FALSE NEIGHBOUR: 'it returns false'. Refute it at one input. -/
def fnExactHeapRightWrong : ChangeSpec := { name := "fnExactHeapRight", fn := fun _ => fun
  | [d] => { results := [.lit (.bool false)], args := [d] }
  | _ => none }
def FnExactHeapRightWrongFalsely : Prop := fnExactHeapRightRow.holds Try.pinned (OpenSpec.ofChange fnExactHeapRightWrong)

/- THE SECOND FORM. 'bulk': how many values and letters a reading holds, each counted each time it is reached (what is shared counts as often as it is met; a slice's spare places count too). A statement '..UptoSaid' is the law's where the arguments, and the package variables that the reading takes, are together of bulk at most 1048576: NARROWER than '..Said'. Prove '..Said' where nothing that the law and all that it calls make is longer than what came in: it says more and counts as full. Else prove '..UptoSaid'. A law counts once. -/
mutual
def uptoBulk {H : Type} : DataW H → Nat
  | .lit (.string bytes) => bytes.length + 1
  | .lit _ => 1
  | .nil => 1
  | .ptr d => uptoBulk d + 1
  | .slice elems spare => uptoBulkAll elems + uptoBulkAll spare + 1
  | .agg parts => uptoBulkAll parts + 1
  | .iface _ d => uptoBulk d + 1
  | .map entries => uptoBulkEntries entries + 1
  | .held _ => 1
def uptoBulkAll {H : Type} : List (DataW H) → Nat
  | [] => 0
  | d :: r => uptoBulk d + uptoBulkAll r
def uptoBulkEntries {H : Type} : List (Lit × DataW H) → Nat
  | [] => 0
  | x :: r => uptoBulkEntry x + uptoBulkEntries r
def uptoBulkEntry {H : Type} : Lit × DataW H → Nat
  | (.string bytes, d) => bytes.length + uptoBulk d + 1
  | (_, d) => uptoBulk d + 1
 end
def uptoSmall : (H : Type) → List (DataW H) → Bool := fun _ ds => decide (uptoBulkAll ds ≤ 1048576)
def OpenSpec.upto (s : _root_.Go.ChangeSpec) : _root_.Go.OpenSpec := { _root_.Go.OpenSpec.ofChange s with cond := some uptoSmall }

/-- 'laws.FnExactNodeCount', WHERE WHAT IT READS IS OF BULK AT MOST 1048576: true; the input reads as it did. -/
def fnExactNodeCountUptoRow : OpenClaim := { program := "ythagnflhelndjab", sum := "e2dde4cc5279cd2dd2fbb166370f27c0bcef0788602b9e4b4a2611f7886ed951", func := "loop.example/g00317/laws.FnExactNodeCount", spec := "fnExactNodeCount", recurses := true, loops := true, apart := false, narrowed := true }
def FnExactNodeCountUptoSaid : Prop := fnExactNodeCountUptoRow.holds Try.pinned (OpenSpec.upto fnExactNodeCountSpec)

/-- 'laws.FnExactValueRight', WHERE WHAT IT READS IS OF BULK AT MOST 1048576: true; the input reads as it did. -/
def fnExactValueRightUptoRow : OpenClaim := { program := "ythagnflhelndjab", sum := "e2dde4cc5279cd2dd2fbb166370f27c0bcef0788602b9e4b4a2611f7886ed951", func := "loop.example/g00317/laws.FnExactValueRight", spec := "fnExactValueRight", apart := false, narrowed := true }
def FnExactValueRightUptoSaid : Prop := fnExactValueRightUptoRow.holds Try.pinned (OpenSpec.upto fnExactValueRightSpec)

/-- 'laws.FnExactTruth', WHERE WHAT IT READS IS OF BULK AT MOST 1048576: true; the input reads as it did. -/
def fnExactTruthUptoRow : OpenClaim := { program := "ythagnflhelndjab", sum := "e2dde4cc5279cd2dd2fbb166370f27c0bcef0788602b9e4b4a2611f7886ed951", func := "loop.example/g00317/laws.FnExactTruth", spec := "fnExactTruth", apart := false, narrowed := true }
def FnExactTruthUptoSaid : Prop := fnExactTruthUptoRow.holds Try.pinned (OpenSpec.upto fnExactTruthSpec)

/-- 'laws.FnExactAlike', WHERE WHAT IT READS IS OF BULK AT MOST 1048576: true; the input reads as it did. -/
def fnExactAlikeUptoRow : OpenClaim := { program := "ythagnflhelndjab", sum := "e2dde4cc5279cd2dd2fbb166370f27c0bcef0788602b9e4b4a2611f7886ed951", func := "loop.example/g00317/laws.FnExactAlike", spec := "fnExactAlike", apart := false, narrowed := true }
def FnExactAlikeUptoSaid : Prop := fnExactAlikeUptoRow.holds Try.pinned (OpenSpec.upto fnExactAlikeSpec)

/-- 'laws.FnExactHeapRight', WHERE WHAT IT READS IS OF BULK AT MOST 1048576: true; the input reads as it did. -/
def fnExactHeapRightUptoRow : OpenClaim := { program := "ythagnflhelndjab", sum := "e2dde4cc5279cd2dd2fbb166370f27c0bcef0788602b9e4b4a2611f7886ed951", func := "loop.example/g00317/laws.FnExactHeapRight", spec := "fnExactHeapRight", apart := false, narrowed := true }
def FnExactHeapRightUptoSaid : Prop := fnExactHeapRightUptoRow.holds Try.pinned (OpenSpec.upto fnExactHeapRightSpec)

end Rows
end Go.Proofs.Ythagnflhelndjab

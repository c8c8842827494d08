/- For every row of bytes that can be handed in, with the package's variables laid as the program's own text lays them, the law FnNest returns true: in one to six functions within one another, each with a name of its own, the innermost one finds the name that the row's bytes choose so many functions up as it stands there, and gets its value; with an object that has it put between, it gets the object's, and the name has no slot. The row of bytes and the variables read behind the call as they did. No condition besides. -/
import Derived.Test.YtednkkcmboahgaaGreatDoorCards
import Derived.Test.YtednkkcmboahgaaGreatDoorTie
import Derived.Test.YtednkkcmboahgaaGreatDoorNsO
import Derived.Test.YtednkkcmboahgaaGreatDoorNsP
import Derived.ChangeSlices
import Derived.Carry
import Derived.LaidHandle
import Derived.LaidSub
import Derived.LaidLaws
import Derived.WalkKit
import Derived.ProofKit
import Derived.OpenShut
import Derived.ShutString
import Derived.ChangeOld
import Derived.Below
import Derived.OpenVars
import Derived.Deep.DeepHandedRow
namespace Go.Proofs.YtednkkcmboahgaaGreatDoor
open Go.ChangeShapes Go.WideShapes Go.ChangeAt Go.RowKit
open Go.ChangeMaps (open_string shut_string)

/-- The cells of a table that is told as plain data. -/
def tabV : DataW Unit → Array Value
  | .agg l => (l.map fun | .lit (.int k z) => Value.int k z | .lit (.string s) => Value.string ⟨s.toArray⟩ | _ => Value.bool false).toArray
  | _ => #[]
/-- The cells of a table of rows of two. -/
def tabW : DataW Unit → Array Value
  | .agg l => (l.flatMap fun x => (tabV x).toList).toArray
  | _ => #[]
def layAt (g : Nat) (cs : Array Value) (w : World) : World :=
  { w with heap := w.heap.modify g fun
      | .cells _ t frozen => .cells cs t frozen
      | o => o }
/-- How many blocks lie ahead of the witness's own. -/
noncomputable def low : Nat := (World.holding Tryz.prog default ⟨#[], #[], []⟩).heap.size
def errT : DataW Unit → Array Value
  | .iface _ (.ptr (.agg [.lit (.string s)])) => #[.string ⟨s.toArray⟩]
  | _ => #[]
noncomputable def errP (k : Nat) : Value := .iface 379 (.pointer (some ⟨low + k, 0, none⟩))
/-- A world for the witness: the settled one, the variables holding what their initialisers lay. -/
noncomputable def fnNest_world (os : Os) : World :=
  layAt 0 #[errP 0] (layAt 1 #[errP 1] (layAt 3 #[errP 2] (layAt 4 (tabV Rows.laid_loop_example_g00317_impl_marks) (layAt 5 (tabV Rows.laid_loop_example_g00317_impl_kindNames) (layAt 8 (tabV Rows.laid_math_bits_deBruijn32tab) (layAt 9 (tabV Rows.laid_math_bits_deBruijn64tab) (layAt 6 (tabV Rows.laid_internal_strconv_uint64pow10) (layAt 11 (tabW Rows.laid_unicode_utf8_acceptRanges) (layAt 10 (tabV Rows.laid_unicode_utf8_first) (layAt 2 #[.iface 221 (.agg #[.pointer (some ⟨12, 81, none⟩)])] (World.holding Tryz.prog os ⟨#[.cells (errT Rows.laid_loop_example_g00317_impl_errSteps) 402, .cells (errT Rows.laid_loop_example_g00317_impl_errFull) 402, .cells (errT Rows.laid_loop_example_g00317_impl_errThrown) 402], #[], []⟩)))))))))))
theorem fnNest_met (os : Os) : laidMetH Tryz.prog Rows.fnNestRow.laid ((fnNest_world os).forCall (fun _ _ => 0) ⟨#[], #[Value.slice none 0 0], []⟩).memory :=
  laidMetH_of_parts (laidMet_of_run' 8 (by kernel_rfl) (by kernel_rfl)) (by kernel_rfl)
theorem fnNest_reads (os : Os) {H : Type} (enc : TypeId × Value → H) : ∃ places, DataW.whole enc Tryz.prog ((fnNest_world os).forCall (fun _ _ => 0) ⟨#[], #[Value.slice none 0 0], []⟩).memory Tryz.f3.params.toList Rows.fnNestSpec.vars false #[Value.slice none 0 0].toList 8 = some ([.nil], [.held (enc (379, .pointer (some ⟨low + 1, 0, none⟩))), .held (enc (379, .pointer (some ⟨low + 0, 0, none⟩))), Rows.laid_loop_example_g00317_impl_marks, Rows.laid_loop_example_g00317_impl_kindNames, .held (enc (379, .pointer (some ⟨low + 2, 0, none⟩)))], places) :=
  ⟨MemPlace.row ⟨1, 0, none⟩ 1 ++ (MemPlace.row ⟨0, 0, none⟩ 1 ++ (MemPlace.row ⟨4, 0, none⟩ 28 ++ (MemPlace.row ⟨5, 0, none⟩ 7 ++ MemPlace.row ⟨3, 0, none⟩ 1))), by kernel_rfl⟩

set_option maxRecDepth 100000 in
theorem fnNest_lifted (os : Os) (started : os.Started) (H : Type) (enc : TypeId × Value → H) (F : Stop.Interp) :
    ReturnsInHanded {} Tryz.checked os 3 .any ((OpenSpec.ofChange Rows.fnNestSpec).preRow enc Tryz.prog Tryz.f3 Rows.fnNestRow.domain false Rows.fnNestRow.laid) (((OpenSpec.ofChange Rows.fnNestSpec).at F).post enc Tryz.prog Tryz.f3 false true false false) := by
  obtain ⟨places, hx⟩ := fnNest_reads os enc
  refine returnsInHanded_of_row (C := Tryz.checked) (s := OpenSpec.ofChange Rows.fnNestSpec) fnNest_own started (by kernel_rfl) Tryz.func3
    (witness_row_at (enc := enc) (C := Tryz.checked) false (fnNest_world os) #[Value.slice none 0 0] rfl (by kernel_rfl) (by kernel_rfl) (by kernel_rfl)
      (OpenSpec.preRow_of_cond 8 hx (by kernel_rfl) (fun k hk => by cases hk) (by kernel_rfl) (fnNest_met os))) ?_
  intro W base args ds gs before hval hW _ _ _ hL _ _
  exact fnNest_contract H enc W base args ds gs before hval hW hL

theorem fnNest_inst : Tryz.f3.isInstance Tryz.pinned.checked.prog Rows.fnNestRow.origin Rows.fnNestRow.targs := of_decide_eq_true (by kernel_rfl)
theorem fnNest_wrap : Tryz.f3.isWrapper Tryz.pinned.checked.prog Rows.fnNestRow.wrapper Rows.fnNestRow.mainSum := by unfold Func.isWrapper; first | (rw [if_pos (by decide +kernel)]; kernel_rfl) | (rw [if_neg (by decide +kernel)]; exact ⟨rfl, rfl⟩)
theorem fnNest_said : Rows.FnNestSaid :=
  OpenClaim.holds_of_cond 3 Tryz.f3 rfl rfl rfl rfl rfl rfl rfl ⟨rfl, rfl, rfl, rfl, rfl⟩ rfl rfl rfl rfl rfl fact_named Tryz.func3 facts
    fnNest_inst fnNest_wrap
    (fun os started H enc _ F => by rw [OpenClaim.pre_eq_preRow]; exact fnNest_lifted os started H enc F)

theorem fnNest_plain (f : FuncId) (fn : Func) (hf : Tryz.pinned.checked.prog.funcNamed "loop.example/g00317/laws.FnNest" = some f) (hfn : Tryz.pinned.checked.prog.funcs[f]? = some fn) :
    true = Tryz.pinned.checked.prog.looks [] ∧ ∀ (j : Nat) t, fn.params[j]? = some t → Tryz.pinned.checked.prog.wantsStandIn t = false := by
  obtain rfl : f = 3 := Option.some.inj ((show Tryz.prog.funcNamed "loop.example/g00317/laws.FnNest" = some 3 by kernel_rfl).symm.trans hf) |>.symm
  obtain rfl : fn = Tryz.f3 := (Option.some.inj (Tryz.func3.symm.trans hfn)).symm
  refine ⟨by kernel_rfl, fun j t ht => ?_⟩
  rw [Tryz.params3] at ht
  obtain rfl : t = 22 := by simpa using Array.mem_of_getElem? ht
  exact (show Tryz.prog.wantsStandIn 22 = false by kernel_rfl)

theorem fnNest_holds : Rows.FnNestCardSaid :=
  Claim7.holds_tied_plain_at .later [] _ _ _ _ fnNest_said (fun _ h => by cases h) (by kernel_rfl) (fun _ h => by cases h) fnNest_row_tie rfl ⟨rfl, rfl⟩ (by kernel_rfl) rfl fnNest_plain (by kernel_rfl)
#print axioms fnNest_holds
end Go.Proofs.YtednkkcmboahgaaGreatDoor

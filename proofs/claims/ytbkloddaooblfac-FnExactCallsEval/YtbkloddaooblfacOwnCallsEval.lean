/- For every tree that can be handed in, whatever memory it shares, the law FnExactCallsEval returns true: impl.CallsEval answers as its model spec.CallsEval, and writes into no argument; the tree reads behind the call as it did. No condition. -/
import Derived.Test.YtbkloddaooblfacRows
import Derived.Test.YtbkloddaooblfacEvL
import Derived.Test.YtbkloddaooblfacTreeOpen
import Derived.WalkKit
import Derived.ProofKit
import Derived.OpenShut
import Derived.ShutString
import Derived.ChangeOld
import Derived.Below
import Derived.Carry
namespace Go.Proofs.Ytbkloddaooblfac
open Go.ChangeShapes Go.WideShapes Go.ChangeAt Go.RowKit

theorem callsEval_own : ownKnob Try.prog.godebug = none := by kernel_rfl
theorem callsEval_laidOut : laidOutB Try.prog = true := by kernel_rfl
theorem callsEval_readable : Try.prog.readableRec 51 = true := by kernel_rfl
theorem callsEval_row : 51 < Try.prog.types.size := of_decide_eq_true (by kernel_rfl)
def zeroA : Value := .agg #[.int .i64 0, .string ByteArray.empty, .int .i64 0, .slice none 0 0, .bool false, .slice none 0 0]

set_option maxRecDepth 100000 in
/-- An argument of the type, opened. -/
theorem open_arg {H : Type} {enc : TypeId × Value → H} {W : World} {base : Nat} {v : Value} {d : DataW H} {p : List MemPlace} (hv : Value.okWide Try.prog W .any base 51 v) (h : DataW.Trod enc Try.prog W 0 (fun _ => true) true 51 v d p) :
    ∃ t c fp, v = .agg (PT.cells t c) ∧ NIn W 0 t c fp ∧ OkT t := by
  obtain ⟨cs, rfl, _⟩ := okWide_struct Try.nodeUnd hv
  obtain ⟨fuel, hf⟩ := h
  obtain ⟨t, c, fp, e, h1, h2⟩ := open_node fuel hf
  refine ⟨t, c, fp, ?_, h1, h2⟩
  have e' : cs.toList = (PT.cells t c).toList := e
  exact congrArg Value.agg (Array.toList_inj.1 e')

set_option maxRecDepth 100000 in
theorem callsEval_lifted (os : Os) (started : os.Started) (H : Type) (enc : TypeId × Value → H) :
    ReturnsInHanded {} Try.checked os 8 .any (Rows.fnExactCallsEvalSpec.pre6 enc Try.prog Try.f8 Rows.fnExactCallsEvalRow.domain false) (Rows.fnExactCallsEvalSpec.post enc Try.prog Try.f8 false true false false) := by
  refine returnsInHanded_of_change (C := Try.checked) callsEval_own started (by kernel_rfl) Try.func8
    (ChangeSpec.witness6 (enc := enc) (C := Try.checked) false ⟨#[], #[zeroA], []⟩ 8 (by kernel_rfl) (by kernel_rfl) (by kernel_rfl) (by kernel_rfl)) ?_
  intro W base args ds gs before hval0 hW hcnd _
  have hval : ∀ (j : Nat) t v, Try.f8.params[j]? = some t → args[j]? = some v → Value.okWide Try.prog W .any base t v := hval0
  have hW' := hW
  obtain ⟨p, q, hA0, hV, rfl, hfz, hnd⟩ := hW
  have hA : DataW.TrodAll enc Try.prog W 0 (fun _ => true) true Try.f8.params.toList args.toList ds p := hA0
  have hlt := hA.lt
  rw [Try.params8] at hA hval
  obtain ⟨v0, vs0, d0, ds0, p0, q0, hargs, rfl, rfl, h0, r0⟩ := trodAll_cons hA
  obtain ⟨rfl, rfl, rfl⟩ := trodAll_nil r0
  obtain rfl : args = #[v0] := by cases args; simp_all
  obtain ⟨rfl, rfl⟩ := trodVars_none hV
  obtain ⟨t1, c1, fp1, rfl, i1, k1⟩ := open_arg (hval 0 51 v0 rfl rfl) h0
  clear hA0 hval0
  refine (callsEval_walk t1 c1 fp1 W k1 i1).mono fun e W' ⟨he, bel⟩ => ?_
  subst he
  exact ⟨_, rfl, _, _, _, [], p0 ++ [], [], hW', trodAll_mk1 (shut_bool Try.underlying4 _),
    (trodAll_cons_mk (Below.trod callsEval_laidOut callsEval_readable callsEval_row h0 bel (fun x hx => hlt x (by simp [hx]))) trodAll_mk0), rfl, bel.frame _, fun h => by cases h⟩

theorem callsEval_holds : Rows.FnExactCallsEvalSaid :=
  OpenClaim.holds_of_wide 8 Try.f8 rfl rfl rfl rfl rfl rfl rfl ⟨rfl, rfl, rfl, rfl, rfl⟩ rfl rfl rfl rfl rfl (by kernel_rfl) Try.func8 (by kernel_rfl)
    (of_decide_eq_true (by kernel_rfl)) (by unfold Func.isWrapper; first | (rw [if_pos (by decide +kernel)]; kernel_rfl) | (rw [if_neg (by decide +kernel)]; exact ⟨rfl, rfl⟩))
    (fun os started H enc _ => callsEval_lifted os started H enc)
#print axioms callsEval_holds
end Go.Proofs.Ytbkloddaooblfac

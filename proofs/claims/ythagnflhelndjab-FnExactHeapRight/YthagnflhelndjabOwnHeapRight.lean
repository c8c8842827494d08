/- For every heap that can be handed in, whatever memory it shares, the law FnExactHeapRight returns true: impl.HeapRight answers as its model spec.HeapRight, and writes into no argument; the heap reads behind the call as it did. No condition. -/
import Derived.Test.YthagnflhelndjabRows
import Derived.Test.YthagnflhelndjabHpLawR
import Derived.Test.YthagnflhelndjabHpOpen
import Derived.WalkKit
import Derived.ProofKit
import Derived.OpenShut
import Derived.ShutString
import Derived.ChangeOld
import Derived.Below
import Derived.Carry
namespace Go.Proofs.Ythagnflhelndjab
open Go.ChangeShapes Go.WideShapes Go.ChangeAt Go.RowKit

theorem heapRight_own : ownKnob Try.prog.godebug = none := by kernel_rfl
theorem heapRight_laidOut : laidOutB Try.prog = true := by kernel_rfl
theorem heapRight_readable : Try.prog.readableRec 45 = true := by kernel_rfl
theorem heapRight_row : 45 < Try.prog.types.size := of_decide_eq_true (by kernel_rfl)
def zeroA : Value := .agg #[.slice none 0 0]

set_option maxRecDepth 100000 in
theorem heapRight_lifted (os : Os) (started : os.Started) (H : Type) (enc : TypeId × Value → H) :
    ReturnsInHanded {} Try.checked os 7 .any (Rows.fnExactHeapRightSpec.pre6 enc Try.prog Try.f7 Rows.fnExactHeapRightRow.domain false) (Rows.fnExactHeapRightSpec.post enc Try.prog Try.f7 false true false false) := by
  refine returnsInHanded_of_change (C := Try.checked) heapRight_own started (by kernel_rfl) Try.func7
    (ChangeSpec.witness6 (enc := enc) (C := Try.checked) false ⟨#[], #[zeroA], []⟩ 8 (by kernel_rfl) (by kernel_rfl) (by kernel_rfl) (by kernel_rfl)) ?_
  intro W base args ds gs before hval0 hW hcnd _
  have hval : ∀ (j : Nat) t v, Try.f7.params[j]? = some t → args[j]? = some v → Value.okWide Try.prog W .any base t v := hval0
  have hW' := hW
  obtain ⟨p, q, hA0, hV, rfl, hfz, hnd⟩ := hW
  have hA : DataW.TrodAll enc Try.prog W 0 (fun _ => true) true Try.f7.params.toList args.toList ds p := hA0
  have hlt := hA.lt
  rw [Try.params7] at hA hval
  obtain ⟨v0, vs0, d0, ds0, p0, q0, hargs, rfl, rfl, h0, r0⟩ := trodAll_cons hA
  obtain ⟨rfl, rfl, rfl⟩ := trodAll_nil r0
  obtain rfl : args = #[v0] := by cases args; simp_all
  obtain ⟨rfl, rfl⟩ := trodVars_none hV
  obtain ⟨a, cap, h, ks, rfl, i1, k1⟩ := open_heap (hval 0 45 v0 rfl rfl) h0
  clear hA0 hval0
  refine (heapRight_walk a cap h ks W k1 i1).mono fun e W' ⟨he, bel⟩ => ?_
  subst he
  exact ⟨_, rfl, _, _, _, [], p0 ++ [], [], hW', trodAll_mk1 (shut_bool Try.underlying4 _),
    (trodAll_cons_mk (Below.trod heapRight_laidOut heapRight_readable heapRight_row h0 bel (fun x hx => hlt x (by simp [hx]))) trodAll_mk0), rfl, bel.frame _, fun h => by cases h⟩

theorem heapRight_holds : Rows.FnExactHeapRightSaid :=
  OpenClaim.holds_of_wide 7 Try.f7 rfl rfl rfl rfl rfl rfl rfl ⟨rfl, rfl, rfl, rfl, rfl⟩ rfl rfl rfl rfl rfl (by kernel_rfl) Try.func7 (by kernel_rfl)
    (of_decide_eq_true (by kernel_rfl)) (by unfold Func.isWrapper; first | (rw [if_pos (by decide +kernel)]; kernel_rfl) | (rw [if_neg (by decide +kernel)]; exact ⟨rfl, rfl⟩))
    (fun os started H enc _ => heapRight_lifted os started H enc)
#print axioms heapRight_holds
end Go.Proofs.Ythagnflhelndjab

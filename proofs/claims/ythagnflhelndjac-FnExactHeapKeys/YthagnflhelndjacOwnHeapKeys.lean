/- For every heap and number that can be handed in, whatever memory the heap shares, the law FnExactHeapKeys returns true: impl.HeapKeys answers as its model spec.HeapKeys, writes into no argument, keeps nothing of one, and its answer owns its memory, behind another call too; the heap reads behind the call as it did. No condition. -/
import Derived.Test.YthagnflhelndjacRows
import Derived.Test.YthagnflhelndjacHpLawK
import Derived.Test.YthagnflhelndjacHpOpen
import Derived.WalkKit
import Derived.ProofKit
import Derived.OpenShut
import Derived.ShutString
import Derived.ChangeOld
import Derived.Below
import Derived.Carry
namespace Go.Proofs.Ythagnflhelndjac
open Go.ChangeShapes Go.WideShapes Go.ChangeAt Go.RowKit

theorem heapKeys_own : ownKnob Try.prog.godebug = none := by kernel_rfl
theorem heapKeys_laidOut : laidOutB Try.prog = true := by kernel_rfl
theorem heapKeys_readable : Try.prog.readableRec 24 = true := by kernel_rfl
theorem heapKeys_row : 24 < Try.prog.types.size := of_decide_eq_true (by kernel_rfl)
def zeroA : Value := .agg #[.slice none 0 0]

set_option maxRecDepth 100000 in
theorem heapKeys_lifted (os : Os) (started : os.Started) (H : Type) (enc : TypeId × Value → H) :
    ReturnsInHanded {} Try.checked os 7 .any (Rows.fnExactHeapKeysSpec.pre6 enc Try.prog Try.f7 Rows.fnExactHeapKeysRow.domain false) (Rows.fnExactHeapKeysSpec.post enc Try.prog Try.f7 false true false false) := by
  refine returnsInHanded_of_change (C := Try.checked) heapKeys_own started (by kernel_rfl) Try.func7
    (ChangeSpec.witness6 (enc := enc) (C := Try.checked) false ⟨#[], #[zeroA, .int .i64 0], []⟩ 8 (by kernel_rfl) (by kernel_rfl) (by kernel_rfl) (by kernel_rfl)) ?_
  intro W base args ds gs before hval0 hW hcnd _
  have hval : ∀ (j : Nat) t v, Try.f7.params[j]? = some t → args[j]? = some v → Value.okWide Try.prog W .any base t v := hval0
  have hW' := hW
  obtain ⟨p, q, hA0, hV, rfl, hfz, hnd⟩ := hW
  have hA : DataW.TrodAll enc Try.prog W 0 (fun _ => true) true Try.f7.params.toList args.toList ds p := hA0
  have hlt := hA.lt
  rw [Try.params7] at hA hval
  obtain ⟨v0, vs0, d0, ds0, p0, q0, hargs, rfl, rfl, h0, r0⟩ := trodAll_cons hA
  obtain ⟨v1, vs1, d1, ds1, p1, q1, rfl, rfl, rfl, h1, r1⟩ := trodAll_cons r0
  obtain ⟨rfl, rfl, rfl⟩ := trodAll_nil r1
  obtain rfl : args = #[v0, v1] := by cases args; simp_all
  obtain ⟨rfl, rfl⟩ := trodVars_none hV
  obtain ⟨a, cap, h, ks, rfl, i1, k1⟩ := open_heap (hval 0 24 v0 rfl rfl) h0
  obtain ⟨ref, rfl, rfl, rfl, w1⟩ := open_int Try.underlying2 (hval 1 2 v1 rfl rfl) h1
  clear hA0 hval0
  refine (heapKeys_walk a cap h ks ref W k1 i1).mono fun e W' ⟨he, bel⟩ => ?_
  subst he
  exact ⟨_, rfl, _, _, _, [], p0 ++ (([] : List MemPlace) ++ []), [], hW', trodAll_mk1 (shut_bool Try.underlying4 _),
    (trodAll_cons_mk (Below.trod heapKeys_laidOut heapKeys_readable heapKeys_row h0 bel (fun x hx => hlt x (by simp [hx]))) (trodAll_cons_mk (shut_int Try.underlying2 w1) trodAll_mk0)), rfl, bel.frame _, fun h => by cases h⟩

theorem heapKeys_holds : Rows.FnExactHeapKeysSaid :=
  OpenClaim.holds_of_wide 7 Try.f7 rfl rfl rfl rfl rfl rfl rfl ⟨rfl, rfl, rfl, rfl, rfl⟩ rfl rfl rfl rfl rfl (by kernel_rfl) Try.func7 (by kernel_rfl)
    (of_decide_eq_true (by kernel_rfl)) (by unfold Func.isWrapper; first | (rw [if_pos (by decide +kernel)]; kernel_rfl) | (rw [if_neg (by decide +kernel)]; exact ⟨rfl, rfl⟩))
    (fun os started H enc _ => heapKeys_lifted os started H enc)
#print axioms heapKeys_holds
end Go.Proofs.Ythagnflhelndjac

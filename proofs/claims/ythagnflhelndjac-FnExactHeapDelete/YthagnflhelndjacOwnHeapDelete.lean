/- For every heap, number and text that can be handed in, whatever memory the heap shares, the law FnExactHeapDelete returns true: impl.HeapDelete answers as its model spec.HeapDelete, writes into no argument, keeps nothing of one, and its answer owns its memory, behind another call too; the heap reads behind the call as it did. No condition. -/
import Derived.Test.YthagnflhelndjacRows
import Derived.Test.YthagnflhelndjacHpLawD
import Derived.Test.YthagnflhelndjacHpOpen
import Derived.WalkKit
import Derived.ProofKit
import Derived.OpenShut
import Derived.ShutString
import Derived.ChangeOld
import Derived.Below
import Derived.Carry
namespace Go.Proofs.Ythagnflhelndjac
open Go.ChangeShapes Go.WideShapes Go.ChangeAt Go.RowKit
open Go.ChangeMaps (open_string shut_string)

theorem heapDelete_own : ownKnob Try.prog.godebug = none := by kernel_rfl
theorem heapDelete_laidOut : laidOutB Try.prog = true := by kernel_rfl
theorem heapDelete_readable : Try.prog.readableRec 24 = true := by kernel_rfl
theorem heapDelete_row : 24 < Try.prog.types.size := of_decide_eq_true (by kernel_rfl)
def zeroA : Value := .agg #[.slice none 0 0]

set_option maxRecDepth 100000 in
theorem heapDelete_lifted (os : Os) (started : os.Started) (H : Type) (enc : TypeId × Value → H) :
    ReturnsInHanded {} Try.checked os 6 .any (Rows.fnExactHeapDeleteSpec.pre6 enc Try.prog Try.f6 Rows.fnExactHeapDeleteRow.domain false) (Rows.fnExactHeapDeleteSpec.post enc Try.prog Try.f6 false true false false) := by
  refine returnsInHanded_of_change (C := Try.checked) heapDelete_own started (by kernel_rfl) Try.func6
    (ChangeSpec.witness6 (enc := enc) (C := Try.checked) false ⟨#[], #[zeroA, .int .i64 0, .string ByteArray.empty], []⟩ 8 (by kernel_rfl) (by kernel_rfl) (by kernel_rfl) (by kernel_rfl)) ?_
  intro W base args ds gs before hval0 hW hcnd _
  have hval : ∀ (j : Nat) t v, Try.f6.params[j]? = some t → args[j]? = some v → Value.okWide Try.prog W .any base t v := hval0
  have hW' := hW
  obtain ⟨p, q, hA0, hV, rfl, hfz, hnd⟩ := hW
  have hA : DataW.TrodAll enc Try.prog W 0 (fun _ => true) true Try.f6.params.toList args.toList ds p := hA0
  have hlt := hA.lt
  rw [Try.params6] at hA hval
  obtain ⟨v0, vs0, d0, ds0, p0, q0, hargs, rfl, rfl, h0, r0⟩ := trodAll_cons hA
  obtain ⟨v1, vs1, d1, ds1, p1, q1, rfl, rfl, rfl, h1, r1⟩ := trodAll_cons r0
  obtain ⟨v2, vs2, d2, ds2, p2, q2, rfl, rfl, rfl, h2, r2⟩ := trodAll_cons r1
  obtain ⟨rfl, rfl, rfl⟩ := trodAll_nil r2
  obtain rfl : args = #[v0, v1, v2] := by cases args; simp_all
  obtain ⟨rfl, rfl⟩ := trodVars_none hV
  obtain ⟨a, cap, h, ks, rfl, i1, k1⟩ := open_heap (hval 0 24 v0 rfl rfl) h0
  obtain ⟨ref, rfl, rfl, rfl, w1⟩ := open_int Try.underlying2 (hval 1 2 v1 rfl rfl) h1
  obtain ⟨key, rfl, rfl, rfl, w2⟩ := open_string Try.underlying9 (hval 2 9 v2 rfl rfl) h2
  clear hA0 hval0
  refine (heapDelete_walk a cap h ks ref key W k1 (by unfold maxLen at w2; omega) i1).mono fun e W' ⟨he, bel⟩ => ?_
  subst he
  exact ⟨_, rfl, _, _, _, [], p0 ++ (([] : List MemPlace) ++ (([] : List MemPlace) ++ [])), [], hW', trodAll_mk1 (shut_bool Try.underlying4 _),
    (trodAll_cons_mk (Below.trod heapDelete_laidOut heapDelete_readable heapDelete_row h0 bel (fun x hx => hlt x (by simp [hx]))) (trodAll_cons_mk (shut_int Try.underlying2 w1) (trodAll_cons_mk (shut_string Try.underlying9 w2) trodAll_mk0))), rfl, bel.frame _, fun h => by cases h⟩

theorem heapDelete_holds : Rows.FnExactHeapDeleteSaid :=
  OpenClaim.holds_of_wide 6 Try.f6 rfl rfl rfl rfl rfl rfl rfl ⟨rfl, rfl, rfl, rfl, rfl⟩ rfl rfl rfl rfl rfl (by kernel_rfl) Try.func6 (by kernel_rfl)
    (of_decide_eq_true (by kernel_rfl)) (by unfold Func.isWrapper; first | (rw [if_pos (by decide +kernel)]; kernel_rfl) | (rw [if_neg (by decide +kernel)]; exact ⟨rfl, rfl⟩))
    (fun os started H enc _ => heapDelete_lifted os started H enc)
#print axioms heapDelete_holds
end Go.Proofs.Ythagnflhelndjac

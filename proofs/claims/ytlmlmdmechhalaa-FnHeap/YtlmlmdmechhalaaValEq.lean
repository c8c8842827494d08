/-
  The walk of the law's eqValue.
-/
import Derived.Test.YtlmlmdmechhalaaValB
namespace Go.Proofs.Ytlmlmdmechhalaa
open Go.RowKit

set_option maxHeartbeats 1000000 in
theorem lEqValue (v : Val.VV) (w : World) : Calls Try.prog 28 #[.agg (vC v), .agg (vC v)] w fun e w' => e = .returned (.bool true) ∧ Below w.heap.size w w' := by
  obtain ⟨k, n, t⟩ := v
  unfold vC
  dsimp only
  have hb : ∀ o1 o2, Below w.heap.size w ((w.alloc o1).alloc o2) := fun o1 o2 => ((Below.refl _ _).alloc (Nat.le_refl _) o1).alloc (by simp) o2
  have HB : Hid (∀ o1 o2, Below w.heap.size w ((w.alloc o1).alloc o2)) := hb
  clear hb
  go_enter Try.func28, Try.ntmps28
  go_wp2_with fail
  go_ret
  exact ⟨rfl, HB.out _ _⟩

end Go.Proofs.Ytlmlmdmechhalaa

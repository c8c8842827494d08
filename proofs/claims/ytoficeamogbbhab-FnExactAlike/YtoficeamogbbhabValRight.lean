/-
  The walk of the program's ValueRight.
-/
import Derived.Test.YtoficeamogbbhabValB
namespace Go.Proofs.Ytoficeamogbbhab
open Go.RowKit

set_option maxHeartbeats 2000000 in
theorem iValueRight (v : Val.VV) (w : World) : Calls Try.prog 15 #[.agg (vC v)] w fun e w' => e = .returned (.bool (Val.right v)) ∧ Below w.heap.size w w' := by
  unfold vC
  obtain ⟨k, n, t⟩ := v
  dsimp only
  have hb : ∀ o, Below w.heap.size w (w.alloc o) := fun o => (Below.refl _ _).alloc (Nat.le_refl _) o
  have HB : Hid (∀ o, Below w.heap.size w (w.alloc o)) := hb
  clear hb
  go_enter Try.func15, Try.ntmps15
  go_wp2
  all_goals
    go_ret
    refine ⟨vretB ?_, HB.out _⟩
    go_light
    simp_all [Val.right, Val.noText]
    all_goals (try (intros; omega))

end Go.Proofs.Ytoficeamogbbhab

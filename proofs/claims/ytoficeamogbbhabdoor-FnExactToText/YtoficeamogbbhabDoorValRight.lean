/-
  The walk of the program's ValueRight.
-/
import Derived.Test.YtoficeamogbbhabDoorValB
namespace Go.Proofs.YtoficeamogbbhabDoor
open Go.RowKit

set_option maxHeartbeats 2000000 in
theorem iValueRight (v : Val.VV) (w : World) : Calls Tryd.prog 17 #[.agg (vC v)] w fun e w' => e = .returned (.bool (Val.right v)) ∧ Below w.heap.size w w' := by
  unfold vC
  obtain ⟨k, n, t⟩ := v
  dsimp only
  have hb : ∀ o, Below w.heap.size w (w.alloc o) := fun o => (Below.refl _ _).alloc (Nat.le_refl _) o
  have HB : Hid (∀ o, Below w.heap.size w (w.alloc o)) := hb
  clear hb
  go_enter Tryd.func17, Tryd.ntmps17
  go_wp2
  all_goals
    go_ret
    refine ⟨vretB ?_, HB.out _⟩
    go_light
    simp_all [Val.right, Val.noText]
    all_goals (try (intros; omega))

end Go.Proofs.YtoficeamogbbhabDoor

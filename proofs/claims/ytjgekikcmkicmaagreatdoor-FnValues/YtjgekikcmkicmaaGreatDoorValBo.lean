/-
  The walk of the specification's l04Bool.
-/
import Derived.Test.YtjgekikcmkicmaaGreatDoorValB
namespace Go.Proofs.YtjgekikcmkicmaaGreatDoor
open Go.RowKit

set_option maxHeartbeats 1000000 in
theorem sBool (c : Bool) (w : World) : Calls Tryz.prog 91 #[.bool c] w fun e w' => e = .returned (.agg (vC (Val.boolV c))) ∧ Below w.heap.size w w' := by
  have HB : Hid (∀ o o2, Below w.heap.size w ((w.alloc o).alloc o2)) := fun o o2 => ((Below.refl _ _).alloc (Nat.le_refl _) o).alloc (by simp) o2
  cases c
  · go_enter Tryz.func91, Tryz.ntmps91
    go_wp2_with fail
    refine bodyPost_ret (v := .agg #[.int .i64 2, .int .i64 0, .string ⟨#[]⟩]) (by simp [results, Tryz.results91, go_sem]) rfl ⟨rfl, HB.out _ _⟩
  · go_enter Tryz.func91, Tryz.ntmps91
    go_wp2_with fail
    refine bodyPost_ret (v := .agg #[.int .i64 2, .int .i64 1, .string ⟨#[]⟩]) (by simp [results, Tryz.results91, go_sem]) rfl ⟨rfl, HB.out _ _⟩

end Go.Proofs.YtjgekikcmkicmaaGreatDoor

/-
  The walk of the specification's l04Bool.
-/
import Derived.Test.YtlmlmdmechhalaaValB
namespace Go.Proofs.Ytlmlmdmechhalaa
open Go.RowKit

set_option maxHeartbeats 1000000 in
theorem sBool (c : Bool) (w : World) : Calls Try.prog 68 #[.bool c] w fun e w' => e = .returned (.agg (vC (Val.boolV c))) ∧ Below w.heap.size w w' := by
  have HB : Hid (∀ o o2, Below w.heap.size w ((w.alloc o).alloc o2)) := fun o o2 => ((Below.refl _ _).alloc (Nat.le_refl _) o).alloc (by simp) o2
  cases c
  · go_enter Try.func68, Try.ntmps68
    go_wp2_with fail
    refine bodyPost_ret (v := .agg #[.int .i64 2, .int .i64 0, .string ⟨#[]⟩]) (by simp [results, Try.results68, go_sem]) rfl ⟨rfl, HB.out _ _⟩
  · go_enter Try.func68, Try.ntmps68
    go_wp2_with fail
    refine bodyPost_ret (v := .agg #[.int .i64 2, .int .i64 1, .string ⟨#[]⟩]) (by simp [results, Try.results68, go_sem]) rfl ⟨rfl, HB.out _ _⟩

end Go.Proofs.Ytlmlmdmechhalaa

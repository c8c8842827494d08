/-
  The walk of the specification's l04Num.
-/
import Derived.Test.YtlmlmdmechhalaaValB
namespace Go.Proofs.Ytlmlmdmechhalaa
open Go.RowKit

set_option maxHeartbeats 1000000 in
theorem sNum (n : Int) (w : World) : Calls Try.prog 70 #[.int .i64 n] w fun e w' => e = .returned (.agg (vC (Val.numV n))) ∧ Below w.heap.size w w' := by
  have hb : ∀ o, Below w.heap.size w (w.alloc o) := fun o => (Below.refl _ _).alloc (Nat.le_refl _) o
  have HB : Hid (∀ o, Below w.heap.size w (w.alloc o)) := hb
  clear hb
  by_cases h1 : n < -9007199254740992
  · have e : Val.numV n = Val.badV := if_pos (.inl h1)
    rw [e]
    clear e
    go_enter Try.func70, Try.ntmps70
    go_wp2_with fail
    refine bodyPost_ret (v := .agg vBad) (by simp [vBad, results, Try.results70, go_sem]) rfl ⟨rfl, HB.out _⟩
  · by_cases h2 : 9007199254740992 < n
    · have e : Val.numV n = Val.badV := if_pos (.inr h2)
      rw [e]
      clear e
      go_enter Try.func70, Try.ntmps70
      go_wp2_with fail
      refine bodyPost_ret (v := .agg vBad) (by simp [vBad, results, Try.results70, go_sem]) rfl ⟨rfl, HB.out _⟩
    · have e : Val.numV n = ⟨3, n, Val.e0⟩ := if_neg (by omega)
      rw [e]
      clear e
      have d1 : decide (n < -9007199254740992) = false := decide_eq_false h1
      have d2 : decide (9007199254740992 < n) = false := decide_eq_false h2
      go_enter Try.func70, Try.ntmps70
      go_wp2_with fail
      refine bodyPost_ret (v := .agg #[.int .i64 3, .int .i64 n, .string ⟨#[]⟩]) (by simp [results, Try.results70, go_sem]) rfl ⟨rfl, HB.out _⟩

end Go.Proofs.Ytlmlmdmechhalaa

/-
  The walk of the specification's l04Text.
-/
import Derived.Test.YtlmlmdmechhalaaValB
namespace Go.Proofs.Ytlmlmdmechhalaa
open Go.RowKit

set_option maxHeartbeats 1000000 in
theorem sText (t : ByteArray) (w : World) : Calls Try.prog 69 #[.string t] w fun e w' => e = .returned (.agg (vC (Val.textV t))) ∧ Below w.heap.size w w' := by
  have hb : ∀ o, Below w.heap.size w (w.alloc o) := fun o => (Below.refl _ _).alloc (Nat.le_refl _) o
  have HB : Hid (∀ o, Below w.heap.size w (w.alloc o)) := hb
  clear hb
  by_cases h1 : 1000 < t.size
  · have e : Val.textV t = Val.badV := if_pos h1
    rw [e]
    clear e
    have h1' : (1000 : Int) < (t.size : Int) := by omega
    go_enter Try.func69, Try.ntmps69
    go_wp2_with fail
    refine bodyPost_ret (v := .agg vBad) (by simp [vBad, results, Try.results69, go_sem]) rfl ⟨rfl, HB.out _⟩
  · have e : Val.textV t = ⟨5, 0, t⟩ := if_neg h1
    rw [e]
    clear e
    have h1' : ¬ (1000 : Int) < (t.size : Int) := by omega
    go_enter Try.func69, Try.ntmps69
    go_wp2_with fail
    refine bodyPost_ret (v := .agg #[.int .i64 5, .int .i64 0, .string t]) (by simp [results, Try.results69, go_sem]) rfl ⟨rfl, HB.out _⟩

end Go.Proofs.Ytlmlmdmechhalaa

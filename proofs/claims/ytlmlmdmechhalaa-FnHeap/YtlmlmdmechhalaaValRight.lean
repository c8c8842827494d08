/-
  The walk of the program's ValueRight.
-/
import Derived.Test.YtlmlmdmechhalaaValB
namespace Go.Proofs.Ytlmlmdmechhalaa
namespace Val
theorem right_num (v : VV) (h : right v = true) (hk : v.kind = 3) : -9007199254740992 ≤ v.num ∧ v.num ≤ 9007199254740992 := by
  unfold right at h
  rw [if_neg (by omega), if_neg (by omega), if_pos hk] at h
  simp at h
  omega
theorem right_text (v : VV) (h : right v = true) : v.text.size ≤ 1000 := by
  have key : noText v = true → v.text.size ≤ 1000 := by
    intro g
    unfold noText at g
    have e : v.text.toList = [] := List.isEmpty_iff.1 g
    have e2 : v.text.toList.length = v.text.size := by rw [Lib.toList_data]; exact (Lib.size_eq v.text).symm
    rw [e] at e2
    simp at e2
    omega
  unfold right at h
  by_cases h0 : v.kind = 0 ∨ v.kind = 1 ∨ v.kind = 4
  · rw [if_pos h0] at h; simp at h; exact key h.2
  · rw [if_neg h0] at h
    by_cases h2 : v.kind = 2
    · rw [if_pos h2] at h; simp at h; exact key h.2
    · rw [if_neg h2] at h
      by_cases h3 : v.kind = 3
      · rw [if_pos h3] at h; simp at h; exact key h.2
      · rw [if_neg h3] at h
        by_cases h5 : v.kind = 5
        · rw [if_pos h5] at h; simp at h; exact h.2
        · rw [if_neg h5] at h
          by_cases h6 : v.kind = 6
          · rw [if_pos h6] at h; simp at h; exact key h.2
          · rw [if_neg h6] at h; cases h
theorem right_kind7 (v : VV) (h : right v = true) : v.kind = 0 ∨ v.kind = 1 ∨ v.kind = 2 ∨ v.kind = 3 ∨ v.kind = 4 ∨ v.kind = 5 ∨ v.kind = 6 := by
  unfold right at h
  by_cases h0 : v.kind = 0 ∨ v.kind = 1 ∨ v.kind = 4
  · omega
  · rw [if_neg h0] at h
    by_cases h2 : v.kind = 2
    · omega
    · rw [if_neg h2] at h
      by_cases h3 : v.kind = 3
      · omega
      · rw [if_neg h3] at h
        by_cases h5 : v.kind = 5
        · omega
        · rw [if_neg h5] at h
          by_cases h6 : v.kind = 6
          · omega
          · rw [if_neg h6] at h; cases h
end Val
open Go.RowKit

set_option maxHeartbeats 2000000 in
theorem iValueRight (v : Val.VV) (w : World) : Calls Try.prog 88 #[.agg (vC v)] w fun e w' => e = .returned (.bool (Val.right v)) ∧ Below w.heap.size w w' := by
  unfold vC
  obtain ⟨k, n, t⟩ := v
  dsimp only
  have hb : ∀ o, Below w.heap.size w (w.alloc o) := fun o => (Below.refl _ _).alloc (Nat.le_refl _) o
  have HB : Hid (∀ o, Below w.heap.size w (w.alloc o)) := hb
  clear hb
  go_enter Try.func88, Try.ntmps88
  go_wp2
  all_goals
    go_ret
    refine ⟨vretB ?_, HB.out _⟩
    go_light
    simp_all [Val.right, Val.noText]
    all_goals (try (intros; omega))

end Go.Proofs.Ytlmlmdmechhalaa

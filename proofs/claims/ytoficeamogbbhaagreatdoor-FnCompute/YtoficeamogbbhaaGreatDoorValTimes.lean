/-
  The walk of the specification's l04Times.
-/
import Derived.Test.YtoficeamogbbhaaGreatDoorValNum
namespace Go.Proofs.YtoficeamogbbhaaGreatDoor
open Go.RowKit

theorem wrap_id {n : Int} (h1 : -9223372036854775808 ≤ n) (h2 : n ≤ 9223372036854775807) : wrap64 n = n := by
  unfold wrap64
  omega
theorem inNum_abs (n : Int) : Val.inNum n ↔ n.natAbs ≤ 9007199254740992 := by unfold Val.inNum; omega
theorem times_abs (a b : Int) : Val.inNum (a * b) ↔ (b = 0 ∨ a.natAbs ≤ 9007199254740992 / b.natAbs) := by
  rw [inNum_abs, Int.natAbs_mul]
  by_cases hb : b = 0
  · simp [hb]
  · rw [Nat.le_div_iff_mul_le (by omega)]
    simp [hb]

set_option maxHeartbeats 2000000 in
theorem sTimes (a b : Int) (w : World) (a1 : -9007199254740992 ≤ a) (a2 : a ≤ 9007199254740992) (b1 : -9007199254740992 ≤ b) (b2 : b ≤ 9007199254740992) :
    Calls Tryz.prog 81 #[.int .i64 a, .int .i64 b] w fun e w' => e = .returned (.tuple #[.int .i64 (if Val.inNum (a * b) then a * b else 0), .bool (decide (Val.inNum (a * b)))]) ∧ w' = w := by
  obtain ⟨X, hX⟩ : ∃ X, X = if Val.inNum (a * b) then a * b else 0 := ⟨_, rfl⟩
  obtain ⟨Y, hY⟩ : ∃ Y, Y = decide (Val.inNum (a * b)) := ⟨_, rfl⟩
  rw [← hX, ← hY]
  obtain ⟨K, hK⟩ : ∃ K, K = 9007199254740992 / b.natAbs := ⟨_, rfl⟩
  have hK1 : K ≤ 9007199254740992 := by rw [hK]; exact Nat.div_le_self _ _
  have T1 : b ≠ 0 → (K : Int) < a.natAbs → X = 0 ∧ Y = false := by
    intro h1 h2
    have : ¬ Val.inNum (a * b) := by rw [times_abs, ← hK]; omega
    exact ⟨by rw [hX, if_neg this], by rw [hY]; exact decide_eq_false this⟩
  have T2 : (b = 0 ∨ (a.natAbs : Int) ≤ K) → X = wrap64 (a * b) ∧ Y = true := by
    intro h1
    have : Val.inNum (a * b) := by rw [times_abs, ← hK]; omega
    have h9 := this
    unfold Val.inNum at h9
    exact ⟨by rw [hX, if_pos this, wrap_id (by omega) (by omega)], by rw [hY]; exact decide_eq_true this⟩
  have K1 : b < 0 → wrap64 (-Int.tdiv 9007199254740992 b) = K := by
    intro hb
    have e : b = -((b.natAbs : Nat) : Int) := by omega
    have e2 : Int.tdiv 9007199254740992 b = -(K : Int) := by
      rw [e, Int.tdiv_neg, hK]; rfl
    rw [e2, Int.neg_neg, wrap_id (by omega) (by omega)]
  have K2 : 0 ≤ b → 9007199254740992 / b = K := by
    intro hb
    have e : b = ((b.natAbs : Nat) : Int) := by omega
    conv => lhs; rw [e]
    rw [hK]; rfl
  have HT : Hid ((b ≠ 0 → (K : Int) < a.natAbs → X = 0 ∧ Y = false) ∧ ((b = 0 ∨ (a.natAbs : Int) ≤ K) → X = wrap64 (a * b) ∧ Y = true) ∧ (b < 0 → wrap64 (-Int.tdiv 9007199254740992 b) = K) ∧ (0 ≤ b → 9007199254740992 / b = K)) := ⟨T1, T2, K1, K2⟩
  clear T1 T2 K1 K2 hX hY hK hK1
  go_enter Tryz.func81, Tryz.ntmps81
  go_wp2_with fail
  all_goals
    obtain ⟨T1, T2, K1, K2⟩ := HT.out
    first
      | refine bodyPost_ret (v := .tuple #[.int .i64 0, .bool false]) ?_ rfl ⟨?_, rfl⟩
        · (simp [results, Tryz.results81, go_sem]; done)
        simp only [bne_iff_ne, ne_eq] at *
        obtain ⟨e1, e2⟩ := T1 (by omega) (by omega)
        rw [e1, e2]
      | refine bodyPost_ret (v := .tuple #[.int .i64 (wrap64 (a * b)), .bool true]) ?_ rfl ⟨?_, rfl⟩
        · (simp [results, Tryz.results81, go_sem]; done)
        try simp only [bne_eq_false_iff_eq] at *
        obtain ⟨e1, e2⟩ := T2 (by omega)
        rw [e1, e2]
      | rename_i hz
        subst hz
        obtain ⟨e1, e2⟩ := T2 (.inl rfl)
        refine bodyPost_ret (v := .tuple #[.int .i64 0, .bool true]) ?_ rfl ⟨?_, rfl⟩
        · (simp [results, Tryz.results81, go_sem]; done)
        rw [e1, e2, Int.mul_zero, wrap_id (by omega) (by omega)]

end Go.Proofs.YtoficeamogbbhaaGreatDoor

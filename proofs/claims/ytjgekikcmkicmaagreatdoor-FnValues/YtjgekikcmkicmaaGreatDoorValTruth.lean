/-
  The walks of Truth, on both sides.
-/
import Derived.Test.YtjgekikcmkicmaaGreatDoorValRight
namespace Go.Proofs.YtjgekikcmkicmaaGreatDoor
namespace Val
def truthV (v : VV) : Bool := right v && truth v
end Val
open Go.RowKit

set_option maxHeartbeats 2000000 in
theorem sTruth0 (v : Val.VV) (w : World) : Calls Tryz.prog 54 #[.agg (vC v)] w fun e w' => e = .returned (.bool (Val.truth v)) ∧ Below w.heap.size w w' := by
  unfold vC
  obtain ⟨k, n, t⟩ := v
  dsimp only
  have hb : ∀ o, Below w.heap.size w (w.alloc o) := fun o => (Below.refl _ _).alloc (Nat.le_refl _) o
  have HB : Hid (∀ o, Below w.heap.size w (w.alloc o)) := hb
  clear hb
  go_enter Tryz.func54, Tryz.ntmps54
  go_wp2
  all_goals
    go_ret
    refine ⟨vretB ?_, HB.out _⟩
    go_light
    simp_all [Val.truth, Val.noText]
    all_goals rfl

set_option maxHeartbeats 2000000 in
theorem sTruth (v : Val.VV) (w : World) : Calls Tryz.prog 19 #[.agg (vC v)] w fun e w' => e = .returned (.bool (Val.truthV v)) ∧ Below w.heap.size w w' := by
  have R : Hid _ := fun (W : World) => sValueRight v W
  have T : Hid _ := fun (W : World) => sTruth0 v W
  have HB : Hid (∀ o, Below w.heap.size w (w.alloc o)) := fun o => (Below.refl _ _).alloc (Nat.le_refl _) o
  have HL : Hid (Lies (w.alloc (.cells (vC v) 24)) w.heap.size v) := lies_new w v
  obtain ⟨B, hB⟩ : ∃ B, Val.right v = B := ⟨_, rfl⟩
  obtain ⟨C, hC⟩ : ∃ C, Val.truth v = C := ⟨_, rfl⟩
  have hE : Val.truthV v = (B && C) := by unfold Val.truthV; rw [hB, hC]
  rw [hB] at R
  rw [hC] at T
  rw [hE]
  clear hB hC hE
  obtain ⟨k, n, t⟩ := v
  unfold vC at *
  dsimp only at *
  go_enter Tryz.func19, Tryz.ntmps19
  go_wp2_with fail
  refine (R.out _).mono ?_
  rintro e w1 ⟨rfl, hb1⟩
  have hbw : Below w.heap.size w w1 := (HB.out _).trans (hb1.mono (HB.out _).size)
  obtain ⟨⟨r0, r1, r2⟩, f0, f1, f2⟩ := (HL.out.keep hb1).three
  dsimp only at r0 r1 r2
  cases B
  · go_wp2_with fail
    go_ret
    exact ⟨rfl, hbw⟩
  · go_wp2_with fail
    refine (T.out _).mono ?_
    rintro e w2 ⟨rfl, hb2⟩
    have hbf := hbw.trans (hb2.mono hbw.size)
    go_wp2_with fail
    go_ret
    exact ⟨by rfl, hbf⟩

set_option maxHeartbeats 2000000 in
theorem iTruth (v : Val.VV) (w : World) : Calls Tryz.prog 13 #[.agg (vC v)] w fun e w' => e = .returned (.bool (Val.truthV v)) ∧ Below w.heap.size w w' := by
  have R : Hid _ := fun (W : World) => iValueRight v W
  have HB : Hid (∀ o, Below w.heap.size w (w.alloc o)) := fun o => (Below.refl _ _).alloc (Nat.le_refl _) o
  have HL : Hid (Lies (w.alloc (.cells (vC v) 24)) w.heap.size v) := lies_new w v
  obtain ⟨B, hB⟩ : ∃ B, Val.right v = B := ⟨_, rfl⟩
  have hE : Val.truthV v = (B && Val.truth v) := by unfold Val.truthV; rw [hB]
  rw [hB] at R
  rw [hE]
  clear hB hE
  obtain ⟨k, n, t⟩ := v
  obtain ⟨C, hC⟩ : ∃ C, Val.truth ⟨k, n, t⟩ = C := ⟨_, rfl⟩
  rw [hC]
  have HC : Hid (Val.truth ⟨k, n, t⟩ = C) := hC
  clear hC
  unfold vC at *
  dsimp only at *
  go_enter Tryz.func13, Tryz.ntmps13
  go_wp2_with fail
  refine (R.out _).mono ?_
  rintro e w1 ⟨rfl, hb1⟩
  have hbw : Below w.heap.size w w1 := (HB.out _).trans (hb1.mono (HB.out _).size)
  have HW : Hid (Below w.heap.size w w1) := hbw
  obtain ⟨⟨r0, r1, r2⟩, f0, f1, f2⟩ := (HL.out.keep hb1).three
  dsimp only at r0 r1 r2
  clear hbw hb1
  cases B
  · go_wp2_with fail
    go_ret
    exact ⟨rfl, HW.out⟩
  · go_wp2
    all_goals
      go_ret
      refine ⟨vretB ?_, HW.out⟩
      rw [← HC.out]
      clear HC HW HL HB R r0 r1 r2 f0 f1 f2
      go_light
      simp_all [Val.truth, Val.noText]
      all_goals rfl

end Go.Proofs.YtjgekikcmkicmaaGreatDoor

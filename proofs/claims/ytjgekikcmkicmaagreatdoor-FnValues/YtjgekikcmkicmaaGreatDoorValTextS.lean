/-
  The walk of the specification's ToText.
-/
import Derived.Test.YtjgekikcmkicmaaGreatDoorValText
namespace Go.Proofs.YtjgekikcmkicmaaGreatDoor
open Go.RowKit

set_option maxHeartbeats 2000000 in
theorem sToText (v : Val.VV) (w : World) : Calls Tryz.prog 16 #[.agg (vC v)] w fun e w' => e = .returned (.string (Val.textOf v)) ∧ Below w.heap.size w w' := by
  have R : Hid _ := fun (W : World) => sValueRight v W
  have T : Hid _ := fun (h : Val.right v = true) (W : World) => sToText0 v W (fun hk => by have := Val.right_num v h hk; omega)
  have HB : Hid (∀ o, Below w.heap.size w (w.alloc o)) := fun o => (Below.refl _ _).alloc (Nat.le_refl _) o
  have HL : Hid (Lies (w.alloc (.cells (vC v) 24)) w.heap.size v) := lies_new w v
  obtain ⟨B, hB⟩ : ∃ B, Val.right v = B := ⟨_, rfl⟩
  obtain ⟨C, hC⟩ : ∃ C, Val.toTextV v = C := ⟨_, rfl⟩
  have hE : Val.textOf v = if B then C else Val.e0 := by unfold Val.textOf; rw [hB, hC]
  rw [hB] at R T
  rw [hC] at T
  rw [hE]
  clear hB hC hE
  obtain ⟨k, n, t⟩ := v
  unfold vC at *
  dsimp only at *
  go_enter Tryz.func16, Tryz.ntmps16
  go_wp2_with fail
  refine (R.out _).mono ?_
  rintro e w1 ⟨rfl, hb1⟩
  have hbw : Below w.heap.size w w1 := (HB.out _).trans (hb1.mono (HB.out _).size)
  obtain ⟨⟨r0, r1, r2⟩, f0, f1, f2⟩ := (HL.out.keep hb1).three
  dsimp only at r0 r1 r2
  cases B
  · go_wp2_with fail
    go_ret
    exact ⟨rfl, hbw⟩
  · go_wp2_with fail
    refine (T.out (by trivial) _).mono ?_
    rintro e w2 ⟨rfl, hb2⟩
    have hbf := hbw.trans (hb2.mono hbw.size)
    go_wp2_with fail
    go_ret
    exact ⟨rfl, hbf⟩

end Go.Proofs.YtjgekikcmkicmaaGreatDoor

/-
  The walks of Alike, on both sides.
-/
import Derived.Test.YtjgekikcmkicmaaGreatDoorValAlike
namespace Go.Proofs.YtjgekikcmkicmaaGreatDoor
open Go.RowKit

set_option maxHeartbeats 2000000 in
theorem sAlike (a b : Val.VV) (w : World) : Calls Tryz.prog 8 #[.agg (vC a), .agg (vC b)] w fun e w' => e = .returned (.bool (Val.alikeV a b)) ∧ Below w.heap.size w w' := by
  have R : Hid _ := fun (W : World) => sValueRight a W
  have R2 : Hid _ := fun (W : World) => sValueRight b W
  have T : Hid _ := fun (W : World) => sAlike0 a b W
  have HB : Hid (∀ o o2, Below w.heap.size w ((w.alloc o).alloc o2)) := fun o o2 => ((Below.refl _ _).alloc (Nat.le_refl _) o).alloc (by simp) o2
  have HL : Hid _ := lies_two w a b
  obtain ⟨A, hA⟩ : ∃ B, Val.right a = B := ⟨_, rfl⟩
  obtain ⟨B, hB⟩ : ∃ B, Val.right b = B := ⟨_, rfl⟩
  obtain ⟨C, hC⟩ : ∃ C, Val.alike a b = C := ⟨_, rfl⟩
  have hE : Val.alikeV a b = (A && B && C) := by unfold Val.alikeV; rw [hA, hB, hC]
  rw [hA] at R
  rw [hB] at R2
  rw [hC] at T
  rw [hE]
  clear hA hB hC hE
  obtain ⟨k, n, t⟩ := a
  obtain ⟨k2, n2, t2⟩ := b
  unfold vC at *
  dsimp only at *
  go_enter Tryz.func8, Tryz.ntmps8
  go_wp2_with fail
  refine (R.out _).mono ?_
  rintro e w1 ⟨rfl, hb1⟩
  have hbw : Below w.heap.size w w1 := (HB.out _ _).trans (hb1.mono (HB.out _ _).size)
  have L1 := HL.out.1.keep hb1
  have L2 := HL.out.2.keep hb1
  clear hb1
  obtain ⟨⟨r0, r1, r2⟩, f0, f1, f2⟩ := L1.three
  obtain ⟨⟨s0, s1, s2⟩, g0, g1, g2⟩ := L2.three
  dsimp only at r0 r1 r2 s0 s1 s2
  cases A
  · go_wp2_with fail
    go_ret
    exact ⟨rfl, hbw⟩
  · go_wp2_with fail
    refine (R2.out _).mono ?_
    rintro e w2 ⟨rfl, hb2⟩
    replace L1 := L1.keep hb2
    replace L2 := L2.keep hb2
    have hbw2 := hbw.trans (hb2.mono hbw.size)
    clear hb2 hbw r0 r1 r2 s0 s1 s2 f0 f1 f2 g0 g1 g2
    obtain ⟨⟨r0, r1, r2⟩, f0, f1, f2⟩ := L1.three
    obtain ⟨⟨s0, s1, s2⟩, g0, g1, g2⟩ := L2.three
    dsimp only at r0 r1 r2 s0 s1 s2
    cases B
    · go_wp2_with fail
      go_ret
      exact ⟨rfl, hbw2⟩
    · go_wp2_with fail
      refine (T.out _).mono ?_
      rintro e w3 ⟨rfl, hb3⟩
      have hbf := hbw2.trans (hb3.mono hbw2.size)
      go_wp2_with fail
      go_ret
      exact ⟨by rfl, hbf⟩

set_option maxHeartbeats 2000000 in
theorem iAlike (a b : Val.VV) (w : World) : Calls Tryz.prog 7 #[.agg (vC a), .agg (vC b)] w fun e w' => e = .returned (.bool (Val.alikeV a b)) ∧ Below w.heap.size w w' := by
  have R : Hid _ := fun (W : World) => iPairRight a b W
  have T : Hid _ := fun (W : World) => iPairAlike a b W
  obtain ⟨A, hA⟩ : ∃ B, (Val.right a && Val.right b) = B := ⟨_, rfl⟩
  obtain ⟨C, hC⟩ : ∃ C, Val.alike a b = C := ⟨_, rfl⟩
  have hE : Val.alikeV a b = (A && C) := by unfold Val.alikeV; rw [hA, hC]
  rw [hA] at R
  rw [hC] at T
  rw [hE]
  clear hA hC hE
  have HL : Hid (LiesP (wPair w a b) (w.heap.size + 1 + 1) a b) := wPair_lies w a b
  have HB : Hid (Below w.heap.size w (wPair w a b)) := wPair_below w a b
  unfold wPair at HL HB
  obtain ⟨k, n, t⟩ := a
  obtain ⟨k2, n2, t2⟩ := b
  unfold vC at *
  unfold pC at *
  dsimp only at *
  go_enter Tryz.func7, Tryz.ntmps7
  go_wp2_with fail
  refine (R.out _).mono ?_
  rintro e w1 ⟨rfl, hb1⟩
  have hbw : Below w.heap.size w w1 := HB.out.trans (hb1.mono HB.out.size)
  have L1 := HL.out.keep hb1
  clear hb1
  have hlt := L1.lt
  obtain ⟨⟨r0, r1, r2, r3, r4, r5⟩, f0, f1, f2, f3, f4, f5⟩ := L1.six
  dsimp only at r0 r1 r2 r3 r4 r5
  cases A
  · go_wp2_with fail
    go_ret
    exact ⟨rfl, hbw⟩
  · go_wp2_with fail
    refine (T.out _).mono ?_
    rintro e w2 ⟨rfl, hb2⟩
    have hbw2 := hbw.trans (hb2.mono hbw.size)
    go_wp2_with fail
    go_ret
    exact ⟨by rfl, hbw2⟩

end Go.Proofs.YtjgekikcmkicmaaGreatDoor

/-
  The walk of the program's Alike.
-/
import Derived.Test.YtoficeamogbbhabValAlike
namespace Go.Proofs.Ytoficeamogbbhab
open Go.RowKit

set_option maxHeartbeats 2000000 in
theorem iAlike (a b : Val.VV) (w : World) : Calls Try.prog 19 #[.agg (vC a), .agg (vC b)] w fun e w' => e = .returned (.bool (Val.alikeV a b)) ∧ Below w.heap.size w w' := by
  have R : Hid _ := fun (W : World) => iPairRight a b W
  have T : Hid _ := fun (W : World) => iPairAlike a b W
  obtain ⟨A, hA⟩ : ∃ B, (Val.right a && Val.right b) = B := ⟨_, rfl⟩
  obtain ⟨C, hC⟩ : ∃ C, Val.alike a b = C := ⟨_, rfl⟩
  have hE : Val.alikeV a b = (A && C) := by unfold Val.alikeV; rw [hA, hC]
  rw [hA] at R
  rw [hC] at T
  rw [hE]
  clear hA hC hE
  have HL : Hid (LiesP (wPair w a b) (w.heap.size + 1 + 1) a b) := wPair_lies w a b
  have HB : Hid (Below w.heap.size w (wPair w a b)) := wPair_below w a b
  unfold wPair at HL HB
  obtain ⟨k, n, t⟩ := a
  obtain ⟨k2, n2, t2⟩ := b
  unfold vC at *
  unfold pC at *
  dsimp only at *
  go_enter Try.func19, Try.ntmps19
  go_wp2_with fail
  refine (R.out _).mono ?_
  rintro e w1 ⟨rfl, hb1⟩
  have hbw : Below w.heap.size w w1 := HB.out.trans (hb1.mono HB.out.size)
  have L1 := HL.out.keep hb1
  clear hb1
  have hlt := L1.lt
  obtain ⟨⟨r0, r1, r2, r3, r4, r5⟩, f0, f1, f2, f3, f4, f5⟩ := L1.six
  dsimp only at r0 r1 r2 r3 r4 r5
  cases A
  · go_wp2_with fail
    go_ret
    exact ⟨rfl, hbw⟩
  · go_wp2_with fail
    refine (T.out _).mono ?_
    rintro e w2 ⟨rfl, hb2⟩
    have hbw2 := hbw.trans (hb2.mono hbw.size)
    go_wp2_with fail
    go_ret
    exact ⟨by rfl, hbw2⟩

end Go.Proofs.Ytoficeamogbbhab

/-
  The walk of the program's Equal.
-/
import Derived.Test.YtjgekikcmkicmaaGreatDoorValEqI
namespace Go.Proofs.YtjgekikcmkicmaaGreatDoor
open Go.RowKit Go.Shelf

set_option maxHeartbeats 4000000 in
theorem iEqual (a b : Val.VV) (w : World) (hp : PowIn w) (he : ErrIn w) : Calls Tryz.prog 9 #[.agg (vC a), .agg (vC b)] w fun e w' => e = .returned (.bool (Val.equalV a b)) ∧ Below w.heap.size w w' := by
  have R : Hid _ := fun (W : World) => iPairRight a b W
  have T : Hid _ := fun (h : (Val.right a && Val.right b) = true) (W : World) (hp : PowIn W) (he : ErrIn W) => iEquality a b W (by simp at h; exact h.1) (by simp at h; exact h.2) hp he
  have AL : Hid _ := fun (x y : Val.VV) (W : World) => iPairAlike x y W
  have BM : Hid _ := fun (x y : Val.VV) (W : World) => iBothMissing x y W
  have HP : Hid (PowIn w ∧ ErrIn w) := ⟨hp, he⟩
  clear hp he
  obtain ⟨A, hA⟩ : ∃ B, (Val.right a && Val.right b) = B := ⟨_, rfl⟩
  obtain ⟨C, hC⟩ : ∃ C, Val.equal a b = C := ⟨_, rfl⟩
  have hE : Val.equalV a b = (A && C) := by unfold Val.equalV; rw [hA, hC]
  rw [hA] at R T
  rw [hC] at T
  rw [hE]
  clear hA hC hE
  have HL : Hid (LiesP (wPair w a b) (w.heap.size + 1 + 1) a b) := wPair_lies w a b
  have HB : Hid (Below w.heap.size w (wPair w a b)) := wPair_below w a b
  unfold wPair at HL HB
  obtain ⟨k, n, t⟩ := a
  obtain ⟨k2, n2, t2⟩ := b
  unfold vC at *
  unfold pC at *
  dsimp only at *
  go_enter Tryz.func9, Tryz.ntmps9
  go_wp2_with fail
  refine (R.out _).mono ?_
  rintro e w1 ⟨rfl, hb1⟩
  have hbw : Below w.heap.size w w1 := HB.out.trans (hb1.mono HB.out.size)
  have L1 := HL.out.keep hb1
  clear hb1
  have hlt := L1.lt
  obtain ⟨⟨r0, r1, r2, r3, r4, r5⟩, f0, f1, f2, f3, f4, f5⟩ := L1.six
  dsimp only at r0 r1 r2 r3 r4 r5
  cases A
  · go_wp2_with fail
    go_ret
    exact ⟨rfl, hbw⟩
  · go_wp2_with fail
    refine (T.out (by trivial) _ (HP.out.1.keep hbw) (HP.out.2.keep hbw)).mono ?_
    rintro e w2 ⟨g, x, y, rfl, hfn, hb2⟩
    have hbw2 := hbw.trans (hb2.mono hbw.size)
    obtain ⟨xk, xn, xt⟩ := x
    obtain ⟨yk, yn, yt⟩ := y
    have AA : Hid _ := fun (W : World) => AL.out ⟨xk, xn, xt⟩ ⟨yk, yn, yt⟩ W
    have BB : Hid _ := fun (W : World) => BM.out ⟨xk, xn, xt⟩ ⟨yk, yn, yt⟩ W
    dsimp only at AA BB
    clear AL BM
    rcases hfn with ⟨rfl, hv⟩ | ⟨rfl, hv⟩
    · rw [hv] at AA
      clear hv BB
      go_wp2_with fail
      refine (AA.out _).mono ?_
      rintro e w3 ⟨rfl, hb3⟩
      have hbf := hbw2.trans (hb3.mono hbw2.size)
      go_wp2_with fail
      go_ret
      exact ⟨by rfl, hbf⟩
    · rw [hv] at BB
      clear hv AA
      go_wp2_with fail
      refine (BB.out _).mono ?_
      rintro e w3 ⟨rfl, hb3⟩
      have hbf := hbw2.trans (hb3.mono hbw2.size)
      go_wp2_with fail
      go_ret
      exact ⟨by rfl, hbf⟩

end Go.Proofs.YtjgekikcmkicmaaGreatDoor

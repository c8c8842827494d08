/-
  The walks of the program's functions of a pair: withoutRefs, bothMissing, equality; and of Equal.
-/
import Derived.Test.YtjgekikcmkicmaaGreatDoorValSays
namespace Go.Proofs.YtjgekikcmkicmaaGreatDoor
open Go.RowKit Go.Shelf

def zObjP : Obj := .cells #[.int .i64 0, .int .i64 0, .string ⟨#[]⟩, .int .i64 0, .int .i64 0, .string ⟨#[]⟩] 53
theorem pair_res {w w1 : World} {a b : Val.VV} (h : Below ((w.alloc (.cells (pC a b) 53)).alloc zObjP).heap.size ((w.alloc (.cells (pC a b) 53)).alloc zObjP) w1) :
    LiesP w1 w.heap.size a b ∧ LiesP w1 (w.heap.size + 1) Val.zeroV Val.zeroV ∧ Below w.heap.size w w1 := by
  refine ⟨((liesP_new w a b).grow _).keep h, ?_, ?_⟩
  · have h2 := liesP_new (w.alloc (.cells (pC a b) 53)) Val.zeroV Val.zeroV
    rw [World.size_alloc] at h2
    exact LiesP.keep h2 h
  · have hb : Below w.heap.size w ((w.alloc (.cells (pC a b) 53)).alloc zObjP) := ((Below.refl _ _).alloc (Nat.le_refl _) _).alloc (by simp) _
    exact hb.trans (h.mono hb.size)

set_option maxHeartbeats 4000000 in
theorem iWithoutRefs (a b : Val.VV) (w : World) (ha : Val.right a = true) (hb : Val.right b = true) (hp : PowIn w) :
    Calls Tryz.prog 82 #[.agg (pC a b)] w fun e w' => e = .returned (.agg (pC (Val.plainV a) (Val.plainV b))) ∧ Below w.heap.size w w' := by
  have WA : Hid _ := fun (W : World) (h : PowIn W) => iWithoutRef a W ha h
  have WB : Hid _ := fun (W : World) (h : PowIn W) => iWithoutRef b W hb h
  have HP : Hid (PowIn w) := hp
  have PF : Hid (∀ w1, Below ((w.alloc (.cells (pC a b) 53)).alloc zObjP).heap.size ((w.alloc (.cells (pC a b) 53)).alloc zObjP) w1 → LiesP w1 w.heap.size a b ∧ LiesP w1 (w.heap.size + 1) Val.zeroV Val.zeroV ∧ Below w.heap.size w w1) := fun w1 h => pair_res h
  clear hp ha hb
  obtain ⟨⟨pk, pn, pt⟩, hP⟩ : ∃ p, Val.plainV a = p := ⟨_, rfl⟩
  obtain ⟨⟨qk, qn, qt⟩, hQ⟩ : ∃ q, Val.plainV b = q := ⟨_, rfl⟩
  rw [hP] at WA ⊢
  rw [hQ] at WB ⊢
  clear hP hQ
  obtain ⟨ak, an, at'⟩ := a
  obtain ⟨bk, bn, bt⟩ := b
  obtain ⟨l1, l2, hbw⟩ := PF.out _ (Below.refl _ _)
  unfold zObjP at *
  unfold vC pC at *
  dsimp only at *
  go_enter Tryz.func82, Tryz.ntmps82
  go_wp2_with fail
  generalize (w.alloc (.cells #[.int .i64 ak, .int .i64 an, .string at', .int .i64 bk, .int .i64 bn, .string bt] 53)).alloc (.cells #[.int .i64 0, .int .i64 0, .string ⟨#[]⟩, .int .i64 0, .int .i64 0, .string ⟨#[]⟩] 53) = w1 at *
  obtain ⟨⟨r0, r1, r2, r3, r4, r5⟩, -⟩ := l1.six
  have hlt1 := l1.lt
  have hlt2 := l2.lt
  dsimp only at r0 r1 r2 r3 r4 r5
  go_region_with (first
    | (go_at_call_of 130 ak; refine (WA.out _ (HP.out.keep hbw.drew)).mono ?_; rintro e W1 ⟨rfl, hA⟩; have hA2 : Below w1.heap.size w1 W1 := (Below.refl w1.heap.size w1).drew.trans hA; obtain ⟨⟨a0, a1, a2, a3, a4, a5⟩, -⟩ := (l1.keep hA2).six; dsimp only at a0 a1 a2 a3 a4 a5)
    | (go_at_call_of 130 bk; refine (WB.out _ (HP.out.keep (hbw.trans (hA2.mono hbw.size)))).mono ?_; rintro e W2 ⟨rfl, hB⟩; have hB2 : Below w1.heap.size w1 W2 := hA2.trans (hB.mono hA2.size); obtain ⟨⟨b0, b1, b2, b3, b4, b5⟩, g0, g1, g2, g3, g4, g5⟩ := (l2.keep hB2).six; have hltB := (l2.keep hB2).lt; dsimp only [Val.zeroV, Val.e0] at b0 b1 b2 b3 b4 b5))
  all_goals
    go_wp2_with fail
    have hbf := hbw.trans (hB2.mono hbw.size)
    refine bodyPost_ret (v := .agg #[.int .i64 pk, .int .i64 pn, .string pt, .int .i64 qk, .int .i64 qn, .string qt]) (by simp [results, Tryz.results82, go_sem, b0, b1, b2, b3, b4, b5]) rfl ⟨rfl, ?_⟩
    exact (((((hbf.setCell (by simp) _).setCell (by simp) _).setCell (by simp) _).setCell (by simp) _).setCell (by simp) _).setCell (by simp) _

set_option maxHeartbeats 2000000 in
theorem iBothMissing (a b : Val.VV) (w : World) : Calls Tryz.prog 81 #[.agg (pC a b)] w fun e w' => e = .returned (.bool (Val.miss a && Val.miss b)) ∧ Below w.heap.size w w' := by
  have R : Hid _ := fun (W : World) => iMissing a W
  have R2 : Hid _ := fun (W : World) => iMissing b W
  have HB : Hid (∀ o, Below w.heap.size w (w.alloc o)) := fun o => ((Below.refl _ _).alloc (Nat.le_refl _) o)
  have HL : Hid (LiesP (w.alloc (.cells (pC a b) 53)) w.heap.size a b) := liesP_new w a b
  obtain ⟨A, hA⟩ : ∃ B, Val.miss a = B := ⟨_, rfl⟩
  obtain ⟨B, hB⟩ : ∃ B, Val.miss b = B := ⟨_, rfl⟩
  rw [hA] at R
  rw [hB] at R2
  rw [hA, hB]
  clear hA hB
  obtain ⟨k, n, t⟩ := a
  obtain ⟨k2, n2, t2⟩ := b
  unfold vC at *
  unfold pC at *
  dsimp only at *
  go_enter Tryz.func81, Tryz.ntmps81
  go_wp2_with fail
  refine (R.out _).mono ?_
  rintro e w1 ⟨rfl, hb1⟩
  have hbw : Below w.heap.size w w1 := (HB.out _).trans (hb1.mono (HB.out _).size)
  have L1 := HL.out.keep hb1
  clear hb1
  obtain ⟨⟨r0, r1, r2, r3, r4, r5⟩, f0, f1, f2, f3, f4, f5⟩ := L1.six
  dsimp only at r0 r1 r2 r3 r4 r5
  cases A
  · go_wp2_with fail
    go_ret
    exact ⟨rfl, hbw⟩
  · go_wp2_with fail
    refine (R2.out _).mono ?_
    rintro e w2 ⟨rfl, hb2⟩
    have hbw2 := hbw.trans (hb2.mono hbw.size)
    go_wp2_with fail
    go_ret
    exact ⟨by rfl, hbw2⟩

end Go.Proofs.YtjgekikcmkicmaaGreatDoor

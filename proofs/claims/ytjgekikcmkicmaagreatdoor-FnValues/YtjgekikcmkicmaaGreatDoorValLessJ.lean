/-
  The walks of Less, on both sides.
-/
import Derived.Test.YtjgekikcmkicmaaGreatDoorValLessI
namespace Go.Proofs.YtjgekikcmkicmaaGreatDoor
open Go.RowKit Go.Shelf

set_option maxHeartbeats 2000000 in
theorem sLess (a b : Val.VV) (w : World) : Calls Tryz.prog 12 #[.agg (vC a), .agg (vC b)] w fun e w' => e = .returned (.agg (vC (Val.lessV a b))) ∧ Below w.heap.size w w' := by
  have R : Hid _ := fun (W : World) => sValueRight a W
  have R2 : Hid _ := fun (W : World) => sValueRight b W
  have T : Hid _ := fun (h1 : Val.right a = true) (h2 : Val.right b = true) (W : World) => sLess0 a b W (Val.right_text a h1) (Val.right_text b h2)
  have TF : Hid (∀ w1, Below (((w.alloc (.cells (vC a) 24)).alloc (.cells (vC b) 24)).alloc zObj).heap.size (((w.alloc (.cells (vC a) 24)).alloc (.cells (vC b) 24)).alloc zObj) w1 → Lies w1 w.heap.size a ∧ Lies w1 (w.heap.size + 1) b ∧ Lies w1 (w.heap.size + 1 + 1) Val.zeroV ∧ Below w.heap.size w w1) := fun w1 h => three_lies h
  obtain ⟨A, hA⟩ : ∃ B, Val.right a = B := ⟨_, rfl⟩
  obtain ⟨B, hB⟩ : ∃ B, Val.right b = B := ⟨_, rfl⟩
  obtain ⟨⟨ck, cn, ct⟩, hC⟩ : ∃ C, Val.less a b = C := ⟨_, rfl⟩
  have hE : Val.lessV a b = if (A && B) = true then ⟨ck, cn, ct⟩ else Val.zeroV := by unfold Val.lessV; rw [hA, hB, hC]
  rw [hA] at R T
  rw [hB] at R2 T
  rw [hC] at T
  rw [hE]
  clear hA hB hC hE
  obtain ⟨k, n, t⟩ := a
  obtain ⟨k2, n2, t2⟩ := b
  unfold zObj at TF
  unfold vC at *
  dsimp only at *
  go_enter Tryz.func12, Tryz.ntmps12
  go_wp2_with fail
  refine (R.out _).mono ?_
  rintro e w1 ⟨rfl, hb1⟩
  obtain ⟨l1, l2, l3, hbw⟩ := TF.out _ hb1
  clear hb1 TF
  have hR0 : w.heap.size ≤ w.heap.size + 1 + 1 := by omega
  obtain ⟨⟨r0, r1, r2⟩, f0, f1, f2⟩ := l1.three
  obtain ⟨⟨s0, s1, s2⟩, g0, g1, g2⟩ := l2.three
  obtain ⟨⟨z0, z1, z2⟩, h0, h1, h2⟩ := l3.three
  have hltZ := l3.lt
  dsimp only [Val.zeroV, Val.e0] at r0 r1 r2 s0 s1 s2 z0 z1 z2
  cases A
  · go_wp2_with fail
    refine bodyPost_ret (v := .agg #[.int .i64 0, .int .i64 0, .string ⟨#[]⟩]) (by simp [results, Tryz.results12, go_sem, z0, z1, z2]) rfl ⟨rfl, ?_⟩
    exact ((hbw.setCell (by exact hR0) _).setCell (by exact hR0) _).setCell (by exact hR0) _
  · go_wp2_with fail
    refine (R2.out _).mono ?_
    rintro e w2 ⟨rfl, hb2⟩
    replace l1 := l1.keep hb2
    replace l2 := l2.keep hb2
    replace l3 := l3.keep hb2
    have hbw2 := hbw.trans (hb2.mono hbw.size)
    clear hb2 hbw r0 r1 r2 s0 s1 s2 f0 f1 f2 g0 g1 g2 z0 z1 z2 h0 h1 h2 hltZ
    obtain ⟨⟨r0, r1, r2⟩, f0, f1, f2⟩ := l1.three
    obtain ⟨⟨s0, s1, s2⟩, g0, g1, g2⟩ := l2.three
    obtain ⟨⟨z0, z1, z2⟩, h0, h1, h2⟩ := l3.three
    have hltZ := l3.lt
    dsimp only [Val.zeroV, Val.e0] at r0 r1 r2 s0 s1 s2 z0 z1 z2
    cases B
    · go_wp2_with fail
      refine bodyPost_ret (v := .agg #[.int .i64 0, .int .i64 0, .string ⟨#[]⟩]) (by simp [results, Tryz.results12, go_sem, z0, z1, z2]) rfl ⟨rfl, ?_⟩
      exact ((hbw2.setCell (by exact hR0) _).setCell (by exact hR0) _).setCell (by exact hR0) _
    · go_wp2_with fail
      refine (T.out (by trivial) (by trivial) _).mono ?_
      rintro e w3 ⟨rfl, hb3⟩
      have hbf := hbw2.trans (hb3.mono hbw2.size)
      clear z0 z1 z2 h0 h1 h2 hltZ
      obtain ⟨⟨z0, z1, z2⟩, h0, h1, h2⟩ := (l3.keep hb3).three
      have hltZ := (l3.keep hb3).lt
      dsimp only [Val.zeroV, Val.e0] at z0 z1 z2
      go_wp2_with fail
      refine bodyPost_ret (v := .agg #[.int .i64 ck, .int .i64 cn, .string ct]) (by simp [results, Tryz.results12, go_sem, z0, z1, z2]) rfl ⟨rfl, ?_⟩
      exact ((hbf.setCell (by exact hR0) _).setCell (by exact hR0) _).setCell (by exact hR0) _

/-- The world in which a function of two values has laid them, its result, and their pair. -/
def wPairR (w : World) (a b : Val.VV) : World := (((w.alloc (.cells (vC a) 24)).alloc (.cells (vC b) 24)).alloc zObj).alloc (.cells (pC a b) 53)
theorem wPairR_lies (w : World) (a b : Val.VV) : LiesP (wPairR w a b) (w.heap.size + 1 + 1 + 1) a b ∧ Lies (wPairR w a b) (w.heap.size + 1 + 1) Val.zeroV ∧ Below w.heap.size w (wPairR w a b) := by
  have h0 := three_lies (w := w) (a := a) (b := b) (Below.refl _ _)
  refine ⟨?_, h0.2.2.1.grow _, h0.2.2.2.alloc h0.2.2.2.size _⟩
  have := liesP_new (((w.alloc (.cells (vC a) 24)).alloc (.cells (vC b) 24)).alloc zObj) a b
  rw [World.size_alloc, World.size_alloc, World.size_alloc] at this
  exact this

set_option maxHeartbeats 4000000 in
theorem iLess (a b : Val.VV) (w : World) (hp : PowIn w) (he : ErrIn w) : Calls Tryz.prog 11 #[.agg (vC a), .agg (vC b)] w fun e w' => e = .returned (.agg (vC (Val.lessV a b))) ∧ Below w.heap.size w w' := by
  have R : Hid _ := fun (W : World) => iPairRight a b W
  have T : Hid _ := fun (h : (Val.right a && Val.right b) = true) (W : World) (hp : PowIn W) => iOrder a b W (by simp at h; exact h.1) (by simp at h; exact h.2) hp
  have TL : Hid _ := fun (x y : Val.VV) (W : World) => iTextLess x y W
  have NL : Hid _ := fun (x y : Val.VV) (hx : Val.right x = true) (hy : Val.right y = true) (W : World) => iNumberLess x y W hx hy
  have TV : Hid _ := fun (c : Bool) (W : World) => iTruthValue c W
  have AN : Hid _ := fun (t : Value) (W : World) => asNil t W
  have AH : Hid _ := fun (b : Nat) (t : Nat) (W : World) (he : ErrIn W) (h1 : W.cell? ⟨t, 0, none⟩ = some (.pointer none)) (h2 : W.frozen? ⟨t, 0, none⟩ = false) => asHit ⟨b, 0, none⟩ ⟨t, 0, none⟩ (.pointer none) W he h1 h2
  have HP : Hid (PowIn w ∧ ErrIn w) := ⟨hp, he⟩
  clear hp he
  obtain ⟨A, hA⟩ : ∃ B, (Val.right a && Val.right b) = B := ⟨_, rfl⟩
  obtain ⟨C, hC⟩ : ∃ C, Val.less a b = C := ⟨_, rfl⟩
  have hE : Val.lessV a b = if A = true then C else Val.zeroV := by unfold Val.lessV; rw [hA, hC]
  rw [hA] at R T
  rw [hC] at T
  rw [hE]
  clear hA hC hE
  have HL : Hid (LiesP (wPairR w a b) (w.heap.size + 1 + 1 + 1) a b ∧ Lies (wPairR w a b) (w.heap.size + 1 + 1) Val.zeroV ∧ Below w.heap.size w (wPairR w a b)) := wPairR_lies w a b
  unfold wPairR zObj at HL
  obtain ⟨k, n, t⟩ := a
  obtain ⟨k2, n2, t2⟩ := b
  unfold vC at *
  unfold pC at *
  dsimp only at *
  go_enter Tryz.func11, Tryz.ntmps11
  go_wp2_with fail
  refine (R.out _).mono ?_
  rintro e w1 ⟨rfl, hb1⟩
  have L1 := HL.out.1.keep hb1
  have L3 := HL.out.2.1.keep hb1
  have hbw : Below w.heap.size w w1 := HL.out.2.2.trans (hb1.mono HL.out.2.2.size)
  clear hb1 HL
  generalize hX : w.heap.size + 1 + 1 + 1 = X at *
  generalize hZ : w.heap.size + 1 + 1 = Z at *
  have hR0 : w.heap.size ≤ Z := by omega
  clear hX hZ
  have hltX := L1.lt
  have hltZ := L3.lt
  obtain ⟨⟨r0, r1, r2, r3, r4, r5⟩, f0, f1, f2, f3, f4, f5⟩ := L1.six
  obtain ⟨⟨z0, z1, z2⟩, h0, h1, h2⟩ := L3.three
  dsimp only [Val.zeroV, Val.e0] at r0 r1 r2 r3 r4 r5 z0 z1 z2
  cases A
  · go_wp2_with fail
    refine bodyPost_ret (v := .agg #[.int .i64 0, .int .i64 0, .string ⟨#[]⟩]) (by simp [results, Tryz.results11, go_sem, z0, z1, z2]) rfl ⟨rfl, ?_⟩
    exact ((hbw.setCell (by exact hR0) _).setCell (by exact hR0) _).setCell (by exact hR0) _
  go_wp2_with fail
  refine (T.out (by trivial) _ (HP.out.1.keep hbw)).mono ?_
  rintro e w2 ⟨g, x, y, rfl, hfn, hb2⟩
  have hbw2 := hbw.trans (hb2.mono hbw.size)
  replace L3 := L3.keep hb2
  obtain ⟨xk, xn, xt⟩ := x
  obtain ⟨yk, yn, yt⟩ := y
  have CA : Hid (∀ W : World, Calls Tryz.prog g #[.agg #[.int .i64 xk, .int .i64 xn, .string xt, .int .i64 yk, .int .i64 yn, .string yt]] W fun e w' => ∃ c E, e = .returned (.tuple #[.bool c, E]) ∧ SaysB w' C c E ∧ Below W.heap.size W w') := by
    show ∀ W : World, _
    intro W
    rcases hfn with ⟨rfl, hv⟩ | ⟨rfl, hx, hy, hv⟩
    · rw [← hv]; exact TL.out ⟨xk, xn, xt⟩ ⟨yk, yn, yt⟩ W
    · rw [← hv]; exact NL.out ⟨xk, xn, xt⟩ ⟨yk, yn, yt⟩ hx hy W
  have hg : g = 85 ∨ g = 86 := by
    rcases hfn with ⟨rfl, _⟩ | ⟨rfl, _⟩
    · exact .inl rfl
    · exact .inr rfl
  clear hfn hb2 hbw TL NL T R L1 r0 r1 r2 r3 r4 r5 f0 f1 f2 f3 f4 f5 z0 z1 z2 h0 h1 h2 hltX hltZ
  rcases hg with rfl | rfl
  case' inl => go_wp2_with fail
  case' inr => go_wp2_with fail
  all_goals
    refine (CA.out _).mono ?_
    rintro e w3 ⟨c, E, rfl, sy, hb3⟩
    have hbw3 := hbw2.trans (hb3.mono hbw2.size)
    have hZ3 := (L3.keep hb3).lt
    replace L3 := (L3.keep hb3).grow (.cells #[.pointer none] 61)
    have hT := heap_alloc_new w3 (.cells #[.pointer none] 61)
    have hbT : Below w.heap.size w (w3.alloc (.cells #[.pointer none] 61)) := hbw3.alloc hbw3.size _
    have hS3 := hbw3.size
    have HT : Hid (_ ∧ _ ∧ _) := ⟨hT, hbT, L3⟩
    clear hT hbT L3 hbw2 CA
    have hge : ∀ o : Obj, Below w3.heap.size w3 (w3.alloc o) := fun o => (Below.refl _ _).alloc (Nat.le_refl _) o
    have HG : Hid _ := hge
    clear hge hb3 hbw3
    cases sy with
    | so h =>
      subst h
      go_wp2_with fail
      refine (AN.out _ _).mono ?_
      rintro e w4 ⟨rfl, rfl⟩
      go_wp2_with fail
      refine (TV.out c _).mono ?_
      rintro e w5 ⟨rfl, hb5⟩
      obtain ⟨_, hbT, L3⟩ := HT.out
      have hbf := hbT.trans (hb5.mono hbT.size)
      have hltZ := (L3.keep hb5).lt
      obtain ⟨⟨z0, z1, z2⟩, h0, h1, h2⟩ := (L3.keep hb5).three
      dsimp only [Val.zeroV, Val.e0] at z0 z1 z2
      go_wp2_with fail
      refine bodyPost_ret (v := .agg (vC (Val.boolV c))) (by simp [vC, results, Tryz.results11, go_sem, z0, z1, z2]) rfl ⟨rfl, ?_⟩
      exact ((hbf.setCell (by exact hR0) _).setCell (by exact hR0) _).setCell (by exact hR0) _
    | none b hl h =>
      subst h
      go_wp2_with fail
      obtain ⟨hT, hbT, L3⟩ := HT.out
      obtain ⟨t0, u0⟩ := one_of hT
      refine (AH.out b w3.heap.size _ (HP.out.2.keep hbT) t0 u0).mono ?_
      rintro e w' ⟨rfl, w4, hb4, rfl⟩
      have hbf := hbT.trans (hb4.mono hbT.size)
      have hltZ := (L3.keep hb4).lt
      have hneZ : ¬ Z = w3.heap.size := by omega
      obtain ⟨⟨z0, z1, z2⟩, h0, h1, h2⟩ := (L3.keep hb4).three
      dsimp only [Val.zeroV, Val.e0] at z0 z1 z2
      go_wp2_with fail
      refine bodyPost_ret (v := .agg #[.int .i64 0, .int .i64 0, .string ⟨#[]⟩]) (by simp [results, Tryz.results11, go_sem, z0, z1, z2]) rfl ⟨rfl, ?_⟩
      exact (((hbf.setCell (by exact hS3) _).setCell (by exact hR0) _).setCell (by exact hR0) _).setCell (by exact hR0) _

end Go.Proofs.YtjgekikcmkicmaaGreatDoor

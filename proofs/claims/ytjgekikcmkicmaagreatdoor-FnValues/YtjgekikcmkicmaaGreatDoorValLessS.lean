/-
  The walks of the specification's l04Less, Less.
-/
import Derived.Test.YtjgekikcmkicmaaGreatDoorValEqS
import Derived.Test.YtjgekikcmkicmaaGreatDoorValBo
namespace Go.Proofs.YtjgekikcmkicmaaGreatDoor
namespace Val
def less (a b : VV) : VV :=
  if (plainV a).kind = 5 ∧ (plainV b).kind = 5 then boolV (Op.bytesLess (plainV a).text.toList (plainV b).text.toList)
  else if (numberV (plainV a)).kind = 4 ∨ (numberV (plainV b)).kind = 4 then zeroV
  else boolV (decide ((numberV (plainV a)).num < (numberV (plainV b)).num))
def lessV (a b : VV) : VV := if (right a && right b) = true then less a b else zeroV
end Val
open Go.RowKit

/-- What two boxes and the result of a function of two values hold. -/
theorem three_lies {w w1 : World} {a b : Val.VV} (h : Below (((w.alloc (.cells (vC a) 24)).alloc (.cells (vC b) 24)).alloc zObj).heap.size (((w.alloc (.cells (vC a) 24)).alloc (.cells (vC b) 24)).alloc zObj) w1) :
    Lies w1 w.heap.size a ∧ Lies w1 (w.heap.size + 1) b ∧ Lies w1 (w.heap.size + 1 + 1) Val.zeroV ∧ Below w.heap.size w w1 := by
  refine ⟨((lies_two w a b).1.grow _).keep h, ((lies_two w a b).2.grow _).keep h, ?_, ?_⟩
  · have h2 := lies_new ((w.alloc (.cells (vC a) 24)).alloc (.cells (vC b) 24)) Val.zeroV
    rw [World.size_alloc, World.size_alloc] at h2
    exact Lies.keep h2 h
  · have hb : Below w.heap.size w (((w.alloc (.cells (vC a) 24)).alloc (.cells (vC b) 24)).alloc zObj) := (((Below.refl _ _).alloc (Nat.le_refl _) _).alloc (by simp) _).alloc (by simp; omega) _
    exact hb.trans (h.mono hb.size)

set_option maxHeartbeats 4000000 in
theorem sLess0 (a b : Val.VV) (w : World) (ha : a.text.size ≤ 1000) (hb : b.text.size ≤ 1000) :
    Calls Tryz.prog 44 #[.agg (vC a), .agg (vC b)] w fun e w' => e = .returned (.agg (vC (Val.less a b))) ∧ Below w.heap.size w w' := by
  have BO : Hid _ := fun (c : Bool) (W : World) => sBool c W
  have PL : Hid _ := fun (x : Val.VV) (W : World) => sPlain x W
  have NU : Hid _ := fun (x : Val.VV) (W : World) (h : x.text.size ≤ 1000) => sNumber x W (by omega)
  have TF : Hid (∀ w1, Below (((w.alloc (.cells (vC a) 24)).alloc (.cells (vC b) 24)).alloc zObj).heap.size (((w.alloc (.cells (vC a) 24)).alloc (.cells (vC b) 24)).alloc zObj) w1 → Lies w1 w.heap.size a ∧ Lies w1 (w.heap.size + 1) b ∧ Lies w1 (w.heap.size + 1 + 1) Val.zeroV ∧ Below w.heap.size w w1) := fun w1 h => three_lies h
  have hpa := Val.plain_size a ha
  have hpb := Val.plain_size b hb
  obtain ⟨⟨rk, rn, rt⟩, hR⟩ : ∃ R, Val.less a b = R := ⟨_, rfl⟩
  have HR : Hid (Val.less a b = ⟨rk, rn, rt⟩) := hR
  rw [hR]
  clear hR ha hb
  unfold Val.less at HR
  have PA : Hid _ := fun (W : World) => PL.out a W
  have PB : Hid _ := fun (W : World) => PL.out b W
  clear PL
  obtain ⟨⟨pk, pn, pt⟩, hP⟩ : ∃ p, Val.plainV a = p := ⟨_, rfl⟩
  obtain ⟨⟨qk, qn, qt⟩, hQ⟩ : ∃ q, Val.plainV b = q := ⟨_, rfl⟩
  rw [hP] at PA HR hpa
  rw [hQ] at PB HR hpb
  clear hP hQ
  obtain ⟨ak, an, at'⟩ := a
  obtain ⟨bk, bn, bt⟩ := b
  unfold zObj at TF
  unfold vC at *
  dsimp only at *
  go_enter Tryz.func44, Tryz.ntmps44
  go_wp2_with fail
  refine (PA.out _).mono ?_
  rintro e w3 ⟨rfl, hb3⟩
  obtain ⟨l1, l2, l3, hbw⟩ := TF.out _ hb3
  clear hb3 TF PA
  obtain ⟨⟨r0, r1, r2⟩, f0, f1, f2⟩ := l1.three
  obtain ⟨⟨s0, s1, s2⟩, g0, g1, g2⟩ := l2.three
  have hlt1 := l1.lt
  have hlt2 := l2.lt
  dsimp only at r0 r1 r2 s0 s1 s2
  go_wp2_with fail
  have hne : w.heap.size + 1 ≠ w.heap.size := by omega
  have hne2 : w.heap.size + 1 + 1 ≠ w.heap.size := by omega
  have hne3 : w.heap.size + 1 + 1 ≠ w.heap.size + 1 := by omega
  replace l1 := l1.put ⟨pk, pn, pt⟩
  replace l2 := l2.putOther w.heap.size ⟨pk, pn, pt⟩ hne
  replace l3 := l3.putOther w.heap.size ⟨pk, pn, pt⟩ hne2
  replace hbw := put3_below hbw w.heap.size ⟨pk, pn, pt⟩ (Nat.le_refl _)
  unfold put3 at l1 l2 l3 hbw
  dsimp only at l1 l2 l3 hbw
  clear r0 r1 r2 f0 f1 f2 s0 s1 s2 g0 g1 g2 hlt1 hlt2
  generalize ((w3.setCell ⟨w.heap.size, 0, none⟩ (.int .i64 pk)).setCell ⟨w.heap.size, 1, none⟩ (.int .i64 pn)).setCell ⟨w.heap.size, 2, none⟩ (.string pt) = w4 at *
  refine (PB.out _).mono ?_
  rintro e w5 ⟨rfl, hb5⟩
  replace l1 := l1.keep hb5
  replace l2 := l2.keep hb5
  replace l3 := l3.keep hb5
  replace hbw := hbw.trans (hb5.mono hbw.size)
  clear hb5 PB
  obtain ⟨⟨r0, r1, r2⟩, f0, f1, f2⟩ := l1.three
  obtain ⟨⟨s0, s1, s2⟩, g0, g1, g2⟩ := l2.three
  have hlt1 := l1.lt
  have hlt2 := l2.lt
  dsimp only at r0 r1 r2 s0 s1 s2
  have m1 := l1.putOther (w.heap.size + 1) ⟨qk, qn, qt⟩ hne.symm
  have m2 := l2.put ⟨qk, qn, qt⟩
  have m3 := l3.putOther (w.heap.size + 1) ⟨qk, qn, qt⟩ hne3
  have hbm := put3_below hbw (w.heap.size + 1) ⟨qk, qn, qt⟩ (by omega)
  unfold put3 at m1 m2 m3 hbm
  dsimp only at m1 m2 m3 hbm
  have HM : Hid (_ ∧ _ ∧ _ ∧ _) := ⟨m1, m2, m3, hbm⟩
  clear m1 m2 m3 hbm hbw l1 l2 l3 hne hne2 hne3
  by_cases ht : pk = 5 ∧ qk = 5
  · obtain ⟨rfl, rfl⟩ := ht
    have HE : Hid (Val.boolV (Op.bytesLess pt.toList qt.toList) = ⟨rk, rn, rt⟩) := by have := HR.out; rw [if_pos ⟨rfl, rfl⟩] at this; exact this
    have BB : Hid _ := fun (W : World) => BO.out (Op.bytesLess pt.toList qt.toList) W
    rw [HE.out] at BB
    clear HR NU BO HE
    dsimp only at BB
    go_wp2_with fail
    obtain ⟨l1, l2, l3, hbw⟩ := HM.out
    clear r0 r1 r2 f0 f1 f2 s0 s1 s2 g0 g1 g2 hlt1 hlt2 HM
    generalize ((w5.setCell ⟨w.heap.size + 1, 0, none⟩ (.int .i64 5)).setCell ⟨w.heap.size + 1, 1, none⟩ (.int .i64 qn)).setCell ⟨w.heap.size + 1, 2, none⟩ (.string qt) = w6 at *
    refine (BB.out _).mono ?_
    rintro e w7 ⟨rfl, hb7⟩
    have hbf := hbw.trans (hb7.mono hbw.size)
    have hlt3 := (l3.keep hb7).lt
    obtain ⟨⟨s0, s1, s2⟩, g0, g1, g2⟩ := (l3.keep hb7).three
    dsimp only [Val.zeroV, Val.e0] at s0 s1 s2
    have hR0 : w.heap.size ≤ w.heap.size + 1 + 1 := by omega
    go_wp2_with fail
    refine bodyPost_ret (v := .agg #[.int .i64 rk, .int .i64 rn, .string rt]) (by simp [results, Tryz.results44, go_sem, s0, s1, s2]) rfl ⟨rfl, ?_⟩
    exact ((hbf.setCell (by exact hR0) _).setCell (by exact hR0) _).setCell (by exact hR0) _
  have HR1 : Hid ((if (Val.numberV ⟨pk, pn, pt⟩).kind = 4 ∨ (Val.numberV ⟨qk, qn, qt⟩).kind = 4 then Val.zeroV else Val.boolV (decide ((Val.numberV ⟨pk, pn, pt⟩).num < (Val.numberV ⟨qk, qn, qt⟩).num))) = ⟨rk, rn, rt⟩) := (if_neg ht).symm.trans HR.out
  have NP : Hid _ := fun (W : World) => NU.out ⟨pk, pn, pt⟩ W hpa
  have NQ : Hid _ := fun (W : World) => NU.out ⟨qk, qn, qt⟩ W hpb
  obtain ⟨⟨xk, xn, xt⟩, hX⟩ : ∃ p, Val.numberV ⟨pk, pn, pt⟩ = p := ⟨_, rfl⟩
  obtain ⟨⟨yk, yn, yt⟩, hY⟩ : ∃ p, Val.numberV ⟨qk, qn, qt⟩ = p := ⟨_, rfl⟩
  rw [hX] at NP HR1
  rw [hY] at NQ HR1
  dsimp only at NP NQ HR1
  clear HR NU hX hY hpa hpb
  have hcase : (pk == 5) = false ∨ ((pk == 5) = true ∧ (qk == 5) = false) := by
    by_cases h5 : pk = 5
    · refine .inr ⟨by simp [h5], beq_eq_false_iff_ne.2 fun h => ht ⟨h5, h⟩⟩
    · exact .inl (beq_eq_false_iff_ne.2 h5)
  clear ht
  rcases hcase with d5 | ⟨d5, d6⟩
  case' inl => go_wp2_with fail
  case' inr => go_wp2_with fail
  all_goals
    obtain ⟨l1, l2, l3, hbw⟩ := HM.out
    clear r0 r1 r2 f0 f1 f2 s0 s1 s2 g0 g1 g2 hlt1 hlt2 HM
    generalize ((w5.setCell ⟨w.heap.size + 1, 0, none⟩ (.int .i64 qk)).setCell ⟨w.heap.size + 1, 1, none⟩ (.int .i64 qn)).setCell ⟨w.heap.size + 1, 2, none⟩ (.string qt) = w6 at *
    refine (NP.out _).mono ?_
    rintro e w7 ⟨rfl, hb7⟩
    replace l2 := l2.keep hb7
    replace l3 := (l3.keep hb7).grow (.cells #[.int .i64 xk, .int .i64 xn, .string xt] 24)
    replace hbw := hbw.trans (hb7.mono hbw.size)
    have lX : Lies (w7.alloc (.cells #[.int .i64 xk, .int .i64 xn, .string xt] 24)) w7.heap.size ⟨xk, xn, xt⟩ := lies_new w7 ⟨xk, xn, xt⟩
    have hbX : Below w.heap.size w (w7.alloc (.cells #[.int .i64 xk, .int .i64 xn, .string xt] 24)) := hbw.alloc hbw.size _
    have HX : Hid (_ ∧ _ ∧ _) := ⟨lX, l3, hbX⟩
    obtain ⟨⟨s0, s1, s2⟩, g0, g1, g2⟩ := l2.three
    have hlt2 := l2.lt
    dsimp only at s0 s1 s2
    clear hb7 l1 l3 lX hbX hbw
    go_wp2_with fail
    refine (NQ.out _).mono ?_
    rintro e w8 ⟨rfl, hb8⟩
    obtain ⟨lX, l3, hbX⟩ := HX.out
    replace lX := lX.keep hb8
    replace l3 := l3.keep hb8
    replace hbX := hbX.trans (hb8.mono hbX.size)
    have hX0 : w.heap.size ≤ w7.heap.size := by have := l2.lt; omega
    clear hb8 HX s0 s1 s2 g0 g1 g2 hlt2 l2 NP NQ
    obtain ⟨⟨r0, r1, r2⟩, f0, f1, f2⟩ := lX.three
    obtain ⟨⟨s0, s1, s2⟩, g0, g1, g2⟩ := l3.three
    have hltX := lX.lt
    have hltR := l3.lt
    dsimp only [Val.zeroV, Val.e0] at r0 r1 r2 s0 s1 s2
    generalize hX1 : w7.heap.size = X1 at *
    clear hX1
    generalize hRR : w.heap.size + 1 + 1 = R0 at *
    have hR0 : w.heap.size ≤ R0 := by omega
    clear hRR
    have HF : Hid (∀ o, Lies (w8.alloc o) R0 Val.zeroV ∧ Below w.heap.size w (w8.alloc o)) := fun o => ⟨l3.grow o, hbX.alloc hbX.size o⟩
    clear l3 hbX lX
    by_cases hbad : xk = 4 ∨ yk = 4
    · have HE : Hid (Val.zeroV = ⟨rk, rn, rt⟩) := (if_pos hbad).symm.trans HR1.out
      clear HR1 BO
      rcases Decidable.em (xk = 4) with hx4 | hx4
      · subst hx4
        go_wp2_with fail
        refine bodyPost_ret (v := .agg #[.int .i64 0, .int .i64 0, .string ⟨#[]⟩]) (by simp [results, Tryz.results44, go_sem, s0, s1, s2, hltR]) rfl ⟨congrArg (fun x => Ending.returned (.agg (vC x))) HE.out, ?_⟩
        have hq := (((HF.out (.cells #[.int .i64 yk, .int .i64 yn, .string yt] 24)).2.setCell (p := ⟨R0, 0, none⟩) hR0 (.int .i64 0)).setCell (p := ⟨R0, 1, none⟩) hR0 (.int .i64 0)).setCell (p := ⟨R0, 2, none⟩) hR0 (.string ⟨#[]⟩)
        simpa [go_sem, hltR] using hq
      · have hy4 : yk = 4 := hbad.resolve_left hx4
        subst hy4
        have d1 : (xk == 4) = false := beq_eq_false_iff_ne.2 hx4
        go_wp2_with fail
        refine bodyPost_ret (v := .agg #[.int .i64 0, .int .i64 0, .string ⟨#[]⟩]) (by simp [results, Tryz.results44, go_sem, s0, s1, s2, hltR]) rfl ⟨congrArg (fun x => Ending.returned (.agg (vC x))) HE.out, ?_⟩
        have hq := (((HF.out (.cells #[.int .i64 4, .int .i64 yn, .string yt] 24)).2.setCell (p := ⟨R0, 0, none⟩) hR0 (.int .i64 0)).setCell (p := ⟨R0, 1, none⟩) hR0 (.int .i64 0)).setCell (p := ⟨R0, 2, none⟩) hR0 (.string ⟨#[]⟩)
        simpa [go_sem, hltR] using hq
    · have HE : Hid (Val.boolV (decide (xn < yn)) = ⟨rk, rn, rt⟩) := (if_neg hbad).symm.trans HR1.out
      have d1 : (xk == 4) = false := beq_eq_false_iff_ne.2 fun h => hbad (.inl h)
      have d2 : (yk == 4) = false := beq_eq_false_iff_ne.2 fun h => hbad (.inr h)
      have BB : Hid _ := fun (W : World) => BO.out (decide (xn < yn)) W
      rw [HE.out] at BB
      dsimp only at BB
      clear HR1 BO HE hbad
      go_wp2_with fail
      refine (BB.out _).mono ?_
      rintro e w9 ⟨rfl, hb9⟩
      obtain ⟨l3, hbX⟩ := HF.out (.cells #[.int .i64 yk, .int .i64 yn, .string yt] 24)
      have hbf := hbX.trans (hb9.mono hbX.size)
      have hlt3 := (l3.keep hb9).lt
      clear s0 s1 s2 g0 g1 g2 r0 r1 r2 f0 f1 f2
      obtain ⟨⟨s0, s1, s2⟩, g0, g1, g2⟩ := (l3.keep hb9).three
      dsimp only [Val.zeroV, Val.e0] at s0 s1 s2
      go_wp2_with fail
      refine bodyPost_ret (v := .agg #[.int .i64 rk, .int .i64 rn, .string rt]) (by simp [results, Tryz.results44, go_sem, s0, s1, s2]) rfl ⟨rfl, ?_⟩
      exact ((hbf.setCell (by exact hR0) _).setCell (by exact hR0) _).setCell (by exact hR0) _

end Go.Proofs.YtjgekikcmkicmaaGreatDoor

/-
  The walks of the specification's l04Nothing, l04Equal, Equal.
-/
import Derived.Test.YtjgekikcmkicmaaGreatDoorValPut
import Derived.Test.YtjgekikcmkicmaaGreatDoorValPl
import Derived.Test.YtjgekikcmkicmaaGreatDoorValNum
import Derived.Deep.CutRange
import Derived.Deep.RegionWith
import Derived.BigRegion
namespace Go.Proofs.YtjgekikcmkicmaaGreatDoor
namespace Val
def miss (v : VV) : Bool := decide (v.kind = 0) || decide (v.kind = 1)
def equal (a b : VV) : Bool :=
  if a.kind = b.kind then alike a b
  else if (miss a || miss b) = true then miss a && miss b
  else if (plainV a).kind = (plainV b).kind then alike (plainV a) (plainV b)
  else alike (numberV (plainV a)) (numberV (plainV b))
def equalV (a b : VV) : Bool := right a && right b && equal a b
theorem plain_size (v : VV) (h : v.text.size ≤ 1000) : (plainV v).text.size ≤ 1000 := by
  unfold plainV
  by_cases g : v.kind = 6
  · rw [if_pos g]; decide
  · rw [if_neg g]; exact h
end Val
open Go.RowKit

set_option maxHeartbeats 1000000 in
theorem sNothing (v : Val.VV) (w : World) : Calls Tryz.prog 83 #[.agg (vC v)] w fun e w' => e = .returned (.bool (Val.miss v)) ∧ Below w.heap.size w w' := by
  unfold vC
  obtain ⟨k, n, t⟩ := v
  dsimp only
  have HB : Hid (∀ o, Below w.heap.size w (w.alloc o)) := fun o => (Below.refl _ _).alloc (Nat.le_refl _) o
  go_enter Tryz.func83, Tryz.ntmps83
  go_wp2
  all_goals
    go_ret
    refine ⟨vretB ?_, HB.out _⟩
    go_light
    simp_all [Val.miss]
    all_goals first | rfl | (rw [Bool.eq_iff_iff]; simp; omega)

/-- What two boxes of a function of two values hold. -/
theorem two_lies {w w1 : World} {a b : Val.VV} (h : Below ((w.alloc (.cells (vC a) 24)).alloc (.cells (vC b) 24)).heap.size ((w.alloc (.cells (vC a) 24)).alloc (.cells (vC b) 24)) w1) :
    Lies w1 w.heap.size a ∧ Lies w1 (w.heap.size + 1) b ∧ Below w.heap.size w w1 := by
  refine ⟨(lies_two w a b).1.keep h, (lies_two w a b).2.keep h, ?_⟩
  have hb : Below w.heap.size w ((w.alloc (.cells (vC a) 24)).alloc (.cells (vC b) 24)) := ((Below.refl _ _).alloc (Nat.le_refl _) _).alloc (by simp) _
  exact hb.trans (h.mono hb.size)

set_option maxHeartbeats 4000000 in
theorem sEqual0 (a b : Val.VV) (w : World) (ha : a.text.size ≤ 1000) (hb : b.text.size ≤ 1000) :
    Calls Tryz.prog 40 #[.agg (vC a), .agg (vC b)] w fun e w' => e = .returned (.bool (Val.equal a b)) ∧ Below w.heap.size w w' := by
  have AL : Hid _ := fun (x y : Val.VV) (W : World) => sAlike0 x y W
  have NO : Hid _ := fun (x : Val.VV) (W : World) => sNothing x W
  have PL : Hid _ := fun (x : Val.VV) (W : World) => sPlain x W
  have NU : Hid _ := fun (x : Val.VV) (W : World) (h : x.text.size ≤ 1000) => sNumber x W (by omega)
  have TF : Hid (∀ w1, Below ((w.alloc (.cells (vC a) 24)).alloc (.cells (vC b) 24)).heap.size ((w.alloc (.cells (vC a) 24)).alloc (.cells (vC b) 24)) w1 → Lies w1 w.heap.size a ∧ Lies w1 (w.heap.size + 1) b ∧ Below w.heap.size w w1) := fun w1 h => two_lies h
  have hpa := Val.plain_size a ha
  have hpb := Val.plain_size b hb
  obtain ⟨R, hR⟩ : ∃ R, Val.equal a b = R := ⟨_, rfl⟩
  have HR : Hid (Val.equal a b = R) := hR
  rw [hR]
  clear hR
  unfold Val.equal at HR
  obtain ⟨ak, an, at'⟩ := a
  obtain ⟨bk, bn, bt⟩ := b
  have TF0 := TF.out _ (Below.refl _ _)
  unfold vC at *
  dsimp only at *
  go_enter Tryz.func40, Tryz.ntmps40
  by_cases hk : ak = bk
  · subst hk
    have HE : Hid (Val.alike ⟨ak, an, at'⟩ ⟨ak, bn, bt⟩ = R) := by have := HR.out; rw [if_pos rfl] at this; exact this
    clear HR NO PL NU
    go_wp2_with fail
    refine (AL.out ⟨ak, an, at'⟩ ⟨ak, bn, bt⟩ _).mono ?_
    rw [HE.out]
    rintro e w1 ⟨rfl, hb1⟩
    obtain ⟨_, _, hbw⟩ := TF.out _ hb1
    go_wp2_with fail
    go_ret
    exact ⟨rfl, hbw⟩
  have dk : (ak == bk) = false := beq_eq_false_iff_ne.2 hk
  have HR1 : Hid ((if (Val.miss ⟨ak, an, at'⟩ || Val.miss ⟨bk, bn, bt⟩) = true then Val.miss ⟨ak, an, at'⟩ && Val.miss ⟨bk, bn, bt⟩ else if (Val.plainV ⟨ak, an, at'⟩).kind = (Val.plainV ⟨bk, bn, bt⟩).kind then Val.alike (Val.plainV ⟨ak, an, at'⟩) (Val.plainV ⟨bk, bn, bt⟩) else Val.alike (Val.numberV (Val.plainV ⟨ak, an, at'⟩)) (Val.numberV (Val.plainV ⟨bk, bn, bt⟩))) = R) := (if_neg hk).symm.trans HR.out
  clear HR hk
  have NA : Hid _ := fun (W : World) => NO.out ⟨ak, an, at'⟩ W
  have NB : Hid _ := fun (W : World) => NO.out ⟨bk, bn, bt⟩ W
  clear NO
  obtain ⟨MA, hMA⟩ : ∃ MA, Val.miss ⟨ak, an, at'⟩ = MA := ⟨_, rfl⟩
  obtain ⟨MB, hMB⟩ : ∃ MB, Val.miss ⟨bk, bn, bt⟩ = MB := ⟨_, rfl⟩
  rw [hMA] at NA HR1
  rw [hMB] at NB HR1
  clear hMA hMB
  go_wp2_with fail
  refine (NA.out _).mono ?_
  rintro e w1 ⟨rfl, hb1⟩
  obtain ⟨l1, l2, hbw⟩ := TF.out _ hb1
  clear hb1 TF TF0
  obtain ⟨⟨r0, r1, r2⟩, f0, f1, f2⟩ := l1.three
  obtain ⟨⟨s0, s1, s2⟩, g0, g1, g2⟩ := l2.three
  have hlt1 := l1.lt
  have hlt2 := l2.lt
  dsimp only at r0 r1 r2 s0 s1 s2
  cases MA
  case true =>
    have HE : Hid (MB = R) := by show MB = R; have := HR1.out; simpa using this
    clear HR1
    go_wp2_with fail
    refine (NA.out _).mono ?_
    rintro e w2 ⟨rfl, hb2⟩
    replace l2 := l2.keep hb2
    replace hbw := hbw.trans (hb2.mono hbw.size)
    clear hb2 r0 r1 r2 f0 f1 f2 s0 s1 s2 g0 g1 g2 hlt1 hlt2 l1
    obtain ⟨⟨s0, s1, s2⟩, g0, g1, g2⟩ := l2.three
    have hlt2 := l2.lt
    dsimp only at s0 s1 s2
    go_wp2_with fail
    refine (NB.out _).mono ?_
    rintro e w3 ⟨rfl, hb3⟩
    have hbf := hbw.trans (hb3.mono hbw.size)
    go_wp2_with fail
    go_ret
    exact ⟨vretB HE.out, hbf⟩
  case false =>
    go_wp2_with fail
    refine (NB.out _).mono ?_
    rintro e w2 ⟨rfl, hb2⟩
    replace l1 := l1.keep hb2
    replace l2 := l2.keep hb2
    replace hbw := hbw.trans (hb2.mono hbw.size)
    clear hb2 r0 r1 r2 f0 f1 f2 s0 s1 s2 g0 g1 g2 hlt1 hlt2
    obtain ⟨⟨r0, r1, r2⟩, f0, f1, f2⟩ := l1.three
    obtain ⟨⟨s0, s1, s2⟩, g0, g1, g2⟩ := l2.three
    have hlt1 := l1.lt
    have hlt2 := l2.lt
    dsimp only at r0 r1 r2 s0 s1 s2
    cases MB
    case true =>
      have HE : Hid (false = R) := by show false = R; have := HR1.out; simpa using this
      clear HR1
      go_wp2_with fail
      refine (NA.out _).mono ?_
      rintro e w3 ⟨rfl, hb3⟩
      have hbf := hbw.trans (hb3.mono hbw.size)
      go_wp2_with fail
      go_ret
      exact ⟨vretB HE.out, hbf⟩
    case false =>
      have HR2 : Hid ((if (Val.plainV ⟨ak, an, at'⟩).kind = (Val.plainV ⟨bk, bn, bt⟩).kind then Val.alike (Val.plainV ⟨ak, an, at'⟩) (Val.plainV ⟨bk, bn, bt⟩) else Val.alike (Val.numberV (Val.plainV ⟨ak, an, at'⟩)) (Val.numberV (Val.plainV ⟨bk, bn, bt⟩))) = R) := by
        have := HR1.out
        rw [if_neg (by decide)] at this
        exact this
      clear HR1 NA NB
      have PA : Hid _ := fun (W : World) => PL.out ⟨ak, an, at'⟩ W
      have PB : Hid _ := fun (W : World) => PL.out ⟨bk, bn, bt⟩ W
      clear PL
      obtain ⟨⟨pk, pn, pt⟩, hP⟩ : ∃ p, Val.plainV ⟨ak, an, at'⟩ = p := ⟨_, rfl⟩
      obtain ⟨⟨qk, qn, qt⟩, hQ⟩ : ∃ q, Val.plainV ⟨bk, bn, bt⟩ = q := ⟨_, rfl⟩
      rw [hP] at PA HR2 hpa
      rw [hQ] at PB HR2 hpb
      clear hP hQ ha hb
      dsimp only at HR2 hpa hpb
      dsimp only at PA PB
      go_wp2_with fail
      refine (PA.out _).mono ?_
      rintro e w3 ⟨rfl, hb3⟩
      clear r0 r1 r2 f0 f1 f2 s0 s1 s2 g0 g1 g2 hlt1 hlt2
      replace l1 := l1.keep hb3
      replace l2 := l2.keep hb3
      replace hbw := hbw.trans (hb3.mono hbw.size)
      clear hb3
      obtain ⟨⟨r0, r1, r2⟩, f0, f1, f2⟩ := l1.three
      obtain ⟨⟨s0, s1, s2⟩, g0, g1, g2⟩ := l2.three
      have hlt1 := l1.lt
      have hlt2 := l2.lt
      dsimp only at r0 r1 r2 s0 s1 s2
      go_wp2_with fail
      have hne : w.heap.size + 1 ≠ w.heap.size := by omega
      replace l1 := l1.put ⟨pk, pn, pt⟩
      replace l2 := l2.putOther w.heap.size ⟨pk, pn, pt⟩ hne
      replace hbw := put3_below hbw w.heap.size ⟨pk, pn, pt⟩ (Nat.le_refl _)
      unfold put3 at l1 l2 hbw
      dsimp only at l1 l2 hbw
      clear r0 r1 r2 f0 f1 f2 s0 s1 s2 g0 g1 g2 hlt1 hlt2
      generalize ((w3.setCell ⟨w.heap.size, 0, none⟩ (.int .i64 pk)).setCell ⟨w.heap.size, 1, none⟩ (.int .i64 pn)).setCell ⟨w.heap.size, 2, none⟩ (.string pt) = w4 at *
      refine (PB.out _).mono ?_
      rintro e w5 ⟨rfl, hb5⟩
      replace l1 := l1.keep hb5
      replace l2 := l2.keep hb5
      replace hbw := hbw.trans (hb5.mono hbw.size)
      clear hb5
      obtain ⟨⟨r0, r1, r2⟩, f0, f1, f2⟩ := l1.three
      obtain ⟨⟨s0, s1, s2⟩, g0, g1, g2⟩ := l2.three
      have hlt1 := l1.lt
      have hlt2 := l2.lt
      dsimp only at r0 r1 r2 s0 s1 s2
      have m1 := l1.putOther (w.heap.size + 1) ⟨qk, qn, qt⟩ hne.symm
      have m2 := l2.put ⟨qk, qn, qt⟩
      have hbm := put3_below hbw (w.heap.size + 1) ⟨qk, qn, qt⟩ (by omega)
      unfold put3 at m1 m2 hbm
      dsimp only at m1 m2 hbm
      have HM : Hid (Lies (((w5.setCell ⟨w.heap.size + 1, 0, none⟩ (.int .i64 qk)).setCell ⟨w.heap.size + 1, 1, none⟩ (.int .i64 qn)).setCell ⟨w.heap.size + 1, 2, none⟩ (.string qt)) w.heap.size ⟨pk, pn, pt⟩ ∧ Lies (((w5.setCell ⟨w.heap.size + 1, 0, none⟩ (.int .i64 qk)).setCell ⟨w.heap.size + 1, 1, none⟩ (.int .i64 qn)).setCell ⟨w.heap.size + 1, 2, none⟩ (.string qt)) (w.heap.size + 1) ⟨qk, qn, qt⟩ ∧ Below w.heap.size w (((w5.setCell ⟨w.heap.size + 1, 0, none⟩ (.int .i64 qk)).setCell ⟨w.heap.size + 1, 1, none⟩ (.int .i64 qn)).setCell ⟨w.heap.size + 1, 2, none⟩ (.string qt))) := ⟨m1, m2, hbm⟩
      clear m1 m2 hbm hbw l1 l2
      by_cases hpq : pk = qk
      · subst hpq
        have HE : Hid (Val.alike ⟨pk, pn, pt⟩ ⟨pk, qn, qt⟩ = R) := (if_pos rfl).symm.trans HR2.out
        have AA : Hid _ := fun (W : World) => AL.out ⟨pk, pn, pt⟩ ⟨pk, qn, qt⟩ W
        rw [HE.out] at AA
        dsimp only at AA
        clear HR2 NU AL HE
        go_wp2_with fail
        obtain ⟨l1, l2, hbw⟩ := HM.out
        clear r0 r1 r2 f0 f1 f2 s0 s1 s2 g0 g1 g2 hlt1 hlt2 HM
        generalize ((w5.setCell ⟨w.heap.size + 1, 0, none⟩ (.int .i64 pk)).setCell ⟨w.heap.size + 1, 1, none⟩ (.int .i64 qn)).setCell ⟨w.heap.size + 1, 2, none⟩ (.string qt) = w6 at *
        refine (AA.out _).mono ?_
        rintro e w7 ⟨rfl, hb7⟩
        have hbf := hbw.trans (hb7.mono hbw.size)
        go_wp2_with fail
        go_ret
        exact ⟨rfl, hbf⟩
      · have dpq : (pk == qk) = false := beq_eq_false_iff_ne.2 hpq
        have HE : Hid (Val.alike (Val.numberV ⟨pk, pn, pt⟩) (Val.numberV ⟨qk, qn, qt⟩) = R) := (if_neg hpq).symm.trans HR2.out
        have NP : Hid _ := fun (W : World) => NU.out ⟨pk, pn, pt⟩ W hpa
        have NQ : Hid _ := fun (W : World) => NU.out ⟨qk, qn, qt⟩ W hpb
        have AA : Hid _ := fun (W : World) => AL.out (Val.numberV ⟨pk, pn, pt⟩) (Val.numberV ⟨qk, qn, qt⟩) W
        obtain ⟨⟨xk, xn, xt⟩, hX⟩ : ∃ p, Val.numberV ⟨pk, pn, pt⟩ = p := ⟨_, rfl⟩
        obtain ⟨⟨yk, yn, yt⟩, hY⟩ : ∃ p, Val.numberV ⟨qk, qn, qt⟩ = p := ⟨_, rfl⟩
        rw [HE.out] at AA
        rw [hX] at NP AA
        rw [hY] at NQ AA
        dsimp only at NP NQ AA
        clear HR2 NU AL HE hX hY hpa hpb
        go_wp2_with fail
        obtain ⟨l1, l2, hbw⟩ := HM.out
        clear r0 r1 r2 f0 f1 f2 s0 s1 s2 g0 g1 g2 hlt1 hlt2 HM
        generalize ((w5.setCell ⟨w.heap.size + 1, 0, none⟩ (.int .i64 qk)).setCell ⟨w.heap.size + 1, 1, none⟩ (.int .i64 qn)).setCell ⟨w.heap.size + 1, 2, none⟩ (.string qt) = w6 at *
        obtain ⟨⟨r0, r1, r2⟩, f0, f1, f2⟩ := l1.three
        obtain ⟨⟨s0, s1, s2⟩, g0, g1, g2⟩ := l2.three
        have hlt1 := l1.lt
        have hlt2 := l2.lt
        dsimp only at r0 r1 r2 s0 s1 s2
        go_region_with (first
          | (go_at_call_of 53 pk; refine (NP.out _).mono ?_; rintro e WA ⟨rfl, hA⟩; have hA2 : Below w6.heap.size w6 WA := (Below.refl w6.heap.size w6).drew.trans hA; obtain ⟨⟨a0, a1, a2⟩, -⟩ := (l2.keep hA2).three)
          | (go_at_call_of 53 qk; refine (NQ.out _).mono ?_; rintro e WB ⟨rfl, hB⟩; have hB2 : Below w6.heap.size w6 WB := hA2.trans (hB.mono hA2.size))
          | (go_at_call 38; refine (AA.out _).mono ?_; rintro e WC ⟨rfl, hC⟩))
        all_goals
          go_wp2_with fail
          have hbf := hbw.trans ((hB2.trans (hC.mono hB2.size)).mono hbw.size)
          go_ret
          exact ⟨rfl, hbf⟩

set_option maxHeartbeats 2000000 in
theorem sEqual (a b : Val.VV) (w : World) : Calls Tryz.prog 10 #[.agg (vC a), .agg (vC b)] w fun e w' => e = .returned (.bool (Val.equalV a b)) ∧ Below w.heap.size w w' := by
  have R : Hid _ := fun (W : World) => sValueRight a W
  have R2 : Hid _ := fun (W : World) => sValueRight b W
  have T : Hid _ := fun (h1 : Val.right a = true) (h2 : Val.right b = true) (W : World) => sEqual0 a b W (Val.right_text a h1) (Val.right_text b h2)
  have HB : Hid (∀ o o2, Below w.heap.size w ((w.alloc o).alloc o2)) := fun o o2 => ((Below.refl _ _).alloc (Nat.le_refl _) o).alloc (by simp) o2
  have HL : Hid _ := lies_two w a b
  obtain ⟨A, hA⟩ : ∃ B, Val.right a = B := ⟨_, rfl⟩
  obtain ⟨B, hB⟩ : ∃ B, Val.right b = B := ⟨_, rfl⟩
  obtain ⟨C, hC⟩ : ∃ C, Val.equal a b = C := ⟨_, rfl⟩
  have hE : Val.equalV a b = (A && B && C) := by unfold Val.equalV; rw [hA, hB, hC]
  rw [hA] at R T
  rw [hB] at R2 T
  rw [hC] at T
  rw [hE]
  clear hA hB hC hE
  obtain ⟨k, n, t⟩ := a
  obtain ⟨k2, n2, t2⟩ := b
  unfold vC at *
  dsimp only at *
  go_enter Tryz.func10, Tryz.ntmps10
  go_wp2_with fail
  refine (R.out _).mono ?_
  rintro e w1 ⟨rfl, hb1⟩
  have hbw : Below w.heap.size w w1 := (HB.out _ _).trans (hb1.mono (HB.out _ _).size)
  have L1 := HL.out.1.keep hb1
  have L2 := HL.out.2.keep hb1
  clear hb1
  obtain ⟨⟨r0, r1, r2⟩, f0, f1, f2⟩ := L1.three
  obtain ⟨⟨s0, s1, s2⟩, g0, g1, g2⟩ := L2.three
  dsimp only at r0 r1 r2 s0 s1 s2
  cases A
  · go_wp2_with fail
    go_ret
    exact ⟨rfl, hbw⟩
  · go_wp2_with fail
    refine (R2.out _).mono ?_
    rintro e w2 ⟨rfl, hb2⟩
    replace L1 := L1.keep hb2
    replace L2 := L2.keep hb2
    have hbw2 := hbw.trans (hb2.mono hbw.size)
    clear hb2 hbw r0 r1 r2 s0 s1 s2 f0 f1 f2 g0 g1 g2
    obtain ⟨⟨r0, r1, r2⟩, f0, f1, f2⟩ := L1.three
    obtain ⟨⟨s0, s1, s2⟩, g0, g1, g2⟩ := L2.three
    dsimp only at r0 r1 r2 s0 s1 s2
    cases B
    · go_wp2_with fail
      go_ret
      exact ⟨rfl, hbw2⟩
    · go_wp2_with fail
      refine (T.out (by trivial) (by trivial) _).mono ?_
      rintro e w3 ⟨rfl, hb3⟩
      have hbf := hbw2.trans (hb3.mono hbw2.size)
      go_wp2_with fail
      go_ret
      exact ⟨by rfl, hbf⟩

end Go.Proofs.YtjgekikcmkicmaaGreatDoor

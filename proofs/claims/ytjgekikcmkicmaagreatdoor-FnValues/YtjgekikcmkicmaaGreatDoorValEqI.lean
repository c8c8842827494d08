/-
  The walk of the program's equality.
-/
import Derived.Test.YtjgekikcmkicmaaGreatDoorValPairI
namespace Go.Proofs.YtjgekikcmkicmaaGreatDoor
open Go.RowKit Go.Shelf

/-- What a comparison that was chosen answers. -/
def EqFn (g : Nat) (x y : Val.VV) (R : Bool) : Prop := (g = 37 ∧ Val.alike x y = R) ∨ (g = 81 ∧ (Val.miss x && Val.miss y) = R)

set_option maxHeartbeats 4000000 in
theorem iEquality (a b : Val.VV) (w : World) (ha : Val.right a = true) (hb : Val.right b = true) (hp : PowIn w) (he : ErrIn w) :
    Calls Tryz.prog 39 #[.agg (pC a b)] w fun e w' => ∃ g x y, e = .returned (.func (.func g) #[.agg (pC x y)] #[]) ∧ EqFn g x y (Val.equal a b) ∧ Below w.heap.size w w' := by
  have MI : Hid _ := fun (x : Val.VV) (W : World) => iMissing x W
  have WR : Hid _ := fun (W : World) (h : PowIn W) => iWithoutRefs a b W ha hb h
  have NO : Hid _ := fun (x : Val.VV) (W : World) (h : x.text.size ≤ 1000) => iNumberOf2 x W h
  have NV : Hid _ := fun (o : Option Int) (m : Int) (E : Value) (W : World) (h : Says W o m E) (he : ErrIn W) => iNumberValue2 o m E W h he
  have HP : Hid (PowIn w ∧ ErrIn w) := ⟨hp, he⟩
  have HB : Hid (∀ o, Below w.heap.size w (w.alloc o)) := fun o => ((Below.refl _ _).alloc (Nat.le_refl _) o)
  have HL : Hid (LiesP (w.alloc (.cells (pC a b) 53)) w.heap.size a b) := liesP_new w a b
  have hpa := Val.plain_right a ha
  have hpb := Val.plain_right b hb
  obtain ⟨R, hR⟩ : ∃ R, Val.equal a b = R := ⟨_, rfl⟩
  have HR : Hid (Val.equal a b = R) := hR
  rw [hR]
  clear hR hp he
  unfold Val.equal at HR
  obtain ⟨ak, an, at'⟩ := a
  obtain ⟨bk, bn, bt⟩ := b
  unfold vC pC at *
  dsimp only at *
  go_enter Tryz.func39, Tryz.ntmps39
  by_cases hk : ak = bk
  · subst hk
    have HE : Hid (Val.alike ⟨ak, an, at'⟩ ⟨ak, bn, bt⟩ = R) := by have := HR.out; rw [if_pos rfl] at this; exact this
    clear HR MI WR NO NV
    go_wp2_with fail
    go_ret
    exact ⟨_, ⟨ak, an, at'⟩, ⟨ak, bn, bt⟩, rfl, .inl ⟨rfl, HE.out⟩, HB.out _⟩
  have dk : (ak == bk) = false := beq_eq_false_iff_ne.2 hk
  have HR1 : Hid ((if (Val.miss ⟨ak, an, at'⟩ || Val.miss ⟨bk, bn, bt⟩) = true then Val.miss ⟨ak, an, at'⟩ && Val.miss ⟨bk, bn, bt⟩ else if (Val.plainV ⟨ak, an, at'⟩).kind = (Val.plainV ⟨bk, bn, bt⟩).kind then Val.alike (Val.plainV ⟨ak, an, at'⟩) (Val.plainV ⟨bk, bn, bt⟩) else Val.alike (Val.numberV (Val.plainV ⟨ak, an, at'⟩)) (Val.numberV (Val.plainV ⟨bk, bn, bt⟩))) = R) := (if_neg hk).symm.trans HR.out
  clear HR hk
  have NA : Hid _ := fun (W : World) => MI.out ⟨ak, an, at'⟩ W
  have NB : Hid _ := fun (W : World) => MI.out ⟨bk, bn, bt⟩ W
  clear MI
  have HM : Hid ((Val.miss ⟨ak, an, at'⟩ || Val.miss ⟨bk, bn, bt⟩) = true → EqFn 81 ⟨ak, an, at'⟩ ⟨bk, bn, bt⟩ R) := fun h => .inr ⟨rfl, (if_pos h).symm.trans HR1.out⟩
  have HR2 : Hid (¬ (Val.miss ⟨ak, an, at'⟩ || Val.miss ⟨bk, bn, bt⟩) = true → (if (Val.plainV ⟨ak, an, at'⟩).kind = (Val.plainV ⟨bk, bn, bt⟩).kind then Val.alike (Val.plainV ⟨ak, an, at'⟩) (Val.plainV ⟨bk, bn, bt⟩) else Val.alike (Val.numberV (Val.plainV ⟨ak, an, at'⟩)) (Val.numberV (Val.plainV ⟨bk, bn, bt⟩))) = R) := fun h => (if_neg h).symm.trans HR1.out
  clear HR1
  obtain ⟨MA, hMA⟩ : ∃ MA, Val.miss ⟨ak, an, at'⟩ = MA := ⟨_, rfl⟩
  obtain ⟨MB, hMB⟩ : ∃ MB, Val.miss ⟨bk, bn, bt⟩ = MB := ⟨_, rfl⟩
  rw [hMA] at NA HM HR2
  rw [hMB] at NB HM HR2
  clear hMA hMB
  dsimp only at NA NB
  go_wp2_with fail
  refine (NA.out _).mono ?_
  rintro e w1 ⟨rfl, hb1⟩
  have hbw : Below w.heap.size w w1 := (HB.out _).trans (hb1.mono (HB.out _).size)
  have L1 := HL.out.keep hb1
  clear hb1
  obtain ⟨⟨r0, r1, r2, r3, r4, r5⟩, f0, f1, f2, f3, f4, f5⟩ := L1.six
  dsimp only at r0 r1 r2 r3 r4 r5
  have hlt := L1.lt
  cases MA
  case true =>
    have HE : Hid (EqFn 81 ⟨ak, an, at'⟩ ⟨bk, bn, bt⟩ R) := HM.out rfl
    clear HM HR2 NA NB WR NO NV
    go_wp2_with fail
    go_ret
    exact ⟨_, ⟨ak, an, at'⟩, ⟨bk, bn, bt⟩, rfl, HE.out, hbw⟩
  case false =>
    go_wp2_with fail
    refine (NB.out _).mono ?_
    rintro e w2 ⟨rfl, hb2⟩
    replace L1 := L1.keep hb2
    replace hbw := hbw.trans (hb2.mono hbw.size)
    clear hb2 r0 r1 r2 r3 r4 r5 f0 f1 f2 f3 f4 f5 hlt
    obtain ⟨⟨r0, r1, r2, r3, r4, r5⟩, f0, f1, f2, f3, f4, f5⟩ := L1.six
    dsimp only at r0 r1 r2 r3 r4 r5
    have hlt := L1.lt
    cases MB
    case true =>
      have HE : Hid (EqFn 81 ⟨ak, an, at'⟩ ⟨bk, bn, bt⟩ R) := HM.out rfl
      clear HM HR2 NA NB WR NO NV
      go_wp2_with fail
      go_ret
      exact ⟨_, ⟨ak, an, at'⟩, ⟨bk, bn, bt⟩, rfl, HE.out, hbw⟩
    case false =>
      have HR3 : Hid _ := HR2.out (by decide)
      clear HM HR2 NA NB
      have hp2 : PowIn w2 := HP.out.1.keep hbw
      have he2 : ErrIn w2 := HP.out.2.keep hbw
      have HN : Hid (Val.numberV (Val.plainV ⟨ak, an, at'⟩) = Val.valO (Val.numO (Val.plainV ⟨ak, an, at'⟩)) ∧ Val.numberV (Val.plainV ⟨bk, bn, bt⟩) = Val.valO (Val.numO (Val.plainV ⟨bk, bn, bt⟩))) := ⟨Val.numberV_valO _ hpa, Val.numberV_valO _ hpb⟩
      have hta := Val.right_text _ hpa
      have htb := Val.right_text _ hpb
      obtain ⟨⟨pk, pn, pt⟩, hP⟩ : ∃ p, Val.plainV ⟨ak, an, at'⟩ = p := ⟨_, rfl⟩
      obtain ⟨⟨qk, qn, qt⟩, hQ⟩ : ∃ q, Val.plainV ⟨bk, bn, bt⟩ = q := ⟨_, rfl⟩
      rw [hP] at WR HR3 HN hta
      rw [hQ] at WR HR3 HN htb
      clear hP hQ ha hb hpa hpb HB HL
      dsimp only at HR3 WR hta htb
      go_wp2_with fail
      refine (WR.out _ hp2).mono ?_
      rintro e w3 ⟨rfl, hb3⟩
      replace L1 := L1.keep hb3
      have he3 := he2.keep hb3
      replace hbw := hbw.trans (hb3.mono hbw.size)
      clear hb3 hp2 he2 r0 r1 r2 r3 r4 r5 f0 f1 f2 f3 f4 f5 hlt WR
      obtain ⟨⟨r0, r1, r2, r3, r4, r5⟩, f0, f1, f2, f3, f4, f5⟩ := L1.six
      dsimp only at r0 r1 r2 r3 r4 r5
      have hlt := L1.lt
      have m1 := L1.put ⟨pk, pn, pt⟩ ⟨qk, qn, qt⟩
      have hbm := put6_below hbw w.heap.size ⟨pk, pn, pt⟩ ⟨qk, qn, qt⟩ (Nat.le_refl _)
      have hem : ErrIn (put6 w3 w.heap.size ⟨pk, pn, pt⟩ ⟨qk, qn, qt⟩) := HP.out.2.keep hbm
      unfold put6 at m1 hbm hem
      dsimp only at m1 hbm hem
      have HM : Hid (_ ∧ _ ∧ _) := ⟨m1, hbm, hem⟩
      clear m1 hbm hem hbw L1 he3
      by_cases hpq : pk = qk
      · subst hpq
        have HE : Hid (Val.alike ⟨pk, pn, pt⟩ ⟨pk, qn, qt⟩ = R) := (if_pos rfl).symm.trans HR3.out
        clear HR3 NO NV HN
        go_wp2_with fail
        go_ret
        exact ⟨_, ⟨pk, pn, pt⟩, ⟨pk, qn, qt⟩, rfl, .inl ⟨rfl, HE.out⟩, HM.out.2.1⟩
      · have dpq : (pk == qk) = false := beq_eq_false_iff_ne.2 hpq
        have HE : Hid (Val.alike (Val.numberV ⟨pk, pn, pt⟩) (Val.numberV ⟨qk, qn, qt⟩) = R) := (if_neg hpq).symm.trans HR3.out
        have HEE : Hid (Val.alike (Val.valO (Val.numO ⟨pk, pn, pt⟩)) (Val.valO (Val.numO ⟨qk, qn, qt⟩)) = R) := by
          show _ = _
          rw [← HN.out.1, ← HN.out.2]
          exact HE.out
        have OA : Hid _ := fun (W : World) => NO.out ⟨pk, pn, pt⟩ W hta
        have OB : Hid _ := fun (W : World) => NO.out ⟨qk, qn, qt⟩ W htb
        obtain ⟨oa, hoa⟩ : ∃ p, Val.numO ⟨pk, pn, pt⟩ = p := ⟨_, rfl⟩
        obtain ⟨ob, hob⟩ : ∃ p, Val.numO ⟨qk, qn, qt⟩ = p := ⟨_, rfl⟩
        rw [hoa] at OA HEE
        rw [hob] at OB HEE
        clear HR3 HN HE hoa hob hta htb NO
        have VA : Hid _ := fun (m : Int) (E : Value) (W : World) (h : Says W oa m E) (he : ErrIn W) => NV.out oa m E W h he
        have VB : Hid _ := fun (m : Int) (E : Value) (W : World) (h : Says W ob m E) (he : ErrIn W) => NV.out ob m E W h he
        obtain ⟨⟨xk, xn, xt⟩, hX⟩ : ∃ p, Val.valO oa = p := ⟨_, rfl⟩
        obtain ⟨⟨yk, yn, yt⟩, hY⟩ : ∃ p, Val.valO ob = p := ⟨_, rfl⟩
        rw [hX] at VA HEE
        rw [hY] at VB HEE
        clear hX hY NV
        dsimp only at VA VB OA OB
        go_wp2_with fail
        obtain ⟨l1, hbw, he6⟩ := HM.out
        clear r0 r1 r2 r3 r4 r5 f0 f1 f2 f3 f4 f5 hlt HM
        generalize (((((w3.setCell ⟨w.heap.size, 0, none⟩ (.int .i64 pk)).setCell ⟨w.heap.size, 1, none⟩ (.int .i64 pn)).setCell ⟨w.heap.size, 2, none⟩ (.string pt)).setCell ⟨w.heap.size, 3, none⟩ (.int .i64 qk)).setCell ⟨w.heap.size, 4, none⟩ (.int .i64 qn)).setCell ⟨w.heap.size, 5, none⟩ (.string qt) = w6 at *
        obtain ⟨⟨r0, r1, r2, r3, r4, r5⟩, -⟩ := l1.six
        dsimp only at r0 r1 r2 r3 r4 r5
        have hlt := l1.lt
        go_region_with (first
          | (go_at_call_of 52 pk; refine (OA.out _).mono ?_; rintro e W1 ⟨m1, E1, rfl, sy1, hA⟩; have hA2 : Below w6.heap.size w6 W1 := (Below.refl w6.heap.size w6).drew.trans hA; obtain ⟨⟨a0, a1, a2, a3, a4, a5⟩, -⟩ := (l1.keep hA2).six; dsimp only at a0 a1 a2 a3 a4 a5)
          | (go_at_call_of 51 m1; refine (VA.out m1 E1 _ sy1 (he6.keep hA2)).mono ?_; rintro e W2 ⟨rfl, hB⟩; have hB2 : Below w6.heap.size w6 W2 := hA2.trans (hB.mono hA2.size); obtain ⟨⟨b0, b1, b2, b3, b4, b5⟩, -⟩ := (l1.keep hB2).six; dsimp only at b0 b1 b2 b3 b4 b5)
          | (go_at_call_of 52 qk; refine (OB.out _).mono ?_; rintro e W3 ⟨m2, E2, rfl, sy2, hC⟩; have hC2 : Below w6.heap.size w6 W3 := hB2.trans (hC.mono hB2.size))
          | (go_at_call_of 51 m2; refine (VB.out m2 E2 _ sy2 (he6.keep hC2)).mono ?_; rintro e W4 ⟨rfl, hD⟩; have hD2 : Below w6.heap.size w6 W4 := hC2.trans (hD.mono hC2.size)))
        all_goals
          go_wp2_with fail
          have hbf := hbw.trans (hD2.mono hbw.size)
          go_ret
          exact ⟨_, ⟨xk, xn, xt⟩, ⟨yk, yn, yt⟩, rfl, .inl ⟨rfl, HEE.out⟩, hbf⟩

end Go.Proofs.YtjgekikcmkicmaaGreatDoor

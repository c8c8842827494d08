/-
  The walk of the specification's l04Compute.
-/
import Derived.Test.YtoficeamogbbhaaGreatDoorValTimes
import Derived.Test.YtoficeamogbbhaaGreatDoorValPl
namespace Go.Proofs.YtoficeamogbbhaaGreatDoor
namespace Val
/-- What is counted out of two numbers. -/
def arith (op : ByteArray) (x y : Int) : VV :=
  if op = ⟨#[43]⟩ then numV (x + y) else if op = ⟨#[45]⟩ then numV (x - y) else if op = ⟨#[42]⟩ then numV (x * y)
  else if y = 0 then badV else if op = ⟨#[47]⟩ then numV (Int.tdiv x y) else numV (Int.tmod x y)
def numsV (op : ByteArray) (a b : VV) : VV := if (numberV a).kind = 4 ∨ (numberV b).kind = 4 then badV else arith op (numberV a).num (numberV b).num
def plusText (op : ByteArray) (a b : VV) : Prop := op = ⟨#[43]⟩ ∧ ((plainV a).kind = 5 ∨ (plainV b).kind = 5)
instance (op : ByteArray) (a b : VV) : Decidable (plusText op a b) := by unfold plusText; infer_instance
def computeV (op : ByteArray) (a b : VV) : VV := if plusText op a b then textV (toTextV (plainV a) ++ toTextV (plainV b)) else numsV op a b
theorem numV_in (n : Int) (h : (numV n).kind ≠ 4) : inNum (numV n).num := by
  unfold numV at h ⊢
  by_cases g : n < -9007199254740992 ∨ 9007199254740992 < n
  · rw [if_pos g] at h; exact absurd rfl h
  · rw [if_neg g]; unfold inNum; dsimp only; omega
theorem numberV_in (v : VV) (h : (numberV v).kind ≠ 4) : inNum (numberV v).num := by
  have : numberV v = badV ∨ ∃ n, numberV v = numV n := by
    unfold numberV
    repeat' split
    all_goals first | exact .inl rfl | exact .inr ⟨_, rfl⟩
  rcases this with g | ⟨n, g⟩
  · rw [g] at h; exact absurd rfl h
  · rw [g] at h ⊢; exact numV_in n h
end Val
open Go.RowKit

theorem tdiv_in (x y : Int) (h1 : -9007199254740992 ≤ x) (h2 : x ≤ 9007199254740992) : -9007199254740992 ≤ Int.tdiv x y ∧ Int.tdiv x y ≤ 9007199254740992 := by
  have h : (Int.tdiv x y).natAbs ≤ x.natAbs := by rw [Int.natAbs_tdiv]; exact Nat.div_le_self _ _
  omega
theorem tmod_in (x y : Int) (h1 : -9007199254740992 ≤ x) (h2 : x ≤ 9007199254740992) : -9007199254740992 ≤ Int.tmod x y ∧ Int.tmod x y ≤ 9007199254740992 := by
  have h : (Int.tmod x y).natAbs ≤ x.natAbs := by rw [Int.natAbs_tmod]; exact Nat.mod_le _ _
  omega

set_option maxHeartbeats 4000000 in
theorem sComputeN (op : ByteArray) (a b : Val.VV) (w : World) (ha : a.text.size ≤ 1000000) (hb : b.text.size ≤ 1000000) (hop : ¬ Val.plusText op a b) (h5 : op = ⟨#[43]⟩ ∨ op = ⟨#[45]⟩ ∨ op = ⟨#[42]⟩ ∨ op = ⟨#[47]⟩ ∨ op = ⟨#[37]⟩) :
    Calls Tryz.prog 53 #[.string op, .agg (vC a), .agg (vC b)] w fun e w' => e = .returned (.agg (vC (Val.numsV op a b))) ∧ Below w.heap.size w w' := by
  have P0 : Hid _ := fun (W : World) (v : Val.VV) => sPlain v W
  have N0 : Hid _ := fun (W : World) (v : Val.VV) (h : v.text.size ≤ 1000000) => sNumber v W h
  have H5 : Hid (op = ⟨#[43]⟩ ∨ op = ⟨#[45]⟩ ∨ op = ⟨#[42]⟩ ∨ op = ⟨#[47]⟩ ∨ op = ⟨#[37]⟩) := h5
  clear h5
  obtain ⟨ak, an, at'⟩ := a
  obtain ⟨bk, bn, bt⟩ := b
  obtain ⟨⟨rk, rn, rt⟩, hR⟩ : ∃ R, R = Val.numsV op ⟨ak, an, at'⟩ ⟨bk, bn, bt⟩ := ⟨_, rfl⟩
  rw [← hR]
  have HR : Hid (⟨rk, rn, rt⟩ = Val.numsV op ⟨ak, an, at'⟩ ⟨bk, bn, bt⟩) := hR
  clear hR
  have hb3 : ∀ o1 o2 o3, Below w.heap.size w (((w.alloc o1).alloc o2).alloc o3) := fun o1 o2 o3 => (((Below.refl _ _).alloc (Nat.le_refl _) o1).alloc (by simp) o2).alloc (by simp; omega) o3
  have HB : Hid (∀ o1 o2 o3, Below w.heap.size w (((w.alloc o1).alloc o2).alloc o3)) := hb3
  clear hb3
  unfold vC
  dsimp only at ha hb ⊢
  have HOP : Hid (¬ Val.plusText op ⟨ak, an, at'⟩ ⟨bk, bn, bt⟩) := hop
  clear hop
  go_enter Tryz.func53, Tryz.ntmps53
  go_wp2_with fail
  refine (P0.out _ ⟨ak, an, at'⟩).mono ?_
  obtain ⟨⟨pk, pn, pt⟩, hP⟩ : ∃ p, Val.plainV ⟨ak, an, at'⟩ = p := ⟨_, rfl⟩
  obtain ⟨⟨qk, qn, qt⟩, hQ⟩ : ∃ q, Val.plainV ⟨bk, bn, bt⟩ = q := ⟨_, rfl⟩
  have hpq : ¬ (op = ⟨#[43]⟩ ∧ (pk = 5 ∨ qk = 5)) := by
    have := HOP.out
    unfold Val.plusText at this
    rw [hP, hQ] at this
    exact this
  rw [hP]
  have HQ : Hid (Val.plainV ⟨bk, bn, bt⟩ = ⟨qk, qn, qt⟩) := hQ
  clear hP hQ HOP
  have HPQ : Hid (¬ (op = ⟨#[43]⟩ ∧ (pk = 5 ∨ qk = 5))) := hpq
  clear hpq
  rintro e w1 ⟨rfl, hb1⟩
  have lA : Lies w1 w.heap.size ⟨ak, an, at'⟩ := (((lies_new w _).grow _).grow _).keep hb1
  have lB : Lies w1 (w.heap.size + 1) ⟨bk, bn, bt⟩ := by
    have := (lies_new (w.alloc (.cells #[.int .i64 ak, .int .i64 an, .string at'] 24)) ⟨bk, bn, bt⟩)
    rw [World.size_alloc] at this
    exact (this.grow _).keep hb1
  have lR : Lies w1 (w.heap.size + 1 + 1) Val.zeroV := by
    have := (lies_new ((w.alloc (.cells #[.int .i64 ak, .int .i64 an, .string at'] 24)).alloc (.cells #[.int .i64 bk, .int .i64 bn, .string bt] 24)) Val.zeroV)
    rw [World.size_alloc, World.size_alloc] at this
    exact this.keep hb1
  have hbw : Below w.heap.size w w1 := (HB.out _ _ _).trans (hb1.mono (HB.out _ _ _).size)
  clear hb1 HB
  have hR0 : w.heap.size ≤ w.heap.size + 1 + 1 := by omega
  generalize w.heap.size + 1 + 1 = R0 at *
  generalize w.heap.size + 1 = B0 at *
  obtain ⟨⟨r0, r1, r2⟩, f0, f1, f2⟩ := lB.three
  have hlt := lB.lt
  unfold vC
  dsimp only at r0 r1 r2 ⊢
  go_wp2_with fail
  clear r0 r1 r2 f0 f1 f2 hlt
  refine (P0.out _ ⟨bk, bn, bt⟩).mono ?_
  rw [HQ.out]
  rintro e w2 ⟨rfl, hb2⟩
  have lP : Lies w2 w1.heap.size ⟨pk, pn, pt⟩ := (lies_new w1 ⟨pk, pn, pt⟩).keep hb2
  replace lA := (lA.grow (.cells (vC ⟨pk, pn, pt⟩) 24)).keep hb2
  replace lB := (lB.grow (.cells (vC ⟨pk, pn, pt⟩) 24)).keep hb2
  replace lR := (lR.grow (.cells (vC ⟨pk, pn, pt⟩) 24)).keep hb2
  have hbw2 : Below w.heap.size w w2 := (hbw.alloc hbw.size _).trans (hb2.mono (hbw.alloc hbw.size _).size)
  clear hb2 HQ P0 hbw
  obtain ⟨⟨r0, r1, r2⟩, f0, f1, f2⟩ := lP.three
  obtain ⟨⟨s0, s1, s2⟩, g0, g1, g2⟩ := lA.three
  have hltP := lP.lt
  have hltA := lA.lt
  unfold vC
  dsimp only at r0 r1 r2 s0 s1 s2 ⊢
  have hnt : op = ⟨#[43]⟩ → ¬ pk = 5 ∧ ¬ qk = 5 := fun h => by have := HPQ.out; exact ⟨fun g => this ⟨h, .inl g⟩, fun g => this ⟨h, .inr g⟩⟩
  rcases H5.out with hplus | hplus | hplus | hplus | hplus
  case' inl =>
    obtain ⟨g5, h5⟩ := hnt hplus
    subst hplus
    have d1 : (pk == 5) = false := beq_eq_false_iff_ne.2 g5
    have d2 : (qk == 5) = false := beq_eq_false_iff_ne.2 h5
    clear hnt HPQ
    go_wp2_with fail
    clear d1 d2 g5 h5
  case' inr.inl => subst hplus; clear hnt HPQ; go_wp2_with fail
  case' inr.inr.inl => subst hplus; clear hnt HPQ; go_wp2_with fail
  case' inr.inr.inr.inl => subst hplus; clear hnt HPQ; go_wp2_with fail
  case' inr.inr.inr.inr => subst hplus; clear hnt HPQ; go_wp2_with fail
  all_goals
    clear r0 r1 r2 f0 f1 f2 s0 s1 s2 g0 g1 g2 hltA hltP lP lA H5
    refine (N0.out _ ⟨ak, an, at'⟩ ha).mono ?_
    obtain ⟨⟨xk, xn, xt⟩, hX⟩ : ∃ p, Val.numberV ⟨ak, an, at'⟩ = p := ⟨_, rfl⟩
    obtain ⟨⟨yk, yn, yt⟩, hY⟩ : ∃ p, Val.numberV ⟨bk, bn, bt⟩ = p := ⟨_, rfl⟩
    have HX : Hid ((xk ≠ 4 → Val.inNum xn) ∧ (yk ≠ 4 → Val.inNum yn)) := by
      refine ⟨fun h => ?_, fun h => ?_⟩
      · have := Val.numberV_in ⟨ak, an, at'⟩; rw [hX] at this; exact this h
      · have := Val.numberV_in ⟨bk, bn, bt⟩; rw [hY] at this; exact this h
    have HR2 := HR.out
    unfold Val.numsV at HR2
    rw [hX, hY] at HR2
    dsimp only at HR2
    have HRR : Hid _ := HR2
    have HY : Hid (Val.numberV ⟨bk, bn, bt⟩ = ⟨yk, yn, yt⟩) := hY
    rw [hX]
    clear HR2 hX hY HR
    rintro e w3 ⟨rfl, hb3⟩
    replace lB := (lB.grow (.cells (vC ⟨qk, qn, qt⟩) 24)).keep hb3
    replace lR := (lR.grow (.cells (vC ⟨qk, qn, qt⟩) 24)).keep hb3
    have hbw3 : Below w.heap.size w w3 := (hbw2.alloc hbw2.size _).trans (hb3.mono (hbw2.alloc hbw2.size _).size)
    clear hb3 hbw2
    obtain ⟨⟨r0, r1, r2⟩, f0, f1, f2⟩ := lB.three
    have hltB := lB.lt
    unfold vC
    dsimp only at r0 r1 r2 ⊢
    go_wp2_with fail
    clear r0 r1 r2 f0 f1 f2 hltB lB
    refine (N0.out _ ⟨bk, bn, bt⟩ hb).mono ?_
    rw [HY.out]
    rintro e w4 ⟨rfl, hb4⟩
    have lX : Lies w4 w3.heap.size ⟨xk, xn, xt⟩ := (lies_new w3 ⟨xk, xn, xt⟩).keep hb4
    replace lR := (lR.grow (.cells (vC ⟨xk, xn, xt⟩) 24)).keep hb4
    have hbw4 : Below w.heap.size w w4 := (hbw3.alloc hbw3.size _).trans (hb4.mono (hbw3.alloc hbw3.size _).size)
    clear hb4 hbw3 N0 HY
    obtain ⟨⟨r0, r1, r2⟩, f0, f1, f2⟩ := lX.three
    obtain ⟨⟨s0, s1, s2⟩, g0, g1, g2⟩ := lR.three
    have hltX := lX.lt
    have hltR := lR.lt
    unfold vC
    dsimp only [Val.zeroV, Val.e0] at r0 r1 r2 s0 s1 s2 ⊢
    by_cases hbad : xk = 4 ∨ yk = 4
    · have hE : Hid ((⟨rk, rn, rt⟩ : Val.VV) = Val.badV) := by show _ = _; rw [HRR.out, if_pos hbad]
      have hbq := fun o1 o2 v0 v1 v2 => store3 hbw4 hR0 o1 o2 v0 v1 v2
      have hbf : Hid _ := hbq
      clear HRR HX hbq
      rcases Decidable.em (xk = 4) with hx4 | hx4
      · subst hx4
        go_wp2_with fail
        refine bodyPost_ret (v := .agg vBad) (by simp [vBad, results, Tryz.results53, go_sem, s0, s1, s2, hltR]) rfl ⟨congrArg (fun x => Ending.returned (.agg (vC x))) hE.out.symm, ?_⟩
        exact hbf.out _ _ _ _ _
      · have hy4 : yk = 4 := hbad.resolve_left hx4
        subst hy4
        have d1 : (xk == 4) = false := beq_eq_false_iff_ne.2 hx4
        go_wp2_with fail
        refine bodyPost_ret (v := .agg vBad) (by simp [vBad, results, Tryz.results53, go_sem, s0, s1, s2, hltR]) rfl ⟨congrArg (fun x => Ending.returned (.agg (vC x))) hE.out.symm, ?_⟩
        exact hbf.out _ _ _ _ _
    have hx4 : xk ≠ 4 := fun h => hbad (.inl h)
    have hy4 : yk ≠ 4 := fun h => hbad (.inr h)
    obtain ⟨hx, hy⟩ : Val.inNum xn ∧ Val.inNum yn := ⟨HX.out.1 hx4, HX.out.2 hy4⟩
    unfold Val.inNum at hx hy
    obtain ⟨hx1, hx2⟩ := hx
    obtain ⟨hy1, hy2⟩ := hy
    have hE := HRR.out
    rw [if_neg hbad] at hE
    have HE : Hid _ := hE
    have hbf : Hid (∀ o1 o2, Below w.heap.size w ((w4.alloc o1).alloc o2)) := fun o1 o2 => (hbw4.alloc hbw4.size o1).alloc (hbw4.alloc hbw4.size o1).size o2
    have d1 : (xk == 4) = false := beq_eq_false_iff_ne.2 hx4
    have d2 : (yk == 4) = false := beq_eq_false_iff_ne.2 hy4
    have lRR : Hid (∀ o1 o2, Lies ((w4.alloc o1).alloc o2) R0 Val.zeroV) := fun o1 o2 => (lR.grow o1).grow o2
    clear hE HRR HX hbad hx4 hy4
  · by_cases hy0 : yn = 0
    · subst hy0
      have hE0 : Hid ((⟨rk, rn, rt⟩ : Val.VV) = Val.badV) := HE.out
      have hbq : Hid _ := fun o1 o2 v0 v1 v2 => store3 hbw4 hR0 o1 o2 v0 v1 v2
      go_wp2_with fail
      refine bodyPost_ret (v := .agg vBad) (by simp [vBad, results, Tryz.results53, go_sem, s0, s1, s2, hltR]) rfl ⟨congrArg (fun x => Ending.returned (.agg (vC x))) hE0.out.symm, ?_⟩
      exact hbq.out _ _ _ _ _
    · have d0 : (yn == 0) = false := beq_eq_false_iff_ne.2 hy0
      have HEE : Hid ((⟨rk, rn, rt⟩ : Val.VV) = Val.numV (Int.tmod xn yn)) := HE.out.trans (if_neg hy0)
      clear HE
      obtain ⟨D, hD⟩ : ∃ D, Int.tmod xn yn = D := ⟨_, rfl⟩
      rw [hD] at HEE
      have hDD := tmod_in xn yn hx1 hx2
      rw [hD] at hDD
      obtain ⟨hD1, hD2⟩ := hDD
      go_wp2_with fail
      refine (sNum D _).mono ?_
      rw [show Val.numV D = ⟨rk, rn, rt⟩ from HEE.out.symm]
      rintro e w5 ⟨rfl, hb5⟩
      clear s0 s1 s2 g0 g1 g2 r0 r1 r2 f0 f1 f2
      have lR5 := (lRR.out _ _).keep hb5
      have hbw5 : Below w.heap.size w w5 := (hbf.out _ _).trans (hb5.mono (hbf.out _ _).size)
      obtain ⟨⟨s0, s1, s2⟩, g0, g1, g2⟩ := lR5.three
      have hltR5 := lR5.lt
      unfold vC
      dsimp only [Val.zeroV, Val.e0] at s0 s1 s2 ⊢
      go_wp2_with fail
      refine bodyPost_ret (v := .agg #[.int .i64 rk, .int .i64 rn, .string rt]) (by simp [results, Tryz.results53, go_sem, s0, s1, s2]) rfl ⟨rfl, ?_⟩
      exact ((hbw5.setCell (by exact hR0) _).setCell (by exact hR0) _).setCell (by exact hR0) _
  · by_cases hy0 : yn = 0
    · subst hy0
      have hE0 : Hid ((⟨rk, rn, rt⟩ : Val.VV) = Val.badV) := HE.out
      have hbq : Hid _ := fun o1 o2 v0 v1 v2 => store3 hbw4 hR0 o1 o2 v0 v1 v2
      go_wp2_with fail
      refine bodyPost_ret (v := .agg vBad) (by simp [vBad, results, Tryz.results53, go_sem, s0, s1, s2, hltR]) rfl ⟨congrArg (fun x => Ending.returned (.agg (vC x))) hE0.out.symm, ?_⟩
      exact hbq.out _ _ _ _ _
    · have d0 : (yn == 0) = false := beq_eq_false_iff_ne.2 hy0
      have HEE : Hid ((⟨rk, rn, rt⟩ : Val.VV) = Val.numV (Int.tdiv xn yn)) := HE.out.trans (if_neg hy0)
      clear HE
      obtain ⟨D, hD⟩ : ∃ D, Int.tdiv xn yn = D := ⟨_, rfl⟩
      rw [hD] at HEE
      have hDD := tdiv_in xn yn hx1 hx2
      rw [hD] at hDD
      obtain ⟨hD1, hD2⟩ := hDD
      go_wp2_with fail
      refine (sNum D _).mono ?_
      rw [show Val.numV D = ⟨rk, rn, rt⟩ from HEE.out.symm]
      rintro e w5 ⟨rfl, hb5⟩
      clear s0 s1 s2 g0 g1 g2 r0 r1 r2 f0 f1 f2
      have lR5 := (lRR.out _ _).keep hb5
      have hbw5 : Below w.heap.size w w5 := (hbf.out _ _).trans (hb5.mono (hbf.out _ _).size)
      obtain ⟨⟨s0, s1, s2⟩, g0, g1, g2⟩ := lR5.three
      have hltR5 := lR5.lt
      unfold vC
      dsimp only [Val.zeroV, Val.e0] at s0 s1 s2 ⊢
      go_wp2_with fail
      refine bodyPost_ret (v := .agg #[.int .i64 rk, .int .i64 rn, .string rt]) (by simp [results, Tryz.results53, go_sem, s0, s1, s2]) rfl ⟨rfl, ?_⟩
      exact ((hbw5.setCell (by exact hR0) _).setCell (by exact hR0) _).setCell (by exact hR0) _
  · have T0 : Hid _ := fun (W : World) => sTimes xn yn W hx1 hx2 hy1 hy2
    go_wp2_with fail
    refine (T0.out _).mono ?_
    by_cases hin : Val.inNum (xn * yn)
    · rw [if_pos hin, decide_eq_true hin]
      have HEE : Hid ((⟨rk, rn, rt⟩ : Val.VV) = Val.numV (xn * yn)) := HE.out
      obtain ⟨m, hm⟩ : ∃ m, m = xn * yn := ⟨_, rfl⟩
      rw [← hm] at HEE ⊢
      clear HE hm hin T0
      rintro e w9 ⟨rfl, rfl⟩
      go_wp2_with fail
      refine (sNum (m) _).mono ?_
      rw [show Val.numV (m) = ⟨rk, rn, rt⟩ from HEE.out.symm]
      rintro e w5 ⟨rfl, hb5⟩
      clear s0 s1 s2 g0 g1 g2 r0 r1 r2 f0 f1 f2
      have lR5 := (lRR.out _ _).keep hb5
      have hbw5 : Below w.heap.size w w5 := (hbf.out _ _).trans (hb5.mono (hbf.out _ _).size)
      obtain ⟨⟨s0, s1, s2⟩, g0, g1, g2⟩ := lR5.three
      have hltR5 := lR5.lt
      unfold vC
      dsimp only [Val.zeroV, Val.e0] at s0 s1 s2 ⊢
      go_wp2_with fail
      refine bodyPost_ret (v := .agg #[.int .i64 rk, .int .i64 rn, .string rt]) (by simp [results, Tryz.results53, go_sem, s0, s1, s2]) rfl ⟨rfl, ?_⟩
      exact ((hbw5.setCell (by exact hR0) _).setCell (by exact hR0) _).setCell (by exact hR0) _
    · rw [if_neg hin, decide_eq_false hin]
      have hEb : Val.numV (xn * yn) = Val.badV := if_pos (by unfold Val.inNum at hin; omega)
      have hE1 : Hid ((⟨rk, rn, rt⟩ : Val.VV) = Val.badV) := HE.out.trans hEb
      clear HE T0 hin hEb
      rintro e w9 ⟨rfl, rfl⟩
      have hE0 : Hid ((⟨rk, rn, rt⟩ : Val.VV) = Val.badV) := hE1.out
      have hbq : Hid _ := fun o1 o2 v0 v1 v2 => store3 hbw4 hR0 o1 o2 v0 v1 v2
      go_wp2_with fail
      refine bodyPost_ret (v := .agg vBad) (by simp [vBad, results, Tryz.results53, go_sem, s0, s1, s2, hltR]) rfl ⟨congrArg (fun x => Ending.returned (.agg (vC x))) hE0.out.symm, ?_⟩
      exact hbq.out _ _ _ _ _
  · go_wp2_with fail
    refine (sNum (xn - yn) _).mono ?_
    rw [show Val.numV (xn - yn) = ⟨rk, rn, rt⟩ from HE.out.symm]
    rintro e w5 ⟨rfl, hb5⟩
    clear s0 s1 s2 g0 g1 g2 r0 r1 r2 f0 f1 f2
    have lR5 := (lRR.out _ _).keep hb5
    have hbw5 : Below w.heap.size w w5 := (hbf.out _ _).trans (hb5.mono (hbf.out _ _).size)
    obtain ⟨⟨s0, s1, s2⟩, g0, g1, g2⟩ := lR5.three
    have hltR5 := lR5.lt
    unfold vC
    dsimp only [Val.zeroV, Val.e0] at s0 s1 s2 ⊢
    go_wp2_with fail
    refine bodyPost_ret (v := .agg #[.int .i64 rk, .int .i64 rn, .string rt]) (by simp [results, Tryz.results53, go_sem, s0, s1, s2]) rfl ⟨rfl, ?_⟩
    exact ((hbw5.setCell (by exact hR0) _).setCell (by exact hR0) _).setCell (by exact hR0) _
  · go_wp2_with fail
    refine (sNum (xn + yn) _).mono ?_
    rw [show Val.numV (xn + yn) = ⟨rk, rn, rt⟩ from HE.out.symm]
    rintro e w5 ⟨rfl, hb5⟩
    clear s0 s1 s2 g0 g1 g2 r0 r1 r2 f0 f1 f2
    have lR5 := (lRR.out _ _).keep hb5
    have hbw5 : Below w.heap.size w w5 := (hbf.out _ _).trans (hb5.mono (hbf.out _ _).size)
    obtain ⟨⟨s0, s1, s2⟩, g0, g1, g2⟩ := lR5.three
    have hltR5 := lR5.lt
    unfold vC
    dsimp only [Val.zeroV, Val.e0] at s0 s1 s2 ⊢
    go_wp2_with fail
    refine bodyPost_ret (v := .agg #[.int .i64 rk, .int .i64 rn, .string rt]) (by simp [results, Tryz.results53, go_sem, s0, s1, s2]) rfl ⟨rfl, ?_⟩
    exact ((hbw5.setCell (by exact hR0) _).setCell (by exact hR0) _).setCell (by exact hR0) _

end Go.Proofs.YtoficeamogbbhaaGreatDoor

/-
  The walks of the specification's l04Number.
-/
import Derived.Test.YtjgekikcmkicmaaGreatDoorValRead
import Derived.Test.YtjgekikcmkicmaaGreatDoorValN
namespace Go.Proofs.YtjgekikcmkicmaaGreatDoor
namespace Val
def numberV (v : VV) : VV :=
  if v.kind = 1 then numV 0 else if v.kind = 2 then numV v.num else if v.kind = 3 then numV v.num
  else if v.kind = 5 then (match readT v.text with | some n => numV n | none => badV) else badV
/-- A number that a script may hold. -/
def inNum (n : Int) : Prop := -9007199254740992 ≤ n ∧ n ≤ 9007199254740992
instance (n : Int) : Decidable (inNum n) := by unfold inNum; infer_instance
end Val
open Go.RowKit

set_option maxHeartbeats 2000000 in
theorem sNumber (v : Val.VV) (w : World) (h : v.text.size ≤ 1000000) :
    Calls Tryz.prog 53 #[.agg (vC v)] w fun e w' => e = .returned (.agg (vC (Val.numberV v))) ∧ Below w.heap.size w w' := by
  obtain ⟨⟨rk, rn, rt⟩, hR⟩ : ∃ R, R = Val.numberV v := ⟨_, rfl⟩
  rw [← hR]
  have HR : Hid (⟨rk, rn, rt⟩ = Val.numberV v) := hR
  clear hR
  unfold vC
  obtain ⟨k, n, t⟩ := v
  dsimp only at h ⊢
  have hb : ∀ o1 o2, Below w.heap.size w ((w.alloc o1).alloc o2) := fun o1 o2 => ((Below.refl _ _).alloc (Nat.le_refl _) o1).alloc (by simp) o2
  have HB : Hid (∀ o1 o2, Below w.heap.size w ((w.alloc o1).alloc o2)) := hb
  clear hb
  by_cases h1 : k = 1
  · subst h1
    have HE : Hid (Val.numV 0 = ⟨rk, rn, rt⟩) := HR.out.symm
    clear HR
    go_enter Tryz.func53, Tryz.ntmps53
    go_wp2_with fail
    refine (sNum 0 _).mono ?_
    rw [HE.out]
    unfold vC
    dsimp only
    rintro e w1 ⟨rfl, hb1⟩
    have hbf := (HB.out _ _).trans (hb1.mono (HB.out _ _).size)
    obtain ⟨⟨r0, r1, r2⟩, f0, f1, f2⟩ := v3_of (res_facts hb1)
    go_wp2_with fail
    refine bodyPost_ret (v := .agg #[.int .i64 rk, .int .i64 rn, .string rt]) (by simp [results, Tryz.results53, go_sem, r0, r1, r2]) rfl ⟨rfl, ?_⟩
    exact ((hbf.setCell (by simp) _).setCell (by simp) _).setCell (by simp) _
  by_cases h2 : k = 2
  · subst h2
    have HE : Hid (Val.numV n = ⟨rk, rn, rt⟩) := HR.out.symm
    clear HR
    go_enter Tryz.func53, Tryz.ntmps53
    go_wp2_with fail
    refine (sNum n _).mono ?_
    rw [HE.out]
    unfold vC
    dsimp only
    rintro e w1 ⟨rfl, hb1⟩
    have hbf := (HB.out _ _).trans (hb1.mono (HB.out _ _).size)
    obtain ⟨⟨r0, r1, r2⟩, f0, f1, f2⟩ := v3_of (res_facts hb1)
    go_wp2_with fail
    refine bodyPost_ret (v := .agg #[.int .i64 rk, .int .i64 rn, .string rt]) (by simp [results, Tryz.results53, go_sem, r0, r1, r2]) rfl ⟨rfl, ?_⟩
    exact ((hbf.setCell (by simp) _).setCell (by simp) _).setCell (by simp) _
  by_cases h3 : k = 3
  · subst h3
    have HE : Hid (Val.numV n = ⟨rk, rn, rt⟩) := HR.out.symm
    clear HR
    go_enter Tryz.func53, Tryz.ntmps53
    go_wp2_with fail
    refine (sNum n _).mono ?_
    rw [HE.out]
    unfold vC
    dsimp only
    rintro e w1 ⟨rfl, hb1⟩
    have hbf := (HB.out _ _).trans (hb1.mono (HB.out _ _).size)
    obtain ⟨⟨r0, r1, r2⟩, f0, f1, f2⟩ := v3_of (res_facts hb1)
    go_wp2_with fail
    refine bodyPost_ret (v := .agg #[.int .i64 rk, .int .i64 rn, .string rt]) (by simp [results, Tryz.results53, go_sem, r0, r1, r2]) rfl ⟨rfl, ?_⟩
    exact ((hbf.setCell (by simp) _).setCell (by simp) _).setCell (by simp) _
  by_cases h5 : k = 5
  · subst h5
    go_enter Tryz.func53, Tryz.ntmps53
    go_wp2_with fail
    refine (sRead t _ h).mono ?_
    rcases hq : Val.readT t with _ | m
    · have HE : Hid (Val.badV = ⟨rk, rn, rt⟩) := by show _ = _; rw [HR.out]; simp [Val.numberV, hq]
      clear HR hq
      simp only [Option.getD, Option.isSome]
      rintro e w1 ⟨rfl, hb1⟩
      have hbf := (HB.out _ _).trans (hb1.mono (HB.out _ _).size)
      obtain ⟨⟨r0, r1, r2⟩, f0, f1, f2⟩ := v3_of (res_facts hb1)
      go_wp2_with fail
      refine bodyPost_ret (v := .agg vBad) (by simp [vBad, results, Tryz.results53, go_sem, r0, r1, r2]) rfl ⟨congrArg (fun x => Ending.returned (.agg (vC x))) HE.out, ?_⟩
      exact ((hbf.setCell (by simp) _).setCell (by simp) _).setCell (by simp) _
    · have HE : Hid (Val.numV m = ⟨rk, rn, rt⟩) := by show _ = _; rw [HR.out]; simp [Val.numberV, hq]
      clear HR hq
      simp only [Option.getD, Option.isSome]
      rintro e w1 ⟨rfl, hb1⟩
      have hr1 := res_facts hb1
      have hlt : w.heap.size + 1 < w1.heap.size := (Array.getElem?_eq_some_iff.1 hr1).1
      have hbf := (HB.out _ _).trans (hb1.mono (HB.out _ _).size)
      clear hb1
      go_wp2_with fail
      refine (sNum m _).mono ?_
      rw [HE.out]
      unfold vC
      dsimp only
      rintro e w2 ⟨rfl, hb2⟩
      obtain ⟨⟨r0, r1, r2⟩, f0, f1, f2⟩ := v3_of ((hb2.block _ hlt).trans hr1)
      have hbg := hbf.trans (hb2.mono hbf.size)
      go_wp2_with fail
      refine bodyPost_ret (v := .agg #[.int .i64 rk, .int .i64 rn, .string rt]) (by simp [results, Tryz.results53, go_sem, r0, r1, r2]) rfl ⟨rfl, ?_⟩
      exact ((hbg.setCell (by simp) _).setCell (by simp) _).setCell (by simp) _
  have HE : Hid (Val.badV = ⟨rk, rn, rt⟩) := by show _ = _; rw [HR.out]; simp [Val.numberV, h1, h2, h3, h5]
  clear HR
  have d1 : (k == 1) = false := beq_eq_false_iff_ne.2 h1
  have d2 : (k == 2) = false := beq_eq_false_iff_ne.2 h2
  have d3 : (k == 3) = false := beq_eq_false_iff_ne.2 h3
  have d5 : (k == 5) = false := beq_eq_false_iff_ne.2 h5
  go_enter Tryz.func53, Tryz.ntmps53
  go_wp2_with fail
  refine bodyPost_ret (v := .agg vBad) (by simp [vBad, results, Tryz.results53, go_sem]) rfl ⟨congrArg (fun x => Ending.returned (.agg (vC x))) HE.out, ?_⟩
  exact HB.out _ _

end Go.Proofs.YtjgekikcmkicmaaGreatDoor

/- For every value that can be handed in, the law FnExactValueRight returns true: impl.ValueRight answers as its model spec.ValueRight, and writes into no argument. No condition. -/
import Derived.Test.YtoficeamogbbhabRows
import Derived.Test.YtoficeamogbbhabValLaw
import Derived.Test.YtoficeamogbbhabValRight
import Derived.WalkKit
import Derived.ProofKit
import Derived.OpenShut
import Derived.ShutString
import Derived.ChangeOld
import Derived.Below
import Derived.Carry
namespace Go.Proofs.Ytoficeamogbbhab
open Go.ChangeShapes Go.WideShapes Go.ChangeAt Go.RowKit

theorem valueRight_own : ownKnob Try.prog.godebug = none := by kernel_rfl
theorem valueRight_laidOut : laidOutB Try.prog = true := by kernel_rfl
theorem valueRight_readable : Try.prog.readableRec 35 = true := by kernel_rfl
theorem valueRight_row : 35 < Try.prog.types.size := of_decide_eq_true (by kernel_rfl)
def zeroA : Value := .agg #[.int .i64 0, .int .i64 0, .string ByteArray.empty]

set_option maxHeartbeats 2000000 in
theorem valueRight_walk (v : Val.VV) (w : World) (hv : v.text.size ≤ 9223372036854775807) : Calls Try.prog 4 #[.agg (vC v)] w fun e w' => e = .returned (.bool true) ∧ Below w.heap.size w w' := by
  have Z : Hid _ := fun (W : World) => lSzValue v 1048576 W (by omega) hv
  have T : Hid _ := fun (W : World) => lToValue v W
  have S : Hid _ := fun (W : World) => sValueRight v W
  have I : Hid _ := fun (W : World) => iValueRight v W
  have HB : Hid (∀ o, Below w.heap.size w (w.alloc o)) := fun o => (Below.refl _ _).alloc (Nat.le_refl _) o
  have HL : Hid (Lies2 (w.alloc (.cells (vC v) 35)) w.heap.size v) := lies2_new w v
  obtain ⟨R, hR⟩ : ∃ R, Val.right v = R := ⟨_, rfl⟩
  rw [hR] at S I
  clear hR
  obtain ⟨k, n, t⟩ := v
  unfold vC at *
  dsimp only at *
  clear hv
  go_enter Try.func4, Try.ntmps4
  go_wp2_with fail
  refine (Z.out _).mono ?_
  rintro e w1 ⟨rfl, hb1⟩
  have hbw : Below w.heap.size w w1 := (HB.out _).trans (hb1.mono (HB.out _).size)
  have HL1 := HL.out.keep hb1
  clear hb1
  by_cases hs : t.size ≤ 1048576
  · rw [if_pos hs]
    obtain ⟨M, hM⟩ : ∃ M, (1048576 - t.size : Nat) = M := ⟨_, rfl⟩
    rw [hM]
    have hM0 : ¬ (M : Int) < 0 := by omega
    obtain ⟨⟨r0, r1, r2⟩, f0, f1, f2⟩ := HL1.three
    dsimp only at r0 r1 r2
    go_wp2_with fail
    refine (T.out _).mono ?_
    rintro e w2 ⟨rfl, hb2⟩
    go_wp2_with fail
    refine (S.out _).mono ?_
    rintro e w3 ⟨rfl, hb3⟩
    have hb13 := hb2.trans (hb3.mono hb2.size)
    have HL3 := HL1.keep hb13
    have hbw3 := hbw.trans (hb13.mono hbw.size)
    clear r0 r1 r2 f0 f1 f2 hb2 hb3 hb13
    obtain ⟨⟨r0, r1, r2⟩, f0, f1, f2⟩ := HL3.three
    dsimp only at r0 r1 r2
    go_wp2_with fail
    refine (T.out _).mono ?_
    rintro e w4 ⟨rfl, hb4⟩
    go_wp2_with fail
    refine (I.out _).mono ?_
    rintro e w5 ⟨rfl, hb5⟩
    have hb35 := hb4.trans (hb5.mono hb4.size)
    have hbf := hbw3.trans (hb35.mono hbw3.size)
    cases R
    · go_wp2_with fail
      go_ret
      exact ⟨rfl, hbf⟩
    · go_wp2_with fail
      go_ret
      exact ⟨rfl, hbf⟩
  · rw [if_neg hs]
    go_wp2_with fail
    go_ret
    exact ⟨rfl, hbw⟩

set_option maxRecDepth 100000 in
theorem valueRight_lifted (os : Os) (started : os.Started) (H : Type) (enc : TypeId × Value → H) :
    ReturnsInHanded {} Try.checked os 4 .any (Rows.fnExactValueRightSpec.pre6 enc Try.prog Try.f4 Rows.fnExactValueRightRow.domain false) (Rows.fnExactValueRightSpec.post enc Try.prog Try.f4 false true false false) := by
  refine returnsInHanded_of_change (C := Try.checked) valueRight_own started (by kernel_rfl) Try.func4
    (ChangeSpec.witness6 (enc := enc) (C := Try.checked) false ⟨#[], #[zeroA], []⟩ 8 (by kernel_rfl) (by kernel_rfl) (by kernel_rfl) (by kernel_rfl)) ?_
  intro W base args ds gs before hval0 hW hcnd _
  have hval : ∀ (j : Nat) t v, Try.f4.params[j]? = some t → args[j]? = some v → Value.okWide Try.prog W .any base t v := hval0
  have hW' := hW
  obtain ⟨p, q, hA0, hV, rfl, hfz, hnd⟩ := hW
  have hA : DataW.TrodAll enc Try.prog W 0 (fun _ => true) true Try.f4.params.toList args.toList ds p := hA0
  have hlt := hA.lt
  rw [Try.params4] at hA hval
  obtain ⟨v0, vs0, d0, ds0, p0, q0, hargs, rfl, rfl, h0, r0⟩ := trodAll_cons hA
  obtain ⟨rfl, rfl, rfl⟩ := trodAll_nil r0
  obtain rfl : args = #[v0] := by cases args; simp_all
  obtain ⟨rfl, rfl⟩ := trodVars_none hV
  obtain ⟨x, rfl, kx⟩ := open_value (hval 0 35 v0 rfl rfl) h0
  clear hA0 hval0
  refine (valueRight_walk x W kx).mono fun e W' ⟨he, bel⟩ => ?_
  subst he
  exact ⟨_, rfl, _, _, _, [], p0 ++ [], [], hW', trodAll_mk1 (shut_bool Try.underlying4 _),
    (trodAll_cons_mk (Below.trod valueRight_laidOut valueRight_readable valueRight_row h0 bel (fun x hx => hlt x (by simp [hx]))) trodAll_mk0), rfl, bel.frame _, fun h => by cases h⟩

theorem valueRight_holds : Rows.FnExactValueRightSaid :=
  OpenClaim.holds_of_wide 4 Try.f4 rfl rfl rfl rfl rfl rfl rfl ⟨rfl, rfl, rfl, rfl, rfl⟩ rfl rfl rfl rfl rfl (by kernel_rfl) Try.func4 (by kernel_rfl)
    (of_decide_eq_true (by kernel_rfl)) (by unfold Func.isWrapper; first | (rw [if_pos (by decide +kernel)]; kernel_rfl) | (rw [if_neg (by decide +kernel)]; exact ⟨rfl, rfl⟩))
    (fun os started H enc _ => valueRight_lifted os started H enc)
#print axioms valueRight_holds
end Go.Proofs.Ytoficeamogbbhab

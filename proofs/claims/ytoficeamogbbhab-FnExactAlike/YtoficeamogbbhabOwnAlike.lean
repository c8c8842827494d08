/- For every two values that can be handed in, the law FnExactAlike returns true: impl.Alike answers as its model spec.Alike, and writes into no argument. No condition. -/
import Derived.Test.YtoficeamogbbhabRows
import Derived.Test.YtoficeamogbbhabValLaw
import Derived.Test.YtoficeamogbbhabValAlikeI
import Derived.WalkKit
import Derived.Deep.CutRange
import Derived.BigQuiet
import Derived.BigRegion
import Derived.Deep.RegionWith
import Derived.Deep.QuietTactic
import Derived.ProofKit
import Derived.OpenShut
import Derived.ShutString
import Derived.ChangeOld
import Derived.Below
import Derived.Carry
namespace Go.Proofs.Ytoficeamogbbhab
open Go.ChangeShapes Go.WideShapes Go.ChangeAt Go.RowKit

theorem alike_own : ownKnob Try.prog.godebug = none := by kernel_rfl
theorem alike_laidOut : laidOutB Try.prog = true := by kernel_rfl
theorem alike_readable : Try.prog.readableRec 35 = true := by kernel_rfl
theorem alike_row : 35 < Try.prog.types.size := of_decide_eq_true (by kernel_rfl)
def zeroA : Value := .agg #[.int .i64 0, .int .i64 0, .string ByteArray.empty]

set_option maxHeartbeats 2000000 in
theorem alike_walk (a b : Val.VV) (w : World) (ha : a.text.size ≤ 9223372036854775807) (hb : b.text.size ≤ 9223372036854775807) : Calls Try.prog 6 #[.agg (vC a), .agg (vC b)] w fun e w' => e = .returned (.bool true) ∧ Below w.heap.size w w' := by
  have Z : Hid _ := fun (W : World) => lSzValue a 1048576 W (by omega) ha
  have Z2 : Hid _ := fun (W : World) (m : Nat) (hm : m ≤ 1048576) => lSzValue b m W hm hb
  have T : Hid _ := fun (W : World) => lToValue a W
  have T2 : Hid _ := fun (W : World) => lToValue b W
  have S : Hid _ := fun (W : World) => sAlike a b W
  have I : Hid _ := fun (W : World) => iAlike a b W
  have HB : Hid (∀ o o2, Below w.heap.size w ((w.alloc o).alloc o2)) := fun o o2 => ((Below.refl _ _).alloc (Nat.le_refl _) o).alloc (by simp) o2
  have HL : Hid _ := lies2_two w a b
  obtain ⟨R, hR⟩ : ∃ R, Val.alikeV a b = R := ⟨_, rfl⟩
  rw [hR] at S I
  clear hR
  obtain ⟨k, n, t⟩ := a
  obtain ⟨k2, n2, t2⟩ := b
  unfold vC at *
  dsimp only at *
  clear ha hb
  go_enter Try.func6, Try.ntmps6
  go_wp2_with fail
  refine (Z.out _).mono ?_
  rintro e w1 ⟨rfl, hb1⟩
  have hbw : Below w.heap.size w w1 := (HB.out _ _).trans (hb1.mono (HB.out _ _).size)
  have L1 := HL.out.1.keep hb1
  have L2 := HL.out.2.keep hb1
  clear hb1
  by_cases hs : t.size ≤ 1048576
  case neg =>
    rw [if_neg hs]
    go_wp2_with fail
    go_ret
    exact ⟨rfl, hbw⟩
  rw [if_pos hs]
  obtain ⟨M, hM⟩ : ∃ M, (1048576 - t.size : Nat) = M := ⟨_, rfl⟩
  have hM1 : M ≤ 1048576 := by omega
  rw [hM]
  clear hM hs
  have hM0 : ¬ (M : Int) < 0 := by omega
  obtain ⟨⟨s0, s1, s2⟩, g0, g1, g2⟩ := L2.three
  dsimp only at s0 s1 s2
  have hltB := L2.lt
  go_wp2_with fail
  refine (Z2.out _ M hM1).mono ?_
  rintro e w2 ⟨rfl, hb2⟩
  replace L1 := L1.keep hb2
  replace L2 := L2.keep hb2
  replace hbw := hbw.trans (hb2.mono hbw.size)
  clear hb2 s0 s1 s2 g0 g1 g2 hltB
  by_cases hs : t2.size ≤ M
  case neg =>
    rw [if_neg hs]
    go_wp2_with fail
    go_ret
    exact ⟨rfl, hbw⟩
  rw [if_pos hs]
  obtain ⟨M2, hM2⟩ : ∃ M2, (M - t2.size : Nat) = M2 := ⟨_, rfl⟩
  rw [hM2]
  clear hM2 hs hM0 hM1
  have hM0 : ¬ (M2 : Int) < 0 := by omega
  obtain ⟨⟨r0, r1, r2⟩, f0, f1, f2⟩ := L1.three
  obtain ⟨⟨s0, s1, s2⟩, g0, g1, g2⟩ := L2.three
  dsimp only at r0 r1 r2 s0 s1 s2
  have hltA := L1.lt
  have hltB := L2.lt
  go_wp2_with fail
  go_cut [6] from 8 to 31 (fun v wx => v = .bool R ∧ Below w2.heap.size w2 wx)
  case first =>
    go_region_with (first
      | (go_at_call_of 14 k; refine (T.out _).mono ?_; rintro e WA ⟨rfl, hA⟩; have hA2 : Below w2.heap.size w2 WA := (Below.refl w2.heap.size w2).drew.trans hA; obtain ⟨⟨a0, a1, a2⟩, -⟩ := (L2.keep hA2).three)
      | (go_at_call_of 14 k2; refine (T2.out _).mono ?_; rintro e WB ⟨rfl, hB⟩; have hB2 : Below w2.heap.size w2 WB := hA2.trans (hB.mono hA2.size))
      | (go_at_call 18; refine (S.out _).mono ?_; rintro e WC ⟨rfl, hC⟩))
    all_goals
      go_wp2_with fail
      go_meet
      exact ⟨rfl, hB2.trans (hC.mono hB2.size)⟩
  case rest =>
  obtain ⟨rfl, hb3⟩ := hcut
  replace L1 := L1.keep hb3
  replace L2 := L2.keep hb3
  replace hbw := hbw.trans (hb3.mono hbw.size)
  clear hb3 r0 r1 r2 s0 s1 s2 f0 f1 f2 g0 g1 g2 hltA hltB
  obtain ⟨⟨r0, r1, r2⟩, f0, f1, f2⟩ := L1.three
  obtain ⟨⟨s0, s1, s2⟩, g0, g1, g2⟩ := L2.three
  dsimp only at r0 r1 r2 s0 s1 s2
  have hltA := L1.lt
  have hltB := L2.lt
  go_wp2_with fail
  go_cut [7] from 8 to 31 (fun v wx => v = .bool R ∧ Below wc.heap.size wc wx)
  case first =>
    go_region_with (first
      | (go_at_call_of 14 k; refine (T.out _).mono ?_; rintro e WA ⟨rfl, hA⟩; have hA2 : Below wc.heap.size wc WA := (Below.refl wc.heap.size wc).drew.trans hA; obtain ⟨⟨a0, a1, a2⟩, -⟩ := (L2.keep hA2).three)
      | (go_at_call_of 14 k2; refine (T2.out _).mono ?_; rintro e WB ⟨rfl, hB⟩; have hB2 : Below wc.heap.size wc WB := hA2.trans (hB.mono hA2.size))
      | (go_at_call 19; refine (I.out _).mono ?_; rintro e WC ⟨rfl, hC⟩))
    all_goals
      go_wp2_with fail
      go_meet
      exact ⟨rfl, hB2.trans (hC.mono hB2.size)⟩
  case rest =>
  obtain ⟨rfl, hb4⟩ := hcut
  have hbf := hbw.trans (hb4.mono hbw.size)
  clear hb4 r0 r1 r2 s0 s1 s2 f0 f1 f2 g0 g1 g2 hltA hltB L1 L2
  cases R
  · go_wp2_with fail
    go_ret
    exact ⟨rfl, hbf⟩
  · go_wp2_with fail
    go_ret
    exact ⟨rfl, hbf⟩

set_option maxRecDepth 100000 in
theorem alike_lifted (os : Os) (started : os.Started) (H : Type) (enc : TypeId × Value → H) :
    ReturnsInHanded {} Try.checked os 6 .any (Rows.fnExactAlikeSpec.pre6 enc Try.prog Try.f6 Rows.fnExactAlikeRow.domain false) (Rows.fnExactAlikeSpec.post enc Try.prog Try.f6 false true false false) := by
  refine returnsInHanded_of_change (C := Try.checked) alike_own started (by kernel_rfl) Try.func6
    (ChangeSpec.witness6 (enc := enc) (C := Try.checked) false ⟨#[], #[zeroA, zeroA], []⟩ 8 (by kernel_rfl) (by kernel_rfl) (by kernel_rfl) (by kernel_rfl)) ?_
  intro W base args ds gs before hval0 hW hcnd _
  have hval : ∀ (j : Nat) t v, Try.f6.params[j]? = some t → args[j]? = some v → Value.okWide Try.prog W .any base t v := hval0
  have hW' := hW
  obtain ⟨p, q, hA0, hV, rfl, hfz, hnd⟩ := hW
  have hA : DataW.TrodAll enc Try.prog W 0 (fun _ => true) true Try.f6.params.toList args.toList ds p := hA0
  have hlt := hA.lt
  rw [Try.params6] at hA hval
  obtain ⟨v0, vs0, d0, ds0, p0, q0, hargs, rfl, rfl, h0, r0⟩ := trodAll_cons hA
  obtain ⟨v1, vs1, d1, ds1, p1, q1, rfl, rfl, rfl, h1, r1⟩ := trodAll_cons r0
  obtain ⟨rfl, rfl, rfl⟩ := trodAll_nil r1
  obtain rfl : args = #[v0, v1] := by cases args; simp_all
  obtain ⟨rfl, rfl⟩ := trodVars_none hV
  obtain ⟨x, rfl, kx⟩ := open_value (hval 0 35 v0 rfl rfl) h0
  obtain ⟨y, rfl, ky⟩ := open_value (hval 1 35 v1 rfl rfl) h1
  clear hA0 hval0
  refine (alike_walk x y W kx ky).mono fun e W' ⟨he, bel⟩ => ?_
  subst he
  exact ⟨_, rfl, _, _, _, [], p0 ++ (p1 ++ []), [], hW', trodAll_mk1 (shut_bool Try.underlying4 _),
    (trodAll_cons_mk (Below.trod alike_laidOut alike_readable alike_row h0 bel (fun x hx => hlt x (by simp [hx]))) (trodAll_cons_mk (Below.trod alike_laidOut alike_readable alike_row h1 bel (fun x hx => hlt x (by simp [hx]))) trodAll_mk0)), rfl, bel.frame _, fun h => by cases h⟩

theorem alike_holds : Rows.FnExactAlikeSaid :=
  OpenClaim.holds_of_wide 6 Try.f6 rfl rfl rfl rfl rfl rfl rfl ⟨rfl, rfl, rfl, rfl, rfl⟩ rfl rfl rfl rfl rfl (by kernel_rfl) Try.func6 (by kernel_rfl)
    (of_decide_eq_true (by kernel_rfl)) (by unfold Func.isWrapper; first | (rw [if_pos (by decide +kernel)]; kernel_rfl) | (rw [if_neg (by decide +kernel)]; exact ⟨rfl, rfl⟩))
    (fun os started H enc _ => alike_lifted os started H enc)
#print axioms alike_holds
end Go.Proofs.Ytoficeamogbbhab

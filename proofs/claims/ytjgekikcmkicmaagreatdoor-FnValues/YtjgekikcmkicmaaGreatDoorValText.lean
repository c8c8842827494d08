/-
  The walk of the program's ToText.
-/
import Derived.Test.YtjgekikcmkicmaaGreatDoorValToT
import Derived.Test.YtjgekikcmkicmaaGreatDoorValPure
import Derived.Test.YtjgekikcmkicmaaGreatDoorValRight
import Derived.Test.YtjgekikcmkicmaaGreatDoorShelfV
import Derived.Lib.AppendIntMem
import Derived.Lib.SmallJoins
namespace Go.Proofs.YtjgekikcmkicmaaGreatDoor
namespace Val
def textOf (v : VV) : ByteArray := if right v then toTextV v else e0
end Val
open Go.RowKit

/-- The table of powers lies in its variable. -/
def PowIn (W : World) : Prop := Lib.TabIs Tryz.prog W "internal/strconv.uint64pow10" .u64 Lib.pow10Tab
theorem Tryz.gPow : Tryz.prog.globalNamed "internal/strconv.uint64pow10" = some 2 := by kernel_rfl
theorem PowIn.keep {W W' : World} (h : PowIn W) (hb : Below W.heap.size W W') : PowIn W' := Joins.tab_stays Tryz.gPow h hb (Nat.le_refl _)
theorem fmt_true : (⟨(Lib.formatBool true).toArray⟩ : ByteArray) = ⟨#[116, 114, 117, 101]⟩ := by decide +kernel
theorem fmt_false : (⟨(Lib.formatBool false).toArray⟩ : ByteArray) = ⟨#[102, 97, 108, 115, 101]⟩ := by decide +kernel

set_option maxHeartbeats 2000000 in
theorem iToText (v : Val.VV) (w : World) (hp : PowIn w) : Calls Tryz.prog 15 #[.agg (vC v)] w fun e w' => e = .returned (.string (Val.textOf v)) ∧ Below w.heap.size w w' := by
  have R : Hid _ := fun (W : World) => iValueRight v W
  have HP : Hid (PowIn w) := hp
  clear hp
  have HB : Hid (∀ o, Below w.heap.size w (w.alloc o)) := fun o => (Below.refl _ _).alloc (Nat.le_refl _) o
  have HL : Hid (Lies (w.alloc (.cells (vC v) 24)) w.heap.size v) := lies_new w v
  have hK := Val.right_kind7 v
  have hN := Val.right_num v
  have hT := Val.right_text v
  obtain ⟨B, hB⟩ : ∃ B, Val.right v = B := ⟨_, rfl⟩
  have hE : Val.textOf v = if B then Val.toTextV v else Val.e0 := by unfold Val.textOf; rw [hB]
  rw [hB] at R hK hN hT
  rw [hE]
  clear hB hE
  obtain ⟨k, n, t⟩ := v
  unfold vC at *
  dsimp only at *
  go_enter Tryz.func15, Tryz.ntmps15
  go_wp2_with fail
  refine (R.out _).mono ?_
  rintro e w1 ⟨rfl, hb1⟩
  have hbw : Below w.heap.size w w1 := (HB.out _).trans (hb1.mono (HB.out _).size)
  have L1 := HL.out.keep hb1
  have hlt := L1.lt
  obtain ⟨⟨r0, r1, r2⟩, f0, f1, f2⟩ := L1.three
  dsimp only at r0 r1 r2
  have HP1 : Hid (PowIn w1) := HP.out.keep hbw
  clear hb1 L1
  have HW : Hid (Below w.heap.size w w1) := hbw
  clear hbw
  cases B
  · go_wp2_with fail
    go_ret
    exact ⟨rfl, HW.out⟩
  · rcases hK rfl with rfl | rfl | rfl | rfl | rfl | rfl | rfl
    case inr.inr.inl =>
      clear hN hT
      by_cases h1 : n = 1
      · subst h1
        go_wp2_with fail
        refine (Tryz.strconv_FormatBool true _).mono ?_
        rw [fmt_true]
        rintro e w2 ⟨rfl, rfl⟩
        go_wp2_with fail
        go_ret
        exact ⟨rfl, HW.out⟩
      · have d1 : (n == 1) = false := beq_eq_false_iff_ne.2 h1
        have HE : Hid (Val.toTextV ⟨2, n, t⟩ = ⟨#[102, 97, 108, 115, 101]⟩) := by show _ = _; simp [Val.toTextV, h1]
        go_wp2_with fail
        refine (Tryz.strconv_FormatBool false _).mono ?_
        rw [fmt_false]
        rintro e w2 ⟨rfl, rfl⟩
        go_wp2_with fail
        go_ret
        exact ⟨(congrArg (fun x => Ending.returned (.string x)) HE.out).symm, HW.out⟩
    case inr.inr.inr.inl =>
      clear hT
      have hn := hN rfl rfl
      clear hN
      have HE : Hid (Val.toTextV ⟨3, n, t⟩ = ⟨(Lib.itoa n).toArray⟩) := by show _ = _; rw [Val.itoa_eq]; rfl
      go_wp2_with fail
      refine (Tryz.strconv_FormatInt_10 n (by omega) (by omega) _ HP1.out).mono ?_
      rintro e w2 ⟨rfl, kk, os, hw⟩
      have hb2 : Below w.heap.size w w2 := by rw [hw]; exact HW.out.trans (Lib.below_grow w.heap.size w1 HW.out.size kk os)
      clear hw
      go_wp2_with fail
      go_ret
      exact ⟨(congrArg (fun x => Ending.returned (.string x)) HE.out).symm, hb2⟩
    case inr.inr.inr.inr.inr.inl =>
      have ht := hT rfl
      clear hN hT
      have HC : Hid _ := fun (W : World) => Tryz.stringslite_Clone t W (by omega)
      go_wp2_with (first | (go_at_call 97; refine (HC.out _).mono ?_; rintro e w2 ⟨rfl, hb2⟩) | go_in)
      go_ret
      exact ⟨rfl, HW.out.trans (hb2.mono HW.out.size)⟩
    all_goals
      go_wp2_with fail
      go_ret
      exact ⟨rfl, HW.out⟩

end Go.Proofs.YtjgekikcmkicmaaGreatDoor

/-
  The walks of ToText, on both sides.
-/
import Derived.Test.YtoficeamogbbhabDoorValToT
import Derived.Test.YtoficeamogbbhabDoorValPure
import Derived.Test.YtoficeamogbbhabDoorValRight
import Derived.Test.YtoficeamogbbhabDoorShelfV
import Derived.Lib.AppendIntMem
import Derived.Lib.SmallJoins
namespace Go.Proofs.YtoficeamogbbhabDoor
namespace Val
def textOf (v : VV) : ByteArray := if right v then toTextV v else e0
theorem right_num (v : VV) (h : right v = true) (hk : v.kind = 3) : -9007199254740992 ≤ v.num ∧ v.num ≤ 9007199254740992 := by
  unfold right at h
  rw [if_neg (by omega), if_neg (by omega), if_pos hk] at h
  simp at h
  omega
theorem right_text (v : VV) (h : right v = true) : v.text.size ≤ 1000 := by
  have key : noText v = true → v.text.size ≤ 1000 := by
    intro g
    unfold noText at g
    have e : v.text.toList = [] := List.isEmpty_iff.1 g
    have e2 : v.text.toList.length = v.text.size := by rw [Lib.toList_data]; exact (Lib.size_eq v.text).symm
    rw [e] at e2
    simp at e2
    omega
  unfold right at h
  by_cases h0 : v.kind = 0 ∨ v.kind = 1 ∨ v.kind = 4
  · rw [if_pos h0] at h; simp at h; exact key h.2
  · rw [if_neg h0] at h
    by_cases h2 : v.kind = 2
    · rw [if_pos h2] at h; simp at h; exact key h.2
    · rw [if_neg h2] at h
      by_cases h3 : v.kind = 3
      · rw [if_pos h3] at h; simp at h; exact key h.2
      · rw [if_neg h3] at h
        by_cases h5 : v.kind = 5
        · rw [if_pos h5] at h; simp at h; exact h.2
        · rw [if_neg h5] at h
          by_cases h6 : v.kind = 6
          · rw [if_pos h6] at h; simp at h; exact key h.2
          · rw [if_neg h6] at h; cases h
theorem right_kind7 (v : VV) (h : right v = true) : v.kind = 0 ∨ v.kind = 1 ∨ v.kind = 2 ∨ v.kind = 3 ∨ v.kind = 4 ∨ v.kind = 5 ∨ v.kind = 6 := by
  unfold right at h
  by_cases h0 : v.kind = 0 ∨ v.kind = 1 ∨ v.kind = 4
  · omega
  · rw [if_neg h0] at h
    by_cases h2 : v.kind = 2
    · omega
    · rw [if_neg h2] at h
      by_cases h3 : v.kind = 3
      · omega
      · rw [if_neg h3] at h
        by_cases h5 : v.kind = 5
        · omega
        · rw [if_neg h5] at h
          by_cases h6 : v.kind = 6
          · omega
          · rw [if_neg h6] at h; cases h
end Val
open Go.RowKit

set_option maxHeartbeats 2000000 in
theorem sToText (v : Val.VV) (w : World) : Calls Tryd.prog 11 #[.agg (vC v)] w fun e w' => e = .returned (.string (Val.textOf v)) ∧ Below w.heap.size w w' := by
  have R : Hid _ := fun (W : World) => sValueRight v W
  have T : Hid _ := fun (h : Val.right v = true) (W : World) => sToText0 v W (fun hk => by have := Val.right_num v h hk; omega)
  have HB : Hid (∀ o, Below w.heap.size w (w.alloc o)) := fun o => (Below.refl _ _).alloc (Nat.le_refl _) o
  have HL : Hid (Lies (w.alloc (.cells (vC v) 25)) w.heap.size v) := lies_new w v
  obtain ⟨B, hB⟩ : ∃ B, Val.right v = B := ⟨_, rfl⟩
  obtain ⟨C, hC⟩ : ∃ C, Val.toTextV v = C := ⟨_, rfl⟩
  have hE : Val.textOf v = if B then C else Val.e0 := by unfold Val.textOf; rw [hB, hC]
  rw [hB] at R T
  rw [hC] at T
  rw [hE]
  clear hB hC hE
  obtain ⟨k, n, t⟩ := v
  unfold vC at *
  dsimp only at *
  go_enter Tryd.func11, Tryd.ntmps11
  go_wp2_with fail
  refine (R.out _).mono ?_
  rintro e w1 ⟨rfl, hb1⟩
  have hbw : Below w.heap.size w w1 := (HB.out _).trans (hb1.mono (HB.out _).size)
  obtain ⟨⟨r0, r1, r2⟩, f0, f1, f2⟩ := (HL.out.keep hb1).three
  dsimp only at r0 r1 r2
  cases B
  · go_wp2_with fail
    go_ret
    exact ⟨rfl, hbw⟩
  · go_wp2_with fail
    refine (T.out (by trivial) _).mono ?_
    rintro e w2 ⟨rfl, hb2⟩
    have hbf := hbw.trans (hb2.mono hbw.size)
    go_wp2_with fail
    go_ret
    exact ⟨rfl, hbf⟩

/-- The table of powers lies in its variable. -/
def PowIn (W : World) : Prop := Lib.TabIs Tryd.prog W "internal/strconv.uint64pow10" .u64 Lib.pow10Tab
theorem Tryd.gPow : Tryd.prog.globalNamed "internal/strconv.uint64pow10" = some 2 := by kernel_rfl
theorem PowIn.keep {W W' : World} (h : PowIn W) (hb : Below W.heap.size W W') : PowIn W' := Joins.tab_stays Tryd.gPow h hb (Nat.le_refl _)
theorem fmt_true : (⟨(Lib.formatBool true).toArray⟩ : ByteArray) = ⟨#[116, 114, 117, 101]⟩ := by decide +kernel
theorem fmt_false : (⟨(Lib.formatBool false).toArray⟩ : ByteArray) = ⟨#[102, 97, 108, 115, 101]⟩ := by decide +kernel

set_option maxHeartbeats 2000000 in
theorem iToText (v : Val.VV) (w : World) (hp : PowIn w) : Calls Tryd.prog 12 #[.agg (vC v)] w fun e w' => e = .returned (.string (Val.textOf v)) ∧ Below w.heap.size w w' := by
  have R : Hid _ := fun (W : World) => iValueRight v W
  have HP : Hid (PowIn w) := hp
  clear hp
  have HB : Hid (∀ o, Below w.heap.size w (w.alloc o)) := fun o => (Below.refl _ _).alloc (Nat.le_refl _) o
  have HL : Hid (Lies (w.alloc (.cells (vC v) 25)) w.heap.size v) := lies_new w v
  have hK := Val.right_kind7 v
  have hN := Val.right_num v
  have hT := Val.right_text v
  obtain ⟨B, hB⟩ : ∃ B, Val.right v = B := ⟨_, rfl⟩
  have hE : Val.textOf v = if B then Val.toTextV v else Val.e0 := by unfold Val.textOf; rw [hB]
  rw [hB] at R hK hN hT
  rw [hE]
  clear hB hE
  obtain ⟨k, n, t⟩ := v
  unfold vC at *
  dsimp only at *
  go_enter Tryd.func12, Tryd.ntmps12
  go_wp2_with fail
  refine (R.out _).mono ?_
  rintro e w1 ⟨rfl, hb1⟩
  have hbw : Below w.heap.size w w1 := (HB.out _).trans (hb1.mono (HB.out _).size)
  have L1 := HL.out.keep hb1
  have hlt := L1.lt
  obtain ⟨⟨r0, r1, r2⟩, f0, f1, f2⟩ := L1.three
  dsimp only at r0 r1 r2
  have HP1 : Hid (PowIn w1) := HP.out.keep hbw
  clear hb1 L1
  have HW : Hid (Below w.heap.size w w1) := hbw
  clear hbw
  cases B
  · go_wp2_with fail
    go_ret
    exact ⟨rfl, HW.out⟩
  · rcases hK rfl with rfl | rfl | rfl | rfl | rfl | rfl | rfl
    case inr.inr.inl =>
      clear hN hT
      by_cases h1 : n = 1
      · subst h1
        go_wp2_with fail
        refine (Tryd.strconv_FormatBool true _).mono ?_
        rw [fmt_true]
        rintro e w2 ⟨rfl, rfl⟩
        go_wp2_with fail
        go_ret
        exact ⟨rfl, HW.out⟩
      · have d1 : (n == 1) = false := beq_eq_false_iff_ne.2 h1
        have HE : Hid (Val.toTextV ⟨2, n, t⟩ = ⟨#[102, 97, 108, 115, 101]⟩) := by show _ = _; simp [Val.toTextV, h1]
        go_wp2_with fail
        refine (Tryd.strconv_FormatBool false _).mono ?_
        rw [fmt_false]
        rintro e w2 ⟨rfl, rfl⟩
        go_wp2_with fail
        go_ret
        exact ⟨(congrArg (fun x => Ending.returned (.string x)) HE.out).symm, HW.out⟩
    case inr.inr.inr.inl =>
      clear hT
      have hn := hN rfl rfl
      clear hN
      have HE : Hid (Val.toTextV ⟨3, n, t⟩ = ⟨(Lib.itoa n).toArray⟩) := by show _ = _; rw [Val.itoa_eq]; rfl
      go_wp2_with fail
      refine (Tryd.strconv_FormatInt_10 n (by omega) (by omega) _ HP1.out).mono ?_
      rintro e w2 ⟨rfl, kk, os, hw⟩
      have hb2 : Below w.heap.size w w2 := by rw [hw]; exact HW.out.trans (Lib.below_grow w.heap.size w1 HW.out.size kk os)
      clear hw
      go_wp2_with fail
      go_ret
      exact ⟨(congrArg (fun x => Ending.returned (.string x)) HE.out).symm, hb2⟩
    case inr.inr.inr.inr.inr.inl =>
      have ht := hT rfl
      clear hN hT
      have HC : Hid _ := fun (W : World) => Tryd.stringslite_Clone t W (by omega)
      go_wp2_with (first | (go_at_call 34; refine (HC.out _).mono ?_; rintro e w2 ⟨rfl, hb2⟩) | go_in)
      go_ret
      exact ⟨rfl, HW.out.trans (hb2.mono HW.out.size)⟩
    all_goals
      go_wp2_with fail
      go_ret
      exact ⟨rfl, HW.out⟩

end Go.Proofs.YtoficeamogbbhabDoor

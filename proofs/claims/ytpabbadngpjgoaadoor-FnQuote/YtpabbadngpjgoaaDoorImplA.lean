/-
  The walks of the small functions of impl's lexer.
-/
import Derived.Test.YtpabbadngpjgoaaDoorOwn
import Derived.Test.YtpabbadngpjgoaaDoorLexU
import Derived.Test.YtpabbadngpjgoaaDoorShelf
namespace Go.Proofs.YtpabbadngpjgoaaDoor
open Go.RowKit

theorem ret_u8 {a b : Int} (h : a = b) : Ending.returned (.int .u8 a) = .returned (.int .u8 b) := by rw [h]
theorem ret_i64 {a b : Int} (h : a = b) : Ending.returned (.int .i64 a) = .returned (.int .i64 b) := by rw [h]

set_option maxHeartbeats 400000 in
theorem iByteAt (s : ByteArray) (i : Nat) (w : World) (_hi : i ≤ 100000000) : Calls Tryd.prog 31 #[.string s, .int .i64 i] w fun e w' => e = .returned (.int .u8 (Lex.bAt s i)) ∧ w = w' := by
  by_cases h : i < s.size
  · have hv := Lex.bAt_in s i h
    have HV : Hid (Lex.bAt s i = (s[i].toNat : Int)) := hv
    clear hv
    go_enter Tryd.func31, Tryd.ntmps31
    go_wp2
    go_ret
    exact ⟨ret_u8 HV.out.symm, rfl⟩
  · have HV : Hid (Lex.bAt s i = 0) := Lex.bAt_out s i h
    go_enter Tryd.func31, Tryd.ntmps31
    go_wp2
    go_ret
    exact ⟨ret_u8 HV.out.symm, rfl⟩

set_option maxHeartbeats 400000 in
theorem iHidden (c : Int) (w : World) : Calls Tryd.prog 50 #[.int .u8 c] w fun e w' => e = .returned (.int .u8 (Lex.hidB c)) ∧ w = w' := by
  by_cases h1 : c = 92
  · subst h1
    go_enter Tryd.func50, Tryd.ntmps50
    go_wp2
    go_ret
    exact ⟨ret_u8 (by decide), rfl⟩
  by_cases h2 : c = 34
  · subst h2
    go_enter Tryd.func50, Tryd.ntmps50
    go_wp2
    go_ret
    exact ⟨ret_u8 (by decide), rfl⟩
  by_cases h3 : c = 110
  · subst h3
    go_enter Tryd.func50, Tryd.ntmps50
    go_wp2
    go_ret
    exact ⟨ret_u8 (by decide), rfl⟩
  have b1 : (c == 92) = false := beq_eq_false_iff_ne.2 h1
  have b2 : (c == 34) = false := beq_eq_false_iff_ne.2 h2
  have b3 : (c == 110) = false := beq_eq_false_iff_ne.2 h3
  have HV : Hid (Lex.hidB c = 0) := by show Lex.hidB c = 0; unfold Lex.hidB; rw [if_neg (by omega), if_neg h3]
  clear h1 h2 h3
  go_enter Tryd.func50, Tryd.ntmps50
  go_wp2
  go_ret
  exact ⟨ret_u8 HV.out.symm, rfl⟩

set_option maxHeartbeats 1000000 in
theorem iStep (s : ByteArray) (i : Nat) (w : World) (hi : i ≤ 10000000) : Calls Tryd.prog 35 #[.string s, .int .i64 i] w fun e w' => e = .returned (.int .i64 (Lex.stepT s i)) ∧ w = w' := by
  have hb := Lex.bAt_bd s i
  by_cases h1 : Lex.bAt s i = 92
  · have b1 : (Lex.bAt s i == 92) = true := beq_iff_eq.2 h1
    by_cases h2 : Lex.hidB (Lex.bAt s (i + 1)) = 0
    · have b2 : (Lex.hidB (Lex.bAt s (i + 1)) != 0) = false := by simp [h2]
      have HV : Hid (Lex.stepT s i = 0) := Lex.stepT_hid s i h1 h2
      clear h1 h2
      go_enter Tryd.func35, Tryd.ntmps35
      go_wp2_with fail
      refine (iByteAt s i _ (by omega)).mono ?_; rintro e w' ⟨rfl, rfl⟩
      go_wp2_with fail
      rw [show ((i : Int) + 1) = ((i + 1 : Nat) : Int) from by omega]
      refine (iByteAt s (i + 1) _ (by omega)).mono ?_; rintro e w' ⟨rfl, rfl⟩
      go_wp2_with fail
      refine (iHidden _ _).mono ?_; rintro e w' ⟨rfl, rfl⟩
      go_wp2_with fail
      go_ret
      exact ⟨ret_i64 (by rw [HV.out]; rfl), rfl⟩
    · have b2 : (Lex.hidB (Lex.bAt s (i + 1)) != 0) = true := by simp [h2]
      have HV : Hid (Lex.stepT s i = 2) := Lex.stepT_two s i h1 h2
      clear h1 h2
      go_enter Tryd.func35, Tryd.ntmps35
      go_wp2_with fail
      refine (iByteAt s i _ (by omega)).mono ?_; rintro e w' ⟨rfl, rfl⟩
      go_wp2_with fail
      rw [show ((i : Int) + 1) = ((i + 1 : Nat) : Int) from by omega]
      refine (iByteAt s (i + 1) _ (by omega)).mono ?_; rintro e w' ⟨rfl, rfl⟩
      go_wp2_with fail
      refine (iHidden _ _).mono ?_; rintro e w' ⟨rfl, rfl⟩
      go_wp2_with fail
      go_ret
      exact ⟨ret_i64 (by rw [HV.out]; rfl), rfl⟩
  have b1 : (Lex.bAt s i == 92) = false := beq_eq_false_iff_ne.2 h1
  by_cases h2 : Lex.bAt s i = 34
  · have b2 : (Lex.bAt s i == 34) = true := beq_iff_eq.2 h2
    have HV : Hid (Lex.stepT s i = 0) := Lex.stepT_quo s i h2
    clear h1 h2
    go_enter Tryd.func35, Tryd.ntmps35
    go_wp2_with fail
    refine (iByteAt s i _ (by omega)).mono ?_; rintro e w' ⟨rfl, rfl⟩
    go_wp2_with fail
    go_ret
    exact ⟨ret_i64 (by rw [HV.out]; rfl), rfl⟩
  have b2 : (Lex.bAt s i == 34) = false := beq_eq_false_iff_ne.2 h2
  by_cases h3 : Lex.txtB (Lex.bAt s i) = true
  · have HV : Hid (Lex.stepT s i = 1) := Lex.stepT_one s i h1 h2 h3
    clear h1 h2
    go_enter Tryd.func35, Tryd.ntmps35
    go_wp2_with fail
    refine (iByteAt s i _ (by omega)).mono ?_; rintro e w' ⟨rfl, rfl⟩
    go_wp2_with fail
    refine (iTextByte _ _).mono ?_; rintro e w' ⟨rfl, rfl⟩
    go_wp2_with fail
    go_ret
    exact ⟨ret_i64 (by rw [HV.out]; rfl), rfl⟩
  · rw [Bool.not_eq_true] at h3
    have HV : Hid (Lex.stepT s i = 0) := Lex.stepT_bad s i h3
    clear h1 h2
    go_enter Tryd.func35, Tryd.ntmps35
    go_wp2_with fail
    refine (iByteAt s i _ (by omega)).mono ?_; rintro e w' ⟨rfl, rfl⟩
    go_wp2_with fail
    refine (iTextByte _ _).mono ?_; rintro e w' ⟨rfl, rfl⟩
    go_wp2_with fail
    go_ret
    exact ⟨ret_i64 (by rw [HV.out]; rfl), rfl⟩

end Go.Proofs.YtpabbadngpjgoaaDoor

/-
  The walks of the small functions on bytes and words.
-/
import Derived.Test.YtgdiohnpaldeiaaRows
import Derived.Test.YtgdiohnpaldeiaaLex
import Derived.WalkKit
import Derived.WalkSpells
import Derived.WalkLawsBesides
namespace Go.Proofs.Ytgdiohnpaldeiaa
open Go.RowKit

theorem ret_bool {a b : Bool} (h : a = b) : Ending.returned (.bool a) = .returned (.bool b) := by rw [h]

set_option maxHeartbeats 400000 in
theorem sDigit (c : Int) (w : World) : Calls Try.prog 15 #[.int .u8 c] w fun e w' => e = .returned (.bool (Lex.digB c)) ∧ w' = w := by
  go_enter Try.func15, Try.ntmps15
  go_wp2
  all_goals
    go_ret
    exact ⟨ret_bool (by simp [Lex.digB]; try omega), rfl⟩

set_option maxHeartbeats 400000 in
theorem iDigit (c : Int) (w : World) : Calls Try.prog 19 #[.int .u8 c] w fun e w' => e = .returned (.bool (Lex.digB c)) ∧ w' = w := by
  go_enter Try.func19, Try.ntmps19
  go_wp2
  all_goals
    go_ret
    exact ⟨ret_bool (by simp [Lex.digB]; try omega), rfl⟩

set_option maxHeartbeats 1000000 in
theorem sLetter (c : Int) (w : World) : Calls Try.prog 18 #[.int .u8 c] w fun e w' => e = .returned (.bool (Lex.letB c)) ∧ w' = w := by
  go_enter Try.func18, Try.ntmps18
  go_wp2_with (first | (go_at_call 15; refine (sDigit _ _).mono ?_; rintro e w' ⟨rfl, rfl⟩; unfold Lex.digB))
  all_goals
    go_ret
    exact ⟨ret_bool (by rw [Bool.eq_iff_iff]; simp [Lex.letB] <;> omega), rfl⟩

set_option maxHeartbeats 1000000 in
theorem iLetter (c : Int) (w : World) : Calls Try.prog 20 #[.int .u8 c] w fun e w' => e = .returned (.bool (Lex.letB c)) ∧ w' = w := by
  go_enter Try.func20, Try.ntmps20
  go_wp2_with (first | (go_at_call 19; refine (iDigit _ _).mono ?_; rintro e w' ⟨rfl, rfl⟩; unfold Lex.digB))
  all_goals
    go_ret
    exact ⟨ret_bool (by rw [Bool.eq_iff_iff]; simp [Lex.letB] <;> omega), rfl⟩

set_option maxHeartbeats 400000 in
theorem iTextByte (c : Int) (w : World) : Calls Try.prog 23 #[.int .u8 c] w fun e w' => e = .returned (.bool (Lex.txtB c)) ∧ w' = w := by
  go_enter Try.func23, Try.ntmps23
  go_wp2
  all_goals
    go_ret
    exact ⟨ret_bool (by simp [Lex.txtB]; try omega), rfl⟩

end Go.Proofs.Ytgdiohnpaldeiaa

/-
  The walks of the small functions on bytes and words.
-/
import Derived.Test.YtpabbadngpjgoaaDoorRows
import Derived.Test.YtpabbadngpjgoaaDoorLex
import Derived.WalkKit
import Derived.WalkSpells
import Derived.WalkLawsBesides
namespace Go.Proofs.YtpabbadngpjgoaaDoor
open Go.RowKit

theorem ret_bool {a b : Bool} (h : a = b) : Ending.returned (.bool a) = .returned (.bool b) := by rw [h]

set_option maxHeartbeats 400000 in
theorem sDigit (c : Int) (w : World) : Calls Tryd.prog 41 #[.int .u8 c] w fun e w' => e = .returned (.bool (Lex.digB c)) ∧ w' = w := by
  go_enter Tryd.func41, Tryd.ntmps41
  go_wp2
  all_goals
    go_ret
    exact ⟨ret_bool (by simp [Lex.digB]; try omega), rfl⟩

set_option maxHeartbeats 400000 in
theorem iDigit (c : Int) (w : World) : Calls Tryd.prog 32 #[.int .u8 c] w fun e w' => e = .returned (.bool (Lex.digB c)) ∧ w' = w := by
  go_enter Tryd.func32, Tryd.ntmps32
  go_wp2
  all_goals
    go_ret
    exact ⟨ret_bool (by simp [Lex.digB]; try omega), rfl⟩

set_option maxHeartbeats 1000000 in
theorem sLetter (c : Int) (w : World) : Calls Tryd.prog 43 #[.int .u8 c] w fun e w' => e = .returned (.bool (Lex.letB c)) ∧ w' = w := by
  go_enter Tryd.func43, Tryd.ntmps43
  go_wp2_with (first | (go_at_call 41; refine (sDigit _ _).mono ?_; rintro e w' ⟨rfl, rfl⟩; unfold Lex.digB))
  all_goals
    go_ret
    exact ⟨ret_bool (by rw [Bool.eq_iff_iff]; simp [Lex.letB] <;> omega), rfl⟩

set_option maxHeartbeats 1000000 in
theorem iLetter (c : Int) (w : World) : Calls Tryd.prog 33 #[.int .u8 c] w fun e w' => e = .returned (.bool (Lex.letB c)) ∧ w' = w := by
  go_enter Tryd.func33, Tryd.ntmps33
  go_wp2_with (first | (go_at_call 32; refine (iDigit _ _).mono ?_; rintro e w' ⟨rfl, rfl⟩; unfold Lex.digB))
  all_goals
    go_ret
    exact ⟨ret_bool (by rw [Bool.eq_iff_iff]; simp [Lex.letB] <;> omega), rfl⟩

set_option maxHeartbeats 400000 in
theorem iTextByte (c : Int) (w : World) : Calls Tryd.prog 19 #[.int .u8 c] w fun e w' => e = .returned (.bool (Lex.txtB c)) ∧ w' = w := by
  go_enter Tryd.func19, Tryd.ntmps19
  go_wp2
  all_goals
    go_ret
    exact ⟨ret_bool (by simp [Lex.txtB]; try omega), rfl⟩

end Go.Proofs.YtpabbadngpjgoaaDoor

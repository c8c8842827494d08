/-
  The walks of NameRight on both sides.
-/
import Derived.Test.YtgdiohnpaldeiaaWords
namespace Go.Proofs.Ytgdiohnpaldeiaa
open Go.RowKit

theorem wordsObj_eq : wordsObj = .cells (Lex.words.map Value.string).toArray 9 := rfl

theorem sIsWords (t : ByteArray) (w : World) :
    Calls Try.prog 16 #[.slice (some ⟨w.heap.size, 0, none⟩) 23 23, .string t] (w.alloc wordsObj) fun e w' => e = .returned (.bool (Lex.wordB t)) ∧ w' = w.alloc wordsObj := by
  have h := sIs w.heap.size Lex.words t (w.alloc wordsObj) 23 (by decide) (fun i h => by
    rw [wordsObj_eq, World.cell?_alloc_new]; simp [h])
  exact h

set_option maxHeartbeats 1000000 in
theorem sName (s : ByteArray) (w : World) (hs : s.size ≤ maxLen) : Calls Try.prog 6 #[.string s] w fun e w' => e = .returned (.bool (Lex.nameB s)) ∧ Below w.heap.size w w' := by
  unfold maxLen at hs
  by_cases h1 : s.size < 1
  · go_enter Try.func6, Try.ntmps6
    go_wp2_with fail
    go_ret
    exact ⟨ret_bool (Lex.nameB_no_len s (by omega)).symm, Below.refl _ _⟩
  have b1 : decide ((s.size : Int) < 1) = false := by simp; omega
  by_cases h2 : 20 < s.size
  · go_enter Try.func6, Try.ntmps6
    go_wp2_with fail
    go_ret
    exact ⟨ret_bool (Lex.nameB_no_len s (by omega)).symm, Below.refl _ _⟩
  have b2 : decide (20 < (s.size : Int)) = false := by simp; omega
  have h0 : 0 < s.size := by omega
  by_cases h3 : Lex.digB (s[0].toNat) = true
  · go_enter Try.func6, Try.ntmps6
    go_wp2_with (first | (go_at_call 15; refine (sDigit _ _).mono ?_; rintro e w' ⟨rfl, rfl⟩))
    go_ret
    exact ⟨ret_bool (Lex.nameB_no_dig s h0 h3).symm, Below.refl _ _⟩
  rw [Bool.not_eq_true] at h3
  by_cases h4 : Lex.wordB s = true
  · go_enter Try.func6, Try.ntmps6
    go_wp2_with (first | (go_at_call 15; refine (sDigit _ _).mono ?_; rintro e w' ⟨rfl, rfl⟩) | (go_at_call 17; refine (sWords _).mono ?_; rintro e w' ⟨rfl, rfl⟩) | (go_at_call 16; refine (sIsWords _ _).mono ?_; rintro e w' ⟨rfl, rfl⟩))
    go_ret
    exact ⟨ret_bool (Lex.nameB_no_word s h4).symm, (Below.refl _ _).alloc (Nat.le_refl _) _⟩
  rw [Bool.not_eq_true] at h4
  go_enter Try.func6, Try.ntmps6
  go_wp2_with (first | (go_at_call 15; refine (sDigit _ _).mono ?_; rintro e w' ⟨rfl, rfl⟩) | (go_at_call 17; refine (sWords _).mono ?_; rintro e w' ⟨rfl, rfl⟩) | (go_at_call 16; refine (sIsWords _ _).mono ?_; rintro e w' ⟨rfl, rfl⟩))
  go_loop [3] (fun i => ∃ k : Nat, k ≤ s.size ∧ i = .int .i64 k ∧ Lex.lets s k = true) (fun i => s.size - (intOf i).toNat)
  case atStart => exact ⟨0, Nat.zero_le _, rfl, rfl⟩
  case round =>
    obtain ⟨k, hk, rfl, hin⟩ := hrel
    have HI : Hid (Lex.lets s k = true) := hin
    clear hin
    by_cases hlt : k < s.size
    · by_cases hl : Lex.letB s[k].toNat = true
      · go_wp2_with (first | (go_at_call 18; refine (sLetter _ _).mono ?_; rintro e w' ⟨rfl, rfl⟩))
        go_round
        case rel => exact ⟨k + 1, by omega, by go_num, by rw [Lex.lets_succ s k hlt, HI.out, hl]; rfl⟩
        case measure => simp [intOf]; omega
      · rw [Bool.not_eq_true] at hl
        go_wp2_with (first | (go_at_call 18; refine (sLetter _ _).mono ?_; rintro e w' ⟨rfl, rfl⟩))
        go_ret
        exact ⟨ret_bool (Lex.nameB_no_let s k hlt hl).symm, (Below.refl _ _).alloc (Nat.le_refl _) _⟩
    · have hkk : k = s.size := by omega
      subst hkk
      go_wp2_with fail
      go_ret
      exact ⟨ret_bool (by rw [Lex.nameB_rest s (by omega) (by omega) h3 HI.out, h4]; rfl), (Below.refl _ _).alloc (Nat.le_refl _) _⟩

set_option maxHeartbeats 1000000 in
theorem iName (s : ByteArray) (w : World) (hs : s.size ≤ maxLen) : Calls Try.prog 7 #[.string s] w fun e w' => e = .returned (.bool (Lex.nameB s)) ∧ w' = w := by
  unfold maxLen at hs
  by_cases h1 : s.size = 0
  · have b0 : ((s.size : Int) == 0) = true := by simp [h1]
    clear hs
    have hn := Lex.nameB_no_len s (by omega)
    clear h1
    go_enter Try.func7, Try.ntmps7
    go_wp2_with fail
    go_ret
    exact ⟨ret_bool hn.symm, rfl⟩
  have b1 : ((s.size : Int) == 0) = false := beq_eq_false_iff_ne.2 (by omega)
  by_cases h2 : 20 < s.size
  · go_enter Try.func7, Try.ntmps7
    go_wp2_with fail
    go_ret
    exact ⟨ret_bool (Lex.nameB_no_len s (by omega)).symm, rfl⟩
  have b2 : decide (20 < (s.size : Int)) = false := by simp; omega
  have h0 : 0 < s.size := by omega
  by_cases h3 : Lex.digB (s[0].toNat) = true
  · go_enter Try.func7, Try.ntmps7
    go_wp2_with (first | (go_at_call 19; refine (iDigit _ _).mono ?_; rintro e w' ⟨rfl, rfl⟩))
    go_ret
    exact ⟨ret_bool (Lex.nameB_no_dig s h0 h3).symm, rfl⟩
  rw [Bool.not_eq_true] at h3
  go_enter Try.func7, Try.ntmps7
  go_wp2_with (first | (go_at_call 19; refine (iDigit _ _).mono ?_; rintro e w' ⟨rfl, rfl⟩))
  go_loop [19] (fun i => ∃ k : Nat, k ≤ s.size ∧ i = .int .i64 k ∧ Lex.lets s k = true) (fun i => s.size - (intOf i).toNat)
  case atStart => exact ⟨0, Nat.zero_le _, rfl, rfl⟩
  case round =>
    obtain ⟨k, hk, rfl, hin⟩ := hrel
    have HI : Hid (Lex.lets s k = true) := hin
    clear hin
    by_cases hlt : k < s.size
    · by_cases hl : Lex.letB s[k].toNat = true
      · go_wp2_with (first | (go_at_call 20; refine (iLetter _ _).mono ?_; rintro e w' ⟨rfl, rfl⟩))
        go_round
        case rel => exact ⟨k + 1, by omega, by go_num, by rw [Lex.lets_succ s k hlt, HI.out, hl]; rfl⟩
        case measure => simp [intOf]; omega
      · rw [Bool.not_eq_true] at hl
        go_wp2_with (first | (go_at_call 20; refine (iLetter _ _).mono ?_; rintro e w' ⟨rfl, rfl⟩))
        go_ret
        exact ⟨ret_bool (Lex.nameB_no_let s k hlt hl).symm, rfl⟩
    · have hkk : k = s.size := by omega
      subst hkk
      go_wp2_with (first | (go_at_call 21; refine (iWord _ _).mono ?_; rintro e w' ⟨rfl, rfl⟩))
      go_ret
      exact ⟨ret_bool (by rw [Lex.nameB_rest s (by omega) (by omega) h3 HI.out]), rfl⟩

end Go.Proofs.Ytgdiohnpaldeiaa

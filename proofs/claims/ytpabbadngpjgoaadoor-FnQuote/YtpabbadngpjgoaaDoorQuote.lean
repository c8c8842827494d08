/-
  The walks of Quote on both sides.
-/
import Derived.Test.YtpabbadngpjgoaaDoorOwn
import Derived.Test.YtpabbadngpjgoaaDoorLexQ
namespace Go.Proofs.YtpabbadngpjgoaaDoor
open Go.RowKit

theorem ret_str {a b : ByteArray} (h : a = b) : Ending.returned (.string a) = .returned (.string b) := by rw [h]

theorem ret_sb {a c : ByteArray} {b d : Bool} (h : a = c) (h2 : b = d) : Ending.returned (.tuple #[.string a, .bool b]) = .returned (.tuple #[.string c, .bool d]) := by rw [h, h2]

theorem acc_step {s : ByteArray} {k : Nat} (hk : k < s.size) {B : Nat} {w0 wr wx w1 : World} {v' : Value} {news : List UInt8} (he : news = Lex.escB s[k])
    (hb : Below B w0 wr) (hx : wx = wr ∨ ∃ o, wx = wr.alloc o) (hB : B ≤ wr.heap.size) (h1 : OwnB w1 B v' (Lex.accQ s k ++ news)) (h2 : Below B wx w1) :
    OwnB w1 B v' (Lex.accQ s (k + 1)) ∧ Below B w0 w1 := by
  subst he
  rw [Lex.accQ_succ s k hk]
  refine ⟨h1, ?_⟩
  rcases hx with rfl | ⟨o, rfl⟩
  · exact hb.trans h2
  · exact (hb.alloc hB o).trans h2

set_option maxHeartbeats 2000000 in
theorem sQuote0 (s : ByteArray) (w : World) (hs : s.size ≤ 4000) : Calls Tryd.prog 20 #[.string s] w fun e w' =>
    e = .returned (.tuple #[.string (Lex.q0 s), .bool (Lex.q0ok s)]) ∧ Below w.heap.size w w' := by
  go_enter Tryd.func20, Tryd.ntmps20
  go_wp2
  go_loopw [4, 5] (fun v i wr => ∃ k : Nat, k ≤ s.size ∧ i = .int .i64 k ∧ OwnB wr w.heap.size v (Lex.accQ s k) ∧ Below w.heap.size w wr ∧ Hid (Lex.oksQ s k = true)) (fun _ i _ => s.size - (intOf i).toNat)
  case atStart => exact ⟨0, Nat.zero_le _, rfl, OwnB.new w w.heap.size (Nat.le_refl _) [34] (by decide) _ rfl 1 rfl, (Below.refl _ _).alloc (Nat.le_refl _) _, rfl⟩
  case round =>
    obtain ⟨k, hk, rfl, hown, hbel, HI⟩ := hrel
    have hsz := hbel.size
    have hal := Lex.accQ_len s k
    by_cases hlt : k < s.size
    · by_cases c1 : (s[k].toNat : Int) = 10
      · have c1' : ((s[k].toNat : Int) == 10) = true := by simp [c1]
        have E := Lex.escB_n _ c1
        have O := Lex.okQ_n _ c1
        clear c1
        go_wp2_with (first | (at_builtin; refine app_own rfl _ _ rfl w.heap.size _ _ rfl (hown.alloc _) ⟨wr.heap.size, 0, none⟩ 2 [92, 110] rfl rfl (fun j u h => new_cells wr _ _ j u h) (by omega) (by simp; omega) ?_; intro v' w1 hown' hbel'))
        have R := acc_step hlt E.symm hbel (.inr ⟨_, rfl⟩) hsz hown' hbel'
        skip
        exact ⟨⟨k + 1, by omega, by go_num, R.1, R.2, by show Lex.oksQ s (k + 1) = true; rw [Lex.oksQ_succ s k hlt, HI.out, O]; rfl⟩, by simp [intOf]; omega⟩
      · have c1' : ((s[k].toNat : Int) == 10) = false := beq_eq_false_iff_ne.2 c1
        by_cases c2 : (s[k].toNat : Int) < 32
        · have hn := Lex.oksQ_false s k hlt (Lex.okQ_no _ c1 (.inl c2))
          have HN : Hid (Lex.oksQ s s.size = false) := hn
          clear hn
          go_wp2
          go_ret2
          exact ⟨ret_sb (Lex.q0_no s HN.out).symm (Lex.q0ok_no s HN.out).symm, hbel⟩
        by_cases c3 : 126 < (s[k].toNat : Int)
        · have hn := Lex.oksQ_false s k hlt (Lex.okQ_no _ c1 (.inr c3))
          have HN : Hid (Lex.oksQ s s.size = false) := hn
          clear hn
          go_wp2
          go_ret2
          exact ⟨ret_sb (Lex.q0_no s HN.out).symm (Lex.q0ok_no s HN.out).symm, hbel⟩
        have O := Lex.okQ_t s[k] (by omega) (by omega)
        by_cases c4 : (s[k].toNat : Int) = 34
        · have E := Lex.escB_b _ c1 (.inl c4)
          have c4' : ((s[k].toNat : Int) == 34) = true := by simp [c4]
          clear c4 c1
          go_wp2_with (first | (at_builtin; refine app_own rfl _ _ rfl w.heap.size _ _ rfl (hown.alloc _) ⟨wr.heap.size, 0, none⟩ 2 [92, s[k]] rfl rfl (fun j u h => new_cells wr _ _ j u h) (by omega) (by simp; omega) ?_; intro v' w1 hown' hbel'))
          have R := acc_step hlt E.symm hbel (.inr ⟨_, rfl⟩) hsz hown' hbel'
          skip
          exact ⟨⟨k + 1, by omega, by go_num, R.1, R.2, by show Lex.oksQ s (k + 1) = true; rw [Lex.oksQ_succ s k hlt, HI.out, O]; rfl⟩, by simp [intOf]; omega⟩
        have c4' : ((s[k].toNat : Int) == 34) = false := beq_eq_false_iff_ne.2 c4
        by_cases c5 : (s[k].toNat : Int) = 92
        · have E := Lex.escB_b _ c1 (.inr c5)
          have c5' : ((s[k].toNat : Int) == 92) = true := by simp [c5]
          clear c5 c4 c1
          go_wp2_with (first | (at_builtin; refine app_own rfl _ _ rfl w.heap.size _ _ rfl (hown.alloc _) ⟨wr.heap.size, 0, none⟩ 2 [92, s[k]] rfl rfl (fun j u h => new_cells wr _ _ j u h) (by omega) (by simp; omega) ?_; intro v' w1 hown' hbel'))
          have R := acc_step hlt E.symm hbel (.inr ⟨_, rfl⟩) hsz hown' hbel'
          skip
          exact ⟨⟨k + 1, by omega, by go_num, R.1, R.2, by show Lex.oksQ s (k + 1) = true; rw [Lex.oksQ_succ s k hlt, HI.out, O]; rfl⟩, by simp [intOf]; omega⟩
        have c5' : ((s[k].toNat : Int) == 92) = false := beq_eq_false_iff_ne.2 c5
        have E := Lex.escB_p _ c1 (by omega)
        clear c5 c4 c1
        go_wp2_with (first | (at_builtin; refine app_own rfl _ _ rfl w.heap.size _ _ rfl (hown.alloc _) ⟨wr.heap.size, 0, none⟩ 1 [s[k]] rfl rfl (fun j u h => new_cells wr _ _ j u h) (by omega) (by simp; omega) ?_; intro v' w1 hown' hbel'))
        have R := acc_step hlt E.symm hbel (.inr ⟨_, rfl⟩) hsz hown' hbel'
        skip
        exact ⟨⟨k + 1, by omega, by go_num, R.1, R.2, by show Lex.oksQ s (k + 1) = true; rw [Lex.oksQ_succ s k hlt, HI.out, O]; rfl⟩, by simp [intOf]; omega⟩
    · have hkk : k = s.size := by omega
      subst hkk
      go_wp2_with (first | (at_builtin; refine app_own rfl _ _ rfl w.heap.size _ _ rfl (hown.alloc _) ⟨wr.heap.size, 0, none⟩ 1 [34] rfl rfl (fun j u h => new_cells wr _ _ j u h) (by omega) (by simp; omega) ?_; intro v' w1 hown' hbel'); have hcv := conv_own hown')
      go_ret2
      exact ⟨ret_sb (Lex.q0_yes s HI.out).symm (Lex.q0ok_yes s HI.out).symm, (hbel.alloc hsz _).trans hbel'⟩

set_option maxHeartbeats 400000 in
theorem sQuote (s : ByteArray) (w : World) (hs : s.size ≤ maxLen) : Calls Tryd.prog 7 #[.string s] w fun e w' => e = .returned (.string (Lex.quoteB s)) ∧ Below w.heap.size w w' := by
  unfold maxLen at hs
  by_cases h : 4000 < s.size
  · have hn := Lex.quoteB_no s (by omega)
    have HN : Hid (Lex.quoteB s = ⟨#[]⟩) := hn
    clear hn
    go_enter Tryd.func7, Tryd.ntmps7
    go_wp2_with fail
    go_ret
    exact ⟨ret_str HN.out.symm, Below.refl _ _⟩
  · by_cases hq : Lex.q0ok s = true
    · have HN : Hid (Lex.quoteB s = Lex.q0 s) := Lex.quoteB_q0 s hq
      go_enter Tryd.func7, Tryd.ntmps7
      go_wp2_with fail
      refine (sQuote0 s _ (by omega)).mono ?_
      rintro e w1 ⟨rfl, hb⟩
      go_wp2_with fail
      go_ret
      exact ⟨ret_str HN.out.symm, hb⟩
    · rw [Bool.not_eq_true] at hq
      have HN : Hid (Lex.quoteB s = ⟨#[]⟩) := Lex.quoteB_q0no s hq
      go_enter Tryd.func7, Tryd.ntmps7
      go_wp2_with fail
      refine (sQuote0 s _ (by omega)).mono ?_
      rintro e w1 ⟨rfl, hb⟩
      go_wp2_with fail
      go_ret
      exact ⟨ret_str HN.out.symm, hb⟩

set_option maxHeartbeats 2000000 in
theorem iQuote (s : ByteArray) (w : World) (hs : s.size ≤ maxLen) : Calls Tryd.prog 6 #[.string s] w fun e w' => e = .returned (.string (Lex.quoteB s)) ∧ Below w.heap.size w w' := by
  unfold maxLen at hs
  by_cases h : 1000 < s.size
  · have hn := Lex.quoteB_no s (by omega)
    have HN : Hid (Lex.quoteB s = ⟨#[]⟩) := hn
    clear hn
    go_enter Tryd.func6, Tryd.ntmps6
    go_wp2_with fail
    go_ret
    exact ⟨ret_str HN.out.symm, Below.refl _ _⟩
  clear hs
  have hs : s.size ≤ 1000 := by omega
  have hd : decide (1000 < (s.size : Int)) = false := by simp; omega
  go_enter Tryd.func6, Tryd.ntmps6
  go_wp2
  go_loopw [3, 12] (fun v i wr => ∃ k : Nat, k ≤ s.size ∧ i = .int .i64 k ∧ OwnB wr w.heap.size v (Lex.accQ s k) ∧ Below w.heap.size w wr ∧ Hid (Lex.oksQ s k = true)) (fun _ i _ => s.size - (intOf i).toNat)
  case atStart => exact ⟨0, Nat.zero_le _, rfl, OwnB.new w w.heap.size (Nat.le_refl _) [34] (by decide) _ rfl 1 rfl, (Below.refl _ _).alloc (Nat.le_refl _) _, rfl⟩
  case round =>
    obtain ⟨k, hk, rfl, hown, hbel, HI⟩ := hrel
    have hsz := hbel.size
    have hal := Lex.accQ_len s k
    by_cases hlt : k < s.size
    · by_cases c1 : (s[k].toNat : Int) = 10
      · have c1' : ((s[k].toNat : Int) == 10) = true := by simp [c1]
        have E := Lex.escB_n _ c1
        have O := Lex.okQ_n _ c1
        clear c1
        go_wp2_with (first | (at_builtin; refine app_own rfl _ _ rfl w.heap.size _ _ rfl (hown.alloc _) ⟨wr.heap.size, 0, none⟩ 2 [92, 110] rfl rfl (fun j u h => new_cells wr _ _ j u h) (by omega) (by simp; omega) ?_; intro v' w1 hown' hbel'))
        have R := acc_step hlt E.symm hbel (.inr ⟨_, rfl⟩) hsz hown' hbel'
        exact ⟨⟨k + 1, by omega, by go_num, R.1, R.2, by show Lex.oksQ s (k + 1) = true; rw [Lex.oksQ_succ s k hlt, HI.out, O]; rfl⟩, by simp [intOf]; omega⟩
      · have c1' : ((s[k].toNat : Int) == 10) = false := beq_eq_false_iff_ne.2 c1
        by_cases ct : Lex.txtB s[k].toNat = true
        · have cr := of_decide_eq_true ct
          have O := Lex.okQ_t s[k] cr.1 cr.2
          clear cr
          by_cases c4 : (s[k].toNat : Int) = 34
          · have E := Lex.escB_b _ c1 (.inl c4)
            have c4' : ((s[k].toNat : Int) == 34) = true := by simp [c4]
            clear c4 c1
            go_wp2_with (first | (at_builtin; refine app_own rfl _ _ rfl w.heap.size _ _ rfl (hown.alloc _) ⟨wr.heap.size, 0, none⟩ 2 [92, s[k]] rfl rfl (fun j u h => new_cells wr _ _ j u h) (by omega) (by simp; omega) ?_; intro v' w1 hown' hbel') | (go_at_call 19; refine (iTextByte _ _).mono ?_; rintro e w' ⟨rfl, hw'⟩; replace hw' := hw'.symm; subst hw'))
            have R := acc_step hlt E.symm hbel (.inr ⟨_, rfl⟩) hsz hown' hbel'
            exact ⟨⟨k + 1, by omega, by go_num, R.1, R.2, by show Lex.oksQ s (k + 1) = true; rw [Lex.oksQ_succ s k hlt, HI.out, O]; rfl⟩, by simp [intOf]; omega⟩
          have c4' : ((s[k].toNat : Int) == 34) = false := beq_eq_false_iff_ne.2 c4
          by_cases c5 : (s[k].toNat : Int) = 92
          · have E := Lex.escB_b _ c1 (.inr c5)
            have c5' : ((s[k].toNat : Int) == 92) = true := by simp [c5]
            clear c5 c4 c1
            go_wp2_with (first | (at_builtin; refine app_own rfl _ _ rfl w.heap.size _ _ rfl (hown.alloc _) ⟨wr.heap.size, 0, none⟩ 2 [92, s[k]] rfl rfl (fun j u h => new_cells wr _ _ j u h) (by omega) (by simp; omega) ?_; intro v' w1 hown' hbel') | (go_at_call 19; refine (iTextByte _ _).mono ?_; rintro e w' ⟨rfl, hw'⟩; replace hw' := hw'.symm; subst hw'))
            have R := acc_step hlt E.symm hbel (.inr ⟨_, rfl⟩) hsz hown' hbel'
            exact ⟨⟨k + 1, by omega, by go_num, R.1, R.2, by show Lex.oksQ s (k + 1) = true; rw [Lex.oksQ_succ s k hlt, HI.out, O]; rfl⟩, by simp [intOf]; omega⟩
          have c5' : ((s[k].toNat : Int) == 92) = false := beq_eq_false_iff_ne.2 c5
          have E := Lex.escB_p _ c1 (by omega)
          clear c5 c4 c1
          go_wp2_with (first | (at_builtin; refine app_own rfl _ _ rfl w.heap.size _ _ rfl (hown.alloc _) ⟨wr.heap.size, 0, none⟩ 1 [s[k]] rfl rfl (fun j u h => new_cells wr _ _ j u h) (by omega) (by simp; omega) ?_; intro v' w1 hown' hbel') | (go_at_call 19; refine (iTextByte _ _).mono ?_; rintro e w' ⟨rfl, hw'⟩; replace hw' := hw'.symm; subst hw'))
          have R := acc_step hlt E.symm hbel (.inr ⟨_, rfl⟩) hsz hown' hbel'
          exact ⟨⟨k + 1, by omega, by go_num, R.1, R.2, by show Lex.oksQ s (k + 1) = true; rw [Lex.oksQ_succ s k hlt, HI.out, O]; rfl⟩, by simp [intOf]; omega⟩
        · rw [Bool.not_eq_true] at ct
          have hn := Lex.oksQ_false s k hlt (Lex.okQ_no _ c1 (by have := of_decide_eq_false ct; omega))
          have HN : Hid (Lex.quoteB s = ⟨#[]⟩) := Lex.quoteB_no s (by rw [hn]; simp)
          clear hn
          go_wp2_with (first | (go_at_call 19; refine (iTextByte _ _).mono ?_; rintro e w' ⟨rfl, hw'⟩; replace hw' := hw'.symm; subst hw'))
          go_ret
          exact ⟨ret_str HN.out.symm, hbel⟩
    · have hkk : k = s.size := by omega
      subst hkk
      go_wp2_with (first | (at_builtin; refine app_own rfl _ _ rfl w.heap.size _ _ rfl (hown.alloc _) ⟨wr.heap.size, 0, none⟩ 1 [34] rfl rfl (fun j u h => new_cells wr _ _ j u h) (by omega) (by simp; omega) ?_; intro v' w1 hown' hbel'); have hcv := conv_own hown')
      go_ret
      exact ⟨ret_str (Lex.quoteB_yes s hs HI.out).symm, (hbel.alloc hsz _).trans hbel'⟩

end Go.Proofs.YtpabbadngpjgoaaDoor

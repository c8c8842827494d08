/-
  Values are alike, and equal, either way round; not both less; a number of at most fifteen digits is read back from its text: plainly.
-/
import Derived.Test.YtjgekikcmkicmaaGreatDoorValLessI
import Derived.Test.YtjgekikcmkicmaaGreatDoorValText
namespace Go.Proofs.YtjgekikcmkicmaaGreatDoor
namespace Val
theorem alike_comm (a b : VV) : alike a b = alike b a := by
  unfold alike
  by_cases h1 : a.kind = b.kind
  · rw [h1]
    simp only [decide_true, Bool.true_and]
    rw [show decide (a.num = b.num) = decide (b.num = a.num) from decide_eq_decide.2 eq_comm, show decide (a.text.toList = b.text.toList) = decide (b.text.toList = a.text.toList) from decide_eq_decide.2 eq_comm]
  · rw [decide_eq_false h1, decide_eq_false (Ne.symm h1)]
    simp
theorem equal_comm (a b : VV) : equal a b = equal b a := by
  unfold equal
  by_cases h1 : a.kind = b.kind
  · rw [if_pos h1, if_pos h1.symm]; exact alike_comm a b
  · rw [if_neg h1, if_neg (Ne.symm h1), Bool.or_comm (miss b) (miss a), Bool.and_comm (miss b) (miss a)]
    by_cases h2 : (miss a || miss b) = true
    · rw [if_pos h2, if_pos h2]
    · rw [if_neg h2, if_neg h2]
      by_cases h3 : (plainV a).kind = (plainV b).kind
      · rw [if_pos h3, if_pos h3.symm]; exact alike_comm _ _
      · rw [if_neg h3, if_neg (Ne.symm h3)]; exact alike_comm _ _
theorem alikeV_comm (a b : VV) : (right a && right b && alike a b) = (right b && right a && alike b a) := by
  rw [alike_comm a b, Bool.and_comm (right a) (right b)]
theorem equalV_comm (a b : VV) : equalV a b = equalV b a := by
  unfold equalV
  rw [equal_comm a b, Bool.and_comm (right a) (right b)]
theorem alike_equal (a b : VV) (h : alike a b = true) : equal a b = true := by
  have hk : a.kind = b.kind := by
    unfold alike at h
    simp at h
    exact h.1.1.1
  unfold equal
  rw [if_pos hk]
  exact h
theorem truth_boolV (c : Bool) : truth (boolV c) = c := by cases c <;> rfl
theorem truth_zeroV : truth zeroV = false := rfl
theorem bytes_asym : ∀ x y : List UInt8, Op.bytesLess x y = true → Op.bytesLess y x = false
  | [], [], h => by simp [Op.bytesLess] at h
  | [], _ :: _, _ => rfl
  | _ :: _, [], h => by simp [Op.bytesLess] at h
  | a :: x, b :: y, h => by
    have ih := bytes_asym x y
    unfold Op.bytesLess at h ⊢
    by_cases hab : a < b
    · have h1 : ¬ b < a := fun g => absurd (UInt8.lt_iff_toNat_lt.1 hab) (Nat.lt_asymm (UInt8.lt_iff_toNat_lt.1 g))
      have h2 : (b == a) = false := beq_eq_false_iff_ne.2 fun g => by subst g; exact absurd hab (UInt8.lt_irrefl _)
      simp [h1, h2]
    · by_cases hb : a = b
      · subst hb
        have h1 : Op.bytesLess x y = true := by simpa [UInt8.lt_irrefl] using h
        simp [UInt8.lt_irrefl, ih h1]
      · have h1 : (a == b) = false := beq_eq_false_iff_ne.2 hb
        simp [hab, h1] at h
/-- Not both less. -/
theorem less_asym (a b : VV) : (truth (less a b) && truth (less b a)) = false := by
  unfold less
  by_cases h5 : (plainV a).kind = 5 ∧ (plainV b).kind = 5
  · rw [if_pos h5, if_pos ⟨h5.2, h5.1⟩, truth_boolV, truth_boolV]
    rcases hq : Op.bytesLess (plainV a).text.toList (plainV b).text.toList with _ | _
    · rfl
    · rw [bytes_asym _ _ hq]; rfl
  · have h5' : ¬ ((plainV b).kind = 5 ∧ (plainV a).kind = 5) := fun g => h5 ⟨g.2, g.1⟩
    rw [if_neg h5, if_neg h5']
    by_cases h4 : (numberV (plainV a)).kind = 4 ∨ (numberV (plainV b)).kind = 4
    · rw [if_pos h4]; rfl
    · have h4' : ¬ ((numberV (plainV b)).kind = 4 ∨ (numberV (plainV a)).kind = 4) := fun g => h4 (g.elim .inr .inl)
      rw [if_neg h4, if_neg h4', truth_boolV, truth_boolV]
      by_cases hl : (numberV (plainV a)).num < (numberV (plainV b)).num
      · rw [decide_eq_true hl, decide_eq_false (by omega)]; rfl
      · rw [decide_eq_false hl]; rfl
theorem lessV_asym (a b : VV) : (truth (lessV a b) && truth (lessV b a)) = false := by
  unfold lessV
  by_cases h : (right a && right b) = true
  · rw [if_pos h, if_pos (by rw [Bool.and_comm]; exact h)]; exact less_asym a b
  · rw [if_neg h]; rfl
theorem trim_none (l : List UInt8) (h : ∀ c ∈ l, ¬ c.toNat = 32) : trimL l = l := by
  have key : ∀ m : List UInt8, (∀ c ∈ m, ¬ c.toNat = 32) → m.dropWhile (fun c => decide (c.toNat = 32)) = m := by
    intro m hm
    cases m with
    | nil => rfl
    | cons c m => simp [hm c (List.mem_cons_self ..)]
  unfold trimL dropR dropL
  rw [key l h, key l.reverse (fun c hc => h c (List.mem_reverse.1 hc)), List.reverse_reverse]
theorem dec_digits (u : Nat) : (Lib.decDigits u).all digOk = true ∧ numD (Lib.decDigits u) = (u : Int) ∧ Lib.decDigits u ≠ [] := by
  induction u using Nat.strongRecOn with
  | _ u ih =>
    have hd : ∀ k : Nat, k < 10 → digOk (UInt8.ofNat (48 + k)) = true ∧ ((UInt8.ofNat (48 + k)).toNat : Int) - 48 = (k : Int) := by
      intro k hk
      have e : (UInt8.ofNat (48 + k)).toNat = 48 + k := by rw [UInt8.toNat_ofNat']; omega
      refine ⟨?_, by rw [e]; omega⟩
      unfold digOk
      rw [e, decide_eq_true (by omega), decide_eq_true (by omega)]; rfl
    rw [Lib.decDigits]
    by_cases h : u < 10
    · rw [dif_pos h]
      obtain ⟨h1, h2⟩ := hd u h
      refine ⟨by rw [List.all_cons, h1]; rfl, ?_, by simp⟩
      show 10 * 0 + (((UInt8.ofNat (48 + u)).toNat : Int) - 48) = u
      omega
    · rw [dif_neg h]
      obtain ⟨i1, i2, i3⟩ := ih (u / 10) (by omega)
      obtain ⟨h1, h2⟩ := hd (u % 10) (by omega)
      refine ⟨by rw [List.all_append, i1, List.all_cons, h1]; rfl, ?_, by simp⟩
      rw [numD_snoc, i2, h2]
      omega
theorem nDig15 : ∀ k u : Nat, u < 10 ^ (k + 1) → Lib.nDigits u ≤ k + 1
  | 0, u, h => by rw [Lib.nDigits_small (by simpa using h)]; omega
  | k + 1, u, h => by
    by_cases h1 : u < 10
    · rw [Lib.nDigits_small h1]; omega
    · rw [Lib.nDigits_big h1]
      have := nDig15 k (u / 10) (by rw [Nat.pow_succ] at h; omega)
      omega
/-- A number of at most fifteen digits is read back. -/
theorem read_back (n : Int) (h1 : -999999999999999 ≤ n) (h2 : n ≤ 999999999999999) : readT (decT n) = some n := by
  have e15 : 10 ^ (14 + 1) = 1000000000000000 := by decide
  have dig32 : ∀ u : Nat, ∀ c ∈ Lib.decDigits u, ¬ c.toNat = 32 := fun u c hc => by
    have := List.all_eq_true.1 (dec_digits u).1 c hc
    simp [digOk] at this
    omega
  unfold readT
  rw [← itoa_eq]
  show readL (trimL (Lib.itoa n)) = some n
  unfold Lib.itoa
  by_cases hn : n < 0
  · rw [if_pos hn]
    obtain ⟨d1, d2, d3⟩ := dec_digits n.natAbs
    have hl := nDig15 14 n.natAbs (by omega)
    rw [← Lib.decDigits_length] at hl
    rw [trim_none _ (fun c hc => by
      rcases List.mem_cons.1 hc with rfl | hc
      · decide
      · exact dig32 _ c hc)]
    have hl1 : 1 ≤ (Lib.decDigits n.natAbs).length := List.length_pos_iff.2 d3
    unfold readL
    simp only [if_true]
    rw [if_pos ⟨hl1, hl, d1⟩, d2]
    congr 1
    omega
  · rw [if_neg hn]
    obtain ⟨d1, d2, d3⟩ := dec_digits n.toNat
    have hl := nDig15 14 n.toNat (by omega)
    rw [← Lib.decDigits_length] at hl
    rw [trim_none _ (dig32 _)]
    cases hc : Lib.decDigits n.toNat with
    | nil => exact absurd hc d3
    | cons c r =>
      rw [hc] at d1 d2 hl
      have hc45 : ¬ c = 45 := fun g => by
        have := List.all_eq_true.1 d1 c (List.mem_cons_self ..)
        subst g
        exact absurd this (by decide)
      unfold readL
      simp only [if_neg hc45]
      rw [if_pos ⟨hl, d1⟩, d2]
      congr 1
      omega
end Val
end Go.Proofs.YtjgekikcmkicmaaGreatDoor

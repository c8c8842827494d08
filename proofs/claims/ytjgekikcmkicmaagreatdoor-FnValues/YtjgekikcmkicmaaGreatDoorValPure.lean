/-
  What the library's contracts answer, in the words of Val: digits, blanks at the ends, a sign, bytes that are no digits.
-/
import Derived.Test.YtjgekikcmkicmaaGreatDoorValRead
import Derived.Test.YtjgekikcmkicmaaGreatDoorValDec
import Derived.Lib.ItoaNum
import Derived.Lib.TrimByte
import Derived.Shelf.GgClosure.StringsIndexFunc
import Derived.Laws.RangeAny
import Derived.Lib.Bytealg
import Derived.Lib.Small
namespace Go.Proofs.YtjgekikcmkicmaaGreatDoor
namespace Val
theorem decL_eq (m : Nat) : ∀ out, m ≠ 0 → decL m out = Lib.decDigits m ++ out := by
  induction m using Nat.strongRecOn with
  | _ m ih =>
    intro out h
    rw [decL_pos m out h, Lib.decDigits]
    by_cases h1 : m < 10
    · rw [dif_pos h1, show m / 10 = 0 by omega, decL_zero]
      simp [digD, Nat.mod_eq_of_lt h1]
    · rw [dif_neg h1, ih (m / 10) (by omega) _ (by omega)]
      simp [digD]
theorem itoa_eq (n : Int) : (⟨(Lib.itoa n).toArray⟩ : ByteArray) = decT n := by
  unfold Lib.itoa decT
  by_cases h0 : n = 0
  · subst h0
    rw [if_pos rfl, if_neg (by decide)]
    rw [show (Int.toNat 0) = 0 from rfl, Lib.decDigits, dif_pos (by decide)]
    rfl
  · rw [if_neg h0]
    by_cases h1 : n < 0
    · rw [if_pos h1, if_pos h1, decL_eq _ _ (by omega), List.append_nil]
    · rw [if_neg h1, if_neg h1, decL_eq _ _ (by omega), List.append_nil, show n.toNat = n.natAbs by omega]
theorem drop_both (p : UInt8 → Bool) (l : List UInt8) : ((l.reverse.dropWhile p).reverse).dropWhile p = (((l.dropWhile p).reverse).dropWhile p).reverse := by
  induction l with
  | nil => rfl
  | cons c l ih =>
    rw [List.reverse_cons, List.dropWhile_append]
    by_cases hc : p c = true
    · have hd : List.dropWhile p (c :: l) = List.dropWhile p l := by simp [hc]
      rw [hd, ← ih]
      by_cases he : (l.reverse.dropWhile p).isEmpty = true
      · rw [if_pos he, List.isEmpty_iff.1 he]
        simp [hc]
      · rw [if_neg he]
        simp [hc]
    · have hd : List.dropWhile p (c :: l) = c :: l := by simp [hc]
      rw [hd, List.reverse_cons, List.dropWhile_append]
      by_cases he : (l.reverse.dropWhile p).isEmpty = true
      · rw [if_pos he]
        simp [hc]
      · rw [if_neg he]
        simp [hc]
theorem trim_eq (l : List UInt8) : Lib.trimB l 32 = trimL l := by
  have e : (fun c : UInt8 => c == 32) = (fun c => decide (c.toNat = 32)) := by
    funext c
    by_cases h : c = 32
    · subst h; rfl
    · have h2 : ¬ c.toNat = 32 := fun g => h (UInt8.toNat_inj.1 g)
      rw [beq_eq_false_iff_ne.2 h, decide_eq_false h2]
  unfold Lib.trimB Lib.trimLeftB Lib.trimRightB trimL dropR dropL
  rw [e]
  exact drop_both _ l
def noDig (x : Nat) : Bool := decide (x < 48) || decide (57 < x)
theorem idx_from (s : ByteArray) : ∀ f pos : Nat, s.size ≤ pos + f → (0 ≤ Lib.idxFuncFrom noDig true s f pos ↔ ∃ j, ∃ h : j < s.size, pos ≤ j ∧ digOk s[j] = false)
  | 0, pos, hf => by
    constructor
    · intro h; simp [Lib.idxFuncFrom] at h
    · rintro ⟨j, h, h1, _⟩; omega
  | f + 1, pos, hf => by
    unfold Lib.idxFuncFrom
    by_cases hp : pos < s.size
    · rw [if_pos hp]
      by_cases ha : (s[pos]'hp).toNat < 128
      · rw [decode_ascii s pos hp ha]
        by_cases hd : digOk s[pos] = true
        · have h2 : noDig (s[pos]).toNat = false := by
            simp [digOk] at hd; simp [noDig]; omega
          simp only [h2, Bool.false_eq_true, if_false]
          rw [idx_from s f (pos + 1) (by omega)]
          constructor
          · rintro ⟨j, h, h1, h3⟩; exact ⟨j, h, by omega, h3⟩
          · rintro ⟨j, h, h1, h3⟩
            rcases Nat.eq_or_lt_of_le h1 with e | e
            · subst e; rw [hd] at h3; cases h3
            · exact ⟨j, h, by omega, h3⟩
        · have hd' : digOk s[pos] = false := by simpa using hd
          have h2 : noDig (s[pos]).toNat = true := by
            simp [digOk] at hd'; simp [noDig]; omega
          simp only [h2, if_true]
          exact ⟨fun _ => ⟨pos, hp, Nat.le_refl _, hd'⟩, fun _ => by omega⟩
      · have hh := decode_high s pos hp (by omega)
        have h2 : noDig (Utf8.decode s pos).1 = true := by simp [noDig]; omega
        simp only [h2, if_true]
        have hd' : digOk s[pos] = false := by simp [digOk]; omega
        exact ⟨fun _ => ⟨pos, hp, Nat.le_refl _, hd'⟩, fun _ => by omega⟩
    · rw [if_neg hp]
      constructor
      · intro h; simp at h
      · rintro ⟨j, h, h1, _⟩; omega
theorem idx_eq (s : ByteArray) : decide (0 ≤ Lib.idxFunc noDig true s) = !(s.data.toList.all digOk) := by
  have h := idx_from s s.size 0 (by omega)
  have h2 : (0 ≤ Lib.idxFunc noDig true s) ↔ _ := h
  by_cases g : s.data.toList.all digOk = true
  · rw [g]
    refine decide_eq_false fun h3 => ?_
    obtain ⟨j, hj, _, e⟩ := h2.1 h3
    have := List.all_eq_true.1 g s[j] (List.getElem_mem (h := by simpa using hj))
    rw [e] at this; cases this
  · rw [show s.data.toList.all digOk = false by simpa using g]
    refine decide_eq_true (h2.2 ?_)
    rw [List.all_eq_true] at g
    simp only [Classical.not_forall] at g
    obtain ⟨x, hx, hn⟩ := g
    obtain ⟨j, hj, e⟩ := List.getElem_of_mem hx
    refine ⟨j, by simpa using hj, Nat.zero_le _, ?_⟩
    have e2 : s[j]'(by simpa using hj) = x := e
    rw [e2]; simpa using hn
/-- What is read of a text that has no blanks at its ends, as the program reads it: the sign taken off, then the digits. -/
def cutL (l : List UInt8) : List UInt8 := Lib.trimPrefix l [45]
def below (l : List UInt8) : Bool := Lib.hasPrefix l [45]
theorem readL_cut (l : List UInt8) (h : l ≠ []) : readL l = if 1 ≤ (cutL l).length ∧ (cutL l).length ≤ 15 ∧ (cutL l).all digOk = true then some (if below l then -(numD (cutL l)) else numD (cutL l)) else none := by
  cases l with
  | nil => exact absurd rfl h
  | cons c r =>
    by_cases hc : c = 45
    · subst hc
      have h1 : below (45 :: r) = true := by simp [below, Lib.hasPrefix]
      have h2 : cutL (45 :: r) = r := by simp [cutL, Lib.trimPrefix, Lib.hasPrefix]
      rw [h1, h2]
      simp [readL]
    · have h0 : Lib.hasPrefix (c :: r) [45] = false := by
        show ((45 : UInt8) == c && _) = false
        rw [beq_eq_false_iff_ne.2 (Ne.symm hc)]; rfl
      have h1 : below (c :: r) = false := h0
      have h2 : cutL (c :: r) = c :: r := by unfold cutL Lib.trimPrefix; rw [h0]; rfl
      rw [h1, h2]
      simp [readL, hc]
end Val
end Go.Proofs.YtjgekikcmkicmaaGreatDoor

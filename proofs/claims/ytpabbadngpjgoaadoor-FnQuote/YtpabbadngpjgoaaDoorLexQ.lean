/-
  Quoting, plainly: on lists of bytes.
-/
import Derived.Test.YtpabbadngpjgoaaDoorLex
namespace Go.Proofs.YtpabbadngpjgoaaDoor.Lex

def okQ (c : UInt8) : Bool := decide ((c.toNat : Int) = 10) || txtB c.toNat
def escB (c : UInt8) : List UInt8 := if (c.toNat : Int) = 10 then [92, 110] else if (c.toNat : Int) = 34 ∨ (c.toNat : Int) = 92 then [92, c] else [c]
/-- What is gathered of the first k bytes, the first byte 34 with it. -/
def accQ (s : ByteArray) (k : Nat) : List UInt8 := 34 :: (s.data.toList.take k).flatMap escB
def oksQ (s : ByteArray) (k : Nat) : Bool := (s.data.toList.take k).all okQ
def quoteL (s : ByteArray) : List UInt8 := accQ s s.size ++ [34]
def quoteB (s : ByteArray) : ByteArray := if s.size ≤ 1000 ∧ oksQ s s.size = true then ⟨(quoteL s).toArray⟩ else ⟨#[]⟩

theorem accQ_zero (s : ByteArray) : accQ s 0 = [34] := rfl
theorem accQ_succ (s : ByteArray) (k : Nat) (h : k < s.size) : accQ s (k + 1) = accQ s k ++ escB s[k] := by
  unfold accQ; rw [take_snoc s k h, List.flatMap_append]; simp
theorem escB_len (c : UInt8) : (escB c).length ≤ 2 := by
  unfold escB
  split
  · simp
  · split <;> simp
theorem accQ_len (s : ByteArray) (k : Nat) : (accQ s k).length ≤ 2 * k + 1 := by
  unfold accQ
  have h : ∀ l : List UInt8, (l.flatMap escB).length ≤ 2 * l.length := by
    intro l
    induction l with
    | nil => simp
    | cons a r ih => rw [List.flatMap_cons, List.length_append, List.length_cons]; have := escB_len a; omega
  have h1 := h (s.data.toList.take k)
  have h2 : (s.data.toList.take k).length ≤ k := List.length_take_le _ _
  rw [List.length_cons]; omega
theorem oksQ_succ (s : ByteArray) (k : Nat) (h : k < s.size) : oksQ s (k + 1) = (oksQ s k && okQ s[k]) := by
  unfold oksQ; rw [take_snoc s k h]; simp
theorem oksQ_false (s : ByteArray) (k : Nat) (h : k < s.size) (hk : okQ s[k] = false) : oksQ s s.size = false := by
  unfold oksQ
  rw [List.take_of_length_le (by simp), List.all_eq_false]
  exact ⟨s[k], List.getElem_mem (h := by simpa using h), by simp [hk]⟩
theorem escB_n (c : UInt8) (h : (c.toNat : Int) = 10) : escB c = [92, 110] := by unfold escB; rw [if_pos h]
theorem escB_b (c : UInt8) (h : ¬ (c.toNat : Int) = 10) (h2 : (c.toNat : Int) = 34 ∨ (c.toNat : Int) = 92) : escB c = [92, c] := by unfold escB; rw [if_neg h, if_pos h2]
theorem escB_p (c : UInt8) (h : ¬ (c.toNat : Int) = 10) (h2 : ¬ ((c.toNat : Int) = 34 ∨ (c.toNat : Int) = 92)) : escB c = [c] := by unfold escB; rw [if_neg h, if_neg h2]
theorem okQ_n (c : UInt8) (h : (c.toNat : Int) = 10) : okQ c = true := by simp only [okQ, h]; decide
theorem okQ_t (c : UInt8) (h : 32 ≤ (c.toNat : Int)) (h2 : (c.toNat : Int) ≤ 126) : okQ c = true := by simp [okQ, txtB]; omega
theorem okQ_no (c : UInt8) (h : ¬ (c.toNat : Int) = 10) (h2 : (c.toNat : Int) < 32 ∨ 126 < (c.toNat : Int)) : okQ c = false := by simp [okQ, txtB]; omega
theorem quoteB_yes (s : ByteArray) (h : s.size ≤ 1000) (h2 : oksQ s s.size = true) : quoteB s = ⟨(quoteL s).toArray⟩ := by unfold quoteB; rw [if_pos ⟨h, h2⟩]
theorem quoteB_no (s : ByteArray) (h : ¬ (s.size ≤ 1000 ∧ oksQ s s.size = true)) : quoteB s = ⟨#[]⟩ := by unfold quoteB; rw [if_neg h]

def q0 (s : ByteArray) : ByteArray := if oksQ s s.size = true then ⟨(quoteL s).toArray⟩ else ⟨#[]⟩
def q0ok (s : ByteArray) : Bool := oksQ s s.size && decide (s.size ≤ 1000)
theorem q0_no (s : ByteArray) (h : oksQ s s.size = false) : q0 s = ⟨#[]⟩ := by unfold q0; rw [h]; rfl
theorem q0ok_no (s : ByteArray) (h : oksQ s s.size = false) : q0ok s = false := by unfold q0ok; rw [h]; rfl
theorem q0_yes (s : ByteArray) (h : oksQ s s.size = true) : q0 s = ⟨(accQ s s.size ++ [34]).toArray⟩ := by unfold q0; rw [h]; rfl
theorem q0ok_yes (s : ByteArray) (h : oksQ s s.size = true) : q0ok s = decide ((s.size : Int) ≤ 1000) := by unfold q0ok; rw [h, Bool.true_and, Bool.eq_iff_iff]; simp only [decide_eq_true_eq]; omega
theorem quoteB_q0 (s : ByteArray) (h : q0ok s = true) : quoteB s = q0 s := by
  unfold q0ok at h; simp at h
  unfold quoteB q0; rw [if_pos ⟨h.2, h.1⟩, if_pos h.1]
theorem quoteB_q0no (s : ByteArray) (h : q0ok s = false) : quoteB s = ⟨#[]⟩ := by
  refine quoteB_no s fun g => ?_
  unfold q0ok at h; rw [g.2] at h; simp at h; omega

end Go.Proofs.YtpabbadngpjgoaaDoor.Lex

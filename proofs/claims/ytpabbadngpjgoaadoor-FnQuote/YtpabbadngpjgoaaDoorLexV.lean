/-
  The steps of the plain tokens.
-/
import Derived.Test.YtpabbadngpjgoaaDoorLexU
namespace Go.Proofs.YtpabbadngpjgoaaDoor.Lex

section
variable (s : ByteArray) (i : Nat) (acc : List TokF) (p : Nat) (line : Bool) (hp : skipTo s i false false = (p, line))
include hp
theorem lex_end (h : s.size ≤ p) : lexFrom s i acc = ⟨acc ++ [⟨6, ⟨#[]⟩, 0, line, p⟩], 0, 0⟩ := by
  rw [lexFrom, hp]; simp only; rw [if_pos h]
theorem lex_none (h : ¬ s.size ≤ p) (ht : tokAt s p = none) : lexFrom s i acc = ⟨[], p, 3⟩ := by
  rw [lexFrom, hp]; simp only; rw [if_neg h, ht]
theorem lex_full (h : ¬ s.size ≤ p) {t : Tok} {e : Nat} (ht : tokAt s p = some (t, e)) (hf : 600 ≤ acc.length) : lexFrom s i acc = ⟨[], p, 3⟩ := by
  rw [lexFrom, hp]; simp only; rw [if_neg h, ht]; simp only; rw [if_pos hf]
theorem lex_step (h : ¬ s.size ≤ p) {t : Tok} {e : Nat} (ht : tokAt s p = some (t, e)) (hf : ¬ 600 ≤ acc.length) (he : i < e) (hi : i < s.size) :
    lexFrom s i acc = lexFrom s e (acc ++ [⟨t.kind, t.text, t.num, line, p⟩]) := by
  rw [lexFrom, hp]; simp only; rw [if_neg h, ht]; simp only; rw [if_neg hf, dif_pos ⟨he, hi⟩]
end
theorem ext_nil (s : ByteArray) (p : Nat) : s.extract p p = ⟨#[]⟩ := by
  apply ByteArray.ext
  apply Array.eq_empty_of_size_eq_zero
  show (s.extract p p).size = 0
  simp
theorem lexOut_big (s : ByteArray) (h : 4000 < s.size) : lexOut s = ⟨[], 0, 2⟩ := by unfold lexOut; rw [if_pos h]
theorem lexOut_small (s : ByteArray) (h : ¬ 4000 < s.size) : lexOut s = lexFrom s 0 [] := by unfold lexOut; rw [if_neg h]

end Go.Proofs.YtpabbadngpjgoaaDoor.Lex

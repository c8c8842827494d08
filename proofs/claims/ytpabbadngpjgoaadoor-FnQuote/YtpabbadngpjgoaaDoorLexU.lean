/-
  The kind and the end of a token, as impl tells them; held against the plain token.
-/
import Derived.Test.YtpabbadngpjgoaaDoorLexT
namespace Go.Proofs.YtpabbadngpjgoaaDoor.Lex

def wK (r : ByteArray) : Int := if wordB r = true then 2 else 1
theorem wK_yes (r : ByteArray) (h : wordB r = true) : wK r = 2 := by unfold wK; rw [if_pos h]
theorem wK_no (r : ByteArray) (h : wordB r = false) : wK r = 1 := by unfold wK; rw [if_neg (by simp [h])]
def numOk (r : ByteArray) : Bool := decide (r.size ≤ 15 ∧ (bAt r 0 ≠ 48 ∨ r.size = 1))
def teE (s : ByteArray) (i : Nat) : Nat :=
  if s.size ≤ i then i
  else if digB (bAt s i) = true then digEnd s i
  else if letB (bAt s i) = true then letEnd s i
  else if bAt s i = 34 then (if bAt s (txtEnd s (i + 1)) = 34 then txtEnd s (i + 1) + 1 else txtEnd s (i + 1))
  else i + markLen (s.data.toList.drop i) marks
def teK (s : ByteArray) (i : Nat) : Int :=
  if s.size ≤ i then 6
  else if digB (bAt s i) = true then (if numOk (s.extract i (digEnd s i)) = true ∧ letB (bAt s (digEnd s i)) = false then 3 else 0)
  else if letB (bAt s i) = true then (if letEnd s i - i ≤ 20 then 1 else 0)
  else if bAt s i = 34 then (if bAt s (txtEnd s (i + 1)) = 34 then 4 else 0)
  else if 0 < markLen (s.data.toList.drop i) marks then 5 else 0

theorem markLen_bd (l : List UInt8) : ∀ ms : List ByteArray, markLen l ms ≤ l.length
  | [] => Nat.zero_le _
  | m :: r => by
    unfold markLen
    split
    · rename_i g
      unfold preAt at g
      rw [← Lib.hasPrefix_of_take] at g
      simp at g
      exact g.1
    · exact markLen_bd l r

section
variable (s : ByteArray) (i : Nat)
theorem te_end (h : s.size ≤ i) : teK s i = 6 ∧ teE s i = i := by unfold teK teE; simp [h]
theorem te_num (h : ¬ s.size ≤ i) (h1 : digB (bAt s i) = true) : teE s i = digEnd s i := by unfold teE; rw [if_neg h, if_pos h1]
theorem te_numK (h : ¬ s.size ≤ i) (h1 : digB (bAt s i) = true) : teK s i = if numOk (s.extract i (digEnd s i)) = true ∧ letB (bAt s (digEnd s i)) = false then 3 else 0 := by unfold teK; rw [if_neg h, if_pos h1]
theorem te_name (h : ¬ s.size ≤ i) (h1 : digB (bAt s i) = false) (h2 : letB (bAt s i) = true) : teE s i = letEnd s i := by unfold teE; rw [if_neg h, if_neg (by simp [h1]), if_pos h2]
theorem te_nameK (h : ¬ s.size ≤ i) (h1 : digB (bAt s i) = false) (h2 : letB (bAt s i) = true) : teK s i = if letEnd s i - i ≤ 20 then 1 else 0 := by unfold teK; rw [if_neg h, if_neg (by simp [h1]), if_pos h2]
theorem dig34 : digB 34 = false := by decide
theorem let34 : letB 34 = false := by decide
theorem te_text (h : ¬ s.size ≤ i) (h3 : bAt s i = 34) (h4 : bAt s (txtEnd s (i + 1)) = 34) : teK s i = 4 ∧ teE s i = txtEnd s (i + 1) + 1 := by
  unfold teK teE; rw [h3]; simp [h, dig34, let34, h4]
theorem te_textNo (h : ¬ s.size ≤ i) (h3 : bAt s i = 34) (h4 : bAt s (txtEnd s (i + 1)) ≠ 34) : teK s i = 0 ∧ teE s i = txtEnd s (i + 1) := by
  unfold teK teE; rw [h3]; simp [h, dig34, let34, h4]
theorem te_mark (h : ¬ s.size ≤ i) (h1 : digB (bAt s i) = false) (h2 : letB (bAt s i) = false) (h3 : bAt s i ≠ 34) : teE s i = i + markLen (s.data.toList.drop i) marks ∧ teK s i = if 0 < markLen (s.data.toList.drop i) marks then 5 else 0 := by
  unfold teK teE; simp [h, h1, h2, h3]
end

theorem ext_size (s : ByteArray) (i e : Nat) (he : e ≤ s.size) : (s.extract i e).size = e - i := by simp; omega
theorem ext_data (s : ByteArray) (i e : Nat) : (s.extract i e).data.toList = cutL s i e := by
  rw [Lib.extract_data]; unfold cutL; rw [List.drop_take]
theorem ext_to_end (s : ByteArray) (i : Nat) : (s.extract i s.size).data.toList = s.data.toList.drop i := by
  rw [Lib.extract_data, List.take_of_length_le (by rw [List.length_drop]; simp)]
theorem ext_get (s : ByteArray) (i e : Nat) (he : e ≤ s.size) (k : Nat) (h : k < (s.extract i e).size) : ((s.extract i e)[k].toNat : Int) = bAt s (i + k) := by
  have hk : k < e - i := by rw [ext_size s i e he] at h; exact h
  rw [bAt_in s (i + k) (by omega)]
  have h1 : (s.extract i e)[k] = (s.extract i e).data.toList[k]'(h) := rfl
  have h2 : s[i + k]'(by omega) = s.data.toList[i + k]'(by simpa using (by omega : i + k < s.size)) := rfl
  rw [h1, h2]
  have h3 : (s.extract i e).data.toList[k]? = s.data.toList[i + k]? := by
    rw [Lib.extract_data, List.getElem?_take, if_pos hk, List.getElem?_drop]
  have hl1 : k < (s.extract i e).data.toList.length := h
  have hl2 : i + k < s.data.toList.length := by simpa using (by omega : i + k < s.size)
  rw [List.getElem?_eq_getElem hl1, List.getElem?_eq_getElem hl2] at h3
  rw [Option.some.inj h3]
theorem ext_head (s : ByteArray) (i e : Nat) (he : e ≤ s.size) (hi : i < e) : bAt (s.extract i e) 0 = bAt s i := by
  have h : 0 < (s.extract i e).size := by rw [ext_size s i e he]; omega
  rw [bAt_in _ 0 h, ext_get s i e he 0 h]; rfl

/-- The token of a kind, of its bytes. -/
def tokOf (s : ByteArray) (i : Nat) : Tok :=
  if teK s i = 1 then ⟨if wordB (s.extract i (teE s i)) = true then 2 else 1, s.extract i (teE s i), 0⟩
  else if teK s i = 3 then ⟨3, ⟨#[]⟩, numL (cutL s i (teE s i))⟩
  else if teK s i = 4 then ⟨4, ⟨(txtVal s (i + 1)).toArray⟩, 0⟩
  else ⟨5, s.extract i (teE s i), 0⟩

theorem numOk_ext (s : ByteArray) (i : Nat) (hi : i < s.size) (h1 : digB (bAt s i) = true) :
    (numOk (s.extract i (digEnd s i)) = true) ↔ (digEnd s i - i ≤ 15 ∧ (bAt s i ≠ 48 ∨ digEnd s i = i + 1)) := by
  have hb := digEnd_bd s (i + 1) (by omega)
  rw [← digEnd_yes s i h1] at hb
  unfold numOk
  rw [decide_eq_true_iff, ext_size s i _ hb.2, ext_head s i _ hb.2 (by omega)]
  omega

theorem tok_none (s : ByteArray) (i : Nat) (hi : i < s.size) (h : teK s i = 0) : tokAt s i = none := by
  unfold teK at h; unfold tokAt
  rw [if_neg (by omega)] at h
  by_cases h1 : digB (bAt s i) = true
  · rw [if_pos h1] at h ⊢
    split at h
    · omega
    · rename_i g
      rw [if_neg]
      intro k
      exact g ⟨(numOk_ext s i hi h1).2 ⟨k.1, k.2.1⟩, k.2.2⟩
  · rw [if_neg h1] at h ⊢
    by_cases h2 : letB (bAt s i) = true
    · rw [if_pos h2] at h ⊢
      split at h
      · omega
      · rename_i g; rw [if_neg g]
    · rw [if_neg h2] at h ⊢
      by_cases h3 : bAt s i = 34
      · rw [if_pos h3] at h ⊢
        split at h
        · omega
        · rename_i g; rw [if_neg g]
      · rw [if_neg h3] at h ⊢
        split at h
        · omega
        · rename_i g; rw [if_neg g]

theorem tok_some (s : ByteArray) (i : Nat) (hi : i < s.size) (h : teK s i ≠ 0) : tokAt s i = some (tokOf s i, teE s i) ∧ i < teE s i ∧ teE s i ≤ s.size ∧ (teK s i = 1 ∨ teK s i = 3 ∨ teK s i = 4 ∨ teK s i = 5) := by
  by_cases h1 : digB (bAt s i) = true
  · have e1 := te_num s i (by omega) h1
    have e2 := te_numK s i (by omega) h1
    have hb := digEnd_bd s (i + 1) (by omega)
    rw [← digEnd_yes s i h1] at hb
    rw [e2] at h
    split at h
    · rename_i g
      rw [if_pos g] at e2
      have g2 := (numOk_ext s i hi h1).1 g.1
      refine ⟨?_, by omega, by omega, by omega⟩
      unfold tokOf tokAt
      rw [if_pos h1, if_pos ⟨g2.1, g2.2, g.2⟩, e2, e1]; rfl
    · exact absurd rfl h
  · have h1' : digB (bAt s i) = false := by simpa using h1
    by_cases h2 : letB (bAt s i) = true
    · have e1 := te_name s i (by omega) h1' h2
      have e2 := te_nameK s i (by omega) h1' h2
      have hb := letEnd_bd s (i + 1) (by omega)
      rw [← letEnd_yes s i h2] at hb
      rw [e2] at h
      split at h
      · rename_i g
        rw [if_pos g] at e2
        refine ⟨?_, by omega, by omega, by omega⟩
        unfold tokOf tokAt
        rw [if_neg h1, if_pos h2, if_pos g, e2, e1]; rfl
      · exact absurd rfl h
    · have h2' : letB (bAt s i) = false := by simpa using h2
      by_cases h3 : bAt s i = 34
      · by_cases h4 : bAt s (txtEnd s (i + 1)) = 34
        · obtain ⟨e2, e1⟩ := te_text s i (by omega) h3 h4
          have hb := txtEnd_bd s (i + 1) (by omega)
          have hb2 := bAt_lt s (txtEnd s (i + 1)) (by omega)
          refine ⟨?_, by omega, by omega, by omega⟩
          unfold tokOf tokAt
          rw [if_neg h1, if_neg h2, if_pos h3, if_pos h4, e2, e1]; rfl
        · exact absurd (te_textNo s i (by omega) h3 h4).1 h
      · obtain ⟨e1, e2⟩ := te_mark s i (by omega) h1' h2' h3
        rw [e2] at h
        split at h
        · rename_i g
          rw [if_pos g] at e2
          have hb := markLen_bd (s.data.toList.drop i) marks
          have hl : (s.data.toList.drop i).length = s.size - i := by rw [List.length_drop]; rfl
          refine ⟨?_, by omega, by omega, by omega⟩
          unfold tokOf tokAt
          rw [if_neg h1, if_neg h2, if_neg h3, if_pos g, e2, e1]; rfl
        · exact absurd rfl h

end Go.Proofs.YtpabbadngpjgoaaDoor.Lex

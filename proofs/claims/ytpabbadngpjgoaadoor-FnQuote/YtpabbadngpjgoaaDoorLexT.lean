/-
  Tokens, plainly: what both sides are held against.
-/
import Derived.Test.YtpabbadngpjgoaaDoorLexQ
import Derived.Lib.Strings
namespace Go.Proofs.YtpabbadngpjgoaaDoor.Lex

def bAt (s : ByteArray) (i : Nat) : Int := if h : i < s.size then (s[i].toNat : Int) else 0
theorem bAt_in (s : ByteArray) (i : Nat) (h : i < s.size) : bAt s i = (s[i].toNat : Int) := by unfold bAt; rw [dif_pos h]
theorem bAt_out (s : ByteArray) (i : Nat) (h : ¬ i < s.size) : bAt s i = 0 := by unfold bAt; rw [dif_neg h]
theorem bAt_bd (s : ByteArray) (i : Nat) : 0 ≤ bAt s i ∧ bAt s i ≤ 255 := by
  by_cases h : i < s.size
  · rw [bAt_in s i h]; have := s[i].toNat_lt; omega
  · rw [bAt_out s i h]; omega
theorem bAt_lt (s : ByteArray) (i : Nat) (h : bAt s i ≠ 0) : i < s.size := by
  by_cases g : i < s.size
  · exact g
  · exact absurd (bAt_out s i g) h
theorem letB_zero : letB 0 = false := by decide
theorem digB_zero : digB 0 = false := by decide
theorem txtB_zero : txtB 0 = false := by decide
theorem letB_lt (s : ByteArray) (i : Nat) (h : letB (bAt s i) = true) : i < s.size :=
  bAt_lt s i (fun e => by rw [e] at h; exact absurd h (by decide))
theorem digB_lt (s : ByteArray) (i : Nat) (h : digB (bAt s i) = true) : i < s.size :=
  bAt_lt s i (fun e => by rw [e] at h; exact absurd h (by decide))
theorem dig_let {c : Int} (h : digB c = true) : letB c = true := by
  simp [digB] at h; simp [letB]; omega

/-- The end of the bytes of names from i on. -/
def letEnd (s : ByteArray) (i : Nat) : Nat := if h : letB (bAt s i) = true then letEnd s (i + 1) else i
termination_by s.size - i
decreasing_by have := letB_lt s i h; omega
def digEnd (s : ByteArray) (i : Nat) : Nat := if h : digB (bAt s i) = true then digEnd s (i + 1) else i
termination_by s.size - i
decreasing_by have := digB_lt s i h; omega
theorem letEnd_yes (s : ByteArray) (i : Nat) (h : letB (bAt s i) = true) : letEnd s i = letEnd s (i + 1) := by rw [letEnd, dif_pos h]
theorem letEnd_no (s : ByteArray) (i : Nat) (h : letB (bAt s i) = false) : letEnd s i = i := by rw [letEnd, dif_neg (by simp [h])]
theorem digEnd_yes (s : ByteArray) (i : Nat) (h : digB (bAt s i) = true) : digEnd s i = digEnd s (i + 1) := by rw [digEnd, dif_pos h]
theorem digEnd_no (s : ByteArray) (i : Nat) (h : digB (bAt s i) = false) : digEnd s i = i := by rw [digEnd, dif_neg (by simp [h])]
theorem letEnd_bd (s : ByteArray) (i : Nat) (hi : i ≤ s.size) : i ≤ letEnd s i ∧ letEnd s i ≤ s.size := by
  by_cases h : letB (bAt s i) = true
  · rw [letEnd_yes s i h]
    have h1 := letB_lt s i h
    have := letEnd_bd s (i + 1) (by omega)
    omega
  · rw [letEnd_no s i (by simpa using h)]; omega
termination_by s.size - i
theorem digEnd_bd (s : ByteArray) (i : Nat) (hi : i ≤ s.size) : i ≤ digEnd s i ∧ digEnd s i ≤ s.size := by
  by_cases h : digB (bAt s i) = true
  · rw [digEnd_yes s i h]
    have h1 := digB_lt s i h
    have := digEnd_bd s (i + 1) (by omega)
    omega
  · rw [digEnd_no s i (by simpa using h)]; omega
termination_by s.size - i
/-- Between i and the end of the digits all bytes are digits. -/
theorem digEnd_all (s : ByteArray) (i k : Nat) (hk : i ≤ k) (hk2 : k < digEnd s i) : digB (bAt s k) = true := by
  by_cases h : digB (bAt s i) = true
  · by_cases e : k = i
    · subst e; exact h
    · have h1 := digB_lt s i h
      rw [digEnd_yes s i h] at hk2
      exact digEnd_all s (i + 1) k (by omega) hk2
  · rw [digEnd_no s i (by simpa using h)] at hk2; omega
termination_by s.size - i
theorem digEnd_stop (s : ByteArray) (i : Nat) : digB (bAt s (digEnd s i)) = false := by
  by_cases h : digB (bAt s i) = true
  · rw [digEnd_yes s i h]
    have h1 := digB_lt s i h
    exact digEnd_stop s (i + 1)
  · rw [digEnd_no s i (by simpa using h)]; simpa using h
termination_by s.size - i

def hidB (b : Int) : Int := if b = 92 ∨ b = 34 then b else if b = 110 then 10 else 0
def stepT (s : ByteArray) (i : Nat) : Nat :=
  if bAt s i = 92 ∧ hidB (bAt s (i + 1)) ≠ 0 then 2 else if bAt s i = 92 ∨ bAt s i = 34 ∨ txtB (bAt s i) = false then 0 else 1
theorem stepT_two (s : ByteArray) (i : Nat) (h : bAt s i = 92) (h2 : hidB (bAt s (i + 1)) ≠ 0) : stepT s i = 2 := by unfold stepT; rw [if_pos ⟨h, h2⟩]
theorem stepT_hid (s : ByteArray) (i : Nat) (h : bAt s i = 92) (h2 : hidB (bAt s (i + 1)) = 0) : stepT s i = 0 := by
  unfold stepT; rw [if_neg (by simp [h2]), if_pos (.inl h)]
theorem stepT_quo (s : ByteArray) (i : Nat) (h : bAt s i = 34) : stepT s i = 0 := by
  unfold stepT; rw [if_neg (by simp [h]), if_pos (.inr (.inl h))]
theorem stepT_bad (s : ByteArray) (i : Nat) (h : txtB (bAt s i) = false) : stepT s i = 0 := by
  have h92 : bAt s i ≠ 92 := fun e => by rw [e] at h; exact absurd h (by decide)
  unfold stepT; rw [if_neg (by simp [h92]), if_pos (.inr (.inr h))]
theorem stepT_one (s : ByteArray) (i : Nat) (h : bAt s i ≠ 92) (h1 : bAt s i ≠ 34) (h2 : txtB (bAt s i) = true) : stepT s i = 1 := by
  unfold stepT; rw [if_neg (by simp [h]), if_neg (by simp [h, h1, h2])]
theorem stepT_le (s : ByteArray) (i : Nat) : stepT s i ≤ 2 := by
  unfold stepT; split
  · omega
  · split <;> omega
theorem stepT_in (s : ByteArray) (i : Nat) (h : 0 < stepT s i) : i + stepT s i ≤ s.size := by
  unfold stepT at h ⊢
  split
  · rename_i g
    have := bAt_lt s (i + 1) (fun e => by rw [e] at g; exact g.2 (by decide))
    omega
  · rename_i g
    split
    · rename_i g2; rw [if_neg g, if_pos g2] at h; omega
    · rename_i g2
      have := bAt_lt s i (fun e => g2 (.inr (.inr (by rw [e]; decide))))
      omega
/-- Where the bytes of a text that begins at i end. -/
def txtEnd (s : ByteArray) (i : Nat) : Nat := if _h : 0 < stepT s i then txtEnd s (i + stepT s i) else i
termination_by s.size - i
decreasing_by have := stepT_in s i (by assumption); omega
def hidV (s : ByteArray) (i : Nat) : UInt8 := UInt8.ofNat (if bAt s i = 92 then hidB (bAt s (i + 1)) else bAt s i).toNat
def txtVal (s : ByteArray) (i : Nat) : List UInt8 := if _h : 0 < stepT s i then hidV s i :: txtVal s (i + stepT s i) else []
termination_by s.size - i
decreasing_by have := stepT_in s i (by assumption); omega
theorem txtEnd_yes (s : ByteArray) (i : Nat) (h : 0 < stepT s i) : txtEnd s i = txtEnd s (i + stepT s i) := by rw [txtEnd, dif_pos h]
theorem txtEnd_no (s : ByteArray) (i : Nat) (h : stepT s i = 0) : txtEnd s i = i := by rw [txtEnd, dif_neg (by omega)]
theorem txtVal_yes (s : ByteArray) (i : Nat) (h : 0 < stepT s i) : txtVal s i = hidV s i :: txtVal s (i + stepT s i) := by rw [txtVal, dif_pos h]
theorem txtVal_no (s : ByteArray) (i : Nat) (h : stepT s i = 0) : txtVal s i = [] := by rw [txtVal, dif_neg (by omega)]
theorem txtEnd_bd (s : ByteArray) (i : Nat) (hi : i ≤ s.size) : i ≤ txtEnd s i ∧ txtEnd s i ≤ s.size := by
  by_cases h : 0 < stepT s i
  · rw [txtEnd_yes s i h]
    have h1 := stepT_in s i h
    have := txtEnd_bd s (i + stepT s i) h1
    omega
  · rw [txtEnd_no s i (by omega)]; omega
termination_by s.size - i
theorem txtVal_len (s : ByteArray) (i : Nat) (hi : i ≤ s.size) : (txtVal s i).length ≤ s.size - i := by
  by_cases h : 0 < stepT s i
  · rw [txtVal_yes s i h]
    have h1 := stepT_in s i h
    have := txtVal_len s (i + stepT s i) h1
    rw [List.length_cons]; omega
  · rw [txtVal_no s i (by omega)]; simp
termination_by s.size - i
theorem txtEnd_gt (s : ByteArray) (i : Nat) (h : txtEnd s i ≠ i) : 0 < stepT s i := by
  by_cases g : 0 < stepT s i
  · exact g
  · exact absurd (txtEnd_no s i (by omega)) h

/-- The number that digits tell. -/
def numL (l : List UInt8) : Int := l.foldl (fun n c => n * 10 + ((c.toNat : Int) - 48)) 0
theorem numL_snoc (l : List UInt8) (c : UInt8) : numL (l ++ [c]) = numL l * 10 + ((c.toNat : Int) - 48) := by unfold numL; rw [List.foldl_append]; rfl
def cutL (s : ByteArray) (i e : Nat) : List UInt8 := (s.data.toList.take e).drop i
theorem cutL_nil (s : ByteArray) (i : Nat) : cutL s i i = [] := by
  unfold cutL; exact List.drop_of_length_le (List.length_take_le _ _)
theorem cutL_snoc (s : ByteArray) (i k : Nat) (hi : i ≤ k) (h : k < s.size) : cutL s i (k + 1) = cutL s i k ++ [s[k]] := by
  unfold cutL
  rw [take_snoc s k h, List.drop_append_of_le_length (by rw [List.length_take]; simp; omega)]
theorem cutL_len (s : ByteArray) (i e : Nat) (he : e ≤ s.size) : (cutL s i e).length = e - i := by
  unfold cutL; rw [List.length_drop, List.length_take]; simp; omega
theorem numL_bd0 : ∀ (l : List UInt8) (n B : Int), (∀ c ∈ l, digB (c.toNat : Int) = true) → 0 ≤ n → n + 1 ≤ B →
    0 ≤ l.foldl (fun n c => n * 10 + ((c.toNat : Int) - 48)) n ∧ l.foldl (fun n c => n * 10 + ((c.toNat : Int) - 48)) n + 1 ≤ B * 10 ^ l.length
  | [], n, B, _, h0, h1 => by simp; omega
  | c :: r, n, B, h, h0, h1 => by
    have h2 := h c (by simp)
    simp [digB] at h2
    have h3 := numL_bd0 r (n * 10 + ((c.toNat : Int) - 48)) (B * 10) (fun x hx => h x (by simp [hx])) (by omega) (by omega)
    rw [List.foldl_cons, List.length_cons, Int.pow_succ]
    have e : B * (10 ^ r.length * 10) = B * 10 * 10 ^ r.length := by rw [Int.mul_comm (10 ^ r.length) 10, Int.mul_assoc]
    rw [e]; exact h3
/-- Digits tell a number that is not great. -/
theorem numL_bd (l : List UInt8) (h : ∀ c ∈ l, digB (c.toNat : Int) = true) (hl : l.length ≤ 15) : 0 ≤ numL l ∧ numL l < 1000000000000000 := by
  have h1 := numL_bd0 l 0 1 h (by omega) (by omega)
  have h2 : (10 : Nat) ^ l.length ≤ 10 ^ 15 := Nat.pow_le_pow_right (by omega) hl
  have h3 : (10 : Nat) ^ 15 = 1000000000000000 := by decide
  have h4 : (10 : Int) ^ l.length = ((10 ^ l.length : Nat) : Int) := by rw [Int.natCast_pow]; rfl
  rw [h4] at h1
  unfold numL; omega

def marks : List ByteArray := [⟨#[61, 61, 61]⟩, ⟨#[33, 61, 61]⟩, ⟨#[61, 61]⟩, ⟨#[33, 61]⟩, ⟨#[60, 61]⟩, ⟨#[62, 61]⟩, ⟨#[38, 38]⟩, ⟨#[124, 124]⟩, ⟨#[40]⟩, ⟨#[41]⟩, ⟨#[123]⟩, ⟨#[125]⟩, ⟨#[91]⟩, ⟨#[93]⟩, ⟨#[59]⟩, ⟨#[44]⟩, ⟨#[46]⟩, ⟨#[61]⟩, ⟨#[60]⟩, ⟨#[62]⟩, ⟨#[43]⟩, ⟨#[45]⟩, ⟨#[42]⟩, ⟨#[47]⟩, ⟨#[37]⟩, ⟨#[33]⟩, ⟨#[63]⟩, ⟨#[58]⟩]
def preAt (l : List UInt8) (m : ByteArray) : Bool := Lib.hasPrefix l m.data.toList
/-- How long the first mark is with which a text begins; 0: there is none. -/
def markLen (l : List UInt8) : List ByteArray → Nat
  | [] => 0
  | m :: r => if preAt l m = true then m.size else markLen l r

structure Tok where
  kind : Int
  text : ByteArray
  num : Int

def tokAt (s : ByteArray) (i : Nat) : Option (Tok × Nat) :=
  if digB (bAt s i) = true then
    if digEnd s i - i ≤ 15 ∧ (bAt s i ≠ 48 ∨ digEnd s i = i + 1) ∧ letB (bAt s (digEnd s i)) = false then some (⟨3, ⟨#[]⟩, numL (cutL s i (digEnd s i))⟩, digEnd s i) else none
  else if letB (bAt s i) = true then
    if letEnd s i - i ≤ 20 then some (⟨if wordB (s.extract i (letEnd s i)) = true then 2 else 1, s.extract i (letEnd s i), 0⟩, letEnd s i) else none
  else if bAt s i = 34 then
    if bAt s (txtEnd s (i + 1)) = 34 then some (⟨4, ⟨(txtVal s (i + 1)).toArray⟩, 0⟩, txtEnd s (i + 1) + 1) else none
  else if 0 < markLen (s.data.toList.drop i) marks then some (⟨5, s.extract i (i + markLen (s.data.toList.drop i) marks), 0⟩, i + markLen (s.data.toList.drop i) marks) else none

/-- Where the next token begins, and whether a line feed is ahead of it. -/
def skipTo (s : ByteArray) (i : Nat) (line com : Bool) : Nat × Bool :=
  if h : i < s.size then
    if bAt s i = 10 then skipTo s (i + 1) true false
    else if com = true then skipTo s (i + 1) line true
    else if bAt s i = 32 ∨ bAt s i = 9 then skipTo s (i + 1) line false
    else if bAt s i = 47 ∧ bAt s (i + 1) = 47 then skipTo s (i + 1) line true
    else (i, line)
  else (s.size, line)
termination_by s.size - i
theorem skip_end (s : ByteArray) (i : Nat) (line com : Bool) (h : ¬ i < s.size) : skipTo s i line com = (s.size, line) := by rw [skipTo, dif_neg h]
theorem skip_lf (s : ByteArray) (i : Nat) (line com : Bool) (h : i < s.size) (h1 : bAt s i = 10) : skipTo s i line com = skipTo s (i + 1) true false := by rw [skipTo, dif_pos h, if_pos h1]
theorem skip_com (s : ByteArray) (i : Nat) (line : Bool) (h : i < s.size) (h1 : bAt s i ≠ 10) : skipTo s i line true = skipTo s (i + 1) line true := by rw [skipTo, dif_pos h, if_neg h1, if_pos rfl]
theorem skip_bl (s : ByteArray) (i : Nat) (line : Bool) (h : i < s.size) (h2 : bAt s i = 32 ∨ bAt s i = 9) : skipTo s i line false = skipTo s (i + 1) line false := by
  rw [skipTo, dif_pos h, if_neg (by omega), if_neg (by simp), if_pos h2]
theorem skip_sl (s : ByteArray) (i : Nat) (line : Bool) (h : i < s.size) (h2 : bAt s i = 47) (h3 : bAt s (i + 1) = 47) : skipTo s i line false = skipTo s (i + 1) line true := by
  rw [skipTo, dif_pos h, if_neg (by omega), if_neg (by simp), if_neg (by omega), if_pos ⟨h2, h3⟩]
theorem skip_at (s : ByteArray) (i : Nat) (line : Bool) (h : i < s.size) (h1 : bAt s i ≠ 10) (h2 : bAt s i ≠ 32) (h3 : bAt s i ≠ 9) (h4 : ¬ (bAt s i = 47 ∧ bAt s (i + 1) = 47)) : skipTo s i line false = (i, line) := by
  rw [skipTo, dif_pos h, if_neg h1, if_neg (by simp), if_neg (by omega), if_neg h4]
/-- Behind a comment it does not matter that there was one. -/
theorem skip_com_end (s : ByteArray) (i : Nat) (line : Bool) (h : ¬ i < s.size ∨ bAt s i = 10) : skipTo s i line true = skipTo s i line false := by
  by_cases g : i < s.size
  · rcases h with h | h
    · exact absurd g h
    · rw [skip_lf s i line true g h, skip_lf s i line false g h]
  · rw [skip_end s i line true g, skip_end s i line false g]
theorem skip_bd (s : ByteArray) (i : Nat) (line com : Bool) (hi : i ≤ s.size) : i ≤ (skipTo s i line com).1 ∧ (skipTo s i line com).1 ≤ s.size := by
  by_cases h : i < s.size
  · by_cases h1 : bAt s i = 10
    · rw [skip_lf s i line com h h1]; have := skip_bd s (i + 1) true false (by omega); omega
    · cases com with
      | true => rw [skip_com s i line h h1]; have := skip_bd s (i + 1) line true (by omega); omega
      | false =>
        by_cases h2 : bAt s i = 32 ∨ bAt s i = 9
        · rw [skip_bl s i line h h2]; have := skip_bd s (i + 1) line false (by omega); omega
        · by_cases h3 : bAt s i = 47 ∧ bAt s (i + 1) = 47
          · rw [skip_sl s i line h h3.1 h3.2]; have := skip_bd s (i + 1) line true (by omega); omega
          · rw [skip_at s i line h h1 (by omega) (by omega) h3]; simp; omega
  · rw [skip_end s i line com h]; simp; omega
termination_by s.size - i

structure TokF where
  kind : Int
  text : ByteArray
  num : Int
  line : Bool
  at' : Nat

structure Out where
  toks : List TokF
  at' : Nat
  code : Int

def lexFrom (s : ByteArray) (i : Nat) (acc : List TokF) : Out :=
  if s.size ≤ (skipTo s i false false).1 then ⟨acc ++ [⟨6, ⟨#[]⟩, 0, (skipTo s i false false).2, (skipTo s i false false).1⟩], 0, 0⟩
  else match tokAt s (skipTo s i false false).1 with
    | none => ⟨[], (skipTo s i false false).1, 3⟩
    | some (t, e) =>
      if 600 ≤ acc.length then ⟨[], (skipTo s i false false).1, 3⟩
      else if h : i < e ∧ i < s.size then lexFrom s e (acc ++ [⟨t.kind, t.text, t.num, (skipTo s i false false).2, (skipTo s i false false).1⟩])
      else ⟨[], 0, 0⟩
termination_by s.size - i
def lexOut (s : ByteArray) : Out := if 4000 < s.size then ⟨[], 0, 2⟩ else lexFrom s 0 []

end Go.Proofs.YtpabbadngpjgoaaDoor.Lex

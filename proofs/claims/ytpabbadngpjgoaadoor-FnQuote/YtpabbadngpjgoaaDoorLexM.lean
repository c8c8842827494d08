/-
  Tokens, plainly: what is ahead of a text moves its tokens; they stand in their order.
-/
import Derived.Test.YtpabbadngpjgoaaDoorLexV
namespace Go.Proofs.YtpabbadngpjgoaaDoor.Lex

theorem bAt_list (s : ByteArray) (i : Nat) : bAt s i = ((s.data.toList[i]?).map (fun c => (c.toNat : Int))).getD 0 := by
  by_cases h : i < s.size
  · rw [bAt_in s i h, List.getElem?_eq_getElem (by simpa using h)]; rfl
  · rw [bAt_out s i h, List.getElem?_eq_none (by simpa using h)]; rfl
theorem app_list (a s : ByteArray) : (a ++ s).data.toList = a.data.toList ++ s.data.toList := by simp
theorem app_size (a s : ByteArray) : (a ++ s).size = a.size + s.size := by simp
theorem bAt_app (a s : ByteArray) (i : Nat) : bAt (a ++ s) (a.size + i) = bAt s i := by
  rw [bAt_list, bAt_list, app_list, List.getElem?_append_right (by simp)]
  simp
theorem bAt_pre (a s : ByteArray) (i : Nat) (h : i < a.size) : bAt (a ++ s) i = bAt a i := by
  rw [bAt_list, bAt_list, app_list, List.getElem?_append_left (by simpa using h)]

section
variable (a s : ByteArray)
theorem letEnd_app (i : Nat) : letEnd (a ++ s) (a.size + i) = a.size + letEnd s i := by
  by_cases h : letB (bAt s i) = true
  · have h1 := letB_lt s i h
    rw [letEnd_yes s i h, letEnd_yes _ _ (by rw [bAt_app]; exact h), Nat.add_assoc, letEnd_app (i + 1)]
  · have h' : letB (bAt s i) = false := by simpa using h
    rw [letEnd_no s i h', letEnd_no _ _ (by rw [bAt_app]; exact h')]
termination_by s.size - i
theorem digEnd_app (i : Nat) : digEnd (a ++ s) (a.size + i) = a.size + digEnd s i := by
  by_cases h : digB (bAt s i) = true
  · have h1 := digB_lt s i h
    rw [digEnd_yes s i h, digEnd_yes _ _ (by rw [bAt_app]; exact h), Nat.add_assoc, digEnd_app (i + 1)]
  · have h' : digB (bAt s i) = false := by simpa using h
    rw [digEnd_no s i h', digEnd_no _ _ (by rw [bAt_app]; exact h')]
termination_by s.size - i
theorem stepT_app (i : Nat) : stepT (a ++ s) (a.size + i) = stepT s i := by
  unfold stepT; rw [bAt_app, Nat.add_assoc, bAt_app]
theorem txtEnd_app (i : Nat) : txtEnd (a ++ s) (a.size + i) = a.size + txtEnd s i := by
  by_cases h : 0 < stepT s i
  · have h1 := stepT_in s i h
    rw [txtEnd_yes s i h, txtEnd_yes _ _ (by rw [stepT_app]; exact h), stepT_app, Nat.add_assoc, txtEnd_app (i + stepT s i)]
  · have h' : stepT s i = 0 := by omega
    rw [txtEnd_no s i h', txtEnd_no _ _ (by rw [stepT_app]; exact h')]
termination_by s.size - i
theorem hidV_app (i : Nat) : hidV (a ++ s) (a.size + i) = hidV s i := by
  unfold hidV; rw [bAt_app, Nat.add_assoc, bAt_app]
theorem txtVal_app (i : Nat) : txtVal (a ++ s) (a.size + i) = txtVal s i := by
  by_cases h : 0 < stepT s i
  · have h1 := stepT_in s i h
    rw [txtVal_yes s i h, txtVal_yes _ _ (by rw [stepT_app]; exact h), stepT_app, hidV_app, Nat.add_assoc, txtVal_app (i + stepT s i)]
  · have h' : stepT s i = 0 := by omega
    rw [txtVal_no s i h', txtVal_no _ _ (by rw [stepT_app]; exact h')]
termination_by s.size - i
theorem cutL_app (i e : Nat) : cutL (a ++ s) (a.size + i) (a.size + e) = cutL s i e := by
  unfold cutL
  rw [app_list, List.take_append, List.drop_append]
  simp
theorem drop_app (i : Nat) : (a ++ s).data.toList.drop (a.size + i) = s.data.toList.drop i := by
  rw [app_list, List.drop_append]
  simp
theorem ext_list (b : ByteArray) (i e : Nat) : (b.extract i e).data.toList = (b.data.toList.take e).drop i := by
  rw [ByteArray.data_extract, Array.toList_extract]
  simp [List.take_drop]
  by_cases h : i ≤ e
  · rw [Nat.add_sub_of_le h]
  · rw [List.drop_of_length_le (by rw [List.length_take]; omega), List.drop_of_length_le (by rw [List.length_take]; omega)]
theorem ext_app (i e : Nat) : (a ++ s).extract (a.size + i) (a.size + e) = s.extract i e := by
  have h := cutL_app a s i e
  unfold cutL at h
  rw [← ext_list, ← ext_list] at h
  exact ByteArray.ext (Array.toList_inj.1 h)
theorem tokAt_app (i : Nat) : tokAt (a ++ s) (a.size + i) = (tokAt s i).map fun x => (x.1, a.size + x.2) := by
  unfold tokAt
  rw [bAt_app, digEnd_app, letEnd_app, bAt_app, ext_app, cutL_app, drop_app, Nat.add_assoc, txtEnd_app, bAt_app, txtVal_app]
  by_cases h1 : digB (bAt s i) = true
  · rw [if_pos h1, if_pos h1]
    by_cases h2 : digEnd s i - i ≤ 15 ∧ (bAt s i ≠ 48 ∨ digEnd s i = i + 1) ∧ letB (bAt s (digEnd s i)) = false
    · rw [if_pos h2, if_pos ⟨by omega, h2.2.1.imp id (by omega), h2.2.2⟩]; rfl
    · rw [if_neg h2, if_neg (fun g => h2 ⟨by omega, g.2.1.imp id (by omega), g.2.2⟩)]; rfl
  · rw [if_neg h1, if_neg h1]
    by_cases h2 : letB (bAt s i) = true
    · rw [if_pos h2, if_pos h2]
      by_cases h3 : letEnd s i - i ≤ 20
      · rw [if_pos h3, if_pos (by omega)]; rfl
      · rw [if_neg h3, if_neg (by omega)]; rfl
    · rw [if_neg h2, if_neg h2]
      by_cases h3 : bAt s i = 34
      · rw [if_pos h3, if_pos h3]
        by_cases h4 : bAt s (txtEnd s (i + 1)) = 34
        · rw [if_pos h4, if_pos h4]; rfl
        · rw [if_neg h4, if_neg h4]; rfl
      · rw [if_neg h3, if_neg h3]
        by_cases h4 : 0 < markLen (s.data.toList.drop i) marks
        · rw [if_pos h4, if_pos h4, Nat.add_assoc, ext_app]; rfl
        · rw [if_neg h4, if_neg h4]; rfl
theorem skip_app (i : Nat) (line com : Bool) : skipTo (a ++ s) (a.size + i) line com = (a.size + (skipTo s i line com).1, (skipTo s i line com).2) := by
  by_cases h : i < s.size
  · have h' : a.size + i < (a ++ s).size := by rw [app_size]; omega
    by_cases h1 : bAt s i = 10
    · rw [skip_lf s i line com h h1, skip_lf _ _ line com h' (by rw [bAt_app]; exact h1), Nat.add_assoc, skip_app (i + 1)]
    · cases com with
      | true => rw [skip_com s i line h h1, skip_com _ _ line h' (by rw [bAt_app]; exact h1), Nat.add_assoc, skip_app (i + 1)]
      | false =>
        by_cases h2 : bAt s i = 32 ∨ bAt s i = 9
        · rw [skip_bl s i line h h2, skip_bl _ _ line h' (by rw [bAt_app]; exact h2), Nat.add_assoc, skip_app (i + 1)]
        · by_cases h3 : bAt s i = 47 ∧ bAt s (i + 1) = 47
          · rw [skip_sl s i line h h3.1 h3.2, skip_sl _ _ line h' (by rw [bAt_app]; exact h3.1) (by rw [Nat.add_assoc, bAt_app]; exact h3.2), Nat.add_assoc, skip_app (i + 1)]
          · rw [skip_at s i line h h1 (by omega) (by omega) h3, skip_at _ _ line h' (by rw [bAt_app]; exact h1) (by rw [bAt_app]; omega) (by rw [bAt_app]; omega) (by rw [bAt_app, Nat.add_assoc, bAt_app]; exact h3)]
  · rw [skip_end s i line com h, skip_end _ _ line com (by rw [app_size]; omega), app_size]
termination_by s.size - i
end
/-- The mark of a line feed goes its own way. -/
theorem skip_line (s : ByteArray) (i : Nat) (line com : Bool) : skipTo s i line com = ((skipTo s i false com).1, line || (skipTo s i false com).2) := by
  by_cases h : i < s.size
  · by_cases h1 : bAt s i = 10
    · rw [skip_lf s i line com h h1, skip_lf s i false com h h1, skip_line s (i + 1) true false]
      simp
    · cases com with
      | true => rw [skip_com s i line h h1, skip_com s i false h h1, skip_line s (i + 1) line true]
      | false =>
        by_cases h2 : bAt s i = 32 ∨ bAt s i = 9
        · rw [skip_bl s i line h h2, skip_bl s i false h h2, skip_line s (i + 1) line false]
        · by_cases h3 : bAt s i = 47 ∧ bAt s (i + 1) = 47
          · rw [skip_sl s i line h h3.1 h3.2, skip_sl s i false h h3.1 h3.2, skip_line s (i + 1) line true]
          · rw [skip_at s i line h h1 (by omega) (by omega) h3, skip_at s i false h h1 (by omega) (by omega) h3]; simp
  · rw [skip_end s i line com h, skip_end s i false com h]; simp
termination_by s.size - i

theorem tok_bd (s : ByteArray) (p : Nat) (hp : p < s.size) {t : Tok} {e : Nat} (h : tokAt s p = some (t, e)) : p < e ∧ e ≤ s.size := by
  by_cases hk : teK s p = 0
  · rw [tok_none s p hp hk] at h; cases h
  · obtain ⟨h1, h2, h3, _⟩ := tok_some s p hp hk
    rw [h1] at h
    simp only [Option.some.injEq, Prod.mk.injEq] at h
    omega

/-- The tokens stand one behind the other. -/
def Inc (lo : Nat) : List TokF → Prop
  | [] => True
  | t :: r => lo ≤ t.at' ∧ Inc (t.at' + 1) r
theorem Inc.mono {lo lo' : Nat} (h : lo' ≤ lo) : ∀ {l : List TokF}, Inc lo l → Inc lo' l
  | [], _ => trivial
  | _ :: _, hi => ⟨Nat.le_trans h hi.1, hi.2⟩
theorem Inc.at : ∀ {l : List TokF} {lo : Nat}, Inc lo l → ∀ (i : Nat) (h : i + 1 < l.length), l[i].at' < l[i + 1].at'
  | [_], _, _, i, h => by simp at h
  | a :: b :: r, lo, hi, 0, _ => by have := hi.2.1; simp; omega
  | a :: b :: r, lo, hi, i + 1, h => by
    have := Inc.at hi.2 i (by simpa using h)
    simpa using this

def sh (n : Nat) (t : TokF) : TokF := ⟨t.kind, t.text, t.num, t.line, n + t.at'⟩

theorem lex_shift (a s : ByteArray) (i : Nat) (hi : i ≤ s.size) (acc acc' : List TokF) (hl : acc'.length = acc.length) (h6 : acc.length ≤ 600) :
    (∃ rest, lexFrom s i acc = ⟨acc ++ rest, 0, 0⟩ ∧ lexFrom (a ++ s) (a.size + i) acc' = ⟨acc' ++ rest.map (sh a.size), 0, 0⟩ ∧ Inc i rest ∧ rest ≠ [] ∧ (acc ++ rest).length ≤ 601 ∧ ∀ x ∈ rest, x.at' ≤ s.size) ∨
    (∃ p, lexFrom s i acc = ⟨[], p, 3⟩ ∧ lexFrom (a ++ s) (a.size + i) acc' = ⟨[], a.size + p, 3⟩ ∧ p ≤ s.size) := by
  obtain ⟨p, line, hp⟩ : ∃ p line, skipTo s i false false = (p, line) := ⟨_, _, rfl⟩
  have hb := skip_bd s i false false hi
  rw [hp] at hb
  obtain ⟨hb1, hb2⟩ := hb
  have hp' : skipTo (a ++ s) (a.size + i) false false = (a.size + p, line) := by rw [skip_app, hp]
  by_cases he : s.size ≤ p
  · left
    refine ⟨[⟨6, ⟨#[]⟩, 0, line, p⟩], lex_end s i acc p line hp he, ?_, ⟨hb1, trivial⟩, by simp, by simp; omega, fun x hx => by rw [List.mem_singleton.1 hx]; exact hb2⟩
    rw [lex_end (a ++ s) _ acc' _ line hp' (by rw [app_size]; omega)]
    rfl
  have he' : ¬ (a ++ s).size ≤ a.size + p := by rw [app_size]; omega
  cases ht : tokAt s p with
  | none =>
    right
    have ht' : tokAt (a ++ s) (a.size + p) = none := by rw [tokAt_app, ht]; rfl
    exact ⟨p, lex_none s i acc p line hp he ht, lex_none (a ++ s) _ acc' _ line hp' he' ht', hb2⟩
  | some x =>
    obtain ⟨t, e⟩ := x
    have ht' : tokAt (a ++ s) (a.size + p) = some (t, a.size + e) := by rw [tokAt_app, ht]; rfl
    obtain ⟨b1, b2⟩ := tok_bd s p (by omega) ht
    by_cases hf : 600 ≤ acc.length
    · right
      exact ⟨p, lex_full s i acc p line hp he ht hf, lex_full (a ++ s) _ acc' _ line hp' he' ht' (by omega), hb2⟩
    · rw [lex_step s i acc p line hp he ht hf (by omega) (by omega), lex_step (a ++ s) _ acc' _ line hp' he' ht' (by omega) (by omega) (by rw [app_size]; omega)]
      rcases lex_shift a s e b2 (acc ++ [⟨t.kind, t.text, t.num, line, p⟩]) (acc' ++ [⟨t.kind, t.text, t.num, line, a.size + p⟩]) (by simp [hl]) (by simp; omega) with ⟨rest, r1, r2, r3, r4, r5, r6⟩ | h
      · left
        refine ⟨⟨t.kind, t.text, t.num, line, p⟩ :: rest, by rw [r1]; simp, by rw [r2]; simp [sh], ⟨hb1, r3.mono (by simp; omega)⟩, by simp, by simpa using r5, fun x hx => ?_⟩
        rcases List.mem_cons.1 hx with rfl | hx
        · exact hb2
        · exact r6 x hx
      · right; exact h
termination_by s.size - i
decreasing_by omega

end Go.Proofs.YtpabbadngpjgoaaDoor.Lex

/-
  Tokens, plainly: a text that is quoted is one token; the four things that the law puts ahead.
-/
import Derived.Test.YtpabbadngpjgoaaDoorLexM
namespace Go.Proofs.YtpabbadngpjgoaaDoor.Lex

theorem escB_pos (c : UInt8) : 0 < (escB c).length := by unfold escB; split; simp; split <;> simp

theorem at_list {q : ByteArray} {i : Nat} {l : List UInt8} (h : q.data.toList.drop i = l) (j : Nat) : bAt q (i + j) = ((l[j]?).map (fun c => (c.toNat : Int))).getD 0 := by
  rw [bAt_list, ← h, List.getElem?_drop]

theorem okQ_cases (c : UInt8) (h : okQ c = true) : (c.toNat : Int) = 10 ∨ txtB (c.toNat : Int) = true := by
  unfold okQ at h; simpa using h

/-- Within what is quoted: the bytes are read back. -/
theorem quoted_at (q : ByteArray) : ∀ (l : List UInt8) (i : Nat), (∀ c ∈ l, okQ c = true) → q.data.toList.drop i = l.flatMap escB ++ [34] → i ≤ q.size → txtVal q i = l ∧ txtEnd q i + 1 = q.size
  | [], i, _, hd, hi => by
    have h0 : bAt q i = 34 := by have := at_list hd 0; simpa using this
    have hs : stepT q i = 0 := stepT_quo q i h0
    rw [txtVal_no q i hs, txtEnd_no q i hs]
    have := congrArg List.length hd
    simp at this
    refine ⟨rfl, ?_⟩
    have hq : q.data.size = q.size := rfl
    omega
  | c :: l, i, hok, hd, hi => by
    have hc := hok c (by simp)
    rw [List.flatMap_cons, List.append_assoc] at hd
    have hb : (c.toNat : Int) < 256 := by have := c.toNat_lt; omega
    have hlen : i + (escB c).length ≤ q.size := by
      have := congrArg List.length hd
      simp at this
      have hq : q.data.size = q.size := rfl
      omega
    have next : q.data.toList.drop (i + (escB c).length) = l.flatMap escB ++ [34] := by
      rw [← List.drop_drop, hd]; simp
    have key : stepT q i = (escB c).length ∧ hidV q i = c := by
      by_cases h10 : (c.toNat : Int) = 10
      · rw [escB_n c h10] at hd ⊢
        have e0 : bAt q i = 92 := by have := at_list hd 0; simpa using this
        have e1 : bAt q (i + 1) = 110 := by have := at_list hd 1; simpa using this
        refine ⟨stepT_two q i e0 (by rw [e1]; decide), ?_⟩
        unfold hidV
        rw [if_pos e0, e1]
        have : hidB 110 = 10 := by decide
        rw [this]
        have h10' : c.toNat = 10 := by omega
        rw [← UInt8.toNat_inj]; simp [h10']
      · by_cases h34 : (c.toNat : Int) = 34 ∨ (c.toNat : Int) = 92
        · rw [escB_b c h10 h34] at hd ⊢
          have e0 : bAt q i = 92 := by have := at_list hd 0; simpa using this
          have e1 : bAt q (i + 1) = (c.toNat : Int) := by have := at_list hd 1; simpa using this
          have hh : hidB (c.toNat : Int) = (c.toNat : Int) := by unfold hidB; rw [if_pos (by omega)]
          refine ⟨stepT_two q i e0 (by rw [e1, hh]; omega), ?_⟩
          unfold hidV
          rw [if_pos e0, e1, hh]
          simp
        · rw [escB_p c h10 h34] at hd ⊢
          have e0 : bAt q i = (c.toNat : Int) := by have := at_list hd 0; simpa using this
          have ht : txtB (c.toNat : Int) = true := (okQ_cases c hc).resolve_left h10
          refine ⟨stepT_one q i (by rw [e0]; omega) (by rw [e0]; omega) (by rw [e0]; exact ht), ?_⟩
          unfold hidV
          rw [if_neg (by rw [e0]; omega), e0]
          simp
    have hp := escB_pos c
    rw [txtVal_yes q i (by omega), txtEnd_yes q i (by omega), key.1, key.2]
    obtain ⟨r1, r2⟩ := quoted_at q l (i + (escB c).length) (fun x hx => hok x (by simp [hx])) next hlen
    rw [r1]
    exact ⟨rfl, r2⟩

theorem oks_all (t : ByteArray) (h : oksQ t t.size = true) : ∀ c ∈ t.data.toList, okQ c = true := by
  unfold oksQ at h
  rw [List.take_of_length_le (by simp)] at h
  exact List.all_eq_true.1 h

theorem quote_lex (t : ByteArray) (h1 : t.size ≤ 1000) (h2 : oksQ t t.size = true) : lexOut (quoteB t) = ⟨[⟨4, t, 0, false, 0⟩, ⟨6, ⟨#[]⟩, 0, false, (quoteB t).size⟩], 0, 0⟩ := by
  obtain ⟨q, hq⟩ : ∃ q, quoteB t = q := ⟨_, rfl⟩
  have hl : q.data.toList = 34 :: (t.data.toList.flatMap escB ++ [34]) := by
    rw [← hq, quoteB_yes t h1 h2]
    unfold quoteL accQ
    rw [List.take_of_length_le (by simp)]
    simp
  rw [hq]
  have hsz : q.size ≤ 4000 := by
    have h3 := accQ_len t t.size
    have h4 : q.size = (accQ t t.size ++ [34]).length := by
      rw [← hq, quoteB_yes t h1 h2]
      rfl
    rw [List.length_append, List.length_singleton] at h4
    omega
  have hsz2 : 2 ≤ q.size := by
    have := congrArg List.length hl
    simp at this
    have hqq : q.data.size = q.size := rfl
    omega
  rw [lexOut_small q (by omega)]
  have e0 : bAt q 0 = 34 := by rw [bAt_list, hl]; rfl
  have hs0 : skipTo q 0 false false = (0, false) := skip_at q 0 false (by omega) (by rw [e0]; decide) (by rw [e0]; decide) (by rw [e0]; decide) (by rw [e0]; simp)
  obtain ⟨r1, r2⟩ := quoted_at q t.data.toList 1 (oks_all t h2) (by rw [hl]; rfl) (by omega)
  have e1 : bAt q (txtEnd q 1) = 34 := by
    rw [bAt_list, hl]
    have h5 : txtEnd q 1 = (34 :: (t.data.toList.flatMap escB ++ [34])).length - 1 := by
      rw [← hl]
      have hqq : q.data.toList.length = q.size := by simp
      omega
    rw [h5]
    simp
  have ht : tokAt q 0 = some (⟨4, t, 0⟩, q.size) := by
    unfold tokAt
    rw [e0, if_neg (by decide), if_neg (by decide), if_pos rfl, Nat.zero_add, if_pos e1, r1, r2]
  rw [lex_step q 0 [] 0 false hs0 (by omega) ht (by simp) (by omega) (by omega)]
  exact lex_end q q.size _ q.size false (skip_end q q.size false false (by omega)) (Nat.le_refl _)

/-- What the law puts ahead. -/
def aheads : List ByteArray := [⟨#[32]⟩, ⟨#[9, 32]⟩, ⟨#[47, 47, 120, 10]⟩, ⟨#[10]⟩]
theorem ahead_skip (k : Nat) (hk : k < 4) (s : ByteArray) : ∃ l, skipTo ((aheads.getD k ⟨#[]⟩) ++ s) 0 false false = skipTo ((aheads.getD k ⟨#[]⟩) ++ s) ((aheads.getD k ⟨#[]⟩).size) l false := by
  have hb : ∀ (a : ByteArray) (i : Nat), i < a.size → bAt (a ++ s) i = bAt a i := fun a i h => bAt_pre a s i h
  have hz : ∀ (a : ByteArray) (i : Nat), i < a.size → i < (a ++ s).size := fun a i h => by rw [app_size]; omega
  match k, hk with
  | 0, _ =>
    refine ⟨false, ?_⟩
    show skipTo ((⟨#[32]⟩ : ByteArray) ++ s) 0 false false = skipTo ((⟨#[32]⟩ : ByteArray) ++ s) 1 false false
    rw [skip_bl _ 0 false (hz _ 0 (by decide)) (.inl (by rw [hb _ 0 (by decide)]; decide))]
  | 1, _ =>
    refine ⟨false, ?_⟩
    show skipTo ((⟨#[9, 32]⟩ : ByteArray) ++ s) 0 false false = skipTo ((⟨#[9, 32]⟩ : ByteArray) ++ s) 2 false false
    rw [skip_bl _ 0 false (hz _ 0 (by decide)) (.inr (by rw [hb _ 0 (by decide)]; decide)), skip_bl _ 1 false (hz _ 1 (by decide)) (.inl (by rw [hb _ 1 (by decide)]; decide))]
  | 2, _ =>
    refine ⟨true, ?_⟩
    show skipTo ((⟨#[47, 47, 120, 10]⟩ : ByteArray) ++ s) 0 false false = skipTo ((⟨#[47, 47, 120, 10]⟩ : ByteArray) ++ s) 4 true false
    rw [skip_sl _ 0 false (hz _ 0 (by decide)) (by rw [hb _ 0 (by decide)]; decide) (by rw [hb _ 1 (by decide)]; decide),
      skip_com _ 1 false (hz _ 1 (by decide)) (by rw [hb _ 1 (by decide)]; decide), skip_com _ 2 false (hz _ 2 (by decide)) (by rw [hb _ 2 (by decide)]; decide), skip_lf _ 3 false true (hz _ 3 (by decide)) (by rw [hb _ 3 (by decide)]; decide)]
  | 3, _ =>
    refine ⟨true, ?_⟩
    show skipTo ((⟨#[10]⟩ : ByteArray) ++ s) 0 false false = skipTo ((⟨#[10]⟩ : ByteArray) ++ s) 1 true false
    rw [skip_lf _ 0 false false (hz _ 0 (by decide)) (by rw [hb _ 0 (by decide)]; decide)]

/-- A first token whose mark of a line feed is another. -/
def setLine (l : Bool) : List TokF → List TokF
  | [] => []
  | t :: r => ⟨t.kind, t.text, t.num, l, t.at'⟩ :: r

/-- Behind what is ahead: the same tokens, moved; the first one's Line may be another. -/
theorem ahead_lex (k : Nat) (hk : k < 4) (s : ByteArray) (hs : (aheads.getD k ⟨#[]⟩).size + s.size ≤ 4000) :
    (∃ toks l, lexOut s = ⟨toks, 0, 0⟩ ∧ lexOut ((aheads.getD k ⟨#[]⟩) ++ s) = ⟨setLine l (toks.map (sh (aheads.getD k ⟨#[]⟩).size)), 0, 0⟩ ∧ Inc 0 toks ∧ toks ≠ [] ∧ toks.length ≤ 601 ∧ ∀ x ∈ toks, x.at' ≤ s.size) ∨
    (∃ p, lexOut s = ⟨[], p, 3⟩ ∧ lexOut ((aheads.getD k ⟨#[]⟩) ++ s) = ⟨[], (aheads.getD k ⟨#[]⟩).size + p, 3⟩ ∧ p ≤ s.size) := by
  obtain ⟨l, hl⟩ := ahead_skip k hk s
  generalize aheads.getD k ⟨#[]⟩ = a at *
  rw [lexOut_small s (by omega), lexOut_small (a ++ s) (by rw [app_size]; omega)]
  obtain ⟨p, line, hp⟩ : ∃ p line, skipTo s 0 false false = (p, line) := ⟨_, _, rfl⟩
  have hb := skip_bd s 0 false false (Nat.zero_le _)
  rw [hp] at hb
  have hp' : skipTo (a ++ s) 0 false false = (a.size + p, l || line) := by
    rw [hl, skip_line]
    have := skip_app a s 0 false false
    rw [Nat.add_zero] at this
    rw [this, hp]
  by_cases he : s.size ≤ p
  · left
    refine ⟨_, l || line, lex_end s 0 [] p line hp he, ?_, ⟨Nat.zero_le _, trivial⟩, by simp, by simp, fun x hx => by rw [List.mem_singleton.1 hx]; exact hb.2⟩
    rw [lex_end (a ++ s) 0 [] _ _ hp' (by rw [app_size]; omega)]
    rfl
  have he' : ¬ (a ++ s).size ≤ a.size + p := by rw [app_size]; omega
  cases ht : tokAt s p with
  | none =>
    right
    have ht' : tokAt (a ++ s) (a.size + p) = none := by rw [tokAt_app, ht]; rfl
    exact ⟨p, lex_none s 0 [] p line hp he ht, lex_none (a ++ s) 0 [] _ _ hp' he' ht', hb.2⟩
  | some x =>
    obtain ⟨t, e⟩ := x
    have ht' : tokAt (a ++ s) (a.size + p) = some (t, a.size + e) := by rw [tokAt_app, ht]; rfl
    obtain ⟨b1, b2⟩ := tok_bd s p (by omega) ht
    rw [lex_step s 0 [] p line hp he ht (by simp) (by omega) (by omega), lex_step (a ++ s) 0 [] _ _ hp' he' ht' (by simp) (by omega) (by rw [app_size]; omega)]
    rcases lex_shift a s e b2 ([] ++ [⟨t.kind, t.text, t.num, line, p⟩]) ([] ++ [⟨t.kind, t.text, t.num, l || line, a.size + p⟩]) (by simp) (by simp) with ⟨rest, r1, r2, r3, r4, r5, r6⟩ | h
    · left
      exact ⟨_, l || line, r1, by rw [r2]; simp [sh, setLine], ⟨Nat.zero_le _, r3.mono (by simp; omega)⟩, by simp, r5, fun x hx => by
        rcases List.mem_cons.1 (show x ∈ _ :: rest from hx) with rfl | hx
        · exact hb.2
        · exact r6 x hx⟩
    · right; exact h

theorem setLine_len (l : Bool) (ts : List TokF) : (setLine l ts).length = ts.length := by cases ts <;> rfl
theorem setLine_at (l : Bool) (n : Nat) (tk : List TokF) (i : Nat) (h : i < tk.length) :
    ∃ ln, (setLine l (tk.map (sh n)))[i]'(by rw [setLine_len, List.length_map]; exact h) = ⟨tk[i].kind, tk[i].text, tk[i].num, ln, n + tk[i].at'⟩ ∧ (0 < i → ln = tk[i].line) := by
  cases tk with
  | nil => simp at h
  | cons a r =>
    cases i with
    | zero => exact ⟨l, rfl, fun h => by omega⟩
    | succ i =>
      refine ⟨((a :: r)[i + 1]).line, ?_, fun _ => rfl⟩
      simp [setLine, sh]

end Go.Proofs.YtpabbadngpjgoaaDoor.Lex

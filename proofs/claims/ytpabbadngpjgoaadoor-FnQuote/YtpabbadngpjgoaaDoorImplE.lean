/-
  The walk of impl's nextPlace: blanks and comments, rune by rune.
-/
import Derived.Test.YtpabbadngpjgoaaDoorImplC
import Derived.Laws.RangeAny
namespace Go.Proofs.YtpabbadngpjgoaaDoor
open Go.RowKit

theorem get_bang (r : ByteArray) (k : Nat) (h : k < r.size) : r.get! k = r[k] := get_at r k h

/-- A rune of several bytes has no byte below 128. -/
theorem decode_wide (r : ByteArray) (pos : Nat) (h : pos < r.size) (hb : 128 ≤ r[pos].toNat) :
    128 ≤ (Utf8.decode r pos).1 ∧ 1 ≤ (Utf8.decode r pos).2 ∧ pos + (Utf8.decode r pos).2 ≤ r.size ∧ ∀ k, k < (Utf8.decode r pos).2 → 128 ≤ Lex.bAt r (pos + k) := by
  have h1 := decode_high r pos h hb
  refine ⟨h1.1, h1.2, ?_⟩
  have hn : ¬ r[pos].toNat < 128 := by omega
  have b0 : 128 ≤ Lex.bAt r (pos + 0) := by rw [Nat.add_zero, Lex.bAt_in r pos h]; omega
  have hc : ∀ k, (decide (pos + k < r.size) && ((r.get! (pos + k)).toNat / 64 == 2)) = true → pos + k < r.size ∧ 128 ≤ Lex.bAt r (pos + k) := by
    intro k hk
    simp only [Bool.and_eq_true, decide_eq_true_eq, beq_iff_eq] at hk
    refine ⟨hk.1, ?_⟩
    rw [Lex.bAt_in r _ hk.1]
    have e := get_bang r (pos + k) hk.1
    rw [e] at hk
    omega
  have one : pos + 1 ≤ r.size ∧ ∀ k, k < 1 → 128 ≤ Lex.bAt r (pos + k) := by
    refine ⟨by omega, fun k hk => ?_⟩
    obtain rfl : k = 0 := by omega
    exact b0
  simp only [Utf8.decode, get_at r pos h, hn, if_false]
  split
  · rename_i g
    rw [Bool.and_eq_true] at g
    have k1 := hc 1 g.2
    split
    · refine ⟨by simp; omega, fun k hk => ?_⟩
      simp at hk
      rcases (show k = 0 ∨ k = 1 by omega) with rfl | rfl
      · exact b0
      · exact k1.2
    · exact one
  · split
    · rename_i g
      rw [Bool.and_eq_true, Bool.and_eq_true] at g
      have k1 := hc 1 g.1.2
      have k2 := hc 2 g.2
      split
      · refine ⟨by simp; omega, fun k hk => ?_⟩
        simp at hk
        rcases (show k = 0 ∨ k = 1 ∨ k = 2 by omega) with rfl | rfl | rfl
        · exact b0
        · exact k1.2
        · exact k2.2
      · exact one
    · split
      · rename_i g
        rw [Bool.and_eq_true, Bool.and_eq_true, Bool.and_eq_true] at g
        have k1 := hc 1 g.1.1.2
        have k2 := hc 2 g.1.2
        have k3 := hc 3 g.2
        split
        · refine ⟨by simp; omega, fun k hk => ?_⟩
          simp at hk
          rcases (show k = 0 ∨ k = 1 ∨ k = 2 ∨ k = 3 by omega) with rfl | rfl | rfl | rfl
          · exact b0
          · exact k1.2
          · exact k2.2
          · exact k3.2
        · exact one
      · exact one

theorem skip_com_n (s : ByteArray) (line : Bool) : ∀ (n i : Nat), (∀ k, k < n → i + k < s.size ∧ Lex.bAt s (i + k) ≠ 10) → Lex.skipTo s i line true = Lex.skipTo s (i + n) line true
  | 0, i, _ => rfl
  | n + 1, i, h => by
    have h0 := h 0 (by omega)
    rw [Lex.skip_com s i line (by simpa using h0.1) (by simpa using h0.2), skip_com_n s line n (i + 1) (fun k hk => by have := h (k + 1) (by omega); rw [show i + 1 + k = i + (k + 1) from by omega]; exact this)]
    rw [show i + 1 + n = i + (n + 1) from by omega]

theorem pre_slash (s : ByteArray) (i : Nat) : Lib.hasPrefix (s.data.toList.drop i) [47, 47] = decide (Lex.bAt s i = 47 ∧ Lex.bAt s (i + 1) = 47) := by
  rw [← Lib.hasPrefix_of_take, Bool.eq_iff_iff]
  simp only [List.length_cons, List.length_nil, Bool.and_eq_true, decide_eq_true_eq, beq_iff_eq, List.length_drop]
  have hsz : s.data.toList.length = s.size := rfl
  by_cases h : i + 1 < s.size
  · have e0 : s.data.toList.drop i = s[i] :: s[i + 1] :: s.data.toList.drop (i + 2) := by
      rw [List.drop_eq_getElem_cons (by omega), List.drop_eq_getElem_cons (by omega)]; rfl
    rw [e0, Lex.bAt_in s i (by omega), Lex.bAt_in s (i + 1) h]
    simp only [Nat.zero_add, Nat.reduceAdd, List.take_succ_cons, List.take_zero, List.cons.injEq, and_true]
    constructor
    · rintro ⟨_, h1, h2⟩; rw [h1, h2]; decide
    · rintro ⟨h1, h2⟩; exact ⟨by omega, u8_eq (by rw [h1]; decide), u8_eq (by rw [h2]; decide)⟩
  · constructor
    · intro hh; omega
    · rintro ⟨_, h2⟩; exact absurd (Lex.bAt_lt s (i + 1) (by omega)) h

theorem ret_ib {a c : Int} {b d : Bool} (h : a = c) (h2 : b = d) : Ending.returned (.tuple #[.int .i64 a, .bool b]) = .returned (.tuple #[.int .i64 c, .bool d]) := by rw [h, h2]

set_option maxHeartbeats 2000000 in
theorem iNextPlace (s : ByteArray) (i : Nat) (w : World) (hs : s.size ≤ 4000) (hi : i ≤ s.size) :
    Calls Tryd.prog 21 #[.string s, .int .i64 i] w fun e w' => e = .returned (.tuple #[.int .i64 ((Lex.skipTo s i false false).1 : Nat), .bool (Lex.skipTo s i false false).2]) ∧ Below w.heap.size w w' := by
  obtain ⟨r, hr⟩ : ∃ r, r = s.extract i s.size := ⟨_, rfl⟩
  have hrs : r.size = s.size - i := by rw [hr]; exact Lex.ext_size s i s.size (Nat.le_refl _)
  have hrs1 : r.size + i ≤ s.size := by omega
  have hrs2 : s.size ≤ r.size + i := by omega
  have HR : Hid (r = s.extract i s.size) := hr
  have hrb : ∀ k (h : k < r.size), (r[k].toNat : Int) = Lex.bAt s (i + k) := by
    intro k h; subst hr; exact Lex.ext_get s i s.size (Nat.le_refl _) k h
  have HB : Hid (∀ k (h : k < r.size), (r[k].toNat : Int) = Lex.bAt s (i + k)) := hrb
  clear hrs hrb
  obtain ⟨p, hp⟩ : ∃ p, p = Lex.skipTo s i false false := ⟨_, rfl⟩
  rw [← hp]
  have HP : Hid (p = Lex.skipTo s i false false) := hp
  clear hp hr
  go_enter Tryd.func21, Tryd.ntmps21
  go_wp2
  rw [← HR.out]
  go_loopw [5, 6] (fun vl vc wr => ∃ (pos : Nat) (line com : Bool), pos ≤ r.size ∧ vl = .bool line ∧ vc = .bool com ∧ wr = w.iter r pos ∧ Hid (Lex.skipTo s (i + pos) line com = p)) (fun _ _ wr => r.size - wr.iterPos w.heap.size)
  case atStart => exact ⟨0, false, false, Nat.zero_le _, rfl, rfl, rfl, HP.out.symm⟩
  case round =>
    obtain ⟨pos, line, com, hpos, rfl, rfl, rfl, HK⟩ := hrel
    by_cases hlt : pos < r.size
    · have hb := HB.out pos hlt
      have hnx := fun ty => run_next_any (P := Tryd.prog) w r pos ty hlt
      obtain ⟨c, n, hdec⟩ : ∃ c n, Utf8.decode r pos = (c, n) := ⟨_, _, rfl⟩
      rw [hdec] at hnx
      have hcn : (r[pos].toNat < 128 ∧ c = r[pos].toNat ∧ n = 1) ∨ (128 ≤ r[pos].toNat ∧ 128 ≤ c ∧ 1 ≤ n ∧ pos + n ≤ r.size ∧ ∀ k, k < n → 128 ≤ Lex.bAt r (pos + k)) := by
        by_cases g : r[pos].toNat < 128
        · left
          have := decode_ascii r pos hlt g
          rw [hdec] at this
          exact ⟨g, congrArg Prod.fst this, congrArg Prod.snd this⟩
        · right
          have := decode_wide r pos hlt (by omega)
          rw [hdec] at this
          exact ⟨by omega, this⟩
      have hn1 : 1 ≤ n ∧ pos + n ≤ r.size := by rcases hcn with h | h <;> omega
      obtain ⟨hn1, hn2⟩ := hn1
      have hc10 : c = 10 ↔ Lex.bAt s (i + pos) = 10 := by rcases hcn with h | h <;> omega
      have hc32 : c = 32 ↔ Lex.bAt s (i + pos) = 32 := by rcases hcn with h | h <;> omega
      have hc9 : c = 9 ↔ Lex.bAt s (i + pos) = 9 := by rcases hcn with h | h <;> omega
      have hlow : Lex.bAt s (i + pos) < 128 → n = 1 := by intro g; rcases hcn with h | h <;> omega
      have hcl : c ≤ 2147483647 := by have := decode_le r pos; rw [hdec] at this; exact this
      have hcom : Lex.bAt s (i + pos) ≠ 10 → Lex.skipTo s (i + pos) line true = Lex.skipTo s (i + (pos + n)) line true := by
        intro g
        rw [← Nat.add_assoc]
        refine skip_com_n s line n (i + pos) fun k hk => ?_
        rcases hcn with h | h
        · obtain rfl : k = 0 := by omega
          exact ⟨by omega, g⟩
        · have h1 := h.2.2.2.2 k hk
          have h2 : pos + k < r.size := by omega
          have h3 := HB.out (pos + k) h2
          rw [Lex.bAt_in r _ h2] at h1
          rw [Nat.add_assoc]
          exact ⟨by omega, by omega⟩
      have HC : Hid (Lex.bAt s (i + pos) ≠ 10 → Lex.skipTo s (i + pos) line true = Lex.skipTo s (i + (pos + n)) line true) := hcom
      have HL : Hid (Lex.bAt s (i + pos) < 128 → n = 1) := hlow
      have HB0 : Hid ((r[pos].toNat : Int) = Lex.bAt s (i + pos)) := hb
      clear hcom hlow hcn hdec hb
      by_cases c1 : Lex.bAt s (i + pos) = 10
      · have b1 : ((c : Int) == 10) = true := beq_iff_eq.2 (by omega)
        have HN : Hid (Lex.skipTo s (i + (pos + n)) true false = p) := by
          show _ = _
          rw [HL.out (by omega), ← HK.out, Lex.skip_lf s (i + pos) line com (by omega) c1]; rfl
        clear hc10 hc32 hc9 c1
        go_wp2
        exact ⟨⟨pos + n, true, false, by omega, rfl, rfl, rfl, HN⟩, by simp; omega⟩
      have b1 : ((c : Int) == 10) = false := beq_eq_false_iff_ne.2 (by omega)
      cases com with
      | true =>
        have HN : Hid (Lex.skipTo s (i + (pos + n)) line true = p) := by show _ = _; rw [← HC.out c1]; exact HK.out
        clear hc10 hc32 hc9 c1
        go_wp2
        exact ⟨⟨pos + n, line, true, by omega, rfl, rfl, rfl, HN⟩, by simp; omega⟩
      | false =>
        by_cases c2 : Lex.bAt s (i + pos) = 32
        · have b2 : ((c : Int) == 32) = true := beq_iff_eq.2 (by omega)
          have HN : Hid (Lex.skipTo s (i + (pos + n)) line false = p) := by
            show _ = _
            rw [HL.out (by omega), ← HK.out, Lex.skip_bl s (i + pos) line (by omega) (.inl c2)]; rfl
          clear hc10 hc32 hc9 c1 c2
          go_wp2
          exact ⟨⟨pos + n, line, false, by omega, rfl, rfl, rfl, HN⟩, by simp; omega⟩
        have b2 : ((c : Int) == 32) = false := beq_eq_false_iff_ne.2 (by omega)
        by_cases c3 : Lex.bAt s (i + pos) = 9
        · have b3 : ((c : Int) == 9) = true := beq_iff_eq.2 (by omega)
          have HN : Hid (Lex.skipTo s (i + (pos + n)) line false = p) := by
            show _ = _
            rw [HL.out (by omega), ← HK.out, Lex.skip_bl s (i + pos) line (by omega) (.inr c3)]; rfl
          clear hc10 hc32 hc9 c1 c2 c3
          go_wp2
          exact ⟨⟨pos + n, line, false, by omega, rfl, rfl, rfl, HN⟩, by simp; omega⟩
        have b3 : ((c : Int) == 9) = false := beq_eq_false_iff_ne.2 (by omega)
        have hx : (s.extract (i + pos) s.size).data.toList = s.data.toList.drop (i + pos) := Lex.ext_to_end s (i + pos)
        by_cases c4 : Lex.bAt s (i + pos) = 47 ∧ Lex.bAt s (i + pos + 1) = 47
        · have HN : Hid (Lex.skipTo s (i + (pos + n)) line true = p) := by
            show _ = _
            rw [HL.out (by omega), ← HK.out, Lex.skip_sl s (i + pos) line (by omega) c4.1 c4.2]; rfl
          have hpre : Lib.hasPrefix (s.extract (i + pos) s.size).data.toList [47, 47] = true := by rw [hx, pre_slash]; exact decide_eq_true c4
          clear hc10 hc32 hc9 c1 c2 c3 hx c4
          go_wp2_with fail
          refine (Tryd.strings_HasPrefix _ _ _).mono ?_
          rintro e w' ⟨he, hw'⟩
          replace hw' := hw'.symm
          subst hw'
          rw [show (⟨#[47, 47]⟩ : ByteArray).data.toList = [47, 47] from rfl, hpre] at he
          subst he
          go_wp2
          exact ⟨⟨pos + n, line, true, by omega, rfl, rfl, rfl, HN⟩, by simp; omega⟩
        · have HN : Hid ((i + pos, line) = p) := by
            show _ = _
            rw [← HK.out, Lex.skip_at s (i + pos) line (by omega) c1 c2 c3 c4]
          have hpre : Lib.hasPrefix (s.extract (i + pos) s.size).data.toList [47, 47] = false := by rw [hx, pre_slash]; exact decide_eq_false c4
          clear hc10 hc32 hc9 c1 c2 c3 hx c4
          go_wp2_with fail
          refine (Tryd.strings_HasPrefix _ _ _).mono ?_
          rintro e w' ⟨he, hw'⟩
          replace hw' := hw'.symm
          subst hw'
          rw [show (⟨#[47, 47]⟩ : ByteArray).data.toList = [47, 47] from rfl, hpre] at he
          subst he
          go_wp2
          go_ret2
          have h1 := congrArg Prod.fst HN.out
          have h2 := congrArg Prod.snd HN.out
          exact ⟨ret_ib (by rw [← h1]; simp) h2, (Below.refl _ _).alloc (Nat.le_refl _) _⟩
    · have hnx := fun ty => run_next_end (P := Tryd.prog) w r pos ty hlt
      have HN : Hid ((s.size, line) = p) := by
        show _ = _
        rw [← HK.out, Lex.skip_end s (i + pos) line com (by omega)]
      go_wp2
      go_ret2
      have h1 := congrArg Prod.fst HN.out
      have h2 := congrArg Prod.snd HN.out
      exact ⟨ret_ib (by rw [← h1]) h2, (Below.refl _ _).alloc (Nat.le_refl _) _⟩

end Go.Proofs.YtpabbadngpjgoaaDoor

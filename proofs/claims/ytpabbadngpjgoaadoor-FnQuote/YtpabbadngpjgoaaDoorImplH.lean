/-
  The walk of impl's Tokens.
-/
import Derived.Test.YtpabbadngpjgoaaDoorImplD
import Derived.Test.YtpabbadngpjgoaaDoorImplE
import Derived.Test.YtpabbadngpjgoaaDoorImplG
import Derived.Test.YtpabbadngpjgoaaDoorOutR
import Derived.Test.YtpabbadngpjgoaaDoorLexV
namespace Go.Proofs.YtpabbadngpjgoaaDoor
open Go.RowKit

set_option maxHeartbeats 4000000 in
theorem iTokens (s : ByteArray) (w : World) (hs : s.size ≤ maxLen) (hM : MarksIn w) :
    Calls Tryd.prog 8 #[.string s] w fun e w' => ∃ v, e = .returned (.agg #[v, .int .i64 (Lex.lexOut s).at', .int .i64 (Lex.lexOut s).code]) ∧ OwnT w' w.heap.size v (Lex.lexOut s).toks ∧ Below w.heap.size w w' := by
  unfold maxLen at hs
  have hwz := marks_heap hM
  have HM : Hid (MarksIn w) := hM
  clear hM
  by_cases hbig : 4000 < s.size
  · rw [Lex.lexOut_big s hbig]
    go_enter Tryd.func8, Tryd.ntmps8
    go_wp2_with fail
    refine bodyPost_ret (v := .agg #[.slice none 0 0, .int .i64 0, .int .i64 2]) (by simp [results, Tryd.results8, go_sem]) rfl ⟨_, rfl, OwnT.nil _ _, ?_⟩
    exact (Below.refl _ _).alloc (Nat.le_refl _) _
  clear hs
  have hs : s.size ≤ 4000 := by omega
  rw [Lex.lexOut_small s hbig]
  have hd : decide (4000 < (s.size : Int)) = false := by simp; omega
  clear hbig
  obtain ⟨out, hout⟩ : ∃ out, out = Lex.lexFrom s 0 [] := ⟨_, rfl⟩
  rw [← hout]
  have HO : Hid (out = Lex.lexFrom s 0 []) := hout
  clear hout
  go_enter Tryd.func8, Tryd.ntmps8
  go_wp2_with fail
  go_loopw [3, 4] (fun v e wr => ∃ (i : Nat) (acc : List Lex.TokF), i ≤ s.size ∧ acc.length ≤ 600 ∧ e = .int .i64 i ∧ OwnT wr (w.heap.size + 1) v acc ∧ Below (w.heap.size + 1) (w.alloc outR0) wr ∧ Hid (Lex.lexFrom s i acc = out)) (fun _ e _ => s.size - (intOf e).toNat)
  case atStart => exact ⟨0, [], Nat.zero_le _, by simp, rfl, OwnT.nil _ _, Below.refl _ _, HO.out.symm⟩
  case round =>
    obtain ⟨i, acc, hi, hacc, rfl, hown, hbel, HX⟩ := hrel
    obtain ⟨p, line, hp⟩ : ∃ p line, Lex.skipTo s i false false = (p, line) := ⟨_, _, rfl⟩
    have hpb := Lex.skip_bd s i false false hi
    rw [hp] at hpb
    obtain ⟨hp1, hp2⟩ := hpb
    have NP := iNextPlace s i wr hs hi
    rw [hp] at NP
    have HNP : Hid (Calls Tryd.prog 21 #[.string s, .int .i64 i] wr fun e w' => e = .returned (.tuple #[.int .i64 (p : Nat), .bool line]) ∧ Below wr.heap.size wr w') := NP
    have HP : Hid (Lex.skipTo s i false false = (p, line)) := hp
    clear NP hp
    obtain ⟨a0, cap0, hv⟩ := hown.shape
    subst hv
    have hsz := hbel.size
    simp only [World.size_alloc] at hsz
    go_wp2_with fail
    refine HNP.out.mono ?_
    rintro e w1 ⟨rfl, hb1⟩
    have hM1 : MarksIn w1 := (HM.out.below ((Below.refl w.heap.size w).alloc (Nat.le_refl _) outR0) hwz).below ((hbel.mono (by omega : w.heap.size ≤ w.heap.size + 1)).trans (hb1.mono (by omega))) hwz
    have HM1 : Hid (MarksIn w1) := hM1
    clear hM1
    go_wp2_with fail
    refine (iTokenEnd s p _ hs hp2 HM1.out).mono ?_
    rintro e w2 ⟨rfl, rfl⟩
    have hbel1 := hbel.trans (hb1.mono hsz)
    have hown1 := hown.keep hb1
    have hsz1 : w.heap.size + 1 ≤ w1.heap.size := by have := hb1.size; omega
    obtain ⟨hc0, hc1, hc2, hf0, hf1, hf2⟩ := outR_facts hbel1
    by_cases hend : s.size ≤ p
    · obtain ⟨K, E⟩ := Lex.te_end s p hend
      rw [K, E]
      clear K E
      have HF : Hid (out = ⟨acc ++ [⟨6, ⟨#[]⟩, 0, line, p⟩], 0, 0⟩) := by show _ = _; rw [← HX.out]; exact Lex.lex_end s i acc p line HP.out hend
      have hxe := Lex.ext_nil s p
      by_cases h600 : acc.length = 600
      · have b6 : ((acc.length : Int) == 600) = true := beq_iff_eq.2 (by omega)
        have h600' : acc.length ≤ 600 := by omega
        clear h600
        go_wp2_with fail
        refine (iTokEnd _).mono ?_
        rintro e w2 ⟨he, hb2⟩
        unfold tokC at he
        subst he
        have hsz2 : w.heap.size + 1 ≤ w2.heap.size := by have := hb2.size; omega
        have hown2 := hown1.keep hb2
        have hbel2 := hbel1.trans (hb2.mono hsz1)
        clear hc0 hc1 hc2 hf0 hf1 hf2
        go_wp2_with (first | (at_builtin; refine app_tok rfl _ _ rfl (w.heap.size + 1) _ _ rfl ((hown2.alloc _).alloc _) ⟨w2.heap.size + 1, 0, none⟩ ⟨6, ⟨#[]⟩, 0, line, p⟩ rfl (fun j u h => new_cells2 w2 _ _ _ j u h) (by omega) (by simp; omega) ?_; intro v' w3 hown' hbel'; have hbel3 := ((hbel2.alloc hsz2 _).alloc (by simp; omega) _).trans hbel'; obtain ⟨hc0, hc1, hc2, hf0, hf1, hf2⟩ := outR_facts hbel3; obtain ⟨a1, cap1, hv1⟩ := hown'.shape; subst hv1))
        rw [HF.out]
        refine bodyPost_ret (v := .agg #[.slice a1 (acc ++ [(⟨6, ⟨#[]⟩, 0, line, p⟩ : Lex.TokF)]).length cap1, .int .i64 0, .int .i64 0]) (by simp [results, Tryd.results8, go_sem, hc0, hc1, hc2]) rfl ⟨_, rfl, ?_, ?_⟩
        · exact (((hown'.set (by omega) _ _).set (by omega) _ _).set (by omega) _ _).base (by omega)
        · exact three_set (((Below.refl _ _).alloc (Nat.le_refl _) _).trans (hbel3.mono (by simp))) (Nat.le_refl _) _ _ _
      · have b6 : ((acc.length : Int) == 600) = false := beq_eq_false_iff_ne.2 (by omega)
        have h600' : acc.length ≤ 600 := by omega
        clear h600
        go_wp2_with fail
        refine (iTokEnd _).mono ?_
        rintro e w2 ⟨he, hb2⟩
        unfold tokC at he
        subst he
        have hsz2 : w.heap.size + 1 ≤ w2.heap.size := by have := hb2.size; omega
        have hown2 := hown1.keep hb2
        have hbel2 := hbel1.trans (hb2.mono hsz1)
        clear hc0 hc1 hc2 hf0 hf1 hf2
        go_wp2_with (first | (at_builtin; refine app_tok rfl _ _ rfl (w.heap.size + 1) _ _ rfl ((hown2.alloc _).alloc _) ⟨w2.heap.size + 1, 0, none⟩ ⟨6, ⟨#[]⟩, 0, line, p⟩ rfl (fun j u h => new_cells2 w2 _ _ _ j u h) (by omega) (by simp; omega) ?_; intro v' w3 hown' hbel'; have hbel3 := ((hbel2.alloc hsz2 _).alloc (by simp; omega) _).trans hbel'; obtain ⟨hc0, hc1, hc2, hf0, hf1, hf2⟩ := outR_facts hbel3; obtain ⟨a1, cap1, hv1⟩ := hown'.shape; subst hv1))
        rw [HF.out]
        refine bodyPost_ret (v := .agg #[.slice a1 (acc ++ [(⟨6, ⟨#[]⟩, 0, line, p⟩ : Lex.TokF)]).length cap1, .int .i64 0, .int .i64 0]) (by simp [results, Tryd.results8, go_sem, hc0, hc1, hc2]) rfl ⟨_, rfl, ?_, ?_⟩
        · exact (((hown'.set (by omega) _ _).set (by omega) _ _).set (by omega) _ _).base (by omega)
        · exact three_set (((Below.refl _ _).alloc (Nat.le_refl _) _).trans (hbel3.mono (by simp))) (Nat.le_refl _) _ _ _
    by_cases hk0 : Lex.teK s p = 0
    · have ht := Lex.tok_none s p (by omega) hk0
      have HF : Hid (out = ⟨[], p, 3⟩) := by show _ = _; rw [← HX.out]; exact Lex.lex_none s i acc p line HP.out hend ht
      rw [hk0]
      clear ht hk0
      by_cases h600 : acc.length = 600
      · have b6 : ((acc.length : Int) == 600) = true := beq_iff_eq.2 (by omega)
        go_wp2_with fail
        rw [HF.out]
        refine bodyPost_ret (v := .agg #[.slice none 0 0, .int .i64 p, .int .i64 3]) (by simp [results, Tryd.results8, go_sem, hc0, hc1, hc2]) rfl ⟨_, rfl, OwnT.nil _ _, ?_⟩
        exact three_set (((Below.refl _ _).alloc (Nat.le_refl _) _).trans (hbel1.mono (by simp))) (Nat.le_refl _) _ _ _
      · have b6 : ((acc.length : Int) == 600) = false := beq_eq_false_iff_ne.2 (by omega)
        go_wp2_with fail
        rw [HF.out]
        refine bodyPost_ret (v := .agg #[.slice none 0 0, .int .i64 p, .int .i64 3]) (by simp [results, Tryd.results8, go_sem, hc0, hc1, hc2]) rfl ⟨_, rfl, OwnT.nil _ _, ?_⟩
        exact three_set (((Below.refl _ _).alloc (Nat.le_refl _) _).trans (hbel1.mono (by simp))) (Nat.le_refl _) _ _ _
    · obtain ⟨ht, he1, he2, hkk⟩ := Lex.tok_some s p (by omega) hk0
      have bk0 : (Lex.teK s p == 0) = false := beq_eq_false_iff_ne.2 hk0
      have bk6 : (Lex.teK s p == 6) = false := beq_eq_false_iff_ne.2 (by omega)
      have bn6 : (Lex.teK s p != 6) = true := by simp; omega
      by_cases h600 : acc.length = 600
      · have b6 : ((acc.length : Int) == 600) = true := beq_iff_eq.2 (by omega)
        have HF : Hid (out = ⟨[], p, 3⟩) := by show _ = _; rw [← HX.out]; exact Lex.lex_full s i acc p line HP.out hend ht (by omega)
        clear ht hkk hk0
        go_wp2_with fail
        rw [HF.out]
        refine bodyPost_ret (v := .agg #[.slice none 0 0, .int .i64 p, .int .i64 3]) (by simp [results, Tryd.results8, go_sem, hc0, hc1, hc2]) rfl ⟨_, rfl, OwnT.nil _ _, ?_⟩
        exact three_set (((Below.refl _ _).alloc (Nat.le_refl _) _).trans (hbel1.mono (by simp))) (Nat.le_refl _) _ _ _
      · have b6 : ((acc.length : Int) == 600) = false := beq_eq_false_iff_ne.2 (by omega)
        have HF : Hid (Lex.lexFrom s (Lex.teE s p) (acc ++ [⟨(Lex.tokOf s p).kind, (Lex.tokOf s p).text, (Lex.tokOf s p).num, line, p⟩]) = out) := by
          show _ = _; rw [← HX.out]; exact (Lex.lex_step s i acc p line HP.out hend ht (by omega) (by omega) (by omega)).symm
        have TO := fun W => iTokenOf s p W hs (by omega) hk0
        have HTO : Hid (∀ W, Calls Tryd.prog 23 #[.int .i64 (Lex.teK s p), .string (s.extract p (Lex.teE s p))] W fun e w' =>
          e = .returned (.agg (tokC (Lex.tokOf s p).kind (Lex.tokOf s p).text (Lex.tokOf s p).num false 0)) ∧ Below W.heap.size W w') := TO
        clear TO ht hkk hk0
        generalize (Lex.tokOf s p).kind = kk at *
        generalize (Lex.tokOf s p).text = tt at *
        generalize (Lex.tokOf s p).num = nn at *
        generalize Lex.teK s p = K at *
        generalize Lex.teE s p = E at *
        go_wp2_with fail
        refine (HTO.out _).mono ?_
        rintro e w2 ⟨he, hb2⟩
        unfold tokC at he
        subst he
        have hsz2 : w.heap.size + 1 ≤ w2.heap.size := by have := hb2.size; omega
        have hown2 := hown1.keep hb2
        have hbel2 := hbel1.trans (hb2.mono hsz1)
        clear hc0 hc1 hc2 hf0 hf1 hf2
        go_wp2_with (first | (at_builtin; refine app_tok rfl _ _ rfl (w.heap.size + 1) _ _ rfl ((hown2.alloc _).alloc _) ⟨w2.heap.size + 1, 0, none⟩ ⟨kk, tt, nn, line, p⟩ rfl (fun j u h => new_cells2 w2 _ _ _ j u h) (by omega) (by simp; omega) ?_; intro v' w3 hown' hbel'))
        exact ⟨⟨E, acc ++ [⟨kk, tt, nn, line, p⟩], by omega, by simp; omega, rfl, hown', ((hbel2.alloc hsz2 _).alloc (by simp; omega) _).trans hbel', HF⟩, by simp [intOf]; omega⟩

end Go.Proofs.YtpabbadngpjgoaaDoor

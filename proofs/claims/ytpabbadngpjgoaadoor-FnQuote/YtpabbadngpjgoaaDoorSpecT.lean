/-
  The walk of the specification's next.
-/
import Derived.Test.YtpabbadngpjgoaaDoorSpecW
import Derived.Test.YtpabbadngpjgoaaDoorSpecN
import Derived.Test.YtpabbadngpjgoaaDoorSpecX
import Derived.Test.YtpabbadngpjgoaaDoorSpecM
namespace Go.Proofs.YtpabbadngpjgoaaDoor
open Go.RowKit

theorem sWordR (s : ByteArray) (L i : Nat) (line : Bool) (w : World) (hs : s.size ≤ 4000) (hi : i < s.size) (h1 : Lex.digB (Lex.bAt s i) = false) (h2 : Lex.letB (Lex.bAt s i) = true) (hL : LexAt w L s i line) :
    Calls Tryd.prog 44 #[.pointer (some ⟨L, 0, none⟩)] w fun e w' => SRes s i L line e w' ∧ Keep L w w' := by
  refine (sWord s L i line w hs hi hL).mono ?_
  rintro e w' ⟨rfl, hl, hk⟩
  refine ⟨?_, hk⟩
  have ht : Lex.tokAt s i = if Lex.letEnd s i - i ≤ 20 then some (⟨Lex.wK (s.extract i (Lex.letEnd s i)), s.extract i (Lex.letEnd s i), 0⟩, Lex.letEnd s i) else none := by
    unfold Lex.tokAt
    rw [if_neg (by simp [h1]), if_pos h2]; rfl
  by_cases h20 : Lex.letEnd s i - i ≤ 20
  · rw [if_pos h20] at ht
    rw [decide_eq_true (by omega : ((Lex.letEnd s i - i : Nat) : Int) ≤ 20)]
    exact SRes.yes ht rfl hl
  · rw [if_neg h20] at ht
    rw [decide_eq_false (by omega : ¬ ((Lex.letEnd s i - i : Nat) : Int) ≤ 20)]
    exact SRes.no ht _ _ _ _ _

set_option maxHeartbeats 8000000 in
set_option maxRecDepth 100000 in
theorem sNext (s : ByteArray) (L i : Nat) (line : Bool) (w : World) (hs : s.size ≤ 4000) (hi : i < s.size) (hL : LexAt w L s i line) :
    Calls Tryd.prog 26 #[.pointer (some ⟨L, 0, none⟩)] w fun e w' => SRes s i L line e w' ∧ Keep L w w' := by
  obtain ⟨c0, c1, c2, f1, f2⟩ := hL.cells
  have hlt := hL.lt
  have HL : Hid (LexAt w L s i line) := hL
  clear hL
  have hi' : (i : Int) < (s.size : Int) := by omega
  have HB : Hid (Lex.bAt s i = (s[i].toNat : Int)) := Lex.bAt_in s i hi
  go_enter Tryd.func26, Tryd.ntmps26
  go_wp2_with fail
  go_quiet (fail)
  have hlex1 := (HL.out.alloc zTokObj).drewN nq
  have hkeep1 := (Keep.refl L (w.alloc zTokObj)).drewN nq
  clear c0 c1 c2 f1 f2
  change Exit.then _ _ _ _ ((w.alloc zTokObj).drewN nq)
  generalize (w.alloc zTokObj).drewN nq = W1 at hlex1 hkeep1 ⊢
  by_cases h1 : Lex.digB (s[i].toNat : Int) = true
  · have C := sNumber s L i line W1 hs hi (by rw [HB.out]; exact h1) hlex1
    have HC : Hid (Calls Tryd.prog 42 #[.pointer (some ⟨L, 0, none⟩)] W1 fun e w' => SRes s i L line e w' ∧ Keep L W1 w') := C
    clear C
    go_wp2_with fail
    refine (sDigit _ _).mono ?_; rintro e w' ⟨rfl, hw'⟩; replace hw' := hw'.symm; subst hw'
    go_wp2_with fail
    refine HC.out.mono ?_
    rintro e w2 ⟨hres, hkeep2⟩
    have hkeep3 := hkeep1.trans hkeep2
    obtain ⟨⟨r0, r1, r2, r3, r4⟩, q0, q1, q2, q3, q4⟩ := cells5 (keep_zTok hkeep3 hlt)
    cases hto : Lex.tokAt s i with
    | none =>
      obtain ⟨k, t, n, l, a, rfl⟩ := hres.2 hto
      have HNo : Hid (Lex.tokAt s i = none) := hto
      clear hto hres
      go_wp2_with fail
      refine bodyPost_ret (v := .tuple #[.agg #[.int .i64 k, .string t, .int .i64 n, .bool l, .int .i64 a], .bool false]) (by simp [results, Tryd.results26, go_sem, r0, r1, r2, r3, r4]) rfl ⟨SRes.no HNo.out _ _ _ _ _, ?_⟩
      exact five_keep0 (((Keep.refl L w).alloc _).trans hkeep3) (Nat.le_refl _) _ _ _ _ _
    | some te =>
      obtain ⟨t, E⟩ := te
      obtain ⟨he, hl2⟩ := hres.1 t E hto
      have HY : Hid (Lex.tokAt s i = some (t, E)) := hto
      clear hto hres
      unfold tokC at he
      subst he
      go_wp2_with fail
      refine bodyPost_ret (v := .tuple #[.agg #[.int .i64 t.kind, .string t.text, .int .i64 t.num, .bool false, .int .i64 0], .bool true]) (by simp [results, Tryd.results26, go_sem, r0, r1, r2, r3, r4]) rfl ⟨SRes.yes HY.out rfl ?_, ?_⟩
      · exact five_lex0 hl2 (by omega) _ _ _ _ _
      · exact five_keep0 (((Keep.refl L w).alloc _).trans hkeep3) (Nat.le_refl _) _ _ _ _ _
  rw [Bool.not_eq_true] at h1
  by_cases h2 : Lex.letB (s[i].toNat : Int) = true
  · have C := sWordR s L i line W1 hs hi (by rw [HB.out]; exact h1) (by rw [HB.out]; exact h2) hlex1
    have HC : Hid (Calls Tryd.prog 44 #[.pointer (some ⟨L, 0, none⟩)] W1 fun e w' => SRes s i L line e w' ∧ Keep L W1 w') := C
    clear C
    go_wp2_with fail
    refine (sDigit _ _).mono ?_; rintro e w' ⟨rfl, hw'⟩; replace hw' := hw'.symm; subst hw'
    go_wp2_with fail
    refine (sLetter _ _).mono ?_; rintro e w' ⟨rfl, hw'⟩; replace hw' := hw'.symm; subst hw'
    go_wp2_with fail
    refine HC.out.mono ?_
    rintro e w2 ⟨hres, hkeep2⟩
    have hkeep3 := hkeep1.trans hkeep2
    obtain ⟨⟨r0, r1, r2, r3, r4⟩, q0, q1, q2, q3, q4⟩ := cells5 (keep_zTok hkeep3 hlt)
    cases hto : Lex.tokAt s i with
    | none =>
      obtain ⟨k, t, n, l, a, rfl⟩ := hres.2 hto
      have HNo : Hid (Lex.tokAt s i = none) := hto
      clear hto hres
      go_wp2_with fail
      refine bodyPost_ret (v := .tuple #[.agg #[.int .i64 k, .string t, .int .i64 n, .bool l, .int .i64 a], .bool false]) (by simp [results, Tryd.results26, go_sem, r0, r1, r2, r3, r4]) rfl ⟨SRes.no HNo.out _ _ _ _ _, ?_⟩
      exact five_keep0 (((Keep.refl L w).alloc _).trans hkeep3) (Nat.le_refl _) _ _ _ _ _
    | some te =>
      obtain ⟨t, E⟩ := te
      obtain ⟨he, hl2⟩ := hres.1 t E hto
      have HY : Hid (Lex.tokAt s i = some (t, E)) := hto
      clear hto hres
      unfold tokC at he
      subst he
      go_wp2_with fail
      refine bodyPost_ret (v := .tuple #[.agg #[.int .i64 t.kind, .string t.text, .int .i64 t.num, .bool false, .int .i64 0], .bool true]) (by simp [results, Tryd.results26, go_sem, r0, r1, r2, r3, r4]) rfl ⟨SRes.yes HY.out rfl ?_, ?_⟩
      · exact five_lex0 hl2 (by omega) _ _ _ _ _
      · exact five_keep0 (((Keep.refl L w).alloc _).trans hkeep3) (Nat.le_refl _) _ _ _ _ _
  rw [Bool.not_eq_true] at h2
  by_cases h3 : (s[i].toNat : Int) = 34
  · have b3 : ((s[i].toNat : Int) == 34) = true := beq_iff_eq.2 h3
    have C := sText s L i line W1 hs hi (by rw [HB.out]; exact h3) hlex1
    have HC : Hid (Calls Tryd.prog 45 #[.pointer (some ⟨L, 0, none⟩)] W1 fun e w' => SRes s i L line e w' ∧ Keep L W1 w') := C
    clear C
    clear h3
    go_wp2_with fail
    refine (sDigit _ _).mono ?_; rintro e w' ⟨rfl, hw'⟩; replace hw' := hw'.symm; subst hw'
    go_wp2_with fail
    refine (sLetter _ _).mono ?_; rintro e w' ⟨rfl, hw'⟩; replace hw' := hw'.symm; subst hw'
    go_wp2_with fail
    refine HC.out.mono ?_
    rintro e w2 ⟨hres, hkeep2⟩
    have hkeep3 := hkeep1.trans hkeep2
    obtain ⟨⟨r0, r1, r2, r3, r4⟩, q0, q1, q2, q3, q4⟩ := cells5 (keep_zTok hkeep3 hlt)
    cases hto : Lex.tokAt s i with
    | none =>
      obtain ⟨k, t, n, l, a, rfl⟩ := hres.2 hto
      have HNo : Hid (Lex.tokAt s i = none) := hto
      clear hto hres
      go_wp2_with fail
      refine bodyPost_ret (v := .tuple #[.agg #[.int .i64 k, .string t, .int .i64 n, .bool l, .int .i64 a], .bool false]) (by simp [results, Tryd.results26, go_sem, r0, r1, r2, r3, r4]) rfl ⟨SRes.no HNo.out _ _ _ _ _, ?_⟩
      exact five_keep0 (((Keep.refl L w).alloc _).trans hkeep3) (Nat.le_refl _) _ _ _ _ _
    | some te =>
      obtain ⟨t, E⟩ := te
      obtain ⟨he, hl2⟩ := hres.1 t E hto
      have HY : Hid (Lex.tokAt s i = some (t, E)) := hto
      clear hto hres
      unfold tokC at he
      subst he
      go_wp2_with fail
      refine bodyPost_ret (v := .tuple #[.agg #[.int .i64 t.kind, .string t.text, .int .i64 t.num, .bool false, .int .i64 0], .bool true]) (by simp [results, Tryd.results26, go_sem, r0, r1, r2, r3, r4]) rfl ⟨SRes.yes HY.out rfl ?_, ?_⟩
      · exact five_lex0 hl2 (by omega) _ _ _ _ _
      · exact five_keep0 (((Keep.refl L w).alloc _).trans hkeep3) (Nat.le_refl _) _ _ _ _ _
  · have b3 : ((s[i].toNat : Int) == 34) = false := beq_eq_false_iff_ne.2 h3
    have C := sMark s L i line W1 hs hi (by rw [HB.out]; exact h1) (by rw [HB.out]; exact h2) (by rw [HB.out]; exact h3) hlex1
    have HC : Hid (Calls Tryd.prog 46 #[.pointer (some ⟨L, 0, none⟩)] W1 fun e w' => SRes s i L line e w' ∧ Keep L W1 w') := C
    clear C
    clear h3
    go_wp2_with fail
    refine (sDigit _ _).mono ?_; rintro e w' ⟨rfl, hw'⟩; replace hw' := hw'.symm; subst hw'
    go_wp2_with fail
    refine (sLetter _ _).mono ?_; rintro e w' ⟨rfl, hw'⟩; replace hw' := hw'.symm; subst hw'
    go_wp2_with fail
    refine HC.out.mono ?_
    rintro e w2 ⟨hres, hkeep2⟩
    have hkeep3 := hkeep1.trans hkeep2
    obtain ⟨⟨r0, r1, r2, r3, r4⟩, q0, q1, q2, q3, q4⟩ := cells5 (keep_zTok hkeep3 hlt)
    cases hto : Lex.tokAt s i with
    | none =>
      obtain ⟨k, t, n, l, a, rfl⟩ := hres.2 hto
      have HNo : Hid (Lex.tokAt s i = none) := hto
      clear hto hres
      go_wp2_with fail
      refine bodyPost_ret (v := .tuple #[.agg #[.int .i64 k, .string t, .int .i64 n, .bool l, .int .i64 a], .bool false]) (by simp [results, Tryd.results26, go_sem, r0, r1, r2, r3, r4]) rfl ⟨SRes.no HNo.out _ _ _ _ _, ?_⟩
      exact five_keep0 (((Keep.refl L w).alloc _).trans hkeep3) (Nat.le_refl _) _ _ _ _ _
    | some te =>
      obtain ⟨t, E⟩ := te
      obtain ⟨he, hl2⟩ := hres.1 t E hto
      have HY : Hid (Lex.tokAt s i = some (t, E)) := hto
      clear hto hres
      unfold tokC at he
      subst he
      go_wp2_with fail
      refine bodyPost_ret (v := .tuple #[.agg #[.int .i64 t.kind, .string t.text, .int .i64 t.num, .bool false, .int .i64 0], .bool true]) (by simp [results, Tryd.results26, go_sem, r0, r1, r2, r3, r4]) rfl ⟨SRes.yes HY.out rfl ?_, ?_⟩
      · exact five_lex0 hl2 (by omega) _ _ _ _ _
      · exact five_keep0 (((Keep.refl L w).alloc _).trans hkeep3) (Nat.le_refl _) _ _ _ _ _

end Go.Proofs.YtpabbadngpjgoaaDoor

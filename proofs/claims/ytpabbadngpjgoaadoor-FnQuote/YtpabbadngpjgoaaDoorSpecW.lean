/-
  The walk of the specification's word.
-/
import Derived.Test.YtpabbadngpjgoaaDoorSpecB
namespace Go.Proofs.YtpabbadngpjgoaaDoor
open Go.RowKit

set_option maxHeartbeats 4000000 in
set_option maxRecDepth 100000 in
theorem sWord (s : ByteArray) (L i : Nat) (line : Bool) (w : World) (hs : s.size ≤ 4000) (hi : i < s.size) (hL : LexAt w L s i line) :
    Calls Tryd.prog 44 #[.pointer (some ⟨L, 0, none⟩)] w fun e w' =>
      e = .returned (.tuple #[.agg (tokC (Lex.wK (s.extract i (Lex.letEnd s i))) (s.extract i (Lex.letEnd s i)) 0 false 0), .bool (decide (((Lex.letEnd s i - i : Nat) : Int) ≤ 20))]) ∧
      LexAt w' L s (Lex.letEnd s i) line ∧ Keep L w w' := by
  obtain ⟨c0, c1, c2, f1, f2⟩ := hL.cells
  have hlt := hL.lt
  have HL : Hid (LexAt w L s i line) := hL
  clear hL
  obtain ⟨E, hE⟩ : ∃ E, E = Lex.letEnd s i := ⟨_, rfl⟩
  rw [← hE]
  have hEb := Lex.letEnd_bd s i (by omega)
  rw [← hE] at hEb
  obtain ⟨hE1, hE2⟩ := hEb
  have HE : Hid (Lex.letEnd s i = E) := hE.symm
  clear hE
  go_enter Tryd.func44, Tryd.ntmps44
  go_wp2_with fail
  go_loopw [10] (fun _ wr => ∃ j : Nat, i ≤ j ∧ j ≤ s.size ∧ LexAt wr L s j line ∧ Keep L (w.alloc zTokObj) wr ∧ Hid (Lex.letEnd s j = E)) (fun _ wr => s.size - posOf wr L)
  case atStart => exact ⟨i, Nat.le_refl _, by omega, HL.out.alloc _, Keep.refl _ _, HE⟩
  case round =>
    obtain ⟨j, hij, hj, hlex, hkeep, HK⟩ := hrel
    clear c0 c1 c2 f1 f2
    obtain ⟨c0, c1, c2, f1, f2⟩ := hlex.cells
    by_cases hc : Lex.letB (Lex.bAt s j) = true
    · have hjs := Lex.letB_lt s j hc
      have hjs' : (j : Int) < (s.size : Int) := by omega
      have HN : Hid (Lex.letEnd s (j + 1) = E) := by show _ = _; rw [← Lex.letEnd_yes s j hc]; exact HK.out
      rw [Lex.bAt_in s j hjs] at hc
      go_wp2_with fail
      go_quiet ((go_at_call 43; exact Calls.quiet_of_same (sLetter _ _)))
      go_wp2_with fail
      exact ⟨⟨j + 1, by omega, by omega, bump (hlex.drewN _), (hkeep.drewN _).set _ _, HN⟩, down hlex (bump (hlex.drewN _)) (by omega) hjs⟩
    · rw [Bool.not_eq_true] at hc
      have hjE : j = E := by rw [← HK.out]; exact (Lex.letEnd_no s j hc).symm
      subst hjE
      have hcase : (∃ h : j < s.size, Lex.letB (s[j].toNat : Int) = false ∧ (j : Int) < (s.size : Int)) ∨ decide (j < s.size) = false := by
        by_cases hjs : j < s.size
        · rw [Lex.bAt_in s j hjs] at hc
          exact .inl ⟨hjs, hc, by omega⟩
        · right; simp; omega
      clear hc
      by_cases hw : Lex.wordB (s.extract i j) = true
      · have HW : Hid (Lex.wK (s.extract i j) = 2) := Lex.wK_yes _ hw
        rcases hcase with ⟨hjs, hc, hjs'⟩ | hjs
        · go_wp2_with fail
          first | go_quiet ((go_at_call 43; exact Calls.quiet_of_same (sLetter _ _))) | go_quiet (fail)
          have hlex1 := hlex.drewN nq
          have hkeep1 := hkeep.drewN nq
          clear c0 c1 c2 f1 f2
          generalize wr.drewN nq = W1 at hlex1 hkeep1 ⊢
          obtain ⟨c0, c1, c2, f1, f2⟩ := hlex1.cells
          have hlt1 := hlex1.lt
          have hne : L ≠ W1.heap.size := by omega
          go_wp2_with fail
          go_region
          go_wp2_with fail
          have hlex2 : LexAt (W1.alloc (.cells #[.int .i64 1, .string (s.extract i j), .int .i64 0, .bool false, .int .i64 0] 30)).drew L s j line := hlex1.alloc _
          have hkeep2 : Keep L (w.alloc zTokObj) (W1.alloc (.cells #[.int .i64 1, .string (s.extract i j), .int .i64 0, .bool false, .int .i64 0] 30)).drew := (hkeep1.alloc _).drew
          have ht2 : (W1.alloc (.cells #[.int .i64 1, .string (s.extract i j), .int .i64 0, .bool false, .int .i64 0] 30)).drew.heap[W1.heap.size]? = some (.cells #[.int .i64 1, .string (s.extract i j), .int .i64 0, .bool false, .int .i64 0] 30 (0, 0)) := heap_alloc_new W1 _
          have hT1 : w.heap.size + 1 ≤ W1.heap.size := by have := hkeep1.size; simp only [World.size_alloc] at this; exact this
          have hT2 : W1.heap.size < (W1.alloc (.cells #[.int .i64 1, .string (s.extract i j), .int .i64 0, .bool false, .int .i64 0] 30)).drew.heap.size := by show W1.heap.size < (W1.alloc _).heap.size; simp
          clear c0 c1 c2 f1 f2 hne
          generalize (W1.alloc (.cells #[.int .i64 1, .string (s.extract i j), .int .i64 0, .bool false, .int .i64 0] 30)).drew = W2 at hlex2 hkeep2 ht2 hT2 ⊢
          generalize W1.heap.size = T at ht2 hT1 hT2 ⊢
          obtain ⟨⟨t0, t1, t2, t3, t4⟩, g0, g1, g2, g3, g4⟩ := cells5 ht2
          go_region_with (first | (go_at_call 53; refine (sWords _).mono ?_; rintro e w' ⟨rfl, rfl⟩) | (go_at_call 52; refine (sIsW _ _ _ (by exact words_at W2)).mono ?_; rintro e w' ⟨rfl, rfl⟩))
          · have hlex3 : LexAt (W2.alloc wordsObj).drew L s j line := hlex2.alloc _
            have hkeep3 : Keep L (w.alloc zTokObj) (W2.alloc wordsObj).drew := (hkeep2.alloc _).drew
            have ht3 : (W2.alloc wordsObj).drew.heap[T]? = some (.cells #[.int .i64 1, .string (s.extract i j), .int .i64 0, .bool false, .int .i64 0] 30 (0, 0)) := (Below.heap_alloc W2 _ T hT2).trans ht2
            clear t0 t1 t2 t3 t4 g0 g1 g2 g3 g4
            generalize (W2.alloc wordsObj).drew = W3 at hlex3 hkeep3 ht3 ⊢
            obtain ⟨⟨t0, t1, t2, t3, t4⟩, g0, g1, g2, g3, g4⟩ := cells5 ht3
            obtain ⟨⟨r0, r1, r2, r3, r4⟩, q0, q1, q2, q3, q4⟩ := cells5 (keep_zTok hkeep3 hlt)
            have hRT : ¬ w.heap.size = T := by omega
            have hTR : ¬ T = w.heap.size := by omega
            go_wp2_with fail
            go_region
            go_wp2_with fail
            rw [HW.out]
            refine bodyPost_ret (v := .tuple #[.agg (tokC 2 (s.extract i j) 0 false 0), .bool (decide (((j - i : Nat) : Int) ≤ 20))]) (by simp [results, Tryd.results44, go_sem, tokC, r0, r1, r2, r3, r4]) rfl ⟨rfl, ?_, ?_⟩
            · exact five_lex (hlex3.other (by omega) _ _) (by omega) _ _ _ _ _
            · exact five_keep ((((Keep.refl L w).alloc _).trans hkeep3).setNew (by omega) _ _) (Nat.le_refl _) _ _ _ _ _
          · have hlex3 : LexAt (W2.alloc wordsObj).drew L s j line := hlex2.alloc _
            have hkeep3 : Keep L (w.alloc zTokObj) (W2.alloc wordsObj).drew := (hkeep2.alloc _).drew
            have ht3 : (W2.alloc wordsObj).drew.heap[T]? = some (.cells #[.int .i64 1, .string (s.extract i j), .int .i64 0, .bool false, .int .i64 0] 30 (0, 0)) := (Below.heap_alloc W2 _ T hT2).trans ht2
            clear t0 t1 t2 t3 t4 g0 g1 g2 g3 g4
            generalize (W2.alloc wordsObj).drew = W3 at hlex3 hkeep3 ht3 ⊢
            obtain ⟨⟨t0, t1, t2, t3, t4⟩, g0, g1, g2, g3, g4⟩ := cells5 ht3
            obtain ⟨⟨r0, r1, r2, r3, r4⟩, q0, q1, q2, q3, q4⟩ := cells5 (keep_zTok hkeep3 hlt)
            have hRT : ¬ w.heap.size = T := by omega
            have hTR : ¬ T = w.heap.size := by omega
            go_wp2_with fail
            go_region
            go_wp2_with fail
            rw [HW.out]
            refine bodyPost_ret (v := .tuple #[.agg (tokC 2 (s.extract i j) 0 false 0), .bool (decide (((j - i : Nat) : Int) ≤ 20))]) (by simp [results, Tryd.results44, go_sem, tokC, r0, r1, r2, r3, r4]) rfl ⟨rfl, ?_, ?_⟩
            · exact five_lex (hlex3.other (by omega) _ _) (by omega) _ _ _ _ _
            · exact five_keep ((((Keep.refl L w).alloc _).trans hkeep3).setNew (by omega) _ _) (Nat.le_refl _) _ _ _ _ _
        · go_wp2_with fail
          first | go_quiet ((go_at_call 43; exact Calls.quiet_of_same (sLetter _ _))) | go_quiet (fail)
          have hlex1 := hlex.drewN nq
          have hkeep1 := hkeep.drewN nq
          clear c0 c1 c2 f1 f2
          generalize wr.drewN nq = W1 at hlex1 hkeep1 ⊢
          obtain ⟨c0, c1, c2, f1, f2⟩ := hlex1.cells
          have hlt1 := hlex1.lt
          have hne : L ≠ W1.heap.size := by omega
          go_wp2_with fail
          go_region
          go_wp2_with fail
          have hlex2 : LexAt (W1.alloc (.cells #[.int .i64 1, .string (s.extract i j), .int .i64 0, .bool false, .int .i64 0] 30)).drew L s j line := hlex1.alloc _
          have hkeep2 : Keep L (w.alloc zTokObj) (W1.alloc (.cells #[.int .i64 1, .string (s.extract i j), .int .i64 0, .bool false, .int .i64 0] 30)).drew := (hkeep1.alloc _).drew
          have ht2 : (W1.alloc (.cells #[.int .i64 1, .string (s.extract i j), .int .i64 0, .bool false, .int .i64 0] 30)).drew.heap[W1.heap.size]? = some (.cells #[.int .i64 1, .string (s.extract i j), .int .i64 0, .bool false, .int .i64 0] 30 (0, 0)) := heap_alloc_new W1 _
          have hT1 : w.heap.size + 1 ≤ W1.heap.size := by have := hkeep1.size; simp only [World.size_alloc] at this; exact this
          have hT2 : W1.heap.size < (W1.alloc (.cells #[.int .i64 1, .string (s.extract i j), .int .i64 0, .bool false, .int .i64 0] 30)).drew.heap.size := by show W1.heap.size < (W1.alloc _).heap.size; simp
          clear c0 c1 c2 f1 f2 hne
          generalize (W1.alloc (.cells #[.int .i64 1, .string (s.extract i j), .int .i64 0, .bool false, .int .i64 0] 30)).drew = W2 at hlex2 hkeep2 ht2 hT2 ⊢
          generalize W1.heap.size = T at ht2 hT1 hT2 ⊢
          obtain ⟨⟨t0, t1, t2, t3, t4⟩, g0, g1, g2, g3, g4⟩ := cells5 ht2
          go_region_with (first | (go_at_call 53; refine (sWords _).mono ?_; rintro e w' ⟨rfl, rfl⟩) | (go_at_call 52; refine (sIsW _ _ _ (by exact words_at W2)).mono ?_; rintro e w' ⟨rfl, rfl⟩))
          · have hlex3 : LexAt (W2.alloc wordsObj).drew L s j line := hlex2.alloc _
            have hkeep3 : Keep L (w.alloc zTokObj) (W2.alloc wordsObj).drew := (hkeep2.alloc _).drew
            have ht3 : (W2.alloc wordsObj).drew.heap[T]? = some (.cells #[.int .i64 1, .string (s.extract i j), .int .i64 0, .bool false, .int .i64 0] 30 (0, 0)) := (Below.heap_alloc W2 _ T hT2).trans ht2
            clear t0 t1 t2 t3 t4 g0 g1 g2 g3 g4
            generalize (W2.alloc wordsObj).drew = W3 at hlex3 hkeep3 ht3 ⊢
            obtain ⟨⟨t0, t1, t2, t3, t4⟩, g0, g1, g2, g3, g4⟩ := cells5 ht3
            obtain ⟨⟨r0, r1, r2, r3, r4⟩, q0, q1, q2, q3, q4⟩ := cells5 (keep_zTok hkeep3 hlt)
            have hRT : ¬ w.heap.size = T := by omega
            have hTR : ¬ T = w.heap.size := by omega
            go_wp2_with fail
            go_region
            go_wp2_with fail
            rw [HW.out]
            refine bodyPost_ret (v := .tuple #[.agg (tokC 2 (s.extract i j) 0 false 0), .bool (decide (((j - i : Nat) : Int) ≤ 20))]) (by simp [results, Tryd.results44, go_sem, tokC, r0, r1, r2, r3, r4]) rfl ⟨rfl, ?_, ?_⟩
            · exact five_lex (hlex3.other (by omega) _ _) (by omega) _ _ _ _ _
            · exact five_keep ((((Keep.refl L w).alloc _).trans hkeep3).setNew (by omega) _ _) (Nat.le_refl _) _ _ _ _ _
          · have hlex3 : LexAt (W2.alloc wordsObj).drew L s j line := hlex2.alloc _
            have hkeep3 : Keep L (w.alloc zTokObj) (W2.alloc wordsObj).drew := (hkeep2.alloc _).drew
            have ht3 : (W2.alloc wordsObj).drew.heap[T]? = some (.cells #[.int .i64 1, .string (s.extract i j), .int .i64 0, .bool false, .int .i64 0] 30 (0, 0)) := (Below.heap_alloc W2 _ T hT2).trans ht2
            clear t0 t1 t2 t3 t4 g0 g1 g2 g3 g4
            generalize (W2.alloc wordsObj).drew = W3 at hlex3 hkeep3 ht3 ⊢
            obtain ⟨⟨t0, t1, t2, t3, t4⟩, g0, g1, g2, g3, g4⟩ := cells5 ht3
            obtain ⟨⟨r0, r1, r2, r3, r4⟩, q0, q1, q2, q3, q4⟩ := cells5 (keep_zTok hkeep3 hlt)
            have hRT : ¬ w.heap.size = T := by omega
            have hTR : ¬ T = w.heap.size := by omega
            go_wp2_with fail
            go_region
            go_wp2_with fail
            rw [HW.out]
            refine bodyPost_ret (v := .tuple #[.agg (tokC 2 (s.extract i j) 0 false 0), .bool (decide (((j - i : Nat) : Int) ≤ 20))]) (by simp [results, Tryd.results44, go_sem, tokC, r0, r1, r2, r3, r4]) rfl ⟨rfl, ?_, ?_⟩
            · exact five_lex (hlex3.other (by omega) _ _) (by omega) _ _ _ _ _
            · exact five_keep ((((Keep.refl L w).alloc _).trans hkeep3).setNew (by omega) _ _) (Nat.le_refl _) _ _ _ _ _
      · rw [Bool.not_eq_true] at hw
        have HW : Hid (Lex.wK (s.extract i j) = 1) := Lex.wK_no _ hw
        rcases hcase with ⟨hjs, hc, hjs'⟩ | hjs
        · go_wp2_with fail
          first | go_quiet ((go_at_call 43; exact Calls.quiet_of_same (sLetter _ _))) | go_quiet (fail)
          have hlex1 := hlex.drewN nq
          have hkeep1 := hkeep.drewN nq
          clear c0 c1 c2 f1 f2
          generalize wr.drewN nq = W1 at hlex1 hkeep1 ⊢
          obtain ⟨c0, c1, c2, f1, f2⟩ := hlex1.cells
          have hlt1 := hlex1.lt
          have hne : L ≠ W1.heap.size := by omega
          go_wp2_with fail
          go_region
          go_wp2_with fail
          have hlex2 : LexAt (W1.alloc (.cells #[.int .i64 1, .string (s.extract i j), .int .i64 0, .bool false, .int .i64 0] 30)).drew L s j line := hlex1.alloc _
          have hkeep2 : Keep L (w.alloc zTokObj) (W1.alloc (.cells #[.int .i64 1, .string (s.extract i j), .int .i64 0, .bool false, .int .i64 0] 30)).drew := (hkeep1.alloc _).drew
          have ht2 : (W1.alloc (.cells #[.int .i64 1, .string (s.extract i j), .int .i64 0, .bool false, .int .i64 0] 30)).drew.heap[W1.heap.size]? = some (.cells #[.int .i64 1, .string (s.extract i j), .int .i64 0, .bool false, .int .i64 0] 30 (0, 0)) := heap_alloc_new W1 _
          have hT1 : w.heap.size + 1 ≤ W1.heap.size := by have := hkeep1.size; simp only [World.size_alloc] at this; exact this
          have hT2 : W1.heap.size < (W1.alloc (.cells #[.int .i64 1, .string (s.extract i j), .int .i64 0, .bool false, .int .i64 0] 30)).drew.heap.size := by show W1.heap.size < (W1.alloc _).heap.size; simp
          clear c0 c1 c2 f1 f2 hne
          generalize (W1.alloc (.cells #[.int .i64 1, .string (s.extract i j), .int .i64 0, .bool false, .int .i64 0] 30)).drew = W2 at hlex2 hkeep2 ht2 hT2 ⊢
          generalize W1.heap.size = T at ht2 hT1 hT2 ⊢
          obtain ⟨⟨t0, t1, t2, t3, t4⟩, g0, g1, g2, g3, g4⟩ := cells5 ht2
          go_region_with (first | (go_at_call 53; refine (sWords _).mono ?_; rintro e w' ⟨rfl, rfl⟩) | (go_at_call 52; refine (sIsW _ _ _ (by exact words_at W2)).mono ?_; rintro e w' ⟨rfl, rfl⟩))
          · have hlex3 : LexAt (W2.alloc wordsObj).drew L s j line := hlex2.alloc _
            have hkeep3 : Keep L (w.alloc zTokObj) (W2.alloc wordsObj).drew := (hkeep2.alloc _).drew
            have ht3 : (W2.alloc wordsObj).drew.heap[T]? = some (.cells #[.int .i64 1, .string (s.extract i j), .int .i64 0, .bool false, .int .i64 0] 30 (0, 0)) := (Below.heap_alloc W2 _ T hT2).trans ht2
            clear t0 t1 t2 t3 t4 g0 g1 g2 g3 g4
            generalize (W2.alloc wordsObj).drew = W3 at hlex3 hkeep3 ht3 ⊢
            obtain ⟨⟨t0, t1, t2, t3, t4⟩, g0, g1, g2, g3, g4⟩ := cells5 ht3
            obtain ⟨⟨r0, r1, r2, r3, r4⟩, q0, q1, q2, q3, q4⟩ := cells5 (keep_zTok hkeep3 hlt)
            have hRT : ¬ w.heap.size = T := by omega
            have hTR : ¬ T = w.heap.size := by omega
            go_wp2_with fail
            go_region
            go_wp2_with fail
            rw [HW.out]
            refine bodyPost_ret (v := .tuple #[.agg (tokC 1 (s.extract i j) 0 false 0), .bool (decide (((j - i : Nat) : Int) ≤ 20))]) (by simp [results, Tryd.results44, go_sem, tokC, r0, r1, r2, r3, r4]) rfl ⟨rfl, ?_, ?_⟩
            · exact five_lex hlex3 (by omega) _ _ _ _ _
            · exact five_keep (((Keep.refl L w).alloc _).trans hkeep3) (Nat.le_refl _) _ _ _ _ _
          · have hlex3 : LexAt (W2.alloc wordsObj).drew L s j line := hlex2.alloc _
            have hkeep3 : Keep L (w.alloc zTokObj) (W2.alloc wordsObj).drew := (hkeep2.alloc _).drew
            have ht3 : (W2.alloc wordsObj).drew.heap[T]? = some (.cells #[.int .i64 1, .string (s.extract i j), .int .i64 0, .bool false, .int .i64 0] 30 (0, 0)) := (Below.heap_alloc W2 _ T hT2).trans ht2
            clear t0 t1 t2 t3 t4 g0 g1 g2 g3 g4
            generalize (W2.alloc wordsObj).drew = W3 at hlex3 hkeep3 ht3 ⊢
            obtain ⟨⟨t0, t1, t2, t3, t4⟩, g0, g1, g2, g3, g4⟩ := cells5 ht3
            obtain ⟨⟨r0, r1, r2, r3, r4⟩, q0, q1, q2, q3, q4⟩ := cells5 (keep_zTok hkeep3 hlt)
            have hRT : ¬ w.heap.size = T := by omega
            have hTR : ¬ T = w.heap.size := by omega
            go_wp2_with fail
            go_region
            go_wp2_with fail
            rw [HW.out]
            refine bodyPost_ret (v := .tuple #[.agg (tokC 1 (s.extract i j) 0 false 0), .bool (decide (((j - i : Nat) : Int) ≤ 20))]) (by simp [results, Tryd.results44, go_sem, tokC, r0, r1, r2, r3, r4]) rfl ⟨rfl, ?_, ?_⟩
            · exact five_lex hlex3 (by omega) _ _ _ _ _
            · exact five_keep (((Keep.refl L w).alloc _).trans hkeep3) (Nat.le_refl _) _ _ _ _ _
        · go_wp2_with fail
          first | go_quiet ((go_at_call 43; exact Calls.quiet_of_same (sLetter _ _))) | go_quiet (fail)
          have hlex1 := hlex.drewN nq
          have hkeep1 := hkeep.drewN nq
          clear c0 c1 c2 f1 f2
          generalize wr.drewN nq = W1 at hlex1 hkeep1 ⊢
          obtain ⟨c0, c1, c2, f1, f2⟩ := hlex1.cells
          have hlt1 := hlex1.lt
          have hne : L ≠ W1.heap.size := by omega
          go_wp2_with fail
          go_region
          go_wp2_with fail
          have hlex2 : LexAt (W1.alloc (.cells #[.int .i64 1, .string (s.extract i j), .int .i64 0, .bool false, .int .i64 0] 30)).drew L s j line := hlex1.alloc _
          have hkeep2 : Keep L (w.alloc zTokObj) (W1.alloc (.cells #[.int .i64 1, .string (s.extract i j), .int .i64 0, .bool false, .int .i64 0] 30)).drew := (hkeep1.alloc _).drew
          have ht2 : (W1.alloc (.cells #[.int .i64 1, .string (s.extract i j), .int .i64 0, .bool false, .int .i64 0] 30)).drew.heap[W1.heap.size]? = some (.cells #[.int .i64 1, .string (s.extract i j), .int .i64 0, .bool false, .int .i64 0] 30 (0, 0)) := heap_alloc_new W1 _
          have hT1 : w.heap.size + 1 ≤ W1.heap.size := by have := hkeep1.size; simp only [World.size_alloc] at this; exact this
          have hT2 : W1.heap.size < (W1.alloc (.cells #[.int .i64 1, .string (s.extract i j), .int .i64 0, .bool false, .int .i64 0] 30)).drew.heap.size := by show W1.heap.size < (W1.alloc _).heap.size; simp
          clear c0 c1 c2 f1 f2 hne
          generalize (W1.alloc (.cells #[.int .i64 1, .string (s.extract i j), .int .i64 0, .bool false, .int .i64 0] 30)).drew = W2 at hlex2 hkeep2 ht2 hT2 ⊢
          generalize W1.heap.size = T at ht2 hT1 hT2 ⊢
          obtain ⟨⟨t0, t1, t2, t3, t4⟩, g0, g1, g2, g3, g4⟩ := cells5 ht2
          go_region_with (first | (go_at_call 53; refine (sWords _).mono ?_; rintro e w' ⟨rfl, rfl⟩) | (go_at_call 52; refine (sIsW _ _ _ (by exact words_at W2)).mono ?_; rintro e w' ⟨rfl, rfl⟩))
          · have hlex3 : LexAt (W2.alloc wordsObj).drew L s j line := hlex2.alloc _
            have hkeep3 : Keep L (w.alloc zTokObj) (W2.alloc wordsObj).drew := (hkeep2.alloc _).drew
            have ht3 : (W2.alloc wordsObj).drew.heap[T]? = some (.cells #[.int .i64 1, .string (s.extract i j), .int .i64 0, .bool false, .int .i64 0] 30 (0, 0)) := (Below.heap_alloc W2 _ T hT2).trans ht2
            clear t0 t1 t2 t3 t4 g0 g1 g2 g3 g4
            generalize (W2.alloc wordsObj).drew = W3 at hlex3 hkeep3 ht3 ⊢
            obtain ⟨⟨t0, t1, t2, t3, t4⟩, g0, g1, g2, g3, g4⟩ := cells5 ht3
            obtain ⟨⟨r0, r1, r2, r3, r4⟩, q0, q1, q2, q3, q4⟩ := cells5 (keep_zTok hkeep3 hlt)
            have hRT : ¬ w.heap.size = T := by omega
            have hTR : ¬ T = w.heap.size := by omega
            go_wp2_with fail
            go_region
            go_wp2_with fail
            rw [HW.out]
            refine bodyPost_ret (v := .tuple #[.agg (tokC 1 (s.extract i j) 0 false 0), .bool (decide (((j - i : Nat) : Int) ≤ 20))]) (by simp [results, Tryd.results44, go_sem, tokC, r0, r1, r2, r3, r4]) rfl ⟨rfl, ?_, ?_⟩
            · exact five_lex hlex3 (by omega) _ _ _ _ _
            · exact five_keep (((Keep.refl L w).alloc _).trans hkeep3) (Nat.le_refl _) _ _ _ _ _
          · have hlex3 : LexAt (W2.alloc wordsObj).drew L s j line := hlex2.alloc _
            have hkeep3 : Keep L (w.alloc zTokObj) (W2.alloc wordsObj).drew := (hkeep2.alloc _).drew
            have ht3 : (W2.alloc wordsObj).drew.heap[T]? = some (.cells #[.int .i64 1, .string (s.extract i j), .int .i64 0, .bool false, .int .i64 0] 30 (0, 0)) := (Below.heap_alloc W2 _ T hT2).trans ht2
            clear t0 t1 t2 t3 t4 g0 g1 g2 g3 g4
            generalize (W2.alloc wordsObj).drew = W3 at hlex3 hkeep3 ht3 ⊢
            obtain ⟨⟨t0, t1, t2, t3, t4⟩, g0, g1, g2, g3, g4⟩ := cells5 ht3
            obtain ⟨⟨r0, r1, r2, r3, r4⟩, q0, q1, q2, q3, q4⟩ := cells5 (keep_zTok hkeep3 hlt)
            have hRT : ¬ w.heap.size = T := by omega
            have hTR : ¬ T = w.heap.size := by omega
            go_wp2_with fail
            go_region
            go_wp2_with fail
            rw [HW.out]
            refine bodyPost_ret (v := .tuple #[.agg (tokC 1 (s.extract i j) 0 false 0), .bool (decide (((j - i : Nat) : Int) ≤ 20))]) (by simp [results, Tryd.results44, go_sem, tokC, r0, r1, r2, r3, r4]) rfl ⟨rfl, ?_, ?_⟩
            · exact five_lex hlex3 (by omega) _ _ _ _ _
            · exact five_keep (((Keep.refl L w).alloc _).trans hkeep3) (Nat.le_refl _) _ _ _ _ _

end Go.Proofs.YtpabbadngpjgoaaDoor

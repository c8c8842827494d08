/-
  The walk of the specification's number.
-/
import Derived.Test.YtpabbadngpjgoaaDoorSpecB
namespace Go.Proofs.YtpabbadngpjgoaaDoor
open Go.RowKit

theorem num_step (s : ByteArray) (i j : Nat) (hij : i ≤ j) (hj : j < s.size) : Lex.numL (Lex.cutL s i (j + 1)) = 10 * Lex.numL (Lex.cutL s i j) + ((s[j].toNat : Int) - 48) := by
  rw [Lex.cutL_snoc s i j hij hj, Lex.numL_snoc, Int.mul_comm]
theorem wrapU8 (x : Int) (h : 0 ≤ x) (h2 : x ≤ 255) : IntKind.u8.wrap x = x := by
  simp [IntKind.wrap, IntKind.bits, IntKind.signed]; omega

theorem digs_cut (s : ByteArray) (i e E : Nat) (hE : Lex.digEnd s i = E) (he : e ≤ E) (hs : e ≤ s.size) (c : UInt8) (hc : c ∈ Lex.cutL s i e) : Lex.digB (c.toNat : Int) = true := by
  rw [← Lex.ext_data] at hc
  rw [List.mem_iff_getElem] at hc
  obtain ⟨n, hn, rfl⟩ := hc
  have hn' : n < (s.extract i e).size := hn
  have hb : n < e - i := by rw [Lex.ext_size s i e hs] at hn'; exact hn'
  have := Lex.digEnd_all s i (i + n) (by omega) (by omega)
  rw [← Lex.ext_get s i e hs n hn'] at this
  exact this

/-- The state of number's walk: the lexer, the token that is being made, what has been kept. -/
def NSt (wr w : World) (L : Nat) (s : ByteArray) (j : Nat) (line : Bool) (N : Int) : Prop :=
  LexAt wr L s j line ∧ wr.heap[w.heap.size + 1]? = some (.cells #[.int .i64 3, .string ⟨#[]⟩, .int .i64 N, .bool false, .int .i64 0] 30 (0, 0)) ∧ Keep L (w.alloc zTokObj) wr
theorem NSt.drewN {wr w : World} {L : Nat} {s : ByteArray} {j : Nat} {line : Bool} {N : Int} (h : NSt wr w L s j line N) (n : Nat) : NSt (wr.drewN n) w L s j line N :=
  ⟨h.1.drewN n, by rw [drewN_heap]; exact h.2.1, h.2.2.drewN n⟩
theorem NSt.cells {wr w : World} {L : Nat} {s : ByteArray} {j : Nat} {line : Bool} {N : Int} (h : NSt wr w L s j line N) (hL : L < w.heap.size) :
    (wr.cell? ⟨L, 0, none⟩ = some (.string s) ∧ wr.cell? ⟨L, 1, none⟩ = some (.int .i64 j) ∧ wr.cell? ⟨L, 2, none⟩ = some (.bool line) ∧ wr.frozen? ⟨L, 1, none⟩ = false ∧ wr.frozen? ⟨L, 2, none⟩ = false) ∧
    ((wr.cell? ⟨w.heap.size + 1, 0, none⟩ = some (.int .i64 3) ∧ wr.cell? ⟨w.heap.size + 1, 1, none⟩ = some (.string ⟨#[]⟩) ∧ wr.cell? ⟨w.heap.size + 1, 2, none⟩ = some (.int .i64 N) ∧ wr.cell? ⟨w.heap.size + 1, 3, none⟩ = some (.bool false) ∧ wr.cell? ⟨w.heap.size + 1, 4, none⟩ = some (.int .i64 0)) ∧
    wr.frozen? ⟨w.heap.size + 1, 0, none⟩ = false ∧ wr.frozen? ⟨w.heap.size + 1, 1, none⟩ = false ∧ wr.frozen? ⟨w.heap.size + 1, 2, none⟩ = false ∧ wr.frozen? ⟨w.heap.size + 1, 3, none⟩ = false ∧ wr.frozen? ⟨w.heap.size + 1, 4, none⟩ = false) ∧
    ((wr.cell? ⟨w.heap.size, 0, none⟩ = some (.int .i64 0) ∧ wr.cell? ⟨w.heap.size, 1, none⟩ = some (.string ⟨#[]⟩) ∧ wr.cell? ⟨w.heap.size, 2, none⟩ = some (.int .i64 0) ∧ wr.cell? ⟨w.heap.size, 3, none⟩ = some (.bool false) ∧ wr.cell? ⟨w.heap.size, 4, none⟩ = some (.int .i64 0)) ∧
    wr.frozen? ⟨w.heap.size, 0, none⟩ = false ∧ wr.frozen? ⟨w.heap.size, 1, none⟩ = false ∧ wr.frozen? ⟨w.heap.size, 2, none⟩ = false ∧ wr.frozen? ⟨w.heap.size, 3, none⟩ = false ∧ wr.frozen? ⟨w.heap.size, 4, none⟩ = false) :=
  ⟨h.1.cells, cells5 h.2.1, cells5 (keep_zTok h.2.2 hL)⟩

theorem NSt.num {wr w : World} {L : Nat} {s : ByteArray} {j : Nat} {line : Bool} {N : Int} (h : NSt wr w L s j line N) (hL : L < w.heap.size) (N' : Int) : NSt (wr.setCell ⟨w.heap.size + 1, 2, none⟩ (.int .i64 N')) w L s j line N' := by
  refine ⟨h.1.other (by omega) _ _, ?_, h.2.2.setNew (by simp) _ _⟩
  have := h.2.1
  simp [World.setCell, Array.getElem?_modify, this]
theorem NSt.bump {wr w : World} {L : Nat} {s : ByteArray} {j : Nat} {line : Bool} {N : Int} (h : NSt wr w L s j line N) (hL : L < w.heap.size) : NSt (wr.setCell ⟨L, 1, none⟩ (.int .i64 ((j : Int) + 1))) w L s (j + 1) line N := by
  refine ⟨Go.Proofs.YtpabbadngpjgoaaDoor.bump h.1, ?_, h.2.2.set _ _⟩
  exact (Below.heap_setCell wr ⟨L, 1, none⟩ _ (w.heap.size + 1) (by show w.heap.size + 1 ≠ L; omega)).trans h.2.1

set_option maxHeartbeats 4000000 in
set_option maxRecDepth 100000 in
theorem sNumber (s : ByteArray) (L i : Nat) (line : Bool) (w : World) (hs : s.size ≤ 4000) (hi : i < s.size) (hd : Lex.digB (Lex.bAt s i) = true) (hL : LexAt w L s i line) :
    Calls Tryd.prog 42 #[.pointer (some ⟨L, 0, none⟩)] w fun e w' => SRes s i L line e w' ∧ Keep L w w' := by
  obtain ⟨c0, c1, c2, f1, f2⟩ := hL.cells
  have hlt := hL.lt
  have HL : Hid (LexAt w L s i line) := hL
  have HD : Hid (Lex.digB (Lex.bAt s i) = true) := hd
  clear hL hd
  go_enter Tryd.func42, Tryd.ntmps42
  go_wp2_with fail
  go_loopw [11] (fun _ wr => ∃ (j : Nat) (N : Int), i ≤ j ∧ j ≤ s.size ∧ j - i ≤ 15 ∧ 0 ≤ N ∧ N < 1000000000000000 ∧ NSt wr w L s j line N ∧ Hid (Lex.digEnd s j = Lex.digEnd s i) ∧ Hid (N = Lex.numL (Lex.cutL s i j))) (fun _ wr => s.size - posOf wr L)
  case atStart =>
    refine ⟨i, 0, Nat.le_refl _, by omega, by omega, by omega, by omega, ⟨(HL.out.alloc _).alloc _, ?_, (Keep.refl _ _).alloc _⟩, rfl, ?_⟩
    · have h := heap_alloc_new (w.alloc zTokObj) (.cells #[.int .i64 3, .string ⟨#[]⟩, .int .i64 0, .bool false, .int .i64 0] 30)
      rw [World.size_alloc] at h
      exact h
    · show (0 : Int) = _; rw [Lex.cutL_nil]; rfl
  case round =>
    obtain ⟨j, N, hij, hj, hj15, hN0, hN1, st, HE, HN⟩ := hrel
    clear c0 c1 c2 f1 f2
    obtain ⟨⟨c0, c1, c2, f1, f2⟩, ⟨⟨t0, t1, t2, t3, t4⟩, g0, g1, g2, g3, g4⟩, ⟨⟨r0, r1, r2, r3, r4⟩, q0, q1, q2, q3, q4⟩⟩ := st.cells hlt
    have hlex := st.1
    by_cases hc : Lex.letB (Lex.bAt s j) = true
    · have hjs := Lex.letB_lt s j hc
      have hjs' : (j : Int) < (s.size : Int) := by omega
      have hb := Lex.bAt_in s j hjs
      rw [hb] at hc
      go_wp2_with fail
      go_quiet ((go_at_call 43; exact Calls.quiet_of_same (sLetter _ _)))
      have st1 := st.drewN nq
      clear c0 c1 c2 f1 f2 t0 t1 t2 t3 t4 g0 g1 g2 g3 g4 r0 r1 r2 r3 r4 q0 q1 q2 q3 q4
      generalize wr.drewN nq = W1 at st1 ⊢
      obtain ⟨⟨c0, c1, c2, f1, f2⟩, ⟨⟨t0, t1, t2, t3, t4⟩, g0, g1, g2, g3, g4⟩, ⟨⟨r0, r1, r2, r3, r4⟩, q0, q1, q2, q3, q4⟩⟩ := st1.cells hlt
      by_cases hg : Lex.digB (s[j].toNat : Int) = true
      · have hg' : Lex.digB (Lex.bAt s j) = true := by rw [hb]; exact hg
        have hE2 := Lex.digEnd_yes s j hg'
        obtain ⟨hg1, hg2⟩ := of_decide_eq_true hg
        have hw15 := wrapId ((j : Int) - (i : Int)) (by omega) (by omega)
        by_cases h15 : 15 ≤ j - i
        · have b15 : 15 ≤ (j : Int) - (i : Int) := by omega
          have hno : Lex.tokAt s i = none := by
            unfold Lex.tokAt
            rw [if_pos HD.out, if_neg]
            intro hh
            have h1 := Lex.digEnd_bd s (j + 1) (by omega)
            rw [← hE2, HE.out] at h1
            omega
          have HNo : Hid (Lex.tokAt s i = none) := hno
          clear hno hE2 hb hg'
          go_wp2_with fail
          go_quiet ((go_at_call 41; exact Calls.quiet_of_same (sDigit _ _)))
          go_wp2_with fail
          refine bodyPost_ret (v := .tuple #[.agg #[.int .i64 3, .string ⟨#[]⟩, .int .i64 N, .bool false, .int .i64 0], .bool false]) (by simp [results, Tryd.results42, go_sem, r0, r1, r2, r3, r4]) rfl ⟨SRes.no HNo.out _ _ _ _ _, ?_⟩
          exact five_keep0 ((((Keep.refl L w).alloc _).trans st1.2.2).drewN _) (Nat.le_refl _) _ _ _ _ _
        · have b15 : decide (15 ≤ (j : Int) - (i : Int)) = false := by simp; omega
          have HS : Hid (10 * N + ((s[j].toNat : Int) - 48) = Lex.numL (Lex.cutL s i (j + 1))) := by show _ = _; rw [num_step s i j hij hjs, HN.out]
          have HS2 : Hid (Lex.digEnd s (j + 1) = Lex.digEnd s i) := by show _ = _; rw [← hE2]; exact HE.out
          have m1 := wrapId (10 * N) (by omega) (by omega)
          have m2 := wrapU8 ((s[j].toNat : Int) - 48) (by omega) (by omega)
          have m3 := wrapId ((s[j].toNat : Int) - 48) (by omega) (by omega)
          have m4 := wrapId (10 * N + ((s[j].toNat : Int) - 48)) (by omega) (by omega)
          clear hE2 hb hg'
          go_wp2_with fail
          go_quiet ((go_at_call 41; exact Calls.quiet_of_same (sDigit _ _)))
          go_wp2_with fail
          go_region
          have st2 := (st1.drewN (nq + 1)).num hlt (10 * N + ((s[j].toNat : Int) - 48))
          clear c0 c1 c2 f1 f2 t0 t1 t2 t3 t4 g0 g1 g2 g3 g4 r0 r1 r2 r3 r4 q0 q1 q2 q3 q4 m1 m2 m3 m4
          generalize (W1.drewN (nq + 1)).setCell ⟨w.heap.size + 1, 2, none⟩ (.int .i64 (10 * N + ((s[j].toNat : Int) - 48))) = W2 at st2 ⊢
          obtain ⟨⟨c0, c1, c2, f1, f2⟩, _, _⟩ := st2.cells hlt
          go_wp2_with fail
          have hbd : 0 ≤ 10 * N + ((s[j].toNat : Int) - 48) ∧ 10 * N + ((s[j].toNat : Int) - 48) < 1000000000000000 := by
            rw [HS.out]
            refine Lex.numL_bd _ (fun c hc => ?_) (by rw [Lex.cutL_len s i (j + 1) (by omega)]; omega)
            exact digs_cut s i (j + 1) (Lex.digEnd s i) rfl (by have h1 := Lex.digEnd_bd s (j + 1) (by omega); rw [HS2.out] at h1; omega) (by omega) c hc
          exact ⟨⟨j + 1, _, by omega, by omega, by omega, hbd.1, hbd.2, st2.bump hlt, HS2, HS⟩, down hlex (st2.bump hlt).1 (by omega) hjs⟩
      · rw [Bool.not_eq_true] at hg
        have hE : Lex.digEnd s i = j := by rw [← HE.out]; exact Lex.digEnd_no s j (by rw [hb]; exact hg)
        have hno : Lex.tokAt s i = none := by
          unfold Lex.tokAt
          rw [if_pos HD.out, if_neg]
          intro hh
          have h3 := hh.2.2
          rw [hE, hb, hc] at h3
          cases h3
        have HNo : Hid (Lex.tokAt s i = none) := hno
        clear hno hb hE
        go_wp2_with fail
        go_quiet ((go_at_call 41; exact Calls.quiet_of_same (sDigit _ _)))
        go_wp2_with fail
        refine bodyPost_ret (v := .tuple #[.agg #[.int .i64 3, .string ⟨#[]⟩, .int .i64 N, .bool false, .int .i64 0], .bool false]) (by simp [results, Tryd.results42, go_sem, r0, r1, r2, r3, r4]) rfl ⟨SRes.no HNo.out _ _ _ _ _, ?_⟩
        exact five_keep0 ((((Keep.refl L w).alloc _).trans st1.2.2).drewN _) (Nat.le_refl _) _ _ _ _ _
    · rw [Bool.not_eq_true] at hc
      have hgf : Lex.digB (Lex.bAt s j) = false := by
        by_cases g : Lex.digB (Lex.bAt s j) = true
        · rw [Lex.dig_let g] at hc; cases hc
        · simpa using g
      have hE : Lex.digEnd s i = j := by rw [← HE.out]; exact Lex.digEnd_no s j hgf
      have HEj : Hid (Lex.digEnd s i = j) := hE
      have HC : Hid (Lex.letB (Lex.bAt s j) = false) := hc
      have hcase : (∃ h : j < s.size, Lex.letB (s[j].toNat : Int) = false ∧ (j : Int) < (s.size : Int)) ∨ decide (j < s.size) = false := by
        by_cases hjs : j < s.size
        · rw [Lex.bAt_in s j hjs] at hc
          exact .inl ⟨hjs, hc, by omega⟩
        · right; simp; omega
      clear hc hgf hE
      have hbi := Lex.bAt_in s i hi
      have HBI : Hid (Lex.bAt s i = (s[i].toNat : Int)) := hbi
      have hi' : (i : Int) < (s.size : Int) := by omega
      have hwi := wrapId ((i : Int) + 1) (by omega) (by omega)
      clear hbi
      by_cases h48 : (s[i].toNat : Int) = 48
      · have b48 : ((s[i].toNat : Int) != 48) = false := by simp [h48]
        by_cases h1 : j = i + 1
        · have b1 : ((j : Int) == (i : Int) + 1) = true := beq_iff_eq.2 (by omega)
          have hy : Lex.tokAt s i = some (⟨3, ⟨#[]⟩, N⟩, j) := by
            unfold Lex.tokAt
            rw [if_pos HD.out, if_pos ⟨by rw [HEj.out]; omega, .inr (by rw [HEj.out]; omega), by rw [HEj.out]; exact HC.out⟩, HEj.out, HN.out]
          have HY : Hid (Lex.tokAt s i = some (⟨3, ⟨#[]⟩, N⟩, j)) := hy
          clear hy h48 h1
          rcases hcase with ⟨hjs, hc, hjs'⟩ | hjs
          · go_wp2_with fail
            first | go_quiet ((go_at_call 43; exact Calls.quiet_of_same (sLetter _ _))) | go_quiet (fail)
            have st1 := st.drewN nq
            clear c0 c1 c2 f1 f2 t0 t1 t2 t3 t4 g0 g1 g2 g3 g4 r0 r1 r2 r3 r4 q0 q1 q2 q3 q4
            generalize wr.drewN nq = W1 at st1 ⊢
            obtain ⟨⟨c0, c1, c2, f1, f2⟩, ⟨⟨t0, t1, t2, t3, t4⟩, g0, g1, g2, g3, g4⟩, ⟨⟨r0, r1, r2, r3, r4⟩, q0, q1, q2, q3, q4⟩⟩ := st1.cells hlt
            go_wp2_with fail
            go_region
            go_wp2_with fail
            refine bodyPost_ret (v := .tuple #[.agg #[.int .i64 3, .string ⟨#[]⟩, .int .i64 N, .bool false, .int .i64 0], .bool true]) (by simp [results, Tryd.results42, go_sem, r0, r1, r2, r3, r4]) rfl ⟨SRes.yes HY.out rfl ?_, ?_⟩
            · exact five_lex st1.1 (by omega) _ _ _ _ _
            · exact five_keep (((Keep.refl L w).alloc _).trans st1.2.2) (Nat.le_refl _) _ _ _ _ _
          · go_wp2_with fail
            first | go_quiet ((go_at_call 43; exact Calls.quiet_of_same (sLetter _ _))) | go_quiet (fail)
            have st1 := st.drewN nq
            clear c0 c1 c2 f1 f2 t0 t1 t2 t3 t4 g0 g1 g2 g3 g4 r0 r1 r2 r3 r4 q0 q1 q2 q3 q4
            generalize wr.drewN nq = W1 at st1 ⊢
            obtain ⟨⟨c0, c1, c2, f1, f2⟩, ⟨⟨t0, t1, t2, t3, t4⟩, g0, g1, g2, g3, g4⟩, ⟨⟨r0, r1, r2, r3, r4⟩, q0, q1, q2, q3, q4⟩⟩ := st1.cells hlt
            go_wp2_with fail
            go_region
            go_wp2_with fail
            refine bodyPost_ret (v := .tuple #[.agg #[.int .i64 3, .string ⟨#[]⟩, .int .i64 N, .bool false, .int .i64 0], .bool true]) (by simp [results, Tryd.results42, go_sem, r0, r1, r2, r3, r4]) rfl ⟨SRes.yes HY.out rfl ?_, ?_⟩
            · exact five_lex st1.1 (by omega) _ _ _ _ _
            · exact five_keep (((Keep.refl L w).alloc _).trans st1.2.2) (Nat.le_refl _) _ _ _ _ _
        · have b1 : ((j : Int) == (i : Int) + 1) = false := beq_eq_false_iff_ne.2 (by omega)
          have hy : Lex.tokAt s i = none := by
            unfold Lex.tokAt
            rw [if_pos HD.out, if_neg]
            intro hh
            rw [HEj.out, HBI.out] at hh
            omega
          have HY : Hid (Lex.tokAt s i = none) := hy
          clear hy h48 h1
          rcases hcase with ⟨hjs, hc, hjs'⟩ | hjs
          · go_wp2_with fail
            first | go_quiet ((go_at_call 43; exact Calls.quiet_of_same (sLetter _ _))) | go_quiet (fail)
            have st1 := st.drewN nq
            clear c0 c1 c2 f1 f2 t0 t1 t2 t3 t4 g0 g1 g2 g3 g4 r0 r1 r2 r3 r4 q0 q1 q2 q3 q4
            generalize wr.drewN nq = W1 at st1 ⊢
            obtain ⟨⟨c0, c1, c2, f1, f2⟩, ⟨⟨t0, t1, t2, t3, t4⟩, g0, g1, g2, g3, g4⟩, ⟨⟨r0, r1, r2, r3, r4⟩, q0, q1, q2, q3, q4⟩⟩ := st1.cells hlt
            go_wp2_with fail
            go_region
            go_wp2_with fail
            refine bodyPost_ret (v := .tuple #[.agg #[.int .i64 3, .string ⟨#[]⟩, .int .i64 N, .bool false, .int .i64 0], .bool false]) (by simp [results, Tryd.results42, go_sem, r0, r1, r2, r3, r4]) rfl ⟨SRes.no HY.out _ _ _ _ _, ?_⟩
            · exact five_keep (((Keep.refl L w).alloc _).trans st1.2.2) (Nat.le_refl _) _ _ _ _ _
          · go_wp2_with fail
            first | go_quiet ((go_at_call 43; exact Calls.quiet_of_same (sLetter _ _))) | go_quiet (fail)
            have st1 := st.drewN nq
            clear c0 c1 c2 f1 f2 t0 t1 t2 t3 t4 g0 g1 g2 g3 g4 r0 r1 r2 r3 r4 q0 q1 q2 q3 q4
            generalize wr.drewN nq = W1 at st1 ⊢
            obtain ⟨⟨c0, c1, c2, f1, f2⟩, ⟨⟨t0, t1, t2, t3, t4⟩, g0, g1, g2, g3, g4⟩, ⟨⟨r0, r1, r2, r3, r4⟩, q0, q1, q2, q3, q4⟩⟩ := st1.cells hlt
            go_wp2_with fail
            go_region
            go_wp2_with fail
            refine bodyPost_ret (v := .tuple #[.agg #[.int .i64 3, .string ⟨#[]⟩, .int .i64 N, .bool false, .int .i64 0], .bool false]) (by simp [results, Tryd.results42, go_sem, r0, r1, r2, r3, r4]) rfl ⟨SRes.no HY.out _ _ _ _ _, ?_⟩
            · exact five_keep (((Keep.refl L w).alloc _).trans st1.2.2) (Nat.le_refl _) _ _ _ _ _
      · have b48 : ((s[i].toNat : Int) != 48) = true := by simpa using h48
        have hy : Lex.tokAt s i = some (⟨3, ⟨#[]⟩, N⟩, j) := by
          unfold Lex.tokAt
          rw [if_pos HD.out, if_pos ⟨by rw [HEj.out]; omega, .inl (by rw [HBI.out]; exact h48), by rw [HEj.out]; exact HC.out⟩, HEj.out, HN.out]
        have HY : Hid (Lex.tokAt s i = some (⟨3, ⟨#[]⟩, N⟩, j)) := hy
        clear hy h48
        rcases hcase with ⟨hjs, hc, hjs'⟩ | hjs
        · go_wp2_with fail
          first | go_quiet ((go_at_call 43; exact Calls.quiet_of_same (sLetter _ _))) | go_quiet (fail)
          have st1 := st.drewN nq
          clear c0 c1 c2 f1 f2 t0 t1 t2 t3 t4 g0 g1 g2 g3 g4 r0 r1 r2 r3 r4 q0 q1 q2 q3 q4
          generalize wr.drewN nq = W1 at st1 ⊢
          obtain ⟨⟨c0, c1, c2, f1, f2⟩, ⟨⟨t0, t1, t2, t3, t4⟩, g0, g1, g2, g3, g4⟩, ⟨⟨r0, r1, r2, r3, r4⟩, q0, q1, q2, q3, q4⟩⟩ := st1.cells hlt
          go_wp2_with fail
          go_region
          go_wp2_with fail
          refine bodyPost_ret (v := .tuple #[.agg #[.int .i64 3, .string ⟨#[]⟩, .int .i64 N, .bool false, .int .i64 0], .bool true]) (by simp [results, Tryd.results42, go_sem, r0, r1, r2, r3, r4]) rfl ⟨SRes.yes HY.out rfl ?_, ?_⟩
          · exact five_lex st1.1 (by omega) _ _ _ _ _
          · exact five_keep (((Keep.refl L w).alloc _).trans st1.2.2) (Nat.le_refl _) _ _ _ _ _
        · go_wp2_with fail
          first | go_quiet ((go_at_call 43; exact Calls.quiet_of_same (sLetter _ _))) | go_quiet (fail)
          have st1 := st.drewN nq
          clear c0 c1 c2 f1 f2 t0 t1 t2 t3 t4 g0 g1 g2 g3 g4 r0 r1 r2 r3 r4 q0 q1 q2 q3 q4
          generalize wr.drewN nq = W1 at st1 ⊢
          obtain ⟨⟨c0, c1, c2, f1, f2⟩, ⟨⟨t0, t1, t2, t3, t4⟩, g0, g1, g2, g3, g4⟩, ⟨⟨r0, r1, r2, r3, r4⟩, q0, q1, q2, q3, q4⟩⟩ := st1.cells hlt
          go_wp2_with fail
          go_region
          go_wp2_with fail
          refine bodyPost_ret (v := .tuple #[.agg #[.int .i64 3, .string ⟨#[]⟩, .int .i64 N, .bool false, .int .i64 0], .bool true]) (by simp [results, Tryd.results42, go_sem, r0, r1, r2, r3, r4]) rfl ⟨SRes.yes HY.out rfl ?_, ?_⟩
          · exact five_lex st1.1 (by omega) _ _ _ _ _
          · exact five_keep (((Keep.refl L w).alloc _).trans st1.2.2) (Nat.le_refl _) _ _ _ _ _

end Go.Proofs.YtpabbadngpjgoaaDoor

/-
  The walk of the specification's text.
-/
import Derived.Test.YtpabbadngpjgoaaDoorSpecB
namespace Go.Proofs.YtpabbadngpjgoaaDoor
open Go.RowKit

theorem OwnB.set {w : World} {B b : Nat} {v : Value} {l : List UInt8} (h : OwnB w B v l) (hb : b < B) (o : Nat) (u : Value) : OwnB (w.setCell ⟨b, o, none⟩ u) B v l := by
  refine ⟨h.1, ?_⟩
  rcases h.2 with hn | ⟨g, cap, cur, rfl, hB, hg, rest⟩
  · exact .inl hn
  · exact .inr ⟨g, cap, cur, rfl, hB, (Below.heap_setCell w ⟨b, o, none⟩ u g (by show g ≠ b; omega)).trans hg, rest⟩
theorem OwnB.drewN {w : World} {B : Nat} {v : Value} {l : List UInt8} (h : OwnB w B v l) (n : Nat) : OwnB (w.drewN n) B v l := by
  refine ⟨h.1, ?_⟩
  rw [drewN_heap]
  exact h.2

/-- The state of text's walk. -/
def XSt (wr w : World) (L : Nat) (s : ByteArray) (j : Nat) (line : Bool) (v : Value) (acc : List UInt8) : Prop :=
  LexAt wr L s j line ∧ wr.heap[w.heap.size + 1]? = some (.cells #[.int .i64 4, .string ⟨#[]⟩, .int .i64 0, .bool false, .int .i64 0] 30 (0, 0)) ∧ Keep L (w.alloc zTokObj) wr ∧ OwnB wr (w.heap.size + 2) v acc
theorem XSt.drewN {wr w : World} {L : Nat} {s : ByteArray} {j : Nat} {line : Bool} {v : Value} {acc : List UInt8} (h : XSt wr w L s j line v acc) (n : Nat) : XSt (wr.drewN n) w L s j line v acc :=
  ⟨h.1.drewN n, by rw [drewN_heap]; exact h.2.1, h.2.2.1.drewN n, h.2.2.2.drewN n⟩
theorem XSt.bump {wr w : World} {L : Nat} {s : ByteArray} {j : Nat} {line : Bool} {v : Value} {acc : List UInt8} (h : XSt wr w L s j line v acc) (hL : L < w.heap.size) : XSt (wr.setCell ⟨L, 1, none⟩ (.int .i64 ((j : Int) + 1))) w L s (j + 1) line v acc := by
  refine ⟨Go.Proofs.YtpabbadngpjgoaaDoor.bump h.1, ?_, h.2.2.1.set _ _, h.2.2.2.set (by omega) _ _⟩
  exact (Below.heap_setCell wr ⟨L, 1, none⟩ _ (w.heap.size + 1) (by show w.heap.size + 1 ≠ L; omega)).trans h.2.1
theorem XSt.size {wr w : World} {L : Nat} {s : ByteArray} {j : Nat} {line : Bool} {v : Value} {acc : List UInt8} (h : XSt wr w L s j line v acc) : w.heap.size + 2 ≤ wr.heap.size := by
  have := (Array.getElem?_eq_some_iff.1 h.2.1).1; omega
theorem XSt.app {wr w w1 : World} {L : Nat} {s : ByteArray} {j : Nat} {line : Bool} {v v' : Value} {acc acc' : List UInt8} {o : Obj} (h : XSt wr w L s j line v acc) (hL : L < w.heap.size)
    (hb : Below (w.heap.size + 2) (wr.alloc o) w1) (ho : OwnB w1 (w.heap.size + 2) v' acc') : XSt w1 w L s j line v' acc' := by
  have hsz := h.size
  refine ⟨(h.1.alloc o).below hb (by omega), ?_, (h.2.2.1.alloc o).below hb (by simp), ho⟩
  rw [hb.block _ (by omega), Below.heap_alloc wr o _ (by omega)]; exact h.2.1
theorem XSt.cells {wr w : World} {L : Nat} {s : ByteArray} {j : Nat} {line : Bool} {v : Value} {acc : List UInt8} (h : XSt wr w L s j line v acc) (hL : L < w.heap.size) :
    (wr.cell? ⟨L, 0, none⟩ = some (.string s) ∧ wr.cell? ⟨L, 1, none⟩ = some (.int .i64 j) ∧ wr.cell? ⟨L, 2, none⟩ = some (.bool line) ∧ wr.frozen? ⟨L, 1, none⟩ = false ∧ wr.frozen? ⟨L, 2, none⟩ = false) ∧
    ((wr.cell? ⟨w.heap.size + 1, 0, none⟩ = some (.int .i64 4) ∧ wr.cell? ⟨w.heap.size + 1, 1, none⟩ = some (.string ⟨#[]⟩) ∧ wr.cell? ⟨w.heap.size + 1, 2, none⟩ = some (.int .i64 0) ∧ wr.cell? ⟨w.heap.size + 1, 3, none⟩ = some (.bool false) ∧ wr.cell? ⟨w.heap.size + 1, 4, none⟩ = some (.int .i64 0)) ∧
    wr.frozen? ⟨w.heap.size + 1, 0, none⟩ = false ∧ wr.frozen? ⟨w.heap.size + 1, 1, none⟩ = false ∧ wr.frozen? ⟨w.heap.size + 1, 2, none⟩ = false ∧ wr.frozen? ⟨w.heap.size + 1, 3, none⟩ = false ∧ wr.frozen? ⟨w.heap.size + 1, 4, none⟩ = false) ∧
    ((wr.cell? ⟨w.heap.size, 0, none⟩ = some (.int .i64 0) ∧ wr.cell? ⟨w.heap.size, 1, none⟩ = some (.string ⟨#[]⟩) ∧ wr.cell? ⟨w.heap.size, 2, none⟩ = some (.int .i64 0) ∧ wr.cell? ⟨w.heap.size, 3, none⟩ = some (.bool false) ∧ wr.cell? ⟨w.heap.size, 4, none⟩ = some (.int .i64 0)) ∧
    wr.frozen? ⟨w.heap.size, 0, none⟩ = false ∧ wr.frozen? ⟨w.heap.size, 1, none⟩ = false ∧ wr.frozen? ⟨w.heap.size, 2, none⟩ = false ∧ wr.frozen? ⟨w.heap.size, 3, none⟩ = false ∧ wr.frozen? ⟨w.heap.size, 4, none⟩ = false) :=
  ⟨h.1.cells, cells5 h.2.1, cells5 (keep_zTok h.2.2.1 hL)⟩

theorem xst_start {w : World} {L : Nat} {s : ByteArray} {i : Nat} {line : Bool} (h : LexAt w L s i line) :
    XSt (((w.alloc zTokObj).alloc (.cells #[.int .i64 4, .string ⟨#[]⟩, .int .i64 0, .bool false, .int .i64 0] 30)).alloc (.cells #[] 5)) w L s i line (.slice (some ⟨w.heap.size + 1 + 1, 0, none⟩) 0 0) [] := by
  refine ⟨((h.alloc _).alloc _).alloc _, ?_, ((Keep.refl _ _).alloc _).alloc _, ?_⟩
  · rw [Below.heap_alloc _ _ _ (by simp)]
    have g := heap_alloc_new (w.alloc zTokObj) (.cells #[.int .i64 4, .string ⟨#[]⟩, .int .i64 0, .bool false, .int .i64 0] 30)
    rw [World.size_alloc] at g
    exact g
  · have g := OwnB.new ((w.alloc zTokObj).alloc (.cells #[.int .i64 4, .string ⟨#[]⟩, .int .i64 0, .bool false, .int .i64 0] 30)) (w.heap.size + 2) (by simp) [] (by simp) #[] rfl 0 rfl
    rw [World.size_alloc, World.size_alloc] at g
    exact g

theorem tok_text {s : ByteArray} {i : Nat} (h : Lex.bAt s i = 34) : Lex.tokAt s i = if Lex.bAt s (Lex.txtEnd s (i + 1)) = 34 then some (⟨4, ⟨(Lex.txtVal s (i + 1)).toArray⟩, 0⟩, Lex.txtEnd s (i + 1) + 1) else none := by
  unfold Lex.tokAt
  rw [if_neg (by rw [h]; decide), if_neg (by rw [h]; decide), if_pos h]

set_option maxHeartbeats 8000000 in
set_option maxRecDepth 100000 in
theorem sText (s : ByteArray) (L i : Nat) (line : Bool) (w : World) (hs : s.size ≤ 4000) (hi : i < s.size) (h34 : Lex.bAt s i = 34) (hL : LexAt w L s i line) :
    Calls Tryd.prog 45 #[.pointer (some ⟨L, 0, none⟩)] w fun e w' => SRes s i L line e w' ∧ Keep L w w' := by
  obtain ⟨c0, c1, c2, f1, f2⟩ := hL.cells
  have hlt := hL.lt
  have HL : Hid (LexAt w L s i line) := hL
  have HT : Hid (Lex.tokAt s i = if Lex.bAt s (Lex.txtEnd s (i + 1)) = 34 then some (⟨4, ⟨(Lex.txtVal s (i + 1)).toArray⟩, 0⟩, Lex.txtEnd s (i + 1) + 1) else none) := tok_text h34
  have d1 : ∀ o1 o2 o3, (((w.alloc o1).alloc o2).alloc o3).cell? ⟨L, 1, none⟩ = some (.int .i64 i) := fun o1 o2 o3 => (((hL.alloc o1).alloc o2).alloc o3).cells.2.1
  have d2 : ∀ o1 o2 o3, (((w.alloc o1).alloc o2).alloc o3).frozen? ⟨L, 1, none⟩ = false := fun o1 o2 o3 => (((hL.alloc o1).alloc o2).alloc o3).cells.2.2.2.1
  clear hL h34
  go_enter Tryd.func45, Tryd.ntmps45
  go_wp2_with fail
  go_loopw [5] (fun v wr => ∃ (j : Nat) (acc : List UInt8), i + 1 ≤ j ∧ j ≤ s.size ∧ acc.length ≤ j ∧ XSt wr w L s j line v acc ∧ Hid (Lex.txtEnd s j = Lex.txtEnd s (i + 1)) ∧ Hid (acc ++ Lex.txtVal s j = Lex.txtVal s (i + 1))) (fun _ wr => s.size - posOf wr L)
  case atStart => exact ⟨i + 1, [], Nat.le_refl _, by omega, by simp, (xst_start HL.out).bump hlt, rfl, rfl⟩
  case round =>
    obtain ⟨j, acc, hij, hj, hal, st, HE, HA⟩ := hrel
    clear c0 c1 c2 f1 f2 d1 d2
    obtain ⟨⟨c0, c1, c2, f1, f2⟩, ⟨⟨t0, t1, t2, t3, t4⟩, g0, g1, g2, g3, g4⟩, ⟨⟨r0, r1, r2, r3, r4⟩, q0, q1, q2, q3, q4⟩⟩ := st.cells hlt
    have hlex := st.1
    by_cases hjs : j < s.size
    · have hjs' : (j : Int) < (s.size : Int) := by omega
      have HB : Hid (Lex.bAt s j = (s[j].toNat : Int)) := Lex.bAt_in s j hjs
      go_wp2_with fail
      go_quiet (fail)
      have st1 := st.drewN nq
      clear c0 c1 c2 f1 f2 t0 t1 t2 t3 t4 g0 g1 g2 g3 g4 r0 r1 r2 r3 r4 q0 q1 q2 q3 q4
      generalize wr.drewN nq = W1 at st1 ⊢
      obtain ⟨⟨c0, c1, c2, f1, f2⟩, ⟨⟨t0, t1, t2, t3, t4⟩, g0, g1, g2, g3, g4⟩, ⟨⟨r0, r1, r2, r3, r4⟩, q0, q1, q2, q3, q4⟩⟩ := st1.cells hlt
      go_wp2_with fail
      go_quiet (fail)
      have st2 := st1.drewN nq
      clear c0 c1 c2 f1 f2 t0 t1 t2 t3 t4 g0 g1 g2 g3 g4 r0 r1 r2 r3 r4 q0 q1 q2 q3 q4
      generalize W1.drewN nq = W2 at st2 ⊢
      obtain ⟨⟨c0, c1, c2, f1, f2⟩, ⟨⟨t0, t1, t2, t3, t4⟩, g0, g1, g2, g3, g4⟩, ⟨⟨r0, r1, r2, r3, r4⟩, q0, q1, q2, q3, q4⟩⟩ := st2.cells hlt
      by_cases e34 : (s[j].toNat : Int) = 34
      · have b34 : ((s[j].toNat : Int) == 34) = true := beq_iff_eq.2 e34
        have hE : Lex.txtEnd s (i + 1) = j := by rw [← HE.out]; exact Lex.txtEnd_no s j (Lex.stepT_quo s j (by rw [HB.out]; exact e34))
        have hv : Lex.txtVal s (i + 1) = acc := by rw [← HA.out, Lex.txtVal_no s j (Lex.stepT_quo s j (by rw [HB.out]; exact e34)), List.append_nil]
        have HY : Hid (Lex.tokAt s i = some (⟨4, ⟨acc.toArray⟩, 0⟩, j + 1)) := by
          show _ = _
          rw [HT.out, hE, if_pos (by rw [HB.out]; exact e34), hv]
        have hcv := fun h => conv_own (w := W2.setCell ⟨L, 1, none⟩ (.int .i64 ((j : Int) + 1))) (B := w.heap.size + 2) (v := u5) (l := acc) h
        have hcv2 := hcv (st2.2.2.2.set (by omega) _ _)
        clear hE hv e34 hcv
        go_wp2_with fail
        refine bodyPost_ret (v := .tuple #[.agg #[.int .i64 4, .string ⟨acc.toArray⟩, .int .i64 0, .bool false, .int .i64 0], .bool true]) (by simp [results, Tryd.results45, go_sem, r0, r1, r2, r3, r4]) rfl ⟨SRes.yes HY.out rfl ?_, ?_⟩
        · exact five_lex0 ((bump st2.1).other (by omega) _ _) (by omega) _ _ _ _ _
        · exact five_keep0 (((((Keep.refl L w).alloc _).trans st2.2.2.1).set _ _).setNew (by omega) _ _) (Nat.le_refl _) _ _ _ _ _
      have b34 : ((s[j].toNat : Int) == 34) = false := beq_eq_false_iff_ne.2 e34
      by_cases e1 : (s[j].toNat : Int) < 32
      · have HNo : Hid (Lex.tokAt s i = none) := by
          show _ = _
          rw [HT.out, if_neg]
          rw [← HE.out, Lex.txtEnd_no s j (Lex.stepT_bad s j (by rw [HB.out]; simp [Lex.txtB]; omega))]
          rw [HB.out]; omega
        go_wp2_with fail
        refine bodyPost_ret (v := .tuple #[.agg #[.int .i64 4, .string ⟨#[]⟩, .int .i64 0, .bool false, .int .i64 0], .bool false]) (by simp [results, Tryd.results45, go_sem, r0, r1, r2, r3, r4]) rfl ⟨SRes.no HNo.out _ _ _ _ _, ?_⟩
        exact five_keep0 (((Keep.refl L w).alloc _).trans st2.2.2.1) (Nat.le_refl _) _ _ _ _ _
      by_cases e2 : 126 < (s[j].toNat : Int)
      · have HNo : Hid (Lex.tokAt s i = none) := by
          show _ = _
          rw [HT.out, if_neg]
          rw [← HE.out, Lex.txtEnd_no s j (Lex.stepT_bad s j (by rw [HB.out]; simp [Lex.txtB]; omega))]
          rw [HB.out]; omega
        go_wp2_with fail
        refine bodyPost_ret (v := .tuple #[.agg #[.int .i64 4, .string ⟨#[]⟩, .int .i64 0, .bool false, .int .i64 0], .bool false]) (by simp [results, Tryd.results45, go_sem, r0, r1, r2, r3, r4]) rfl ⟨SRes.no HNo.out _ _ _ _ _, ?_⟩
        exact five_keep0 (((Keep.refl L w).alloc _).trans st2.2.2.1) (Nat.le_refl _) _ _ _ _ _
      by_cases e92 : (s[j].toNat : Int) = 92
      · have b92 : ((s[j].toNat : Int) == 92) = true := beq_iff_eq.2 e92
        have HB92 : Hid (Lex.bAt s j = 92) := by show _ = _; rw [HB.out]; exact e92
        clear e92
        go_wp2_with fail
        have st3 := st2.bump hlt
        clear c0 c1 c2 f1 f2 t0 t1 t2 t3 t4 g0 g1 g2 g3 g4 r0 r1 r2 r3 r4 q0 q1 q2 q3 q4
        generalize W2.setCell ⟨L, 1, none⟩ (.int .i64 ((j : Int) + 1)) = W3 at st3 ⊢
        obtain ⟨⟨c0, c1, c2, f1, f2⟩, ⟨⟨t0, t1, t2, t3, t4⟩, g0, g1, g2, g3, g4⟩, ⟨⟨r0, r1, r2, r3, r4⟩, q0, q1, q2, q3, q4⟩⟩ := st3.cells hlt
        by_cases e3 : j + 1 < s.size
        · have e3' : decide ((s.size : Int) ≤ (j : Int) + 1) = false := by simp; omega
          have hix := idx_str s (j + 1) e3 ((j : Int) + 1) (by omega)
          have HB1 : Hid (Lex.bAt s (j + 1) = (s[j + 1].toNat : Int)) := Lex.bAt_in s (j + 1) e3
          go_wp2_with fail
          go_quiet (fail)
          have st4 := st3.drewN nq
          clear c0 c1 c2 f1 f2 t0 t1 t2 t3 t4 g0 g1 g2 g3 g4 r0 r1 r2 r3 r4 q0 q1 q2 q3 q4
          generalize W3.drewN nq = W4 at st4 ⊢
          obtain ⟨⟨c0, c1, c2, f1, f2⟩, ⟨⟨t0, t1, t2, t3, t4⟩, g0, g1, g2, g3, g4⟩, ⟨⟨r0, r1, r2, r3, r4⟩, q0, q1, q2, q3, q4⟩⟩ := st4.cells hlt
          go_wp2_with fail
          go_quiet (fail)
          have st5 := st4.drewN nq
          clear c0 c1 c2 f1 f2 t0 t1 t2 t3 t4 g0 g1 g2 g3 g4 r0 r1 r2 r3 r4 q0 q1 q2 q3 q4
          generalize W4.drewN nq = W5 at st5 ⊢
          obtain ⟨⟨c0, c1, c2, f1, f2⟩, ⟨⟨t0, t1, t2, t3, t4⟩, g0, g1, g2, g3, g4⟩, ⟨⟨r0, r1, r2, r3, r4⟩, q0, q1, q2, q3, q4⟩⟩ := st5.cells hlt
          have hsz5 := st5.size
          by_cases m1 : (s[j + 1].toNat : Int) = 92
          · have hst : Lex.stepT s j = 2 := Lex.stepT_two s j HB92.out (by rw [HB1.out, m1]; decide)
            have hvv : Lex.hidV s j = s[j + 1] := u8_eq (by rw [hidV_b s j HB92.out, HB1.out, m1]; first | decide | (rw [m1]; decide))
            have HE' : Hid (Lex.txtEnd s (j + 2) = Lex.txtEnd s (i + 1)) := by show _ = _; rw [← HE.out, Lex.txtEnd_yes s j (by omega), hst]
            have HA' : Hid (acc ++ [s[j + 1]] ++ Lex.txtVal s (j + 2) = Lex.txtVal s (i + 1)) := by show _ = _; refine txt_step HA.out ?_; rw [Lex.txtVal_yes s j (by omega), hst, hvv]
            have x1 : ((s[j + 1].toNat : Int) != 92) = false := by simp [m1]
            have x2 : ((s[j + 1].toNat : Int) == 110) = false := beq_eq_false_iff_ne.2 (by omega)
            clear hst hvv m1
            go_wp2_with (first | (at_builtin; refine app_own rfl _ _ rfl (w.heap.size + 2) _ _ rfl (st5.2.2.2.alloc _) ⟨W5.heap.size, 0, none⟩ 1 [s[j + 1]] rfl rfl (fun j u h => new_cells W5 _ _ j u h) (by omega) (by simp; omega) ?_; intro v' w1 hown' hbel'; have st9 := st5.app hlt hbel' hown'; obtain ⟨⟨a0, a1, a2, k1, k2⟩, _, _⟩ := st9.cells hlt))
            exact ⟨⟨j + 2, acc ++ [s[j + 1]], by omega, by omega, by simp; omega, st9.bump hlt, HE', HA'⟩, down hlex (st9.bump hlt).1 (by omega) hjs⟩
          have x1 : ((s[j + 1].toNat : Int) != 92) = true := by simpa using m1
          by_cases m2 : (s[j + 1].toNat : Int) = 34
          · have hst : Lex.stepT s j = 2 := Lex.stepT_two s j HB92.out (by rw [HB1.out, m2]; decide)
            have hvv : Lex.hidV s j = s[j + 1] := u8_eq (by rw [hidV_b s j HB92.out, HB1.out, m2]; first | decide | (rw [m2]; decide))
            have HE' : Hid (Lex.txtEnd s (j + 2) = Lex.txtEnd s (i + 1)) := by show _ = _; rw [← HE.out, Lex.txtEnd_yes s j (by omega), hst]
            have HA' : Hid (acc ++ [s[j + 1]] ++ Lex.txtVal s (j + 2) = Lex.txtVal s (i + 1)) := by show _ = _; refine txt_step HA.out ?_; rw [Lex.txtVal_yes s j (by omega), hst, hvv]
            have x3 : ((s[j + 1].toNat : Int) != 34) = false := by simp [m2]
            have x2 : ((s[j + 1].toNat : Int) == 110) = false := beq_eq_false_iff_ne.2 (by omega)
            clear hst hvv m2
            go_wp2_with (first | (at_builtin; refine app_own rfl _ _ rfl (w.heap.size + 2) _ _ rfl (st5.2.2.2.alloc _) ⟨W5.heap.size, 0, none⟩ 1 [s[j + 1]] rfl rfl (fun j u h => new_cells W5 _ _ j u h) (by omega) (by simp; omega) ?_; intro v' w1 hown' hbel'; have st9 := st5.app hlt hbel' hown'; obtain ⟨⟨a0, a1, a2, k1, k2⟩, _, _⟩ := st9.cells hlt))
            exact ⟨⟨j + 2, acc ++ [s[j + 1]], by omega, by omega, by simp; omega, st9.bump hlt, HE', HA'⟩, down hlex (st9.bump hlt).1 (by omega) hjs⟩
          have x3 : ((s[j + 1].toNat : Int) != 34) = true := by simpa using m2
          by_cases m3 : (s[j + 1].toNat : Int) = 110
          · have hst : Lex.stepT s j = 2 := Lex.stepT_two s j HB92.out (by rw [HB1.out, m3]; decide)
            have hvv : Lex.hidV s j = 10 := u8_eq (by rw [hidV_b s j HB92.out, HB1.out, m3]; first | decide | (rw [m3]; decide))
            have HE' : Hid (Lex.txtEnd s (j + 2) = Lex.txtEnd s (i + 1)) := by show _ = _; rw [← HE.out, Lex.txtEnd_yes s j (by omega), hst]
            have HA' : Hid (acc ++ [10] ++ Lex.txtVal s (j + 2) = Lex.txtVal s (i + 1)) := by show _ = _; refine txt_step HA.out ?_; rw [Lex.txtVal_yes s j (by omega), hst, hvv]
            have x4 : ((s[j + 1].toNat : Int) != 110) = false := by simp [m3]
            have x2 : ((s[j + 1].toNat : Int) == 110) = true := beq_iff_eq.2 m3
            clear hst hvv m3
            go_wp2_with (first | (at_builtin; refine app_own rfl _ _ rfl (w.heap.size + 2) _ _ rfl (st5.2.2.2.alloc _) ⟨W5.heap.size, 0, none⟩ 1 [10] rfl rfl (fun j u h => new_cells W5 _ _ j u h) (by omega) (by simp; omega) ?_; intro v' w1 hown' hbel'; have st9 := st5.app hlt hbel' hown'; obtain ⟨⟨a0, a1, a2, k1, k2⟩, _, _⟩ := st9.cells hlt))
            exact ⟨⟨j + 2, acc ++ [10], by omega, by omega, by simp; omega, st9.bump hlt, HE', HA'⟩, down hlex (st9.bump hlt).1 (by omega) hjs⟩
          have x4 : ((s[j + 1].toNat : Int) != 110) = true := by simpa using m3
          have HNo : Hid (Lex.tokAt s i = none) := by
            show _ = _
            rw [HT.out, if_neg]
            rw [← HE.out, Lex.txtEnd_no s j (Lex.stepT_hid s j HB92.out (by rw [HB1.out]; unfold Lex.hidB; rw [if_neg (by omega), if_neg m3]))]
            rw [HB92.out]; decide
          go_wp2_with fail
          refine bodyPost_ret (v := .tuple #[.agg #[.int .i64 4, .string ⟨#[]⟩, .int .i64 0, .bool false, .int .i64 0], .bool false]) (by simp [results, Tryd.results45, go_sem, r0, r1, r2, r3, r4]) rfl ⟨SRes.no HNo.out _ _ _ _ _, ?_⟩
          exact five_keep0 (((Keep.refl L w).alloc _).trans st5.2.2.1) (Nat.le_refl _) _ _ _ _ _
        · have e3' : (s.size : Int) ≤ (j : Int) + 1 := by omega
          have HNo : Hid (Lex.tokAt s i = none) := by
            show _ = _
            rw [HT.out, if_neg]
            rw [← HE.out, Lex.txtEnd_no s j (Lex.stepT_hid s j HB92.out (by rw [Lex.bAt_out s _ e3]; decide))]
            rw [HB92.out]; decide
          go_wp2_with fail
          go_quiet (fail)
          have st4 := st3.drewN nq
          clear c0 c1 c2 f1 f2 t0 t1 t2 t3 t4 g0 g1 g2 g3 g4 r0 r1 r2 r3 r4 q0 q1 q2 q3 q4
          generalize W3.drewN nq = W4 at st4 ⊢
          obtain ⟨⟨c0, c1, c2, f1, f2⟩, ⟨⟨t0, t1, t2, t3, t4⟩, g0, g1, g2, g3, g4⟩, ⟨⟨r0, r1, r2, r3, r4⟩, q0, q1, q2, q3, q4⟩⟩ := st4.cells hlt
          go_wp2_with fail
          refine bodyPost_ret (v := .tuple #[.agg #[.int .i64 4, .string ⟨#[]⟩, .int .i64 0, .bool false, .int .i64 0], .bool false]) (by simp [results, Tryd.results45, go_sem, r0, r1, r2, r3, r4]) rfl ⟨SRes.no HNo.out _ _ _ _ _, ?_⟩
          exact five_keep0 (((Keep.refl L w).alloc _).trans st4.2.2.1) (Nat.le_refl _) _ _ _ _ _
      · have b92 : ((s[j].toNat : Int) == 92) = false := beq_eq_false_iff_ne.2 e92
        have hst : Lex.stepT s j = 1 := Lex.stepT_one s j (by rw [HB.out]; exact e92) (by rw [HB.out]; exact e34) (by rw [HB.out]; simp [Lex.txtB]; omega)
        have hvv : Lex.hidV s j = s[j] := u8_eq (by rw [hidV_p s j (by rw [HB.out]; exact e92), HB.out])
        have HE' : Hid (Lex.txtEnd s (j + 1) = Lex.txtEnd s (i + 1)) := by show _ = _; rw [← HE.out, Lex.txtEnd_yes s j (by omega), hst]
        have HA' : Hid (acc ++ [s[j]] ++ Lex.txtVal s (j + 1) = Lex.txtVal s (i + 1)) := by show _ = _; refine txt_step HA.out ?_; rw [Lex.txtVal_yes s j (by omega), hst, hvv]
        have hsz2 := st2.size
        clear hst hvv e92 e34
        go_wp2_with (first | (at_builtin; refine app_own rfl _ _ rfl (w.heap.size + 2) _ _ rfl (st2.2.2.2.alloc _) ⟨W2.heap.size, 0, none⟩ 1 [s[j]] rfl rfl (fun j u h => new_cells W2 _ _ j u h) (by omega) (by simp; omega) ?_; intro v' w1 hown' hbel'; have st9 := st2.app hlt hbel' hown'; obtain ⟨⟨a0, a1, a2, k1, k2⟩, _, _⟩ := st9.cells hlt))
        exact ⟨⟨j + 1, acc ++ [s[j]], by omega, by omega, by simp; omega, st9.bump hlt, HE', HA'⟩, down hlex (st9.bump hlt).1 (by omega) hjs⟩
    · have hjs' : decide (j < s.size) = false := by simp; omega
      have HNo : Hid (Lex.tokAt s i = none) := by
        show _ = _
        rw [HT.out, if_neg]
        rw [← HE.out, Lex.txtEnd_no s j (Lex.stepT_bad s j (by rw [Lex.bAt_out s j hjs]; decide))]
        rw [Lex.bAt_out s j hjs]; decide
      go_wp2_with fail
      go_quiet (fail)
      have st1 := st.drewN nq
      clear c0 c1 c2 f1 f2 t0 t1 t2 t3 t4 g0 g1 g2 g3 g4 r0 r1 r2 r3 r4 q0 q1 q2 q3 q4
      generalize wr.drewN nq = W1 at st1 ⊢
      obtain ⟨⟨c0, c1, c2, f1, f2⟩, ⟨⟨t0, t1, t2, t3, t4⟩, g0, g1, g2, g3, g4⟩, ⟨⟨r0, r1, r2, r3, r4⟩, q0, q1, q2, q3, q4⟩⟩ := st1.cells hlt
      go_wp2_with fail
      refine bodyPost_ret (v := .tuple #[.agg #[.int .i64 4, .string ⟨#[]⟩, .int .i64 0, .bool false, .int .i64 0], .bool false]) (by simp [results, Tryd.results45, go_sem, r0, r1, r2, r3, r4]) rfl ⟨SRes.no HNo.out _ _ _ _ _, ?_⟩
      exact five_keep0 (((Keep.refl L w).alloc _).trans st1.2.2.1) (Nat.le_refl _) _ _ _ _ _

end Go.Proofs.YtpabbadngpjgoaaDoor

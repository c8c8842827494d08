/-
  The walk of the specification's Tokens.
-/
import Derived.Test.YtpabbadngpjgoaaDoorSpecT
import Derived.Test.YtpabbadngpjgoaaDoorOutR
namespace Go.Proofs.YtpabbadngpjgoaaDoor
open Go.RowKit

theorem cells3 {wr : World} {R : Nat} {a b c : Value} {t : TypeId} (h : wr.heap[R]? = some (.cells #[a, b, c] t (0, 0))) :
    (wr.cell? ⟨R, 0, none⟩ = some a ∧ wr.cell? ⟨R, 1, none⟩ = some b ∧ wr.cell? ⟨R, 2, none⟩ = some c) ∧ wr.frozen? ⟨R, 0, none⟩ = false ∧ wr.frozen? ⟨R, 1, none⟩ = false ∧ wr.frozen? ⟨R, 2, none⟩ = false := by
  simp [World.cell?, World.frozen?, h]

/-- The state of Tokens' walk: the result's cell, the lexer, what is gathered, its tokens. -/
def USt (wr w : World) (s : ByteArray) (i : Nat) (l : Bool) (v : Value) (acc : List Lex.TokF) : Prop :=
  LexAt wr (w.heap.size + 1) s i l ∧
  wr.heap[w.heap.size + 2]? = some (.cells #[v, .int .i64 0, .int .i64 0] 27 (0, 0)) ∧
  wr.heap[w.heap.size]? = some (.cells #[.slice none 0 0, .int .i64 0, .int .i64 0] 27 (0, 0)) ∧
  OwnT wr (w.heap.size + 3) v acc ∧ Below w.heap.size w wr
section
variable {wr w w1 : World} {s : ByteArray} {i : Nat} {l : Bool} {v : Value} {acc : List Lex.TokF}
theorem USt.size (h : USt wr w s i l v acc) : w.heap.size + 3 ≤ wr.heap.size := by
  have := (Array.getElem?_eq_some_iff.1 h.2.1).1; omega
theorem USt.line (h : USt wr w s i l v acc) (l' : Bool) : USt (wr.setCell ⟨w.heap.size + 1, 2, none⟩ (.bool l')) w s i l' v acc := by
  refine ⟨h.1.line l', ?_, ?_, h.2.2.2.1.set (by omega) _ _, h.2.2.2.2.setCell (by show w.heap.size ≤ w.heap.size + 1; omega) _⟩
  · exact (Below.heap_setCell wr ⟨w.heap.size + 1, 2, none⟩ _ (w.heap.size + 2) (by show w.heap.size + 2 ≠ w.heap.size + 1; omega)).trans h.2.1
  · exact (Below.heap_setCell wr ⟨w.heap.size + 1, 2, none⟩ _ w.heap.size (by show w.heap.size ≠ w.heap.size + 1; omega)).trans h.2.2.1
theorem USt.keep {i' : Nat} {l' : Bool} (h : USt wr w s i l v acc) (hk : Keep (w.heap.size + 1) wr w1) (hl : LexAt w1 (w.heap.size + 1) s i' l') : USt w1 w s i' l' v acc := by
  have hsz := h.size
  refine ⟨hl, ?_, ?_, ?_, ?_⟩
  · rw [hk.block _ (by omega) (by omega)]; exact h.2.1
  · rw [hk.block _ (by omega) (by omega)]; exact h.2.2.1
  · refine ⟨h.2.2.2.1.1, ?_⟩
    rcases h.2.2.2.1.2 with hn | ⟨g, cap, cur, rfl, hb, hg, rest⟩
    · exact .inl hn
    · exact .inr ⟨g, cap, cur, rfl, hb, (hk.block g (Array.getElem?_eq_some_iff.1 hg).1 (by omega)).trans hg, rest⟩
  · have hb := h.2.2.2.2
    exact ⟨hk.os.trans hb.os, hk.tape.trans hb.tape, hk.output.trans hb.output, Nat.le_trans hb.size hk.size, fun k hkk => (hk.block k (by omega) (by omega)).trans (hb.block k hkk)⟩
theorem USt.alloc (h : USt wr w s i l v acc) (o : Obj) : USt (wr.alloc o) w s i l v acc := by
  have hsz := h.size
  refine ⟨h.1.alloc o, ?_, ?_, h.2.2.2.1.alloc o, h.2.2.2.2.alloc (by omega) o⟩
  · rw [Below.heap_alloc wr o _ (by omega)]; exact h.2.1
  · rw [Below.heap_alloc wr o _ (by omega)]; exact h.2.2.1
/-- Behind an append: the slice has been grown, its value is not yet laid into the cell. -/
def UMid (wr w : World) (s : ByteArray) (i : Nat) (l : Bool) (v v' : Value) (acc : List Lex.TokF) : Prop :=
  LexAt wr (w.heap.size + 1) s i l ∧
  wr.heap[w.heap.size + 2]? = some (.cells #[v, .int .i64 0, .int .i64 0] 27 (0, 0)) ∧
  wr.heap[w.heap.size]? = some (.cells #[.slice none 0 0, .int .i64 0, .int .i64 0] 27 (0, 0)) ∧
  OwnT wr (w.heap.size + 3) v' acc ∧ Below w.heap.size w wr
theorem USt.app {v' : Value} {acc' : List Lex.TokF} (h : USt wr w s i l v acc) (hb : Below (w.heap.size + 3) wr w1) (ho : OwnT w1 (w.heap.size + 3) v' acc') : UMid w1 w s i l v v' acc' := by
  refine ⟨h.1.below hb (by omega), ?_, ?_, ho, h.2.2.2.2.trans (hb.mono (by omega))⟩
  · rw [hb.block _ (by omega)]; exact h.2.1
  · rw [hb.block _ (by omega)]; exact h.2.2.1
theorem UMid.put {v' : Value} (h : UMid wr w s i l v v' acc) : USt (wr.setCell ⟨w.heap.size + 2, 0, none⟩ v') w s i l v' acc := by
  refine ⟨h.1.other (by omega) _ _, ?_, ?_, h.2.2.2.1.set (by omega) _ _, h.2.2.2.2.setCell (by show w.heap.size ≤ w.heap.size + 2; omega) _⟩
  · have := h.2.1
    simp [World.setCell, Array.getElem?_modify, this]
  · exact (Below.heap_setCell wr ⟨w.heap.size + 2, 0, none⟩ _ w.heap.size (by show w.heap.size ≠ w.heap.size + 2; omega)).trans h.2.2.1
end
theorem USt.start (w : World) (s : ByteArray) : USt (((w.alloc outR0).alloc (.cells #[.string s, .int .i64 0, .bool false] 53)).alloc outR0) w s 0 false (.slice none 0 0) [] := by
  have e1 : ∀ o : Obj, ((w.alloc outR0).alloc o).heap.size = w.heap.size + 2 := fun o => by rw [World.size_alloc, World.size_alloc]
  refine ⟨?_, ?_, ?_, OwnT.nil _ _, (((Below.refl _ _).alloc (Nat.le_refl _) _).alloc (by simp) _).alloc (by rw [e1]; omega) _⟩
  · unfold LexAt
    rw [Below.heap_alloc _ _ _ (by rw [e1]; omega)]
    have g := heap_alloc_new (w.alloc outR0) (.cells #[.string s, .int .i64 0, .bool false] 53)
    rw [World.size_alloc] at g
    exact g
  · have g := heap_alloc_new ((w.alloc outR0).alloc (.cells #[.string s, .int .i64 0, .bool false] 53)) outR0
    rw [e1] at g
    exact g
  · rw [Below.heap_alloc _ _ _ (by rw [e1]; omega), Below.heap_alloc _ _ _ (by simp)]
    exact heap_alloc_new w outR0

set_option maxHeartbeats 1500000 in
set_option maxRecDepth 100000 in
theorem sTokens (s : ByteArray) (w : World) (hs : s.size ≤ maxLen) :
    Calls Tryd.prog 10 #[.string s] w fun e w' => ∃ v, e = .returned (.agg #[v, .int .i64 (Lex.lexOut s).at', .int .i64 (Lex.lexOut s).code]) ∧ OwnT w' w.heap.size v (Lex.lexOut s).toks ∧ Below w.heap.size w w' := by
  unfold maxLen at hs
  by_cases hbig : 4000 < s.size
  · rw [Lex.lexOut_big s hbig]
    go_enter Tryd.func10, Tryd.ntmps10
    go_wp2_with fail
    refine bodyPost_ret (v := .agg #[.slice none 0 0, .int .i64 0, .int .i64 2]) (by simp [results, Tryd.results10, go_sem]) rfl ⟨_, rfl, OwnT.nil _ _, ?_⟩
    exact (Below.refl _ _).alloc (Nat.le_refl _) _
  clear hs
  have hs : s.size ≤ 4000 := by omega
  rw [Lex.lexOut_small s hbig]
  have hd : decide (4000 < (s.size : Int)) = false := by simp; omega
  clear hbig
  obtain ⟨out, hout⟩ : ∃ out, out = Lex.lexFrom s 0 [] := ⟨_, rfl⟩
  rw [← hout]
  have HO : Hid (out = Lex.lexFrom s 0 []) := hout
  clear hout
  go_enter Tryd.func10, Tryd.ntmps10
  go_wp2_with fail
  go_loopw [5] (fun _ wr => ∃ (i : Nat) (l : Bool) (v : Value) (acc : List Lex.TokF), i ≤ s.size ∧ acc.length ≤ 600 ∧ USt wr w s i l v acc ∧ Hid (Lex.lexFrom s i acc = out)) (fun _ wr => s.size - posOf wr (w.heap.size + 1))
  case atStart => exact ⟨0, false, _, [], Nat.zero_le _, by simp, USt.start w s, HO.out.symm⟩
  case round =>
    obtain ⟨i, l, v, acc, hi, hacc, st, HX⟩ := hrel
    obtain ⟨p, line, hp⟩ : ∃ p line, Lex.skipTo s i false false = (p, line) := ⟨_, _, rfl⟩
    have hpb := Lex.skip_bd s i false false hi
    rw [hp] at hpb
    obtain ⟨hp1, hp2⟩ := hpb
    have HP : Hid (Lex.skipTo s i false false = (p, line)) := hp
    clear hp
    obtain ⟨a0, cap0, hv⟩ := st.2.2.2.1.shape
    subst hv
    have hlex := st.1
    obtain ⟨c0, c1, c2, f1, f2⟩ := st.1.cells
    go_wp2_with fail
    have st1 := st.line false
    clear c0 c1 c2 f1 f2
    generalize wr.setCell ⟨w.heap.size + 1, 2, none⟩ (.bool false) = W1 at st1 ⊢
    have SK := sSkip s (w.heap.size + 1) i false W1 hs hi st1.1
    rw [HP.out] at SK
    refine SK.mono ?_
    rintro e w2 ⟨rfl, hl2, hk2⟩
    clear SK
    have st2 := st1.keep hk2 hl2
    clear hl2 hk2
    have hsz2 := st2.size
    obtain ⟨c0, c1, c2, f1, f2⟩ := st2.1.cells
    obtain ⟨⟨o0, o1, o2⟩, x0, x1, x2⟩ := cells3 st2.2.1
    obtain ⟨⟨r0, r1, r2⟩, y0, y1, y2⟩ := cells3 st2.2.2.1
    by_cases hend : s.size ≤ p
    · have hend' : (s.size : Int) ≤ (p : Int) := by omega
      have HF : Hid (out = ⟨acc ++ [⟨6, ⟨#[]⟩, 0, line, p⟩], 0, 0⟩) := by show _ = _; rw [← HX.out]; exact Lex.lex_end s i acc p line HP.out hend
      go_wp2_with (first | (at_builtin; refine app_tok rfl _ _ rfl (w.heap.size + 3) _ _ rfl (st2.2.2.2.1.alloc _) ⟨w2.heap.size, 0, none⟩ ⟨6, ⟨#[]⟩, 0, line, p⟩ rfl (fun j u h => new_cells w2 _ _ j u h) (by omega) (by simp; omega) ?_; intro v' w3 hown' hbel'; obtain ⟨a1, cap1, hv1⟩ := hown'.shape; rw [List.length_append, List.length_singleton] at hv1; subst hv1; have st3 := (st2.alloc _).app hbel' hown'; obtain ⟨⟨o0, o1, o2⟩, x0, x1, x2⟩ := cells3 st3.2.1; obtain ⟨⟨r0, r1, r2⟩, y0, y1, y2⟩ := cells3 st3.2.2.1))
      rw [HF.out]
      have st4 := st3.put
      refine bodyPost_ret (v := .agg #[.slice a1 (acc.length + 1) cap1, .int .i64 0, .int .i64 0]) (by simp [results, Tryd.results10, go_sem, r0, r1, r2]) rfl ⟨_, rfl, ?_, ?_⟩
      · exact (((st4.2.2.2.1.set (by omega) _ _).set (by omega) _ _).set (by omega) _ _).base (by omega)
      · exact three_set st4.2.2.2.2 (Nat.le_refl _) _ _ _
    · have hend' : decide ((s.size : Int) ≤ (p : Int)) = false := by simp; omega
      have hend2 : decide (s.size ≤ p) = false := by simp; omega
      have NX := sNext s (w.heap.size + 1) p line w2 hs (by omega) st2.1
      have HNX : Hid (Calls Tryd.prog 26 #[.pointer (some ⟨w.heap.size + 1, 0, none⟩)] w2 fun e w' => SRes s p (w.heap.size + 1) line e w' ∧ Keep (w.heap.size + 1) w2 w') := NX
      clear NX
      go_wp2_with fail
      refine HNX.out.mono ?_
      rintro e w3 ⟨hres, hk3⟩
      clear c0 c1 c2 f1 f2 o0 o1 o2 x0 x1 x2 r0 r1 r2 y0 y1 y2
      cases hto : Lex.tokAt s p with
      | none =>
        obtain ⟨k, t, n, lb, a, rfl⟩ := hres.2 hto
        have HF : Hid (out = ⟨[], p, 3⟩) := by show _ = _; rw [← HX.out]; exact Lex.lex_none s i acc p line HP.out hend hto
        have hr0 : w3.heap[w.heap.size]? = some (.cells #[.slice none 0 0, .int .i64 0, .int .i64 0] 27 (0, 0)) := by rw [hk3.block _ (by omega) (by omega)]; exact st2.2.2.1
        have hbel3 : Below w.heap.size w w3 := ⟨hk3.os.trans st2.2.2.2.2.os, hk3.tape.trans st2.2.2.2.2.tape, hk3.output.trans st2.2.2.2.2.output, Nat.le_trans st2.2.2.2.2.size hk3.size, fun q hq => (hk3.block q (by omega) (by omega)).trans (st2.2.2.2.2.block q hq)⟩
        have hsz3 : w.heap.size + 3 ≤ w3.heap.size := by have := hk3.size; omega
        obtain ⟨⟨r0, r1, r2⟩, y0, y1, y2⟩ := cells3 hr0
        have A : ∀ o, ((w3.alloc o).cell? ⟨w.heap.size, 0, none⟩ = some (.slice none 0 0) ∧ (w3.alloc o).cell? ⟨w.heap.size, 1, none⟩ = some (.int .i64 0) ∧ (w3.alloc o).cell? ⟨w.heap.size, 2, none⟩ = some (.int .i64 0)) ∧ (w3.alloc o).frozen? ⟨w.heap.size, 0, none⟩ = false ∧ (w3.alloc o).frozen? ⟨w.heap.size, 1, none⟩ = false ∧ (w3.alloc o).frozen? ⟨w.heap.size, 2, none⟩ = false := fun o => cells3 ((Below.heap_alloc w3 o _ (by omega)).trans hr0)
        have ar0 := fun o => (A o).1.1
        have ar1 := fun o => (A o).1.2.1
        have ar2 := fun o => (A o).1.2.2
        have ay0 := fun o => (A o).2.1
        have ay1 := fun o => (A o).2.2.1
        have ay2 := fun o => (A o).2.2.2
        clear hto hres A
        go_wp2_with fail
        rw [HF.out]
        refine bodyPost_ret (v := .agg #[.slice none 0 0, .int .i64 p, .int .i64 3]) (by simp [results, Tryd.results10, go_sem, ar0, ar1, ar2]) rfl ⟨_, rfl, OwnT.nil _ _, ?_⟩
        exact three_set (hbel3.alloc (by omega) _) (Nat.le_refl _) _ _ _
      | some te =>
        obtain ⟨t, E⟩ := te
        obtain ⟨he, hl3⟩ := hres.1 t E hto
        have st3 := st2.keep hk3 hl3
        have hEb : p < E ∧ E ≤ s.size := by
          by_cases hk0 : Lex.teK s p = 0
          · rw [Lex.tok_none s p (by omega) hk0] at hto; cases hto
          · obtain ⟨ht, h1, h2, _⟩ := Lex.tok_some s p (by omega) hk0
            rw [ht] at hto
            have h3 := congrArg Prod.snd (Option.some.inj hto)
            simp only at h3
            omega
        obtain ⟨hE1, hE2⟩ := hEb
        have hsz3 := st3.size
        obtain ⟨⟨o0, o1, o2⟩, x0, x1, x2⟩ := cells3 st3.2.1
        obtain ⟨⟨r0, r1, r2⟩, y0, y1, y2⟩ := cells3 st3.2.2.1
        have A : ∀ o, ((w3.alloc o).cell? ⟨w.heap.size, 0, none⟩ = some (.slice none 0 0) ∧ (w3.alloc o).cell? ⟨w.heap.size, 1, none⟩ = some (.int .i64 0) ∧ (w3.alloc o).cell? ⟨w.heap.size, 2, none⟩ = some (.int .i64 0)) ∧ (w3.alloc o).frozen? ⟨w.heap.size, 0, none⟩ = false ∧ (w3.alloc o).frozen? ⟨w.heap.size, 1, none⟩ = false ∧ (w3.alloc o).frozen? ⟨w.heap.size, 2, none⟩ = false := fun o => cells3 (st3.alloc o).2.2.1
        have ar0 := fun o => (A o).1.1
        have ar1 := fun o => (A o).1.2.1
        have ar2 := fun o => (A o).1.2.2
        have ay0 := fun o => (A o).2.1
        have ay1 := fun o => (A o).2.2.1
        have ay2 := fun o => (A o).2.2.2
        have oo : ∀ o, (w3.alloc o).cell? ⟨w.heap.size + 2, 0, none⟩ = some (.slice a0 acc.length cap0) := fun o => (cells3 (st3.alloc o).2.1).1.1
        clear A
        unfold tokC at he
        subst he
        by_cases h600 : 600 ≤ acc.length
        · have b6 : 600 ≤ (acc.length : Int) := by omega
          have HF : Hid (out = ⟨[], p, 3⟩) := by show _ = _; rw [← HX.out]; exact Lex.lex_full s i acc p line HP.out hend hto h600
          clear hto hres
          go_wp2_with fail
          rw [HF.out]
          refine bodyPost_ret (v := .agg #[.slice none 0 0, .int .i64 p, .int .i64 3]) (by simp [results, Tryd.results10, go_sem, ar0, ar1, ar2]) rfl ⟨_, rfl, OwnT.nil _ _, ?_⟩
          exact three_set (st3.2.2.2.2.alloc (by omega) _) (Nat.le_refl _) _ _ _
        · have b6 : decide (600 ≤ (acc.length : Int)) = false := by simp; omega
          have b6' : decide (600 ≤ acc.length) = false := by simp; omega
          have HF : Hid (Lex.lexFrom s E (acc ++ [⟨t.kind, t.text, t.num, line, p⟩]) = out) := by
            show _ = _; rw [← HX.out]; exact (Lex.lex_step s i acc p line HP.out hend hto h600 (by omega) (by omega)).symm
          clear hto hres
          go_wp2_with (first | (at_builtin; refine app_tok rfl _ _ rfl (w.heap.size + 3) _ _ rfl ((st3.2.2.2.1.alloc _).alloc _) ⟨w3.heap.size + 1, 0, none⟩ ⟨t.kind, t.text, t.num, line, p⟩ rfl (fun j u h => new_cells2 w3 _ _ _ j u h) (by omega) (by simp; omega) ?_; intro v' w4 hown' hbel'; obtain ⟨a1, cap1, hv1⟩ := hown'.shape; rw [List.length_append, List.length_singleton] at hv1; subst hv1; have st4 := ((st3.alloc _).alloc _).app hbel' hown'; obtain ⟨⟨o0, o1, o2⟩, x0, x1, x2⟩ := cells3 st4.2.1))
          have st5 := st4.put
          exact ⟨⟨E, line, _, acc ++ [⟨t.kind, t.text, t.num, line, p⟩], by omega, by simp; omega, st5, HF⟩, down hlex st5.1 (by omega) (by omega)⟩

end Go.Proofs.YtpabbadngpjgoaaDoor

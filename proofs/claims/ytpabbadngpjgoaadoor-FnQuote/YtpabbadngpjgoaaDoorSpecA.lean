/-
  The specification's lexer in memory; the walk of skip.
-/
import Derived.Test.YtpabbadngpjgoaaDoorImplG
import Derived.Deep.QuietTactic
import Derived.BigQuiet
namespace Go.Proofs.YtpabbadngpjgoaaDoor
open Go.RowKit

/-- The lexer at block L: the text, the place, whether a line feed was met. -/
def LexAt (w : World) (L : Nat) (s : ByteArray) (p : Nat) (line : Bool) : Prop := w.heap[L]? = some (.cells #[.string s, .int .i64 p, .bool line] 53 (0, 0))

/-- Of what was there, block L alone may have turned. -/
structure Keep (L : Nat) (w w' : World) : Prop where
  os : w'.os = w.os
  tape : w'.tape = w.tape
  output : w'.output = w.output
  size : w.heap.size ≤ w'.heap.size
  block : ∀ k, k < w.heap.size → k ≠ L → w'.heap[k]? = w.heap[k]?

theorem Keep.refl (L : Nat) (w : World) : Keep L w w := ⟨rfl, rfl, rfl, Nat.le_refl _, fun _ _ _ => rfl⟩
theorem Keep.trans {L : Nat} {a b c : World} (h : Keep L a b) (k : Keep L b c) : Keep L a c :=
  ⟨k.os.trans h.os, k.tape.trans h.tape, k.output.trans h.output, Nat.le_trans h.size k.size, fun i hi hn => (k.block i (Nat.lt_of_lt_of_le hi h.size) hn).trans (h.block i hi hn)⟩
theorem Keep.drew {L : Nat} {a w : World} (h : Keep L a w) : Keep L a w.drew := ⟨h.os, h.tape, h.output, h.size, h.block⟩
theorem Keep.alloc {L : Nat} {a w : World} (h : Keep L a w) (o : Obj) : Keep L a (w.alloc o) :=
  h.trans ⟨rfl, rfl, rfl, by simp, fun k hk _ => Below.heap_alloc _ _ _ hk⟩
theorem Keep.set {L : Nat} {a w : World} (h : Keep L a w) (o : Nat) (u : Value) : Keep L a (w.setCell ⟨L, o, none⟩ u) :=
  h.trans ⟨rfl, rfl, rfl, by simp [World.setCell], fun k _ hn => Below.heap_setCell _ _ _ _ hn⟩
theorem Keep.setNew {L : Nat} {a w : World} (h : Keep L a w) {b : Nat} (hb : a.heap.size ≤ b) (o : Nat) (u : Value) : Keep L a (w.setCell ⟨b, o, none⟩ u) :=
  ⟨h.os, h.tape, h.output, by simpa [World.setCell] using h.size, fun k hk hn => (Below.heap_setCell _ _ _ _ (by show k ≠ b; omega)).trans (h.block k hk hn)⟩
theorem Keep.below {L B : Nat} {a w w' : World} (h : Keep L a w) (hb : Below B w w') (hB : a.heap.size ≤ B) : Keep L a w' :=
  ⟨hb.os.trans h.os, hb.tape.trans h.tape, hb.output.trans h.output, Nat.le_trans h.size hb.size, fun k hk hn => (hb.block k (Nat.lt_of_lt_of_le hk hB)).trans (h.block k hk hn)⟩
theorem drewN_heap (w : World) (n : Nat) : (w.drewN n).heap = w.heap := by
  induction n with
  | zero => rfl
  | succ n ih => exact ih
theorem Keep.drewN {L : Nat} {a w : World} (h : Keep L a w) (n : Nat) : Keep L a (w.drewN n) := by
  induction n with
  | zero => exact h
  | succ n ih => exact ih.drew

theorem LexAt.cells {w : World} {L : Nat} {s : ByteArray} {p : Nat} {line : Bool} (h : LexAt w L s p line) :
    w.cell? ⟨L, 0, none⟩ = some (.string s) ∧ w.cell? ⟨L, 1, none⟩ = some (.int .i64 p) ∧ w.cell? ⟨L, 2, none⟩ = some (.bool line) ∧ w.frozen? ⟨L, 1, none⟩ = false ∧ w.frozen? ⟨L, 2, none⟩ = false := by
  unfold LexAt at h
  simp [World.cell?, World.frozen?, h]
theorem LexAt.at {w : World} {L : Nat} {s : ByteArray} {p : Nat} {line : Bool} (h : LexAt w L s p line) (p' : Nat) : LexAt (w.setCell ⟨L, 1, none⟩ (.int .i64 p')) L s p' line := by
  unfold LexAt at h ⊢
  simp [World.setCell, Array.getElem?_modify, h]
theorem LexAt.line {w : World} {L : Nat} {s : ByteArray} {p : Nat} {line : Bool} (h : LexAt w L s p line) (l' : Bool) : LexAt (w.setCell ⟨L, 2, none⟩ (.bool l')) L s p l' := by
  unfold LexAt at h ⊢
  simp [World.setCell, Array.getElem?_modify, h]
theorem LexAt.drewN {w : World} {L : Nat} {s : ByteArray} {p : Nat} {line : Bool} (h : LexAt w L s p line) (n : Nat) : LexAt (w.drewN n) L s p line := by
  unfold LexAt at h ⊢; rw [drewN_heap]; exact h
theorem LexAt.alloc {w : World} {L : Nat} {s : ByteArray} {p : Nat} {line : Bool} (h : LexAt w L s p line) (o : Obj) : LexAt (w.alloc o) L s p line := by
  unfold LexAt at h ⊢
  rw [Below.heap_alloc w o L (Array.getElem?_eq_some_iff.1 h).1]; exact h
theorem LexAt.lt {w : World} {L : Nat} {s : ByteArray} {p : Nat} {line : Bool} (h : LexAt w L s p line) : L < w.heap.size := (Array.getElem?_eq_some_iff.1 h).1
theorem LexAt.other {w : World} {L b : Nat} {s : ByteArray} {p : Nat} {line : Bool} (h : LexAt w L s p line) (hb : L ≠ b) (o : Nat) (u : Value) : LexAt (w.setCell ⟨b, o, none⟩ u) L s p line := by
  unfold LexAt at h ⊢
  rw [Below.heap_setCell w ⟨b, o, none⟩ u L hb]; exact h
theorem LexAt.below {w w' : World} {B L : Nat} {s : ByteArray} {p : Nat} {line : Bool} (h : LexAt w L s p line) (hb : Below B w w') (hB : L < B) : LexAt w' L s p line := by
  unfold LexAt at h ⊢
  rw [hb.block L hB]; exact h

theorem wrapId (x : Int) (h : 0 ≤ x) (h2 : x ≤ 1000000000000000000) : IntKind.i64.wrap x = x := by rw [IntKind.wrap_i64]; omega

theorem idx_str (s : ByteArray) (k : Nat) (h : k < s.size) (i : Int) (hi : i = k) : ∀ w, (Instr.index 9 (.string s) (.int .i64 i)).run Tryd.prog w = .ok (.int .u8 (s[k].toNat : Int)) w := by
  intro w; subst hi
  rw [run_index_string w 9 s .i64 k Tryd.underlying9, dif_pos (by omega)]
  simp

def posOf (w : World) (L : Nat) : Nat := match w.cell? ⟨L, 1, none⟩ with | some v => (intOf v).toNat | none => 0
theorem LexAt.pos {w : World} {L : Nat} {s : ByteArray} {p : Nat} {line : Bool} (h : LexAt w L s p line) : posOf w L = p := by
  unfold posOf; rw [h.cells.2.1]; simp [intOf]
theorem down {w w' : World} {L j j' n : Nat} {s : ByteArray} {l l' : Bool} (h : LexAt w L s j l) (h' : LexAt w' L s j' l') (hj : j < j') (hn : j < n) : n - posOf w' L < n - posOf w L := by
  rw [h.pos, h'.pos]; omega
theorem bump {w : World} {L : Nat} {s : ByteArray} {j : Nat} {l : Bool} (h : LexAt w L s j l) : LexAt (w.setCell ⟨L, 1, none⟩ (.int .i64 ((j : Int) + 1))) L s (j + 1) l := h.at (j + 1)

set_option maxHeartbeats 4000000 in
set_option maxRecDepth 100000 in
theorem sSkip (s : ByteArray) (L p : Nat) (line : Bool) (w : World) (hs : s.size ≤ 4000) (hp : p ≤ s.size) (hL : LexAt w L s p line) :
    Calls Tryd.prog 25 #[.pointer (some ⟨L, 0, none⟩)] w fun e w' => e = .returned (.tuple #[]) ∧ LexAt w' L s (Lex.skipTo s p line false).1 (Lex.skipTo s p line false).2 ∧ Keep L w w' := by
  obtain ⟨q, hq⟩ : ∃ q, q = Lex.skipTo s p line false := ⟨_, rfl⟩
  rw [← hq]
  have HQ : Hid (q = Lex.skipTo s p line false) := hq
  have HL : Hid (LexAt w L s p line) := hL
  clear hq hL
  go_enter Tryd.func25, Tryd.ntmps25
  go_wp2_with fail
  go_loopw [2] (fun _ wr => ∃ (j : Nat) (l : Bool), j ≤ s.size ∧ LexAt wr L s j l ∧ Keep L w wr ∧ Hid (Lex.skipTo s j l false = q)) (fun _ wr => s.size - posOf wr L)
  case atStart => exact ⟨p, line, hp, HL.out, Keep.refl _ _, HQ.out.symm⟩
  case round =>
    obtain ⟨j, l, hj, hlex, hkeep, HK⟩ := hrel
    obtain ⟨c0, c1, c2, f1, f2⟩ := hlex.cells
    by_cases hlt : j < s.size
    · have hlt' : (j : Int) < (s.size : Int) := by omega
      have hb := Lex.bAt_in s j hlt
      have HB : Hid (Lex.bAt s j = (s[j].toNat : Int)) := hb
      clear hb
      by_cases d1 : (s[j].toNat : Int) = 10
      · have b1 : ((s[j].toNat : Int) == 10) = true := beq_iff_eq.2 d1
        have HN : Hid (Lex.skipTo s (j + 1) true false = q) := by show _ = _; rw [← HK.out, Lex.skip_lf s j l false hlt (by rw [HB.out]; exact d1)]
        clear d1
        go_wp2_with fail
        go_quiet (fail)
        go_wp2_with fail
        go_quiet (fail)
        go_wp2_with fail
        exact ⟨⟨j + 1, true, by omega, bump ((hlex.drewN _).line true), ((hkeep.drewN _).set _ _).set _ _, HN⟩, down hlex (bump ((hlex.drewN _).line true)) (by omega) hlt⟩
      have b1 : ((s[j].toNat : Int) == 10) = false := beq_eq_false_iff_ne.2 d1
      by_cases d2 : (s[j].toNat : Int) = 47
      · have b2 : ((s[j].toNat : Int) == 47) = true := beq_iff_eq.2 d2
        by_cases d3 : j + 1 < s.size
        · have d3' : (j : Int) + 1 < (s.size : Int) := by omega
          have hwj := wrapId ((j : Int) + 1) (by omega) (by omega)
          have hix := idx_str s (j + 1) d3 ((j : Int) + 1) (by omega)
          by_cases d4 : (s[j + 1].toNat : Int) = 47
          · have b4 : ((s[j + 1].toNat : Int) == 47) = true := beq_iff_eq.2 d4
            have HN : Hid (Lex.skipTo s (j + 1) l true = q) := by show _ = _; rw [← HK.out, Lex.skip_sl s j l hlt (by rw [HB.out]; exact d2) (by rw [Lex.bAt_in s _ d3]; exact d4)]
            clear d1 d2 d4
            go_wp2_with fail
            go_quiet (fail)
            go_wp2_with fail
            go_quiet (fail)
            go_wp2_with fail
            go_quiet (fail)
            go_wp2_with fail
            go_loopw [57] (fun _ wi => ∃ k : Nat, j ≤ k ∧ k < s.size ∧ LexAt wi L s k l ∧ Keep L w wi ∧ Hid (Lex.skipTo s (k + 1) l true = q)) (fun _ wi => s.size - posOf wi L)
            case atStart => exact ⟨j, by omega, hlt, (hlex.drewN _).drewN _, (hkeep.drewN _).drewN _, HN⟩
            case round =>
              obtain ⟨k, hjk, hks, hlexk, hkeepk, HKk⟩ := hrel
              clear c0 c1 c2 f1 f2 b1 b2 b4 hix d3' hwj
              have hwj := wrapId ((k : Int) + 1) (by omega) (by omega)
              obtain ⟨c0, c1, c2, f1, f2⟩ := hlexk.cells
              by_cases e1 : k + 1 < s.size
              · have e1' : (k : Int) + 1 < (s.size : Int) := by omega
                have hix := idx_str s (k + 1) e1 ((k : Int) + 1) (by omega)
                by_cases e2 : (s[k + 1].toNat : Int) = 10
                · have b2 : ((s[k + 1].toNat : Int) != 10) = false := by simp [e2]
                  have HE : Hid (Lex.skipTo s (k + 1) l false = q) := by show _ = _; rw [← Lex.skip_com_end s (k + 1) l (.inr (by rw [Lex.bAt_in s _ e1]; exact e2))]; exact HKk.out
                  clear e2
                  go_wp2_with fail
                  go_quiet (fail)
                  go_wp2_with fail
                  exact ⟨⟨k + 1, l, by omega, bump (hlexk.drewN _), (hkeepk.drewN _).set _ _, HE⟩, down hlex (bump (hlexk.drewN _)) (by omega) (by omega)⟩
                · have b2 : ((s[k + 1].toNat : Int) != 10) = true := by simpa using e2
                  have HE : Hid (Lex.skipTo s (k + 1 + 1) l true = q) := by show _ = _; rw [← Lex.skip_com s (k + 1) l e1 (by rw [Lex.bAt_in s _ e1]; exact e2)]; exact HKk.out
                  clear e2
                  go_wp2_with fail
                  go_quiet (fail)
                  go_wp2_with fail
                  exact ⟨⟨k + 1, by omega, by omega, bump (hlexk.drewN _), (hkeepk.drewN _).set _ _, HE⟩, down hlexk (bump (hlexk.drewN _)) (by omega) (by omega)⟩
              · have e1' : decide ((k : Int) + 1 < (s.size : Int)) = false := by simp; omega
                have HE : Hid (Lex.skipTo s (k + 1) l false = q) := by show _ = _; rw [← Lex.skip_com_end s (k + 1) l (.inl e1)]; exact HKk.out
                go_wp2_with fail
                go_quiet (fail)
                go_wp2_with fail
                exact ⟨⟨k + 1, l, by omega, bump (hlexk.drewN _), (hkeepk.drewN _).set _ _, HE⟩, down hlex (bump (hlexk.drewN _)) (by omega) (by omega)⟩
          · have b4 : ((s[j + 1].toNat : Int) == 47) = false := beq_eq_false_iff_ne.2 d4
            have b5 : ((s[j].toNat : Int) != 32) = true := by simp; omega
            have b6 : ((s[j].toNat : Int) != 9) = true := by simp; omega
            have HN : Hid ((j, l) = q) := by show _ = _; rw [← HK.out, Lex.skip_at s j l hlt (by rw [HB.out]; omega) (by rw [HB.out]; omega) (by rw [HB.out]; omega) (by rw [Lex.bAt_in s _ d3]; omega)]
            clear d1 d2 d4
            go_wp2_with fail
            go_quiet (fail)
            go_wp2_with fail
            go_quiet (fail)
            go_wp2_with fail
            go_quiet (fail)
            go_wp2_with fail
            refine bodyPost_ret (v := .tuple #[]) (by simp [results, Tryd.results25, go_sem]) rfl ⟨rfl, ?_, hkeep.drewN _⟩
            have h1 := congrArg Prod.fst HN.out
            have h2 := congrArg Prod.snd HN.out
            rw [← h1, ← h2]
            exact hlex.drewN _
        · have d3' : decide ((j : Int) + 1 < (s.size : Int)) = false := by simp; omega
          have hwj := wrapId ((j : Int) + 1) (by omega) (by omega)
          have b5 : ((s[j].toNat : Int) != 32) = true := by simp; omega
          have b6 : ((s[j].toNat : Int) != 9) = true := by simp; omega
          have HN : Hid ((j, l) = q) := by show _ = _; rw [← HK.out, Lex.skip_at s j l hlt (by rw [HB.out]; omega) (by rw [HB.out]; omega) (by rw [HB.out]; omega) (by rw [Lex.bAt_out s _ d3]; omega)]
          clear d1 d2
          go_wp2_with fail
          go_quiet (fail)
          go_wp2_with fail
          go_quiet (fail)
          go_wp2_with fail
          go_quiet (fail)
          go_wp2_with fail
          refine bodyPost_ret (v := .tuple #[]) (by simp [results, Tryd.results25, go_sem]) rfl ⟨rfl, ?_, hkeep.drewN _⟩
          have h1 := congrArg Prod.fst HN.out
          have h2 := congrArg Prod.snd HN.out
          rw [← h1, ← h2]
          exact hlex.drewN _
      have b2 : ((s[j].toNat : Int) == 47) = false := beq_eq_false_iff_ne.2 d2
      by_cases d5 : (s[j].toNat : Int) = 32 ∨ (s[j].toNat : Int) = 9
      · have HN : Hid (Lex.skipTo s (j + 1) l false = q) := by show _ = _; rw [← HK.out, Lex.skip_bl s j l hlt (by rw [HB.out]; exact d5)]
        by_cases d6 : (s[j].toNat : Int) = 32
        · have b5 : ((s[j].toNat : Int) != 32) = false := by simp [d6]
          clear d1 d2 d5 d6
          go_wp2_with fail
          go_quiet (fail)
          go_wp2_with fail
          go_quiet (fail)
          go_wp2_with fail
          go_quiet (fail)
          go_wp2_with fail
          exact ⟨⟨j + 1, l, by omega, bump (hlex.drewN _), (hkeep.drewN _).set _ _, HN⟩, down hlex (bump (hlex.drewN _)) (by omega) hlt⟩
        · have b5 : ((s[j].toNat : Int) != 32) = true := by simpa using d6
          have b6 : ((s[j].toNat : Int) != 9) = false := bne_eq_false_iff_eq.2 (by omega)
          clear d1 d2 d5 d6
          go_wp2_with fail
          go_quiet (fail)
          go_wp2_with fail
          go_quiet (fail)
          go_wp2_with fail
          go_quiet (fail)
          go_wp2_with fail
          exact ⟨⟨j + 1, l, by omega, bump (hlex.drewN _), (hkeep.drewN _).set _ _, HN⟩, down hlex (bump (hlex.drewN _)) (by omega) hlt⟩
      · have b5 : ((s[j].toNat : Int) != 32) = true := by simp; omega
        have b6 : ((s[j].toNat : Int) != 9) = true := by simp; omega
        have HN : Hid ((j, l) = q) := by show _ = _; rw [← HK.out, Lex.skip_at s j l hlt (by rw [HB.out]; omega) (by rw [HB.out]; omega) (by rw [HB.out]; omega) (by rw [HB.out]; omega)]
        clear d1 d2 d5
        go_wp2_with fail
        go_quiet (fail)
        go_wp2_with fail
        go_quiet (fail)
        go_wp2_with fail
        go_quiet (fail)
        go_wp2_with fail
        refine bodyPost_ret (v := .tuple #[]) (by simp [results, Tryd.results25, go_sem]) rfl ⟨rfl, ?_, hkeep.drewN _⟩
        have h1 := congrArg Prod.fst HN.out
        have h2 := congrArg Prod.snd HN.out
        rw [← h1, ← h2]
        exact hlex.drewN _
    · have b0 : decide ((j : Int) < (s.size : Int)) = false := by simp; omega
      have HN : Hid ((s.size, l) = q) := by show _ = _; rw [← HK.out, Lex.skip_end s j l false hlt]
      have hjs : j = s.size := by omega
      subst hjs
      go_wp2_with fail
      go_quiet (fail)
      go_wp2_with fail
      go_end0
      have h1 := congrArg Prod.fst HN.out
      have h2 := congrArg Prod.snd HN.out
      rw [← h1, ← h2]
      exact ⟨rfl, hlex.drewN _, hkeep.drewN _⟩

end Go.Proofs.YtpabbadngpjgoaaDoor

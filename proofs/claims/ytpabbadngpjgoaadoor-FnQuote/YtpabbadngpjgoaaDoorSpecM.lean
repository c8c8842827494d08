/-
  The walk of the specification's mark.
-/
import Derived.Test.YtpabbadngpjgoaaDoorSpecB
namespace Go.Proofs.YtpabbadngpjgoaaDoor
open Go.RowKit

def marksObj : Obj := .cells (Lex.marks.map Value.string).toArray 9
set_option maxHeartbeats 400000 in
theorem sMarks (w : World) : Calls Tryd.prog 54 #[] w fun e w' => e = .returned (.slice (some ⟨w.heap.size, 0, none⟩) 28 28) ∧ w' = w.alloc marksObj := by
  go_enter Tryd.func54, Tryd.ntmps54
  go_wp2
  go_ret
  exact ⟨rfl, rfl⟩

theorem markLen_end (l : List UInt8) : Lex.markLen l (Lex.marks.drop 28) = 0 := rfl
theorem mark_pos (k : Nat) (h : k < 28) : 1 ≤ (Lex.marks[k]'h).size := by
  have := marks_all (fun k => decide (∀ h : k < Lex.marks.length, 1 ≤ (Lex.marks[k]'h).size)) (by decide) k h
  exact of_decide_eq_true this h

theorem pre_iff (s m : ByteArray) (i : Nat) (hi : i ≤ s.size) : Lex.preAt (s.data.toList.drop i) m = (decide (i + m.size ≤ s.size) && ((s.extract i (i + m.size)).toList == m.toList)) := by
  unfold Lex.preAt
  rw [← Lib.hasPrefix_of_take, ByteArray.toList_eq, ByteArray.toList_eq, Lib.extract_data, Nat.add_sub_cancel_left]
  have e : m.data.toList.length = m.size := rfl
  have e2 : (s.data.toList.drop i).length = s.size - i := by rw [List.length_drop]; rfl
  rw [e, e2]
  congr 1
  rw [decide_eq_decide]; omega
theorem ba_eq {a b : ByteArray} (h : (a.toList == b.toList) = true) : a = b := by
  rw [beq_iff_eq, ByteArray.toList_eq, ByteArray.toList_eq] at h
  exact Go.WideShapes.bytes_inj h

theorem atN {w : World} {L : Nat} {s : ByteArray} {i : Nat} {l : Bool} (h : LexAt w L s i l) (n : Nat) : LexAt (w.setCell ⟨L, 1, none⟩ (.int .i64 ((i : Int) + (n : Int)))) L s (i + n) l := h.at (i + n)

/-- The state of mark's walk. -/
def MSt (wr w : World) (L : Nat) (s : ByteArray) (i : Nat) (line : Bool) : Prop :=
  LexAt wr L s i line ∧ (∀ j (h : j < Lex.marks.length), wr.cell? ⟨w.heap.size + 1, j, none⟩ = some (.string Lex.marks[j])) ∧ Keep L (w.alloc zTokObj) wr
theorem MSt.drewN {wr w : World} {L : Nat} {s : ByteArray} {j : Nat} {line : Bool} (h : MSt wr w L s j line) (n : Nat) : MSt (wr.drewN n) w L s j line := by
  refine ⟨h.1.drewN n, fun j hj => ?_, h.2.2.drewN n⟩
  have := h.2.1 j hj
  unfold World.cell? at this ⊢
  rw [drewN_heap]; exact this
theorem MSt.start {w : World} {L : Nat} {s : ByteArray} {i : Nat} {line : Bool} (h : LexAt w L s i line) : MSt ((w.alloc zTokObj).alloc marksObj) w L s i line := by
  refine ⟨(h.alloc _).alloc _, fun j hj => ?_, (Keep.refl _ _).alloc _⟩
  have g := World.cell?_alloc_new (w := w.alloc zTokObj) (Lex.marks.map Value.string).toArray 9 j
  rw [World.size_alloc] at g
  show ((w.alloc zTokObj).alloc (.cells (Lex.marks.map Value.string).toArray 9)).cell? _ = _
  rw [g]; simp [hj]

theorem tok_mark {s : ByteArray} {i : Nat} (h1 : Lex.digB (Lex.bAt s i) = false) (h2 : Lex.letB (Lex.bAt s i) = false) (h3 : Lex.bAt s i ≠ 34) :
    Lex.tokAt s i = if 0 < Lex.markLen (s.data.toList.drop i) Lex.marks then some (⟨5, s.extract i (i + Lex.markLen (s.data.toList.drop i) Lex.marks), 0⟩, i + Lex.markLen (s.data.toList.drop i) Lex.marks) else none := by
  unfold Lex.tokAt
  rw [if_neg (by simp [h1]), if_neg (by simp [h2]), if_neg h3]

set_option maxHeartbeats 8000000 in
set_option maxRecDepth 100000 in
theorem sMark (s : ByteArray) (L i : Nat) (line : Bool) (w : World) (hs : s.size ≤ 4000) (hi : i < s.size) (h1 : Lex.digB (Lex.bAt s i) = false) (h2 : Lex.letB (Lex.bAt s i) = false) (h3 : Lex.bAt s i ≠ 34) (hL : LexAt w L s i line) :
    Calls Tryd.prog 46 #[.pointer (some ⟨L, 0, none⟩)] w fun e w' => SRes s i L line e w' ∧ Keep L w w' := by
  have hlt := hL.lt
  have HL : Hid (LexAt w L s i line) := hL
  obtain ⟨q, hq⟩ : ∃ q, q = Lex.markLen (s.data.toList.drop i) Lex.marks := ⟨_, rfl⟩
  have HT : Hid (Lex.tokAt s i = if 0 < q then some (⟨5, s.extract i (i + q), 0⟩, i + q) else none) := by show _ = _; rw [hq]; exact tok_mark h1 h2 h3
  have HQ : Hid (q = Lex.markLen (s.data.toList.drop i) Lex.marks) := hq
  clear hL h1 h2 h3 hq
  go_enter Tryd.func46, Tryd.ntmps46
  go_wp2_with (go_at_call 54; refine (sMarks _).mono ?_; rintro e w' ⟨rfl, rfl⟩)
  go_loopw [5] (fun v wr => ∃ k : Nat, k ≤ 28 ∧ v = .int .i64 k ∧ MSt wr w L s i line ∧ Hid (Lex.markLen (s.data.toList.drop i) (Lex.marks.drop k) = q)) (fun v _ => 28 - (intOf v).toNat)
  case atStart => exact ⟨0, by omega, rfl, MSt.start HL.out, HQ.out.symm⟩
  case round =>
    obtain ⟨k, hk, rfl, st, HK⟩ := hrel
    obtain ⟨c0, c1, c2, f1, f2⟩ := st.1.cells
    obtain ⟨⟨r0, r1, r2, r3, r4⟩, q0, q1, q2, q3, q4⟩ := cells5 (keep_zTok st.2.2 hlt)
    by_cases hk28 : k < 28
    · have hst := markLen_drop (s.data.toList.drop i) Lex.marks k hk28
      have hms := mark_size k hk28
      have hmp := mark_pos k hk28
      have hmc := st.2.1 k hk28
      obtain ⟨m, hm⟩ : ∃ m, m = Lex.marks[k]'hk28 := ⟨_, rfl⟩
      have hst' : Lex.markLen (s.data.toList.drop i) (Lex.marks.drop k) = if Lex.preAt (s.data.toList.drop i) m = true then m.size else Lex.markLen (s.data.toList.drop i) (Lex.marks.drop (k + 1)) := by rw [hm]; exact hst
      rw [← hm] at hms hmp hmc
      clear hst hm
      have hpre := pre_iff s m i (by omega)
      have hwr := wrapId ((i : Int) + (m.size : Int)) (by omega) (by omega)
      by_cases e1 : i + m.size ≤ s.size
      · have e1' : (i : Int) + (m.size : Int) ≤ (s.size : Int) := by omega
        by_cases e2 : ((s.extract i (i + m.size)).toList == m.toList) = true
        · have hme := ba_eq e2
          rw [decide_eq_true e1, e2, Bool.and_true] at hpre
          rw [if_pos hpre] at hst'
          have HQm : Hid (q = m.size) := by show _ = _; rw [← HK.out]; exact hst'
          have HY : Hid (Lex.tokAt s i = some (⟨5, m, 0⟩, i + m.size)) := by
            show _ = _
            rw [HT.out, HQm.out, if_pos (by omega), hme]
          clear hpre hst' hme
          go_wp2_with fail
          go_quiet (fail)
          go_wp2_with fail
          refine bodyPost_ret (v := .tuple #[.agg #[.int .i64 5, .string m, .int .i64 0, .bool false, .int .i64 0], .bool true]) (by simp [results, Tryd.results46, go_sem, r0, r1, r2, r3, r4]) rfl ⟨SRes.yes HY.out rfl ?_, ?_⟩
          · exact five_lex0 (atN (st.1.drewN _) m.size) (by omega) _ _ _ _ _
          · exact five_keep0 (((((Keep.refl L w).alloc _).trans st.2.2).drewN _).set _ _) (Nat.le_refl _) _ _ _ _ _
        · rw [Bool.not_eq_true] at e2
          rw [e2, Bool.and_false] at hpre
          rw [if_neg (by simp [hpre])] at hst'
          have HN : Hid (Lex.markLen (s.data.toList.drop i) (Lex.marks.drop (k + 1)) = q) := by show _ = _; rw [← hst']; exact HK.out
          clear hpre hst'
          go_wp2_with fail
          go_quiet (fail)
          go_wp2_with fail
          exact ⟨⟨k + 1, by omega, by go_num, st.drewN _, HN⟩, by simp [intOf]; omega⟩
      · have e1' : decide ((i : Int) + (m.size : Int) ≤ (s.size : Int)) = false := by simp; omega
        rw [decide_eq_false e1, Bool.false_and] at hpre
        rw [if_neg (by simp [hpre])] at hst'
        have HN : Hid (Lex.markLen (s.data.toList.drop i) (Lex.marks.drop (k + 1)) = q) := by show _ = _; rw [← hst']; exact HK.out
        clear hpre hst'
        go_wp2_with fail
        go_quiet (fail)
        go_wp2_with fail
        exact ⟨⟨k + 1, by omega, by go_num, st.drewN _, HN⟩, by simp [intOf]; omega⟩
    · have hkk : k = 28 := by omega
      subst hkk
      have HY : Hid (Lex.tokAt s i = none) := by
        show _ = _
        rw [HT.out, if_neg]
        rw [← HK.out, markLen_end]; omega
      go_wp2_with fail
      refine bodyPost_ret (v := .tuple #[.agg #[.int .i64 0, .string ⟨#[]⟩, .int .i64 0, .bool false, .int .i64 0], .bool false]) (by simp [results, Tryd.results46, go_sem, r0, r1, r2, r3, r4]) rfl ⟨SRes.no HY.out _ _ _ _ _, ?_⟩
      exact five_keep0 (((Keep.refl L w).alloc _).trans st.2.2) (Nat.le_refl _) _ _ _ _ _

end Go.Proofs.YtpabbadngpjgoaaDoor

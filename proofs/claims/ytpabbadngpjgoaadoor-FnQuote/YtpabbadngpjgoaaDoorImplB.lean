/-
  The walks of impl's numberRight, markLength, digitsNumber, unquote; strings.Clone.
-/
import Derived.Test.YtpabbadngpjgoaaDoorImplA
namespace Go.Proofs.YtpabbadngpjgoaaDoor
open Go.RowKit

set_option maxHeartbeats 400000 in
theorem iClone (s : ByteArray) (w : World) (hs : s.size ≤ 100000) : Calls Tryd.prog 38 #[.string s] w fun e w' => e = .returned (.string s) ∧ Below w.heap.size w w' := by
  go_enter Tryd.func38, Tryd.ntmps38
  go_wp2_with fail
  refine (Tryd.stringslite_Clone s _ (by omega)).mono ?_
  rintro e w' ⟨rfl, hb⟩
  go_wp2_with fail
  go_ret
  exact ⟨rfl, hb⟩



set_option maxHeartbeats 400000 in
theorem iNumRight (r : ByteArray) (w : World) (h0 : 0 < r.size) (hs : r.size ≤ 100000) : Calls Tryd.prog 34 #[.string r] w fun e w' => e = .returned (.bool (Lex.numOk r)) ∧ w = w' := by
  have hb := Lex.bAt_in r 0 h0
  by_cases h1 : r.size ≤ 15
  · by_cases h2 : (r[0].toNat : Int) = 48
    · have b2 : ((r[0].toNat : Int) != 48) = false := by simp [h2]
      by_cases h3 : r.size = 1
      · have b3 : ((r.size : Int) == 1) = true := beq_iff_eq.2 (by omega)
        have HV : Hid (Lex.numOk r = true) := by show Lex.numOk r = true; unfold Lex.numOk; simp [h3]
        clear hb h2 h3
        go_enter Tryd.func34, Tryd.ntmps34
        go_wp2
        go_ret
        exact ⟨ret_bool HV.out.symm, rfl⟩
      · have b3 : ((r.size : Int) == 1) = false := beq_eq_false_iff_ne.2 (by omega)
        have HV : Hid (Lex.numOk r = false) := by show Lex.numOk r = false; unfold Lex.numOk; rw [hb]; simp [h2, h3]
        clear hb h2 h3
        go_enter Tryd.func34, Tryd.ntmps34
        go_wp2
        go_ret
        exact ⟨ret_bool HV.out.symm, rfl⟩
    · have b2 : ((r[0].toNat : Int) != 48) = true := by simpa using h2
      have HV : Hid (Lex.numOk r = true) := by show Lex.numOk r = true; unfold Lex.numOk; rw [hb]; simp [h1]; left; omega
      clear hb h2
      go_enter Tryd.func34, Tryd.ntmps34
      go_wp2
      go_ret
      exact ⟨ret_bool HV.out.symm, rfl⟩
  · have HV : Hid (Lex.numOk r = false) := by show Lex.numOk r = false; unfold Lex.numOk; simp [h1]
    clear hb
    go_enter Tryd.func34, Tryd.ntmps34
    go_wp2
    go_ret
    exact ⟨ret_bool HV.out.symm, rfl⟩

/-- The package's table of marks lies in its block. -/
def MarksIn (w : World) : Prop := ∀ j (h : j < Lex.marks.length), w.cell? ⟨0, j, none⟩ = some (.string Lex.marks[j])
def marksV : Array Value := (Lex.marks.map Value.string).toArray

theorem MarksIn.below {w w' : World} {B : Nat} (h : MarksIn w) (hb : Below B w w') (hB : 0 < B) : MarksIn w' := fun j hj => (hb.cell (p := ⟨0, j, none⟩) hB).trans (h j hj)

theorem Tryd.infoMarks : (Tryd.prog.info? 70).map (·.size) = some 28 := by kernel_rfl

theorem load_marks {ops : Array Oper} {rest : List Oper} {o : Oper} {a : Act} {w : World} {Q : Exit → Act → World → Prop} (hgd : o.guard = none) (ho : o.op = .load 70 (.global 0)) (hM : MarksIn w)
    (h : wpList Tryd.prog ops Q rest (a.put o.dst (.agg marksV)) w) : wpList Tryd.prog ops Q (o :: rest) a w := by
  refine wpList_plain hgd fun _ hK => ?_
  have hl : (loadCells ⟨0, 0, none⟩ 28).run Tryd.prog w = .ok marksV w :=
    run_loadCells_list (P := Tryd.prog) w ⟨0, 0, none⟩ (Lex.marks.map Value.string) (fun j v hv => by
      rw [add_none]
      have hj : j < Lex.marks.length := by simpa using (List.getElem?_eq_some_iff.1 hv).1
      rw [hM j hj]
      rw [List.getElem?_map, List.getElem?_eq_getElem hj] at hv
      exact hv)
  have hi := Tryd.infoMarks
  cases hq : Tryd.prog.info? 70 with
  | none => rw [hq] at hi; cases hi
  | some i =>
    have hs : i.size = 28 := by rw [hq] at hi; exact Option.some.inj hi
    have hagg : (isAgg 70).run Tryd.prog w = .ok true w := by
      unfold isAgg
      rw [Sem.run_bind, run_underlying Tryd.underlying70 w]
      rfl
    have hv : (loadVar 70 ⟨0, 0, none⟩).run Tryd.prog w = .ok (.agg marksV) w := by
      simp [loadVar, Sem.run_bind, hagg, sizeOf, typeInfo, hq, hs, hl]
    have hx : a.eval (.global 0) = .pointer (some ⟨0, 0, none⟩) := rfl
    unfold Oper.wp execOp
    simp only [ho, hx, Instr.loadAt, Instr.sureAddr, Sem.run_bind, Sem.run_pure, Result.andThen_ok, hv]
    exact hK _ _ h

theorem marks_all (p : Nat → Bool) (h : (List.range 28).all p = true) (k : Nat) (hk : k < 28) : p k = true := by
  rw [List.all_eq_true] at h; exact h k (List.mem_range.2 hk)

theorem idx_marks (k : Nat) (h : k < 28) (w : World) : (Instr.index 70 (.agg marksV) (.int .i64 k)).run Tryd.prog w = .ok (.string (Lex.marks[k]'h)) w := by
  rcases (show k = 0 ∨ k = 1 ∨ k = 2 ∨ k = 3 ∨ k = 4 ∨ k = 5 ∨ k = 6 ∨ k = 7 ∨ k = 8 ∨ k = 9 ∨ k = 10 ∨ k = 11 ∨ k = 12 ∨ k = 13 ∨ k = 14 ∨ k = 15 ∨ k = 16 ∨ k = 17 ∨ k = 18 ∨ k = 19 ∨ k = 20 ∨ k = 21 ∨ k = 22 ∨ k = 23 ∨ k = 24 ∨ k = 25 ∨ k = 26 ∨ k = 27 from by omega) with rfl | rfl | rfl | rfl | rfl | rfl | rfl | rfl | rfl | rfl | rfl | rfl | rfl | rfl | rfl | rfl | rfl | rfl | rfl | rfl | rfl | rfl | rfl | rfl | rfl | rfl | rfl | rfl <;> kernel_rfl

theorem markLen_drop (l : List UInt8) (ms : List ByteArray) (k : Nat) (h : k < ms.length) : Lex.markLen l (ms.drop k) = if Lex.preAt l ms[k] = true then ms[k].size else Lex.markLen l (ms.drop (k + 1)) := by
  rw [List.drop_eq_getElem_cons h]; rfl
theorem mark_size (k : Nat) (h : k < 28) : (Lex.marks[k]'h).size ≤ 3 := by
  have := marks_all (fun k => decide (∀ h : k < Lex.marks.length, (Lex.marks[k]'h).size ≤ 3)) (by decide) k h
  exact of_decide_eq_true this h

set_option maxHeartbeats 1000000 in
theorem iMarkLen (r : ByteArray) (w : World) (hM : MarksIn w) : Calls Tryd.prog 36 #[.string r] w fun e w' => e = .returned (.int .i64 (Lex.markLen r.data.toList Lex.marks)) ∧ w = w' := by
  have hix := idx_marks
  go_enter Tryd.func36, Tryd.ntmps36
  go_wp2_with (refine load_marks rfl rfl hM ?_)
  clear hM
  go_loop [6] (fun i => ∃ k : Nat, k ≤ 28 ∧ i = .int .i64 k ∧ Lex.markLen r.data.toList (Lex.marks.drop k) = Lex.markLen r.data.toList Lex.marks) (fun i => 28 - (intOf i).toNat)
  case atStart => exact ⟨0, Nat.zero_le _, rfl, rfl⟩
  case round =>
    obtain ⟨k, hk, rfl, hin⟩ := hrel
    have HI : Hid (Lex.markLen r.data.toList (Lex.marks.drop k) = Lex.markLen r.data.toList Lex.marks) := hin
    clear hin
    by_cases hlt : k < 28
    · have hst := markLen_drop r.data.toList Lex.marks k hlt
      have hms := mark_size k hlt
      have hik := hix k hlt
      have HX : Hid (∀ (k : Nat) (h : k < 28) (w : World), (Instr.index 70 (.agg marksV) (.int .i64 k)).run Tryd.prog w = .ok (.string (Lex.marks[k]'h)) w) := hix
      clear hix
      obtain ⟨m, hm⟩ : ∃ m, m = Lex.marks[k]'hlt := ⟨_, rfl⟩
      have hst' : Lex.markLen r.data.toList (Lex.marks.drop k) = if Lex.preAt r.data.toList m = true then m.size else Lex.markLen r.data.toList (Lex.marks.drop (k + 1)) := by rw [hm]; exact hst
      rw [← hm] at hik hms
      clear hst hm
      by_cases hp : Lex.preAt r.data.toList m = true
      · rw [if_pos hp] at hst'
        have HS : Hid (Lex.markLen r.data.toList (Lex.marks.drop k) = m.size) := hst'
        clear hst'
        go_wp2_with fail
        refine (Tryd.strings_HasPrefix r m _).mono ?_
        rintro e w' ⟨rfl, rfl⟩
        have hp' : Lib.hasPrefix r.data.toList m.data.toList = true := hp
        clear hp
        go_wp2_with fail
        go_ret
        exact ⟨ret_i64 (by rw [← HI.out, HS.out]), rfl⟩
      · rw [if_neg hp] at hst'
        have HS : Hid (Lex.markLen r.data.toList (Lex.marks.drop k) = Lex.markLen r.data.toList (Lex.marks.drop (k + 1))) := hst'
        clear hst'
        go_wp2_with fail
        refine (Tryd.strings_HasPrefix r m _).mono ?_
        rintro e w' ⟨rfl, rfl⟩
        have hp' : Lib.hasPrefix r.data.toList m.data.toList = false := by simpa [Lex.preAt] using hp
        clear hp
        go_wp2_with fail
        go_round
        case rel => exact ⟨k + 1, by omega, by go_num, by rw [← HS.out]; exact HI.out⟩
        case measure => simp [intOf]; omega
    · have hkk : k = 28 := by omega
      subst hkk
      clear hix
      go_wp2_with fail
      go_ret
      exact ⟨ret_i64 (by rw [← HI.out]; rfl), rfl⟩

end Go.Proofs.YtpabbadngpjgoaaDoor

/-
  The walks of the program's numberOf, textNumber, numberValue, ToNumber; and of the specification's ToNumber.
-/
import Derived.Test.YtjgekikcmkicmaaGreatDoorValNum
import Derived.Test.YtjgekikcmkicmaaGreatDoorValPure
import Derived.Test.YtjgekikcmkicmaaGreatDoorValRight
import Derived.Test.YtjgekikcmkicmaaGreatDoorShelfV
import Derived.Test.YtjgekikcmkicmaaGreatDoorValAs
import Derived.Deep.CutRange
namespace Go.Proofs.YtjgekikcmkicmaaGreatDoor
namespace Val
/-- The number of a value, or none. -/
def numO (v : VV) : Option Int := if v.kind = 1 ∨ v.kind = 2 ∨ v.kind = 3 then some v.num else if v.kind = 5 then readT v.text else none
theorem numD_rev : ∀ m : List UInt8, m.reverse.all digOk = true → 0 ≤ numD m.reverse ∧ numD m.reverse < ((10 ^ m.length : Nat) : Int)
  | [] => fun _ => by simp [numD]
  | c :: m => fun h => by
    rw [List.reverse_cons, List.all_append, Bool.and_eq_true] at h
    obtain ⟨h1, h2⟩ := numD_rev m h.1
    have hc : digOk c = true := by simpa using h.2
    simp [digOk] at hc
    rw [List.reverse_cons, numD_snoc, List.length_cons, Nat.pow_succ]
    omega
theorem numD_bd15 (l : List UInt8) (h : l.all digOk = true) (hl : l.length ≤ 15) : 0 ≤ numD l ∧ numD l ≤ 1000000000000000 := by
  have h0 := numD_rev l.reverse (by rw [List.reverse_reverse]; exact h)
  rw [List.reverse_reverse, List.length_reverse] at h0
  obtain ⟨h1, h2⟩ := h0
  have : 10 ^ l.length ≤ 10 ^ 15 := Nat.pow_le_pow_right (by decide) hl
  have e : 10 ^ 15 = 1000000000000000 := by decide
  omega
theorem readL_bd (l : List UInt8) (n : Int) (h : readL l = some n) : -1000000000000000 ≤ n ∧ n ≤ 1000000000000000 := by
  by_cases hl : l = []
  · subst hl; simp [readL] at h; omega
  · rw [readL_cut l hl] at h
    by_cases hc : 1 ≤ (cutL l).length ∧ (cutL l).length ≤ 15 ∧ (cutL l).all digOk = true
    · rw [if_pos hc] at h
      have hb := numD_bd15 (cutL l) hc.2.2 hc.2.1
      have h' := Option.some.inj h
      by_cases hs : below l = true
      · rw [if_pos hs] at h'; omega
      · rw [if_neg hs] at h'; omega
    · rw [if_neg hc] at h; cases h
theorem numV_in2 (n : Int) (h1 : -9007199254740992 ≤ n) (h2 : n ≤ 9007199254740992) : numV n = ⟨3, n, e0⟩ := if_neg (by omega)
theorem numO_V (v : VV) (h : right v = true) : numberV v = match numO v with | some n => ⟨3, n, e0⟩ | none => badV := by
  unfold numberV numO
  unfold right at h
  by_cases h1 : v.kind = 1
  · rw [if_pos h1, if_pos (.inl h1)]
    rw [if_pos (.inr (.inl h1))] at h
    simp at h
    rw [h.1]
    exact numV_in2 0 (by omega) (by omega)
  · rw [if_neg h1]
    by_cases h2 : v.kind = 2
    · rw [if_pos h2, if_pos (.inr (.inl h2))]
      rw [if_neg (by omega), if_pos h2] at h
      simp at h
      exact numV_in2 v.num (by omega) (by omega)
    · rw [if_neg h2]
      by_cases h3 : v.kind = 3
      · rw [if_pos h3, if_pos (.inr (.inr h3))]
        rw [if_neg (by omega), if_neg (by omega), if_pos h3] at h
        simp at h
        exact numV_in2 v.num (by omega) (by omega)
      · rw [if_neg h3, if_neg (show ¬ (v.kind = 1 ∨ v.kind = 2 ∨ v.kind = 3) by omega)]
        by_cases h5 : v.kind = 5
        · rw [if_pos h5, if_pos h5]
          rcases hq : readT v.text with _ | n
          · rfl
          · have := readL_bd _ n hq
            exact numV_in2 n (by omega) (by omega)
        · rw [if_neg h5, if_neg h5]
end Val
open Go.RowKit Go.Shelf

theorem retI {a b : Int} (h : a = b) : Ending.returned (.int .i64 a) = .returned (.int .i64 b) := by rw [h]

set_option maxHeartbeats 1000000 in
theorem vDigits (r : ByteArray) (w : World) (hs : r.size ≤ 15) (hd : r.data.toList.all Val.digOk = true) :
    Calls Tryz.prog 141 #[.string r] w fun e w' => e = .returned (.int .i64 (Val.numD r.data.toList)) ∧ w' = w := by
  go_enter Tryz.func141, Tryz.ntmps141
  go_wp2
  go_loop [3, 7] (fun n i => ∃ k : Nat, k ≤ r.size ∧ i = .int .i64 k ∧ n = .int .i64 (Val.numD (r.data.toList.take k))) (fun _ i => r.size - (intOf i).toNat)
  case atStart => exact ⟨0, Nat.zero_le _, rfl, rfl⟩
  case round =>
    obtain ⟨k, hk, rfl, rfl⟩ := hrel
    have hta : (r.data.toList.take k).all Val.digOk = true := List.all_eq_true.2 fun c hc => List.all_eq_true.1 hd c (List.mem_of_mem_take hc)
    have hbd := Val.numD_bd15 (r.data.toList.take k) hta (by rw [List.length_take]; omega)
    by_cases hlt : k < r.size
    · have hc : Val.digOk r[k] = true := List.all_eq_true.1 hd r[k] (List.getElem_mem (h := by simpa using hlt))
      simp only [Val.digOk, Bool.and_eq_true, decide_eq_true_eq] at hc
      obtain ⟨hc3, hc4⟩ := hc
      have HS : Hid (Val.numD (r.data.toList.take (k + 1)) = Val.numD (r.data.toList.take k) * 10 + ((r[k].toNat : Int) - 48)) := by
        show _ = _; rw [Val.numD_step r k hlt]; omega
      clear hd hta
      go_wp2
      go_round
      case rel => exact ⟨k + 1, by omega, by go_num, by rw [HS.out]⟩
      case measure => simp [intOf]; omega
    · clear hd
      go_wp2
      go_ret
      exact ⟨retI (by rw [List.take_of_length_le (by simp; omega)]), rfl⟩

/-- The block of an error that tells VBad. -/
def LiesE (W : World) (b : Nat) : Prop := W.heap[b]? = some (.cells #[.int .i64 4, .int .i64 0, .string ⟨#[]⟩] 126 (0, 0))
theorem LiesE.lt {W : World} {b : Nat} (h : LiesE W b) : b < W.heap.size := (Array.getElem?_eq_some_iff.1 h).1
theorem LiesE.keep {W W' : World} {b : Nat} (h : LiesE W b) (hb : Below W.heap.size W W') : LiesE W' b := (hb.block _ h.lt).trans h
theorem LiesE.three {W : World} {b : Nat} (h : LiesE W b) :
    (W.cell? ⟨b, 0, none⟩ = some (.int .i64 4) ∧ W.cell? ⟨b, 1, none⟩ = some (.int .i64 0) ∧ W.cell? ⟨b, 2, none⟩ = some (.string ⟨#[]⟩)) ∧ (W.frozen? ⟨b, 0, none⟩ = false ∧ W.frozen? ⟨b, 1, none⟩ = false ∧ W.frozen? ⟨b, 2, none⟩ = false) := v3_of h
theorem liesE_new (W : World) : LiesE (W.alloc (.cells #[.int .i64 4, .int .i64 0, .string ⟨#[]⟩] 126)) W.heap.size := heap_alloc_new W _

/-- An error of the program's own, in a block behind b0. -/
def errV (b : Nat) : Value := .iface 61 (.pointer (some ⟨b, 0, none⟩))
/-- What a number that may be none is told by. -/
inductive NumRes (w w' : World) : Option Int → Ending → Prop
  | num (n : Int) (hb : Below w.heap.size w w') : NumRes w w' (some n) (.returned (.tuple #[.int .i64 n, .nilIface]))
  | none (b : Nat) (h0 : w.heap.size ≤ b) (hl : LiesE w' b) (hb : Below w.heap.size w w') : NumRes w w' Option.none (.returned (.tuple #[.int .i64 0, .iface 61 (.pointer (some ⟨b, 0, Option.none⟩))]))
theorem NumRes.below {w w' : World} {o : Option Int} {e : Ending} (h : NumRes w w' o e) : Below w.heap.size w w' := by cases h <;> assumption

set_option maxHeartbeats 1000000 in
theorem iNotNumber (w : World) : Calls Tryz.prog 101 #[] w fun e w' => e = .returned (.iface 61 (.pointer (some ⟨w.heap.size, 0, none⟩))) ∧ LiesE w' w.heap.size ∧ Below w.heap.size w w' := by
  have HB : Hid (∀ o, Below w.heap.size w (w.alloc o)) := fun o => (Below.refl _ _).alloc (Nat.le_refl _) o
  have HL : Hid (LiesE (w.alloc (.cells #[.int .i64 4, .int .i64 0, .string ⟨#[]⟩] 126)) w.heap.size) := liesE_new w
  go_enter Tryz.func101, Tryz.ntmps101
  go_wp2
  go_ret
  exact ⟨rfl, HL.out, HB.out _⟩

theorem isNoDigit_pays (w : World) : PredAt Tryz.prog 140 #[] encR Val.noDig w := fun W r _ => by
  unfold FnGives
  by_cases h1 : r < 48 <;> by_cases h2 : 57 < r
  all_goals
    have z1 : (r : Int) < 48 ↔ r < 48 := by omega
    have z2 : (57 : Int) < (r : Int) ↔ 57 < r := by omega
    go_enter Tryz.func140, Tryz.ntmps140
    go_wp2
    all_goals first | (exfalso; omega) | (go_ret; exact ⟨by simp [Val.noDig, h1, h2], 0, rfl⟩)

end Go.Proofs.YtjgekikcmkicmaaGreatDoor

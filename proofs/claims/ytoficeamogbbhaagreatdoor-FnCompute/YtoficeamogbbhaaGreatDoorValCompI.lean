/-
  The walks of the program's isTextual, isCompute, size, product, result.
-/
import Derived.Test.YtoficeamogbbhaaGreatDoorValLessI
import Derived.Test.YtoficeamogbbhaaGreatDoorValCompS
namespace Go.Proofs.YtoficeamogbbhaaGreatDoor
namespace Val
def textual (v : VV) : Bool := decide (v.kind = 5) || decide (v.kind = 6)
theorem textual_plain (v : VV) : textual v = true ↔ (plainV v).kind = 5 := by
  unfold textual plainV
  by_cases h : v.kind = 6
  · rw [if_pos h]; simp [h]
  · rw [if_neg h]; simp [h]
theorem toText_plain (v : VV) : toTextV (plainV v) = toTextV v := by
  unfold plainV
  by_cases h : v.kind = 6
  · rw [if_pos h]
    have e : toTextV v = objT := by
      unfold toTextV
      rw [if_neg (by omega), if_neg (by omega), if_neg (by omega), if_neg (by omega), if_neg (by omega), if_pos h]
      rfl
    rw [e]
    rfl
  · rw [if_neg h]
def rng (n : Int) : Option Int := if n < -9007199254740992 ∨ 9007199254740992 < n then none else some n
theorem rng_V (n : Int) : numV n = valO (rng n) := by
  unfold numV rng
  by_cases h : n < -9007199254740992 ∨ 9007199254740992 < n
  · rw [if_pos h, if_pos h]; rfl
  · rw [if_neg h, if_neg h]; rfl
def arithO (op : ByteArray) (x y : Int) : Option Int :=
  if op = ⟨#[43]⟩ then rng (x + y) else if op = ⟨#[45]⟩ then rng (x - y) else if op = ⟨#[42]⟩ then rng (x * y)
  else if y = 0 then none else if op = ⟨#[47]⟩ then rng (Int.tdiv x y) else rng (Int.tmod x y)
theorem arith_V (op : ByteArray) (x y : Int) : arith op x y = valO (arithO op x y) := by
  unfold arith arithO
  repeat' split
  all_goals first | exact rng_V _ | rfl
def resO (op : ByteArray) : Option Int → Option Int → Option Int
  | some x, some y => arithO op x y
  | _, _ => none
theorem nums_V (op : ByteArray) (a b : VV) (ha : right a = true) (hb : right b = true) : numsV op a b = valO (resO op (numO a) (numO b)) := by
  unfold numsV
  rw [numberV_valO a ha, numberV_valO b hb]
  rcases h1 : numO a with _ | x
  · exact if_pos (.inl rfl)
  · rcases h2 : numO b with _ | y
    · exact if_pos (.inr rfl)
    · rw [if_neg (by simp [valO])]
      exact arith_V op x y
theorem numO_in (v : VV) (h : right v = true) (n : Int) (hn : numO v = some n) : -9007199254740992 ≤ n ∧ n ≤ 9007199254740992 := by
  have h1 := numO_V v h
  rw [hn] at h1
  have h2 : numberV v = ⟨3, n, e0⟩ := h1
  have h3 := numberV_in v (by rw [h2]; exact (by decide : (3 : Int) ≠ 4))
  rw [h2] at h3
  exact h3
theorem idx5 (c : UInt8) : decide (0 ≤ Lib.indexByte [43, 45, 42, 47, 37] c) = decide (isOp ⟨#[c]⟩) := by
  have inj : ∀ x y : UInt8, (⟨#[x]⟩ : ByteArray) = ⟨#[y]⟩ ↔ x = y := by
    intro x y
    constructor
    · intro h
      have := congrArg (fun z : ByteArray => z.data.toList) h
      simpa using this
    · rintro rfl; rfl
  have e : isOp ⟨#[c]⟩ ↔ (c = 43 ∨ c = 45 ∨ c = 42 ∨ c = 47 ∨ c = 37) := by
    unfold isOp
    rw [inj, inj, inj, inj, inj]
  rw [decide_eq_decide, e]
  by_cases h1 : c = 43
  · subst h1; decide
  by_cases h2 : c = 45
  · subst h2; decide
  by_cases h3 : c = 42
  · subst h3; decide
  by_cases h4 : c = 47
  · subst h4; decide
  by_cases h5 : c = 37
  · subst h5; decide
  have z1 : (43 == c) = false := beq_eq_false_iff_ne.2 (Ne.symm h1)
  have z2 : (45 == c) = false := beq_eq_false_iff_ne.2 (Ne.symm h2)
  have z3 : (42 == c) = false := beq_eq_false_iff_ne.2 (Ne.symm h3)
  have z4 : (47 == c) = false := beq_eq_false_iff_ne.2 (Ne.symm h4)
  have z5 : (37 == c) = false := beq_eq_false_iff_ne.2 (Ne.symm h5)
  simp [Lib.indexByte, h1, h2, h3, h4, h5, z1, z2, z3, z4, z5]
end Val
open Go.RowKit Go.Shelf

set_option maxHeartbeats 1000000 in
theorem iTextual (v : Val.VV) (w : World) : Calls Tryz.prog 49 #[.agg (vC v)] w fun e w' => e = .returned (.bool (Val.textual v)) ∧ Below w.heap.size w w' := by
  unfold vC
  obtain ⟨k, n, t⟩ := v
  dsimp only
  have HB : Hid (∀ o, Below w.heap.size w (w.alloc o)) := fun o => (Below.refl _ _).alloc (Nat.le_refl _) o
  go_enter Tryz.func49, Tryz.ntmps49
  go_wp2
  all_goals
    go_ret
    refine ⟨vretB ?_, HB.out _⟩
    go_light
    simp_all [Val.textual]
    all_goals first | rfl | (rw [Bool.eq_iff_iff]; simp; omega)

set_option maxHeartbeats 1000000 in
theorem iIsCompute (op : ByteArray) (w : World) (hs : op.size ≤ 9223372036854775807) : Calls Tryz.prog 48 #[.string op] w fun e w' => e = .returned (.bool (decide (Val.isOp op))) ∧ w = w' := by
  by_cases h1 : op.size = 1
  · obtain ⟨c, rfl⟩ : ∃ c, op = ⟨#[c]⟩ := by
      have : op.data.toList.length = 1 := by rw [size_data]; exact h1
      obtain ⟨c, hc⟩ := List.length_eq_one_iff.1 this
      exact ⟨c, by rw [← Lib.mk_data op, hc]⟩
    have CO : Hid (∀ W : World, Calls Tryz.prog 78 #[.string ⟨#[43, 45, 42, 47, 37]⟩, .string ⟨#[c]⟩] W fun e w' => e = .returned (.bool (decide (Val.isOp ⟨#[c]⟩))) ∧ W = w') := by
      show ∀ W : World, _
      intro W
      rw [← Val.idx5]
      exact (Tryz.strings_Contains_one ⟨#[43, 45, 42, 47, 37]⟩ c W).mono fun e w' h => ⟨h.1, h.2.symm⟩
    generalize decide (Val.isOp ⟨#[c]⟩) = D at *
    have h1' : (((⟨#[c]⟩ : ByteArray).size : Int) == 1) = true := rfl
    clear h1 hs
    go_enter Tryz.func48, Tryz.ntmps48
    go_wp2_with fail
    refine (CO.out _).mono ?_
    rintro e w1 ⟨rfl, rfl⟩
    go_wp2_with fail
    go_ret
    exact ⟨by rfl, rfl⟩
  · have e : decide (Val.isOp op) = false := decide_eq_false fun g => h1 (isOp_size g)
    rw [e]
    have h1' : ((op.size : Int) == 1) = false := beq_eq_false_iff_ne.2 (by omega)
    clear e
    go_enter Tryz.func48, Tryz.ntmps48
    go_wp2_with fail
    go_ret
    exact ⟨rfl, rfl⟩

set_option maxHeartbeats 1000000 in
theorem iSize (n : Int) (w : World) (h1 : -9007199254740992 ≤ n) (h2 : n ≤ 9007199254740992) : Calls Tryz.prog 103 #[.int .i64 n] w fun e w' => e = .returned (.int .i64 (n.natAbs : Int)) ∧ w = w' := by
  go_enter Tryz.func103, Tryz.ntmps103
  go_wp2
  all_goals
    go_ret
    refine ⟨retI ?_, rfl⟩
    omega

end Go.Proofs.YtoficeamogbbhaaGreatDoor

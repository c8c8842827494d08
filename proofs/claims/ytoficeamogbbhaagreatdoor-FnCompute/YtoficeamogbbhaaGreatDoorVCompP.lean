/-
  Sums, differences, quotients and rests of numbers go together, plainly.
-/
import Derived.Test.YtoficeamogbbhaaGreatDoorValCompJ
namespace Go.Proofs.YtoficeamogbbhaaGreatDoor
namespace Val
def nV (n : Int) : VV := ⟨3, n, ⟨#[]⟩⟩
theorem right_nV (n : Int) : right (nV n) = true ↔ inNum n := by
  unfold right nV noText inNum
  simp
theorem number_of (v : VV) (h : right v = true) (hk : v.kind = 3) : v = nV v.num ∧ inNum v.num := by
  have hb := right_num v h hk
  refine ⟨?_, hb⟩
  obtain ⟨k, n, t⟩ := v
  dsimp only at hk
  subst hk
  unfold right at h
  rw [if_neg (by simp), if_neg (by simp), if_pos rfl] at h
  simp [noText] at h
  have ht : t = ⟨#[]⟩ := by
    rw [Lib.toList_data] at h
    exact ByteArray.ext (Array.toList_inj.1 h.2)
  rw [ht]
  rfl
theorem numO_nV (n : Int) : numO (nV n) = some n := rfl
theorem textual_nV (n : Int) : textual (nV n) = false := rfl
theorem comp_nV (op : ByteArray) (n m : Int) (ho : isOp op) (hn : inNum n) (hm : inNum m) : computeOf op (nV n) (nV m) = valO (arithO op n m) := by
  unfold computeOf
  rw [if_pos ⟨ho, (right_nV n).2 hn, (right_nV m).2 hm⟩, compute_nums op _ _ ((right_nV n).2 hn) ((right_nV m).2 hm) (by rw [textual_nV, textual_nV]; simp)]
  rfl
theorem rng_some (n : Int) (h : inNum n) : rng n = some n := by rw [rng_in, if_pos h]
theorem plus_nV (n m : Int) (hn : inNum n) (hm : inNum m) : computeOf ⟨#[43]⟩ (nV n) (nV m) = valO (rng (n + m)) := comp_nV _ n m (.inl rfl) hn hm
theorem minus_nV (n m : Int) (hn : inNum n) (hm : inNum m) : computeOf ⟨#[45]⟩ (nV n) (nV m) = valO (rng (n - m)) := comp_nV _ n m (.inr (.inl rfl)) hn hm
theorem times_nV (n m : Int) (hn : inNum n) (hm : inNum m) : computeOf ⟨#[42]⟩ (nV n) (nV m) = valO (rng (n * m)) := comp_nV _ n m (.inr (.inr (.inl rfl))) hn hm
theorem quo_nV (n m : Int) (hn : inNum n) (hm : inNum m) (h0 : m ≠ 0) : computeOf ⟨#[47]⟩ (nV n) (nV m) = nV (Int.tdiv n m) := by
  rw [comp_nV _ n m (.inr (.inr (.inr (.inl rfl)))) hn hm]
  have e : arithO ⟨#[47]⟩ n m = rng (Int.tdiv n m) := if_neg h0
  rw [e, rng_some _ (tdiv_in n m hn.1 hn.2)]
  rfl
theorem rem_nV (n m : Int) (hn : inNum n) (hm : inNum m) (h0 : m ≠ 0) : computeOf ⟨#[37]⟩ (nV n) (nV m) = nV (Int.tmod n m) := by
  rw [comp_nV _ n m (.inr (.inr (.inr (.inr rfl)))) hn hm]
  have e : arithO ⟨#[37]⟩ n m = rng (Int.tmod n m) := if_neg h0
  rw [e, rng_some _ (tmod_in n m hn.1 hn.2)]
  rfl
theorem quo_0 (n : Int) (hn : inNum n) : computeOf ⟨#[47]⟩ (nV n) (nV 0) = badV := by
  rw [comp_nV _ n 0 (.inr (.inr (.inr (.inl rfl)))) hn ⟨by decide, by decide⟩]
  rfl
theorem rem_0 (n : Int) (hn : inNum n) : computeOf ⟨#[37]⟩ (nV n) (nV 0) = badV := by
  rw [comp_nV _ n 0 (.inr (.inr (.inr (.inr rfl)))) hn ⟨by decide, by decide⟩]
  rfl
/-- A sum, either way round. -/
theorem plus_comm (n m : Int) (hn : inNum n) (hm : inNum m) : computeOf ⟨#[43]⟩ (nV m) (nV n) = computeOf ⟨#[43]⟩ (nV n) (nV m) := by
  rw [plus_nV n m hn hm, plus_nV m n hm hn, Int.add_comm]
/-- A sum less one of them is the other. -/
theorem plus_minus (n m : Int) (hn : inNum n) (hm : inNum m) (h : (computeOf ⟨#[43]⟩ (nV n) (nV m)).kind = 3) : computeOf ⟨#[45]⟩ (computeOf ⟨#[43]⟩ (nV n) (nV m)) (nV m) = nV n := by
  rw [plus_nV n m hn hm] at h ⊢
  by_cases hin : inNum (n + m)
  · rw [rng_some _ hin]
    show computeOf ⟨#[45]⟩ (nV (n + m)) (nV m) = nV n
    rw [minus_nV _ _ hin hm, show n + m - m = n by omega, rng_some _ hn]
    rfl
  · rw [rng_in, if_neg hin] at h
    exact absurd h (by decide)
theorem plus_kind (n m : Int) (hn : inNum n) (hm : inNum m) : (computeOf ⟨#[43]⟩ (nV n) (nV m)).kind = 3 ∨ (computeOf ⟨#[43]⟩ (nV n) (nV m)).kind = 4 := by
  rw [plus_nV n m hn hm]
  rcases rng (n + m) with _ | x
  · exact .inr rfl
  · exact .inl rfl
theorem quo_times_in (n m : Int) (hn : inNum n) : inNum (Int.tdiv n m * m) := by
  rw [inNum_abs] at hn ⊢
  rw [Int.natAbs_mul, Int.natAbs_tdiv]
  exact Nat.le_trans (Nat.div_mul_le_self _ _) hn
/-- A quotient times what was divided by, and the rest, are what was divided. -/
theorem quo_rem (n m : Int) (hn : inNum n) (hm : inNum m) : computeOf ⟨#[43]⟩ (computeOf ⟨#[42]⟩ (nV (Int.tdiv n m)) (nV m)) (nV (Int.tmod n m)) = nV n := by
  rw [times_nV _ _ (tdiv_in n m hn.1 hn.2) hm, rng_some _ (quo_times_in n m hn)]
  show computeOf ⟨#[43]⟩ (nV (Int.tdiv n m * m)) (nV (Int.tmod n m)) = nV n
  rw [plus_nV _ _ (quo_times_in n m hn) (tmod_in n m hn.1 hn.2)]
  have e : Int.tdiv n m * m + Int.tmod n m = n := by rw [Int.mul_comm]; exact Int.mul_tdiv_add_tmod n m
  rw [e, rng_some _ hn]
  rfl
end Val
end Go.Proofs.YtoficeamogbbhaaGreatDoor

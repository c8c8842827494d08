/-
  Heaps, plainly: what a row of Protos tells.
-/
import Derived.Test.YtlmlmdmechhalaaHp2
namespace Go.Proofs.Ytlmlmdmechhalaa.Hp

theorem Sk.step {h : List OO} {k : ByteArray} {i : Nat} {res : Option (Nat × Nat)} (hi : i < h.length) (hf : ¬ fi h[i].ps k < h[i].ps.length) (x : Sk h k i res) : Sk h k h[i].pro res := by
  generalize hr : (i : Int) = r at x
  cases x with
  | none => omega
  | hit j _ hf' => obtain rfl : i = j := by omega
                   exact absurd hf' hf
  | next j _ _ _ hn => obtain rfl : i = j := by omega
                       exact hn
theorem Sk.found {h : List OO} {k : ByteArray} {i : Nat} {res : Option (Nat × Nat)} (hi : i < h.length) (hf : fi h[i].ps k < h[i].ps.length) (x : Sk h k i res) : res = some (i, fi h[i].ps k) := x.det (.hit i hi hf)
theorem Sk.neg {h : List OO} {k : ByteArray} {r : Int} {res : Option (Nat × Nat)} (hr : r < 0) (x : Sk h k r res) : res = Option.none := x.det (.none r hr)
theorem Sk.ex {h : List OO} (hr : RightH h) (k : ByteArray) : ∀ (n : Nat) (r : Int), r < n → r < h.length → ∃ res, Sk h k r res
  | 0, r, h0, _ => ⟨_, .none r (by omega)⟩
  | n + 1, r, h0, hl => by
    by_cases hn : r < 0
    · exact ⟨_, .none r hn⟩
    obtain ⟨i, rfl⟩ : ∃ i : Nat, r = (i : Int) := ⟨r.toNat, by omega⟩
    have hi : i < h.length := by omega
    by_cases hf : fi h[i].ps k < h[i].ps.length
    · exact ⟨_, .hit i hi hf⟩
    · have := (hr.2 i hi).2.2.2.1
      obtain ⟨res, hres⟩ := Sk.ex hr k n h[i].pro (by omega) (by omega)
      exact ⟨res, .next i hi hf res hres⟩
noncomputable def skOf (h : List OO) (k : ByteArray) (r : Int) : Option (Nat × Nat) := @dite _ (∃ res, Sk h k r res) (Classical.propDecidable _) (fun x => x.choose) (fun _ => Option.none)
theorem skOf_sk {h : List OO} (hr : RightH h) (k : ByteArray) {r : Int} (hl : r < h.length) : Sk h k r (skOf h k r) := by
  have x : ∃ res, Sk h k r res := Sk.ex hr k h.length r hl hl
  unfold skOf
  rw [dif_pos x]
  exact x.choose_spec
/-- The Prop that stands there, or none. -/
def propOf (h : List OO) : Option (Nat × Nat) → PP
  | none => zeroP
  | some (i, j) => ((h[i]?).bind fun o => o.ps[j]?).getD zeroP
theorem propOf_at {h : List OO} {i j : Nat} (hi : i < h.length) (hj : j < h[i].ps.length) : propOf h (some (i, j)) = h[i].ps[j] := by
  simp [propOf, hi, hj]
def atI : Option (Nat × Nat) → Int
  | none => -1
  | some (i, _) => (i : Int)
def kI : Option (Nat × Nat) → Int
  | none => -1
  | some (_, j) => (j : Int)

/-- A right heap, and the number of one of its objects. -/
def RefOk (h : List OO) (ref : Int) : Prop := RightH h ∧ 0 ≤ ref ∧ ref < h.length
noncomputable def refB (h : List OO) (ref : Int) : Bool := @decide (RefOk h ref) (Classical.propDecidable _)
theorem refB_t {h : List OO} {ref : Int} (k : RefOk h ref) : refB h ref = true := by unfold refB; simp [k]
theorem refB_f {h : List OO} {ref : Int} (k : ¬ RefOk h ref) : refB h ref = false := by unfold refB; simp [k]
theorem refB_iff {h : List OO} {ref : Int} : refB h ref = true ↔ RefOk h ref := by unfold refB; simp
noncomputable def hasV (h : List OO) (ref : Int) (key : ByteArray) : Bool := decide (key.size ≤ 4000) && refB h ref && (skOf h key ref).isSome
noncomputable def getV (h : List OO) (ref : Int) (key : ByteArray) : Val.VV := if decide (key.size ≤ 4000) && refB h ref then (propOf h (skOf h key ref)).v else Val.zeroV
theorem hasV_long {h : List OO} {ref : Int} {key : ByteArray} (k : 4000 < key.size) : hasV h ref key = false := by unfold hasV; simp; omega
theorem hasV_no {h : List OO} {ref : Int} {key : ByteArray} (k : refB h ref = false) : hasV h ref key = false := by unfold hasV; simp [k]
theorem hasV_yes {h : List OO} {ref : Int} {key : ByteArray} (k1 : ¬ 4000 < key.size) (k : refB h ref = true) : hasV h ref key = (skOf h key ref).isSome := by
  unfold hasV
  rw [decide_eq_true (by omega : key.size ≤ 4000), k]; rfl
theorem getV_long {h : List OO} {ref : Int} {key : ByteArray} (k : 4000 < key.size) : getV h ref key = Val.zeroV := by unfold getV; simp; omega
theorem getV_no {h : List OO} {ref : Int} {key : ByteArray} (k : refB h ref = false) : getV h ref key = Val.zeroV := by unfold getV; simp [k]
theorem getV_yes {h : List OO} {ref : Int} {key : ByteArray} (k1 : ¬ 4000 < key.size) (k : refB h ref = true) : getV h ref key = (propOf h (skOf h key ref)).v := by
  unfold getV
  rw [decide_eq_true (by omega : key.size ≤ 4000), k]; rfl

end Go.Proofs.Ytlmlmdmechhalaa.Hp

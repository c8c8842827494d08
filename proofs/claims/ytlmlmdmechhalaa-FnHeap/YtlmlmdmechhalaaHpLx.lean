/-
  The law FnHeap's plain facts: sizes of a drawn heap, of what is put and deleted; what is right stays right; where the Props lie.
-/
import Derived.Test.YtlmlmdmechhalaaMkE
import Derived.Test.YtlmlmdmechhalaaHpSH
import Derived.Test.YtlmlmdmechhalaaHpSE
import Derived.Test.YtlmlmdmechhalaaHpDs
import Derived.Test.YtlmlmdmechhalaaHpJ
import Derived.Test.YtlmlmdmechhalaaHpAb
namespace Go.Proofs.Ytlmlmdmechhalaa
open Go.RowKit
open Hp (PP OO propC)

theorem lx_sum {α : Type} (f : α → Nat) (m : Nat) (l : List α) (h : ∀ x ∈ l, f x ≤ m) : (l.map f).sum ≤ l.length * m := by
  induction l with
  | nil => simp
  | cons x r ih =>
    have h1 := h x (List.mem_cons_self ..)
    have h2 := ih (fun y hy => h y (List.mem_cons_of_mem _ hy))
    simp only [List.map_cons, List.sum_cons, List.length_cons, Nat.succ_mul]
    omega
theorem lx_small {h : List OO} (hs : SmallD h) : szH h ≤ 80000 := by
  have h1 : (h.map fun o => szPs o.ps).sum ≤ h.length * 16056 := lx_sum _ _ _ fun o ho => by
    obtain ⟨k1, k2⟩ := hs.2 o ho
    have h2 : (o.ps.map szP).sum ≤ o.ps.length * 2006 := lx_sum _ _ _ fun p hp => by
      have := k2 p hp
      unfold SmallP at this
      unfold szP
      omega
    show szPs o.ps ≤ 16056
    unfold szPs
    omega
  have h3 := hs.1
  unfold szH
  omega
theorem lx_set {h : List OO} {i : Nat} (hi : i < h.length) (x : OO) : szH (h.set i x) + szPs h[i].ps = szH h + szPs x.ps := by
  have h1 := sum_set (h.map fun o => szPs o.ps) i (szPs x.ps) (by simpa using hi)
  unfold szH
  rw [List.length_set, List.map_set]
  simp only [List.getElem_map] at h1
  omega
theorem lx_put (h : List OO) (ref : Int) (key : ByteArray) (v : Val.VV) : szH (putV h ref key v) ≤ szH h + 1 + key.size + v.text.size := by
  unfold putV
  split
  · unfold szH; simp
  split
  · by_cases hi : ref.toNat < h.length
    · have h1 := lx_set hi (putO h[ref.toNat] key v)
      have h2 : szPs (putO h[ref.toNat] key v).ps ≤ szPs h[ref.toNat].ps + 1 + key.size + v.text.size := szPs_put _ _ _
      rw [List.getElem?_eq_getElem hi, Option.getD_some]
      omega
    · rw [List.set_eq_of_length_le (by omega)]
      omega
  · omega
theorem lx_erase (l : List PP) (i : Nat) : ((l.eraseIdx i).map szP).sum ≤ (l.map szP).sum := by
  induction l generalizing i with
  | nil => simp
  | cons p r ih =>
    cases i with
    | zero => simp
    | succ i =>
      have := ih i
      simp only [List.eraseIdx_cons_succ, List.map_cons, List.sum_cons]
      omega
theorem lx_delPs (ps : List PP) (key : ByteArray) : szPs (Hp.delPs ps key) ≤ szPs ps := by
  unfold Hp.delPs
  split
  · split
    · exact Nat.le_refl _
    · unfold szPs
      have h1 := lx_erase ps (Hp.fi ps key)
      have h2 := List.length_eraseIdx_le ps (Hp.fi ps key)
      omega
  · exact Nat.le_refl _
theorem lx_del (h : List OO) (ref : Int) (key : ByteArray) : szH (delV h ref key) ≤ szH h := by
  unfold delV
  split
  · unfold szH; simp
  split
  · by_cases hi : ref.toNat < h.length
    · have h1 := lx_set hi (delO h[ref.toNat] key)
      have h2 : szPs (delO h[ref.toNat] key).ps ≤ szPs h[ref.toNat].ps := lx_delPs _ _
      rw [List.getElem?_eq_getElem hi, Option.getD_some]
      omega
    · rw [List.set_eq_of_length_le (by omega)]
      omega
  · omega
theorem lx_right {h : List OO} (k : rightB h = true) : Hp.RightH h := by unfold rightB at k; simpa using k
theorem lx_rput {h : List OO} (k : rightB h = true) (ref : Int) (key : ByteArray) (v : Val.VV) : rightB (putV h ref key v) = true := rightB_t (right_put (lx_right k) ref key v)
theorem lx_rdel {h : List OO} (k : rightB h = true) (ref : Int) (key : ByteArray) : rightB (delV h ref key) = true := rightB_t (right_del (lx_right k) ref key)
/-- A row that is owned, for the specification's contracts. -/
theorem HOwn.capH {W : World} {B : Nat} {v : Value} {h : List OO} {cs : Nat → OC} (k : HOwn W B v h h.length cs) : CapH h cs := fun j hj => POwn.capO (k.2.1 j hj hj) _ rfl
theorem CapH.le {h : List OO} {cs : Nat → OC} (k : CapH h cs) : ∀ i (hi : i < h.length), h[i].ps.length ≤ (cs i).pc := fun i hi => (k i hi).1
theorem CapH.some {h : List OO} {cs : Nat → OC} (k : CapH h cs) : ∀ i (_ : i < h.length), ((cs i).pa = none ∧ h[i].ps = []) ∨ ∃ pb po, (cs i).pa = some ⟨pb, po, none⟩ := fun i hi => (k i hi).2
theorem HIn.some {W : World} {B : Nat} {a : Option Addr} {h : List OO} {cs : Nat → OC} (k : HIn W B a h cs) (hl : 1 ≤ h.length) : ∃ b o, a = some ⟨b, o, none⟩ := by
  rcases k.1 with e | ⟨b, o, e, _⟩
  · rw [e] at hl; simp at hl
  · exact ⟨b, o, e⟩
/-- What is got elsewhere: alike, or the object is above. -/
theorem lx_far {h : List OO} (hr : rightB h = true) (ref : Int) (key : ByteArray) (v : Val.VV) (k : Nat) (hk : k < h.length) (id : ByteArray) (hid : id.size ≤ 4000) (hkey : key.size ≤ 4000) (hne : Hp.getV h k id ≠ Hp.getV (putV h ref key v) k id) {r : Bool} (hab : r = false → ¬ Ab h ref k) : r = true := by
  cases r
  · exact absurd (get_far (lx_right hr) ref key v k hk id hid hkey (hab rfl)).symm hne
  · rfl

end Go.Proofs.Ytlmlmdmechhalaa

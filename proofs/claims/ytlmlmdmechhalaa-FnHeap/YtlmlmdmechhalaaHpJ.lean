/-
  Heaps, plainly: what is put or deleted leaves a heap right, and what stands elsewhere as it was.
-/
import Derived.Test.YtlmlmdmechhalaaHpRD
namespace Go.Proofs.Ytlmlmdmechhalaa
open Hp (PP OO RightH RightO RightP Unlike Sk)

theorem right_set {h : List OO} (hr : RightH h) {i : Nat} (hi : i < h.length) (ps : List PP) (hp : ∀ p ∈ ps, RightP h.length p) (hu : Unlike ps) : RightH (h.set i { h[i] with ps := ps }) := by
  refine ⟨by rw [List.length_set]; exact hr.1, fun j hj => ?_⟩
  rw [List.length_set] at hj ⊢
  by_cases e : i = j
  · subst e
    rw [List.getElem_set_self]
    obtain ⟨k1, k2, k3, k4, _, _⟩ := hr.2 i hi
    exact ⟨k1, k2, k3, k4, hp, hu⟩
  · rw [List.getElem_set_ne e]
    exact hr.2 j hj
theorem right_nil : RightH [] := ⟨by simp, fun i hi => absurd hi (by simp)⟩
theorem right_put {h : List OO} (hr : RightH h) (ref : Int) (key : ByteArray) (v : Val.VV) : RightH (putV h ref key v) := by
  by_cases k1 : 4000 < key.size
  · rw [putV_long k1]; exact right_nil
  cases hb : Hp.refB h ref
  · rw [putV_no k1 hb]; exact hr
  obtain ⟨_, h0, h1⟩ := Hp.refB_iff.1 hb
  obtain ⟨i, rfl⟩ : ∃ i : Nat, ref = i := ⟨ref.toNat, by omega⟩
  have hi : i < h.length := by omega
  rw [putV_yes k1 hb hi]
  split
  · rename_i hp
    refine right_set hr hi _ (fun p hpm => ?_) (Hp.unlike_put (hr.2 i hi).2.2.2.2.2 key v)
    rcases putPs_mem hpm with h' | ⟨e1, e2⟩
    · exact (hr.2 i hi).2.2.2.2.1 p h'
    · obtain ⟨q1, q2, q3⟩ := (prB_iff _ _).1 hp
      dsimp only at q1 q2 q3
      exact ⟨by rw [e1]; exact q1, by rw [e2]; exact q2, by rw [e2]; exact q3⟩
  · exact hr
theorem right_del {h : List OO} (hr : RightH h) (ref : Int) (key : ByteArray) : RightH (delV h ref key) := by
  by_cases k1 : 4000 < key.size
  · rw [delV_long k1]; exact right_nil
  cases hb : Hp.refB h ref
  · rw [delV_no k1 hb]; exact hr
  obtain ⟨_, h0, h1⟩ := Hp.refB_iff.1 hb
  obtain ⟨i, rfl⟩ : ∃ i : Nat, ref = i := ⟨ref.toNat, by omega⟩
  have hi : i < h.length := by omega
  rw [delV_yes k1 hb hi]
  exact right_set hr hi _ (fun p hpm => (hr.2 i hi).2.2.2.2.1 p (delPs_mem hpm)) (Hp.unlike_del (hr.2 i hi).2.2.2.2.2 key)

/-- The object of the number ref is in the row of Protos. -/
inductive Ab (h : List OO) (ref : Int) : Int → Prop
  | here (h0 : 0 ≤ ref) : Ab h ref ref
  | up (i : Nat) (hi : i < h.length) (k : Ab h ref h[i].pro) : Ab h ref i
theorem sk_far {h : List OO} {i : Nat} (hi : i < h.length) (ps : List PP) {id : ByteArray} {r : Int} {res : Option (Nat × Nat)} (x : Sk h id r res) (ha : ¬ Ab h i r) :
    Sk (h.set i { h[i] with ps := ps }) id r res ∧ Hp.propOf (h.set i { h[i] with ps := ps }) res = Hp.propOf h res := by
  induction x with
  | none r hr => exact ⟨.none r hr, rfl⟩
  | hit j hj hf =>
    have e : i ≠ j := fun e => ha (by subst e; exact .here (by omega))
    have hj' : j < (h.set i { h[i] with ps := ps }).length := by rw [List.length_set]; exact hj
    have ej : (h.set i { h[i] with ps := ps })[j] = h[j] := List.getElem_set_ne e _
    have := Sk.hit (h := h.set i { h[i] with ps := ps }) (k := id) j hj' (by rw [ej]; exact hf)
    rw [ej] at this
    refine ⟨this, ?_⟩
    rw [Hp.propOf_at hj hf, Hp.propOf_at hj' (by rw [ej]; exact hf)]
    simp only [ej]
  | next j hj hf res hn ih =>
    have e : i ≠ j := fun e => ha (by subst e; exact .here (by omega))
    have hj' : j < (h.set i { h[i] with ps := ps }).length := by rw [List.length_set]; exact hj
    have ej : (h.set i { h[i] with ps := ps })[j] = h[j] := List.getElem_set_ne e _
    obtain ⟨k1, k2⟩ := ih (fun k => ha (.up j hj k))
    exact ⟨.next j hj' (by rw [ej]; exact hf) res (by rw [ej]; exact k1), k2⟩
/-- What is got of another object, that is not above, is as it was. -/
theorem get_far {h : List OO} (hr : RightH h) (ref : Int) (key : ByteArray) (v : Val.VV) (k : Nat) (hk : k < h.length) (id : ByteArray) (hid : id.size ≤ 4000) (hkey : key.size ≤ 4000) (ha : ¬ Ab h ref k) : Hp.getV (putV h ref key v) k id = Hp.getV h k id := by
  have k1 : ¬ 4000 < key.size := by omega
  have i1 : ¬ 4000 < id.size := by omega
  cases hb : Hp.refB h ref
  · rw [putV_no k1 hb]
  obtain ⟨_, h0, h1⟩ := Hp.refB_iff.1 hb
  obtain ⟨i, rfl⟩ : ∃ i : Nat, ref = i := ⟨ref.toNat, by omega⟩
  have hi : i < h.length := by omega
  have hR := right_put hr i key v
  rw [putV_yes k1 hb hi] at hR ⊢
  split
  · rename_i hp
    rw [if_pos hp] at hR
    have rk : Hp.refB h k = true := Hp.refB_t ⟨hr, by omega, by omega⟩
    have rk' : Hp.refB (h.set i (putO h[i] key v)) k = true := Hp.refB_t ⟨hR, by omega, by rw [List.length_set]; omega⟩
    rw [Hp.getV_yes i1 rk, Hp.getV_yes i1 rk']
    have x := Hp.skOf_sk hr id (r := (k : Int)) (by omega)
    obtain ⟨y1, y2⟩ := sk_far hi (Hp.putPs h[i].ps key v) x ha
    have z := Hp.skOf_sk hR id (r := (k : Int)) (by rw [List.length_set]; omega)
    have e : Hp.skOf (h.set i (putO h[i] key v)) id k = Hp.skOf h id k := z.det y1
    rw [e]
    exact congrArg PP.v y2
  · rfl

end Go.Proofs.Ytlmlmdmechhalaa

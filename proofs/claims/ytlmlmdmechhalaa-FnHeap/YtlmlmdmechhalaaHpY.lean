/-
  Own rows of Props and of Objects behind a change of one.
-/
import Derived.Test.YtlmlmdmechhalaaHpE
import Derived.Test.YtlmlmdmechhalaaHpD
namespace Go.Proofs.Ytlmlmdmechhalaa
open Go.RowKit
open Hp (PP OO propC)

theorem get_set3 (l : List Value) (p : Nat) (a b c : Value) (k : Nat) (hp : p + 2 < l.length) : (((l.set p a).set (p + 1) b).set (p + 2) c)[k]? = if k = p then some a else if k = p + 1 then some b else if k = p + 2 then some c else l[k]? := by
  simp only [List.getElem?_set, List.length_set]
  by_cases h0 : k = p
  · subst h0
    simp
    omega
  · by_cases h1 : k = p + 1
    · subst h1
      simp
      omega
    · by_cases h2 : k = p + 2
      · subst h2
        simp
        omega
      · simp [h0, h1, h2, Ne.symm h0, Ne.symm h1, Ne.symm h2]
theorem rowO_set3 (h : List OO) (cs : Nat → OC) (i : Nat) (hi : i < h.length) (x : OO) (c : OC) :
    (((rowO h cs h.length).set (i * 3) (.int .i64 x.cls)).set (i * 3 + 1) (.int .i64 x.pro)).set (i * 3 + 2) (.slice c.pa x.ps.length c.pc) = rowO (h.set i x) (fun j => if j = i then c else cs j) (h.set i x).length := by
  apply List.ext_getElem?
  intro k
  rw [get_set3 _ _ _ _ _ _ (by rw [rowO_len]; omega)]
  by_cases hk : k < h.length * 3
  · obtain ⟨j, o, ho, rfl⟩ : ∃ j o, o < 3 ∧ k = j * 3 + o := ⟨k / 3, k % 3, by omega, by omega⟩
    have hj : j < h.length := by omega
    rw [rowO_at (h.set i x) (fun j => if j = i then c else cs j) (h.set i x).length j (by rw [List.length_set]; exact hj) (by rw [List.length_set]; exact hj) o ho]
    by_cases e : j = i
    · subst e
      rw [List.getElem_set_self]
      have : o = 0 ∨ o = 1 ∨ o = 2 := by omega
      rcases this with rfl | rfl | rfl <;> simp [objL]
    · rw [List.getElem_set_ne (fun e2 => e e2.symm), if_neg (by omega), if_neg (by omega), if_neg (by omega), rowO_at h cs h.length j hj hj o ho, if_neg e]
  · rw [if_neg (by omega), if_neg (by omega), if_neg (by omega), List.getElem?_eq_none (by rw [rowO_len]; omega), List.getElem?_eq_none (by rw [rowO_len, List.length_set]; omega)]
theorem flatP_set3 (ps : List PP) (i : Nat) (hi : i < ps.length) (v : Val.VV) :
    (((ps.flatMap propL).set (i * 6 + 1) (.int .i64 v.kind)).set (i * 6 + 1 + 1) (.int .i64 v.num)).set (i * 6 + 1 + 2) (.string v.text) = (ps.set i { ps[i] with v := v }).flatMap propL := by
  apply List.ext_getElem?
  intro k
  rw [get_set3 _ _ _ _ _ _ (by rw [flatP_len]; omega)]
  by_cases hk : k < ps.length * 6
  · obtain ⟨j, o, ho, rfl⟩ : ∃ j o, o < 6 ∧ k = j * 6 + o := ⟨k / 6, k % 6, by omega, by omega⟩
    have hj : j < ps.length := by omega
    rw [flatP_at (ps.set i { ps[i] with v := v }) j (by rw [List.length_set]; exact hj) o ho]
    by_cases e : j = i
    · subst e
      rw [List.getElem_set_self]
      have : o = 0 ∨ o = 1 ∨ o = 2 ∨ o = 3 ∨ o = 4 ∨ o = 5 := by omega
      rcases this with rfl | rfl | rfl | rfl | rfl | rfl
      · rw [if_neg (by omega), if_neg (by omega), if_neg (by omega), flatP_at ps j hj 0 (by omega)]; rfl
      · rw [if_pos (by omega)]; rfl
      · rw [if_neg (by omega), if_pos (by omega)]; rfl
      · rw [if_neg (by omega), if_neg (by omega), if_pos (by omega)]; rfl
      · rw [if_neg (by omega), if_neg (by omega), if_neg (by omega), flatP_at ps j hj 4 (by omega)]; rfl
      · rw [if_neg (by omega), if_neg (by omega), if_neg (by omega), flatP_at ps j hj 5 (by omega)]; rfl
    · rw [List.getElem_set_ne (fun e2 => e e2.symm), if_neg (by omega), if_neg (by omega), if_neg (by omega), flatP_at ps j hj o ho]
  · rw [if_neg (by omega), if_neg (by omega), if_neg (by omega), List.getElem?_eq_none (by rw [flatP_len]; omega), List.getElem?_eq_none (by rw [flatP_len, List.length_set]; omega)]

def setV (w : World) (g o : Nat) (v : Val.VV) : World := ((w.setCell ⟨g, o, none⟩ (.int .i64 v.kind)).setCell ⟨g, o + 1, none⟩ (.int .i64 v.num)).setCell ⟨g, o + 2, none⟩ (.string v.text)
theorem setV_other (w : World) (g o : Nat) (v : Val.VV) (q : Nat) (hq : q ≠ g) : (setV w g o v).heap[q]? = w.heap[q]? :=
  (Below.heap_setCell _ ⟨g, o + 2, none⟩ _ q hq).trans ((Below.heap_setCell _ ⟨g, o + 1, none⟩ _ q hq).trans (Below.heap_setCell _ ⟨g, o, none⟩ _ q hq))
theorem setV_below {w W : World} {B : Nat} (h : Below B w W) {g : Nat} (o : Nat) (v : Val.VV) (hb : B ≤ g) : Below B w (setV W g o v) :=
  ((h.setCell (p := ⟨g, o, none⟩) hb _).setCell (p := ⟨g, o + 1, none⟩) hb _).setCell (p := ⟨g, o + 2, none⟩) hb _
theorem setO_other (w : World) (g o : Nat) (x : OO) (c : OC) (q : Nat) (hq : q ≠ g) : (setO w g o x c).heap[q]? = w.heap[q]? :=
  (Below.heap_setCell _ ⟨g, o + 2, none⟩ _ q hq).trans ((Below.heap_setCell _ ⟨g, o + 1, none⟩ _ q hq).trans (Below.heap_setCell _ ⟨g, o, none⟩ _ q hq))
theorem POwn.setV {w : World} {B g cap : Nat} {ps : List PP} (k : POwn w B (.slice (some ⟨g, 0, none⟩) ps.length cap) ps) {i : Nat} (hi : i < ps.length) (v : Val.VV) :
    POwn (Go.Proofs.Ytlmlmdmechhalaa.setV w g (i * 6 + 1) v) B (.slice (some ⟨g, 0, none⟩) ps.length cap) (ps.set i { ps[i] with v := v }) := by
  have h3 := own_put (own_put (own_put k (i * 6 + 1) (.int .i64 v.kind)) (i * 6 + 1 + 1) (.int .i64 v.num)) (i * 6 + 1 + 2) (.string v.text)
  rw [flatP_set3 ps i hi v] at h3
  unfold POwn
  rw [List.length_set]
  exact h3
theorem HOwn.turn {w w1 : World} {lo g cap L : Nat} {h : List OO} {cs : Nat → OC} (k : HOwn w lo (.slice (some ⟨g, 0, none⟩) h.length cap) h h.length cs) {i : Nat} (hi : i < h.length) (hb : Below w.heap.size w w1) (hL : w.heap.size ≤ L) (hlo : lo ≤ L) {x : OO} {c : OC} (hp : POwn w1 L (pV x c) x.ps) :
    HOwn (setO w1 g (i * 3) x c) lo (.slice (some ⟨g, 0, none⟩) h.length cap) (h.set i x) (h.set i x).length (fun j => if j = i then c else cs j) := by
  have k1 := k.under hb
  have hne := setO_other w1 g (i * 3) x c
  refine ⟨?_, fun j hj hjn => ?_, fun i' j hi' hj hij hjn q h1 h2 => ?_⟩
  · have h3 := own_put (own_put (own_put k1.1 (i * 3) (.int .i64 x.cls)) (i * 3 + 1) (.int .i64 x.pro)) (i * 3 + 2) (.slice c.pa x.ps.length c.pc)
    rw [rowO_set3 h cs i hi x c] at h3
    rw [List.length_set] at h3 ⊢
    exact h3
  · have hj' : j < h.length := by rw [List.length_set] at hj; exact hj
    by_cases e : j = i
    · subst e
      simp only [if_true, List.getElem_set_self]
      exact World.ownsRow.mono (row_same hp fun q hq => hne q fun e => own_ne hp k1.1 (by decide) hq (by rw [e]; rfl)) hlo
    · simp only [if_neg e, List.getElem_set_ne (fun e2 => e e2.symm)]
      have h2 := k1.2.1 j hj' hj'
      exact row_same h2 fun q hq => hne q fun e => own_ne h2 k1.1 (by decide) hq (by rw [e]; rfl)
  · have hj' : j < h.length := by rw [List.length_set] at hj; exact hj
    have hi'' : i' < h.length := by omega
    dsimp only at h1 h2
    by_cases e : j = i
    · subst e
      rw [if_neg (by omega), List.getElem_set_ne (by omega)] at h1
      simp only [if_true, List.getElem_set_self] at h2
      have a1 := (World.ownsRow.lt (k.2.1 i' hi'' hi'') q h1).2
      have a2 := (World.ownsRow.lt hp q h2).1
      omega
    · rw [if_neg e, List.getElem_set_ne (fun e2 => e e2.symm)] at h2
      by_cases e1 : i' = i
      · subst e1
        simp only [if_true, List.getElem_set_self] at h1
        have a1 := (World.ownsRow.lt (k.2.1 j hj' hj') q h2).2
        have a2 := (World.ownsRow.lt hp q h1).1
        omega
      · rw [if_neg e1, List.getElem_set_ne (fun e2 => e1 e2.symm)] at h1
        exact k.2.2 i' j hi'' hj' hij hj' q h1 h2

end Go.Proofs.Ytlmlmdmechhalaa

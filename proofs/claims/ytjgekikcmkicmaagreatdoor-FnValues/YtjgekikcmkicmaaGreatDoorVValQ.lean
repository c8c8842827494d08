/-
  A right number of at most fifteen digits is told of its text, plainly.
-/
import Derived.Test.YtjgekikcmkicmaaGreatDoorVValP
import Derived.Test.YtjgekikcmkicmaaGreatDoorValINumV
namespace Go.Proofs.YtjgekikcmkicmaaGreatDoor
namespace Val
theorem decT_small (n : Int) (h1 : -999999999999999 ≤ n) (h2 : n ≤ 999999999999999) : (decT n).size ≤ 16 := by
  rw [← itoa_eq]
  show (Lib.itoa n).length ≤ 16
  unfold Lib.itoa
  by_cases hn : n < 0
  · rw [if_pos hn]
    have hl := nDig15 14 n.natAbs (by omega)
    rw [← Lib.decDigits_length] at hl
    simp only [List.length_cons]
    omega
  · rw [if_neg hn]
    have hl := nDig15 14 n.toNat (by omega)
    rw [← Lib.decDigits_length] at hl
    omega
theorem e0_of {t : ByteArray} (h : t.toList.isEmpty = true) : t = e0 := by
  rw [List.isEmpty_iff, ByteArray.toList_eq] at h
  unfold e0
  cases t with
  | mk d => simp only [Array.toList_eq_nil_iff] at h; rw [h]
theorem back_num (n : Int) (t : ByteArray) (hr : right ⟨3, n, t⟩ = true) (h1 : -999999999999999 ≤ n) (h2 : n ≤ 999999999999999) : toNumV ⟨5, 0, textOf ⟨3, n, t⟩⟩ = ⟨3, n, t⟩ := by
  have ht : t = e0 := by
    unfold right at hr
    simp [noText] at hr
    exact e0_of (by simpa using hr.2)
  have e1 : textOf ⟨3, n, t⟩ = decT n := by
    unfold textOf
    rw [hr]
    simp [toTextV]
  rw [e1]
  have hr5 : right ⟨5, 0, decT n⟩ = true := by
    have := decT_small n h1 h2
    unfold right
    simp
    omega
  unfold toNumV
  rw [hr5]
  simp only [if_true]
  unfold numberV
  simp only [read_back n h1 h2]
  unfold numV
  rw [ht]
  simp
  omega
theorem alike_imp (a b : VV) (h : alikeV a b = true) : equalV a b = true := by
  unfold alikeV at h
  unfold equalV
  simp only [Bool.and_eq_true] at h ⊢
  exact ⟨h.1, alike_equal a b h.2⟩
end Val
end Go.Proofs.YtjgekikcmkicmaaGreatDoor

/-
  The walks of the specification's l04ToText.
-/
import Derived.Test.YtjgekikcmkicmaaGreatDoorValDec
namespace Go.Proofs.YtjgekikcmkicmaaGreatDoor
namespace Val
def toTextV (v : VV) : ByteArray :=
  if v.kind = 0 then ⟨#[117, 110, 100, 101, 102, 105, 110, 101, 100]⟩ else if v.kind = 1 then ⟨#[110, 117, 108, 108]⟩
  else if v.kind = 2 then (if v.num = 1 then ⟨#[116, 114, 117, 101]⟩ else ⟨#[102, 97, 108, 115, 101]⟩) else if v.kind = 3 then decT v.num
  else if v.kind = 5 then v.text else if v.kind = 6 then ⟨#[91, 111, 98, 106, 101, 99, 116, 93]⟩ else ⟨#[78, 97, 78]⟩
def objT : ByteArray := ⟨#[91, 111, 98, 106, 101, 99, 116, 93]⟩
def plainV (v : VV) : VV := if v.kind = 6 then ⟨5, 0, objT⟩ else v
end Val
open Go.RowKit

set_option maxHeartbeats 2000000 in
theorem sToText0 (v : Val.VV) (w : World) (h : v.kind = 3 → -4611686018427387904 ≤ v.num ∧ v.num ≤ 4611686018427387904) :
    Calls Tryz.prog 50 #[.agg (vC v)] w fun e w' => e = .returned (.string (Val.toTextV v)) ∧ Below w.heap.size w w' := by
  unfold vC
  obtain ⟨k, n, t⟩ := v
  dsimp only at h ⊢
  have hb : ∀ o, Below w.heap.size w (w.alloc o) := fun o => (Below.refl _ _).alloc (Nat.le_refl _) o
  have HB : Hid (∀ o, Below w.heap.size w (w.alloc o)) := hb
  clear hb
  by_cases h0 : k = 0
  · subst h0
    go_enter Tryz.func50, Tryz.ntmps50
    go_wp2_with fail
    go_ret
    exact ⟨rfl, HB.out _⟩
  by_cases h1 : k = 1
  · subst h1
    go_enter Tryz.func50, Tryz.ntmps50
    go_wp2_with fail
    go_ret
    exact ⟨rfl, HB.out _⟩
  by_cases h2 : k = 2
  · subst h2
    by_cases hn : n = 1
    · subst hn
      go_enter Tryz.func50, Tryz.ntmps50
      go_wp2_with fail
      go_ret
      exact ⟨rfl, HB.out _⟩
    · have hn' : (n == 1) = false := beq_eq_false_iff_ne.2 hn
      have e : Val.toTextV ⟨2, n, t⟩ = ⟨#[102, 97, 108, 115, 101]⟩ := by simp [Val.toTextV, hn]
      rw [e]
      go_enter Tryz.func50, Tryz.ntmps50
      go_wp2_with fail
      go_ret
      exact ⟨rfl, HB.out _⟩
  by_cases h3 : k = 3
  · subst h3
    obtain ⟨b1, b2⟩ := h rfl
    have e : Val.toTextV ⟨3, n, t⟩ = Val.decT n := rfl
    rw [e]
    go_enter Tryz.func50, Tryz.ntmps50
    go_wp2_with fail
    refine (sDec n _ b1 b2).mono ?_
    rintro e w1 ⟨rfl, hb1⟩
    have hbf := (HB.out _).trans (hb1.mono (HB.out _).size)
    go_wp2_with fail
    go_ret
    exact ⟨rfl, hbf⟩
  by_cases h5 : k = 5
  · subst h5
    go_enter Tryz.func50, Tryz.ntmps50
    go_wp2_with fail
    go_ret
    exact ⟨rfl, HB.out _⟩
  by_cases h6 : k = 6
  · subst h6
    go_enter Tryz.func50, Tryz.ntmps50
    go_wp2_with fail
    go_ret
    exact ⟨rfl, HB.out _⟩
  have e : Val.toTextV ⟨k, n, t⟩ = ⟨#[78, 97, 78]⟩ := by simp [Val.toTextV, h0, h1, h2, h3, h5, h6]
  rw [e]
  have d0 : (k == 0) = false := beq_eq_false_iff_ne.2 h0
  have d1 : (k == 1) = false := beq_eq_false_iff_ne.2 h1
  have d2 : (k == 2) = false := beq_eq_false_iff_ne.2 h2
  have d3 : (k == 3) = false := beq_eq_false_iff_ne.2 h3
  have d5 : (k == 5) = false := beq_eq_false_iff_ne.2 h5
  have d6 : (k == 6) = false := beq_eq_false_iff_ne.2 h6
  clear h
  go_enter Tryz.func50, Tryz.ntmps50
  go_wp2_with fail
  go_ret
  exact ⟨rfl, HB.out _⟩

end Go.Proofs.YtjgekikcmkicmaaGreatDoor

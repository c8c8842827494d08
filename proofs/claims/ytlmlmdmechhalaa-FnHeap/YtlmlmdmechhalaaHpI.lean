/-
  The walks of the program's isStorable, isRightProp.
-/
import Derived.Test.YtlmlmdmechhalaaHpL
import Derived.Test.YtlmlmdmechhalaaValRight
namespace Go.Proofs.Ytlmlmdmechhalaa
open Go.RowKit
open Hp (PP OO propC)

def stB (n : Nat) (v : Val.VV) : Bool := Val.right v && (decide (v.kind ≠ 6) || decide (v.num < n))
def prB (n : Nat) (p : PP) : Bool := decide (p.key.size ≤ 1000) && stB n p.v
theorem prB_iff (n : Nat) (p : PP) : prB n p = true ↔ Hp.RightP n p := by
  unfold prB stB Hp.RightP
  simp only [Bool.and_eq_true, Bool.or_eq_true, decide_eq_true_eq]
  constructor
  · rintro ⟨h1, h2, h3⟩
    exact ⟨h1, h2, fun h => h3.resolve_left (fun h' => h' h)⟩
  · rintro ⟨h1, h2, h3⟩
    exact ⟨h1, h2, if h : p.v.kind = 6 then .inr (h3 h) else .inl h⟩

set_option maxHeartbeats 2000000 in
theorem iStorable (v : Val.VV) (n : Nat) (w : World) : Calls Try.prog 82 #[.agg (vC v), .int .i64 n] w fun e w' => e = .returned (.bool (stB n v)) ∧ Below w.heap.size w w' := by
  have C1 := fun (W : World) => iValueRight v W
  obtain ⟨k, m, t⟩ := v
  unfold stB
  generalize Val.right ⟨k, m, t⟩ = R at *
  unfold vC at *
  dsimp only at *
  have H1 : Hid (∀ W, Calls Try.prog 88 #[.agg #[.int .i64 k, .int .i64 m, .string t]] W fun e w' => e = .returned (.bool R) ∧ Below W.heap.size W w') := C1
  clear C1
  have HB0 : Hid (∀ o, Below w.heap.size w (w.alloc o)) := fun o => (Below.refl _ _).alloc (Nat.le_refl _) o
  go_enter Try.func82, Try.ntmps82
  go_wp2_with fail
  refine (H1.out _).mono ?_
  rintro e w1 ⟨rfl, hb1⟩
  have hbw : Below w.heap.size w w1 := (HB0.out _).trans (hb1.mono (HB0.out _).size)
  obtain ⟨hcc, hff⟩ := oldC hb1
  have hz1 : w.heap.size < w1.heap.size := by have := hb1.size; simp at this; omega
  have HBW : Hid (Below w.heap.size w w1) := hbw
  clear hbw hb1
  cases R
  · go_wp2_with fail
    go_ret
    exact ⟨rfl, HBW.out⟩
  by_cases hk : k = 6
  · have d1 : (k != 6) = false := by simp [hk]
    by_cases hm : m < (n : Int)
    · go_wp2_with fail
      go_ret
      exact ⟨vretB (by simp [hm]), HBW.out⟩
    · go_wp2_with fail
      go_ret
      exact ⟨vretB (by simp [hk]), HBW.out⟩
  · have d1 : (k != 6) = true := bne_iff_ne.2 hk
    go_wp2_with fail
    go_ret
    exact ⟨vretB (by simp [hk]), HBW.out⟩

set_option maxHeartbeats 2000000 in
theorem iRightProp (p : PP) (n : Nat) (w : World) : Calls Try.prog 73 #[.agg (propC p), .int .i64 n] w fun e w' => e = .returned (.bool (prB n p)) ∧ Below w.heap.size w w' := by
  obtain ⟨key, ⟨k, m, t⟩, hd, fx⟩ := p
  have C1 := fun (W : World) => iStorable ⟨k, m, t⟩ n W
  unfold prB
  dsimp only
  generalize stB n ⟨k, m, t⟩ = R at *
  unfold vC at C1
  unfold propC
  dsimp only at *
  have H1 : Hid (∀ W, Calls Try.prog 82 #[.agg #[.int .i64 k, .int .i64 m, .string t], .int .i64 n] W fun e w' => e = .returned (.bool R) ∧ Below W.heap.size W w') := C1
  clear C1
  have HB0 : Hid (∀ o, Below w.heap.size w (w.alloc o)) := fun o => (Below.refl _ _).alloc (Nat.le_refl _) o
  go_enter Try.func73, Try.ntmps73
  by_cases hs : key.size ≤ 1000
  · have hs' : (key.size : Int) ≤ 1000 := by omega
    go_wp2_with fail
    refine (H1.out _).mono ?_
    rintro e w1 ⟨rfl, hb1⟩
    have hbw : Below w.heap.size w w1 := (HB0.out _).trans (hb1.mono (HB0.out _).size)
    go_wp2_with fail
    go_ret
    exact ⟨vretB (by simp [hs]), hbw⟩
  · have hs' : ¬ (key.size : Int) ≤ 1000 := by omega
    go_wp2_with fail
    go_ret
    exact ⟨vretB (by simp), HB0.out _⟩

end Go.Proofs.Ytlmlmdmechhalaa

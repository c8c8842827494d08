/-
  The walk of the laws' lwAbove.
-/
import Derived.Test.YtlmlmdmechhalaaHpJ
namespace Go.Proofs.Ytlmlmdmechhalaa
open Go.RowKit
open Hp (PP OO propC)

theorem ab_neg {h : List OO} {ref k : Int} (hk : k < 0) : ¬ Ab h ref k := fun x => by
  cases x with
  | here h0 => omega
  | up i hi _ => omega
theorem ab_step {h : List OO} {ref : Int} {i : Nat} (hi : i < h.length) (hne : (i : Int) ≠ ref) (hn : ¬ Ab h ref h[i].pro) : ¬ Ab h ref i := fun x => by
  generalize hr : (i : Int) = r at x hne
  cases x with
  | here h0 => exact hne rfl
  | up j hj k =>
    obtain rfl : i = j := by omega
    exact hn k

set_option maxHeartbeats 4000000 in
set_option maxRecDepth 100000 in
theorem lAbove (a : Option Addr) (cap B : Nat) (h : List OO) (cs : Nat → OC) (k : Nat) (ref : Int) (w : World) (hr : Hp.RightH h) (hk : k < h.length) (hin : HIn w B a h cs) :
    Calls Try.prog 21 #[.agg #[.slice a h.length cap], .int .i64 k, .int .i64 ref] w fun e w' => ∃ r : Bool, e = .returned (.bool r) ∧ (r = false → ¬ Ab h ref k) ∧ Below w.heap.size w w' := by
  have HI : Hid (HIn w B a h cs ∧ Hp.RightH h) := ⟨hin, hr⟩
  have hlen := hr.1
  have HB0 : Hid (∀ o, Below w.heap.size w (w.alloc o)) := fun o => (Below.refl _ _).alloc (Nat.le_refl _) o
  clear hin hr
  go_enter Try.func21, Try.ntmps21
  go_wp2_with fail
  generalize hW0 : w.alloc _ = W0
  have hBW : Below w.heap.size w W0 := by rw [← hW0]; exact HB0.out _
  have x0 : W0.cell? ⟨w.heap.size, 0, none⟩ = some (.slice a h.length cap) := by rw [← hW0, World.cell?_alloc_new]; rfl
  clear hW0 HB0
  go_loopw [1] (fun vk wr => ∃ k' : Int, vk = .int .i64 k' ∧ -1 ≤ k' ∧ k' < h.length ∧ wr = W0 ∧ Hid (¬ Ab h ref k' → ¬ Ab h ref k)) (fun vk _ => (intOf vk + 1).toNat)
  case atStart => exact ⟨k, rfl, by omega, by omega, rfl, fun x => x⟩
  case round =>
    obtain ⟨k', rfl, hk0, hkl, rfl, HA⟩ := hrel
    by_cases hneg : k' < 0
    · have hneg' : ¬ (0 : Int) ≤ k' := by omega
      go_wp2_with fail
      go_ret
      exact .inl ⟨rfl, HA.out (ab_neg hneg), hBW⟩
    have hneg' : (0 : Int) ≤ k' := by omega
    by_cases heq : k' = ref
    · subst heq
      go_wp2_with fail
      go_ret
      exact .inr ⟨rfl, hBW⟩
    obtain ⟨i, rfl⟩ : ∃ i : Nat, k' = (i : Int) := ⟨k'.toNat, by omega⟩
    have hi : i < h.length := by omega
    have heq' : ((i : Int) == ref) = false := by simp [heq]
    obtain ⟨⟨hos, -⟩, hR⟩ := HI.out
    rcases hos with e | ⟨b, o, rfl, hB, hc⟩
    · rw [e] at hi; simp at hi
    have h3 := (hc i hi).2.1
    have c1 : wr.cell? ⟨b, o + i * 3 + 1, none⟩ = some (.int .i64 h[i].pro) := (World.cell?_of_block (w := w) (hBW.block b (World.block_lt_of_cell? w _ h3))).trans h3
    have HP : Hid (-1 ≤ h[i].pro ∧ h[i].pro < i ∧ (¬ Ab h ref h[i].pro → ¬ Ab h ref k)) := ⟨(hR.2 i hi).2.2.1, (hR.2 i hi).2.2.2.1, fun x => HA.out (ab_step hi heq x)⟩
    clear hc hR h3
    generalize h[i].pro = pro at *
    go_wp2_with fail
    have := HP.out
    first | exact ⟨⟨pro, rfl, this.1, by omega, rfl, this.2.2⟩, by simp [intOf]; omega⟩ | exact ⟨⟨pro, rfl, this.1, by omega, trivial, this.2.2⟩, by simp [intOf]; omega⟩

end Go.Proofs.Ytlmlmdmechhalaa

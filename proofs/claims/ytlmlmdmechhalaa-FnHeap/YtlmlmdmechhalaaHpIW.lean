/-
  The walk of the program's HeapRight.
-/
import Derived.Test.YtlmlmdmechhalaaHpIR
namespace Go.Proofs.Ytlmlmdmechhalaa
open Go.RowKit
open Hp (PP OO propC rP kl encP putAll)

set_option maxHeartbeats 4000000 in
theorem iHeapRight (a : Option Addr) (cap B : Nat) (h : List OO) (cs : Nat → OC) (w : World) (hz : szH h ≤ 1048576) (hok : OkH h) (hh : HIn w B a h cs) :
    Calls Try.prog 14 #[.agg #[.slice a h.length cap]] w fun e w' => e = .returned (.bool (rightB h)) ∧ Below w.heap.size w w' := by
  have C1 := fun (W : World) (hW : Below w.heap.size w W) => iHoldersOf a cap B h cs W hz hok (hh.under hW)
  have H1 : Hid _ := C1
  clear C1 hh hok hz
  generalize rightB h = R at *
  generalize h.length = len at *
  have HB0 : Hid (∀ o, Below w.heap.size w (w.alloc o)) := fun o => (Below.refl _ _).alloc (Nat.le_refl _) o
  go_enter Try.func14, Try.ntmps14
  go_wp2_with fail
  first
    | (refine (H1.out _ (HB0.out _)).mono ?_
       rintro e w1 ⟨v, rfl, hb1, -⟩
       have hbf := (HB0.out _).trans (hb1.mono (HB0.out _).size)
       go_wp2_with fail
       go_ret
       exact ⟨rfl, hbf⟩)
    | (refine (H1.out _ (Below.refl _ _)).mono ?_
       rintro e w1 ⟨v, rfl, hb1, -⟩
       go_wp2_with fail
       go_ret
       exact ⟨rfl, hb1⟩)

end Go.Proofs.Ytlmlmdmechhalaa

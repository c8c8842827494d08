/-
  The walk of the specification's l04Plain.
-/
import Derived.Test.YtjgekikcmkicmaaGreatDoorValToT
import Derived.Test.YtjgekikcmkicmaaGreatDoorValT
namespace Go.Proofs.YtjgekikcmkicmaaGreatDoor
open Go.RowKit

set_option maxHeartbeats 2000000 in
theorem sPlain (v : Val.VV) (w : World) : Calls Tryz.prog 84 #[.agg (vC v)] w fun e w' => e = .returned (.agg (vC (Val.plainV v))) ∧ Below w.heap.size w w' := by
  have T0 : Hid _ := fun (W : World) (n : Int) (t : ByteArray) => sToText0 ⟨6, n, t⟩ W (fun h => by simp at h)
  have T1 : Hid _ := fun (W : World) => sText Val.objT W
  obtain ⟨k, n, t⟩ := v
  have hb : ∀ o1 o2, Below w.heap.size w ((w.alloc o1).alloc o2) := fun o1 o2 => ((Below.refl _ _).alloc (Nat.le_refl _) o1).alloc (by simp) o2
  have HB : Hid (∀ o1 o2, Below w.heap.size w ((w.alloc o1).alloc o2)) := hb
  clear hb
  by_cases h6 : k = 6
  · subst h6
    have e : Val.plainV ⟨6, n, t⟩ = ⟨5, 0, Val.objT⟩ := rfl
    rw [e]
    have e2 : Val.textV Val.objT = ⟨5, 0, Val.objT⟩ := if_neg (by decide)
    rw [e2] at T1
    unfold vC at *
    dsimp only at *
    go_enter Tryz.func84, Tryz.ntmps84
    go_wp2_with fail
    refine (T0.out _ n t).mono ?_
    rintro e w1 ⟨rfl, hb1⟩
    rw [show Val.toTextV ⟨6, n, t⟩ = Val.objT from rfl]
    have hr1 := res_facts hb1
    have hbw : Below w.heap.size w w1 := (HB.out _ _).trans (hb1.mono (HB.out _ _).size)
    have hlt : w.heap.size + 1 < w1.heap.size := (Array.getElem?_eq_some_iff.1 hr1).1
    clear hb1 T0 e e2
    generalize hO : Val.objT = O at *
    have HO : Hid (Val.objT = O) := hO
    clear hO
    go_wp2_with fail
    refine (T1.out w1).mono ?_
    rintro e w2 ⟨rfl, hb2⟩
    obtain ⟨⟨r0, r1, r2⟩, f0, f1, f2⟩ := v3_of ((hb2.block _ hlt).trans hr1)
    have hbf : Below w.heap.size w w2 := hbw.trans (hb2.mono hbw.size)
    go_wp2_with fail
    refine bodyPost_ret (v := .agg #[.int .i64 5, .int .i64 0, .string O]) (by simp [results, Tryz.results84, go_sem, r0, r1, r2]) rfl ⟨by rw [HO.out], ?_⟩
    exact ((hbf.setCell (by simp) _).setCell (by simp) _).setCell (by simp) _
  · have e : Val.plainV ⟨k, n, t⟩ = ⟨k, n, t⟩ := if_neg h6
    rw [e]
    have h6' : (k == 6) = false := beq_eq_false_iff_ne.2 h6
    clear T0 T1
    unfold vC
    dsimp only
    go_enter Tryz.func84, Tryz.ntmps84
    go_wp2_with fail
    refine bodyPost_ret (v := .agg #[.int .i64 k, .int .i64 n, .string t]) (by simp [results, Tryz.results84, go_sem]) rfl ⟨rfl, ?_⟩
    exact HB.out _ _

end Go.Proofs.YtjgekikcmkicmaaGreatDoor

/-
  The program's numberOf and numberValue, told in one form; its small functions on values: isMissing, textValue, withoutRef, and those of a pair.
-/
import Derived.Test.YtjgekikcmkicmaaGreatDoorValINumV
import Derived.Test.YtjgekikcmkicmaaGreatDoorValText
import Derived.Test.YtjgekikcmkicmaaGreatDoorValPut
import Derived.Test.YtjgekikcmkicmaaGreatDoorValEqS
import Derived.Deep.CutRange
import Derived.Deep.RegionWith
import Derived.BigRegion
namespace Go.Proofs.YtjgekikcmkicmaaGreatDoor
namespace Val
def valO : Option Int → VV
  | some n => ⟨3, n, e0⟩
  | none => badV
theorem plain_right (v : VV) (h : right v = true) : right (plainV v) = true := by
  unfold plainV
  by_cases g : v.kind = 6
  · rw [if_pos g]; decide
  · rw [if_neg g]; exact h
theorem numberV_valO (v : VV) (h : right v = true) : numberV v = valO (numO v) := by
  rw [numO_V v h]
  unfold valO
  rfl
end Val
open Go.RowKit Go.Shelf

/-- A number and its error, as numberOf tells them. -/
inductive Says (W : World) : Option Int → Int → Value → Prop
  | num (n : Int) : Says W (some n) n .nilIface
  | none (b : Nat) (hl : LiesE W b) : Says W Option.none 0 (.iface 61 (.pointer (some ⟨b, 0, Option.none⟩)))
theorem Says.keep {W W' : World} {o : Option Int} {m : Int} {E : Value} (h : Says W o m E) (hb : Below W.heap.size W W') : Says W' o m E := by
  cases h with
  | num => exact .num _
  | none b hl => exact .none b (hl.keep hb)

theorem iNumberOf2 (v : Val.VV) (w : World) (hx : v.text.size ≤ 1000) :
    Calls Tryz.prog 52 #[.agg (vC v)] w fun e w' => ∃ m E, e = .returned (.tuple #[.int .i64 m, E]) ∧ Says w' (Val.numO v) m E ∧ Below w.heap.size w w' := by
  refine (iNumberOf v w (by omega)).mono fun e w' h => ?_
  generalize Val.numO v = o at h ⊢
  cases h with
  | num n hb => exact ⟨n, _, rfl, .num n, hb⟩
  | none b h0 hl hb => exact ⟨0, _, rfl, .none b hl, hb⟩
theorem iNumberValue2 (o : Option Int) (m : Int) (E : Value) (w : World) (h : Says w o m E) (he : ErrIn w) :
    Calls Tryz.prog 51 #[.int .i64 m, E] w fun e w' => e = .returned (.agg (vC (Val.valO o))) ∧ Below w.heap.size w w' := by
  cases h with
  | num => exact iNumberValue1 m w
  | none b hl => exact iNumberValue0 0 b w hl he

set_option maxHeartbeats 1000000 in
theorem iMissing (v : Val.VV) (w : World) : Calls Tryz.prog 80 #[.agg (vC v)] w fun e w' => e = .returned (.bool (Val.miss v)) ∧ Below w.heap.size w w' := by
  unfold vC
  obtain ⟨k, n, t⟩ := v
  dsimp only
  have HB : Hid (∀ o, Below w.heap.size w (w.alloc o)) := fun o => (Below.refl _ _).alloc (Nat.le_refl _) o
  go_enter Tryz.func80, Tryz.ntmps80
  go_wp2
  all_goals
    go_ret
    refine ⟨vretB ?_, HB.out _⟩
    go_light
    simp_all [Val.miss]
    all_goals first | rfl | (rw [Bool.eq_iff_iff]; simp; omega)

set_option maxHeartbeats 1000000 in
theorem iTextValue (t : ByteArray) (w : World) : Calls Tryz.prog 59 #[.string t] w fun e w' => e = .returned (.agg (vC (Val.textV t))) ∧ Below w.heap.size w w' := by
  have HB : Hid (∀ o, Below w.heap.size w (w.alloc o)) := fun o => (Below.refl _ _).alloc (Nat.le_refl _) o
  by_cases h1 : 1000 < t.size
  · have e : Val.textV t = Val.badV := if_pos h1
    rw [e]
    clear e
    have h1' : (1000 : Int) < (t.size : Int) := by omega
    go_enter Tryz.func59, Tryz.ntmps59
    go_wp2_with fail
    refine bodyPost_ret (v := .agg vBad) (by simp [vBad, results, Tryz.results59, go_sem]) rfl ⟨rfl, HB.out _⟩
  · have e : Val.textV t = ⟨5, 0, t⟩ := if_neg h1
    rw [e]
    clear e
    have h1' : ¬ (1000 : Int) < (t.size : Int) := by omega
    go_enter Tryz.func59, Tryz.ntmps59
    go_wp2_with fail
    refine bodyPost_ret (v := .agg #[.int .i64 5, .int .i64 0, .string t]) (by simp [results, Tryz.results59, go_sem]) rfl ⟨rfl, HB.out _⟩

set_option maxHeartbeats 2000000 in
theorem iWithoutRef (v : Val.VV) (w : World) (hr : Val.right v = true) (hp : PowIn w) : Calls Tryz.prog 130 #[.agg (vC v)] w fun e w' => e = .returned (.agg (vC (Val.plainV v))) ∧ Below w.heap.size w w' := by
  have T0 : Hid _ := fun (W : World) (h : PowIn W) => iToText v W h
  have T1 : Hid _ := fun (W : World) => iTextValue Val.objT W
  have HB : Hid (∀ o1 o2, Below w.heap.size w ((w.alloc o1).alloc o2)) := fun o1 o2 => ((Below.refl _ _).alloc (Nat.le_refl _) o1).alloc (by simp) o2
  have HP : Hid (∀ o1 o2, PowIn ((w.alloc o1).alloc o2)) := fun o1 o2 => hp.keep (HB.out o1 o2)
  clear hp
  by_cases h6 : v.kind = 6
  · have e : Val.plainV v = ⟨5, 0, Val.objT⟩ := if_pos h6
    have e1 : Val.textOf v = Val.objT := by
      unfold Val.textOf
      rw [if_pos hr]
      unfold Val.toTextV
      rw [if_neg (by omega), if_neg (by omega), if_neg (by omega), if_neg (by omega), if_neg (by omega), if_pos h6]
      rfl
    have e2 : Val.textV Val.objT = ⟨5, 0, Val.objT⟩ := if_neg (by decide)
    rw [e]
    rw [e1] at T0
    rw [e2] at T1
    obtain ⟨k, n, t⟩ := v
    dsimp only at h6
    subst h6
    unfold vC at *
    dsimp only at *
    clear e e1 e2 hr
    generalize hO : Val.objT = O at *
    have HO : Hid (Val.objT = O) := hO
    clear hO
    go_enter Tryz.func130, Tryz.ntmps130
    go_wp2_with fail
    refine (T0.out _ (HP.out _ _)).mono ?_
    rintro e w1 ⟨rfl, hb1⟩
    have hr1 := res_facts hb1
    have hbw : Below w.heap.size w w1 := (HB.out _ _).trans (hb1.mono (HB.out _ _).size)
    have hlt : w.heap.size + 1 < w1.heap.size := (Array.getElem?_eq_some_iff.1 hr1).1
    clear hb1 T0
    go_wp2_with fail
    refine (T1.out w1).mono ?_
    rintro e w2 ⟨rfl, hb2⟩
    obtain ⟨⟨r0, r1, r2⟩, f0, f1, f2⟩ := v3_of ((hb2.block _ hlt).trans hr1)
    have hbf : Below w.heap.size w w2 := hbw.trans (hb2.mono hbw.size)
    go_wp2_with fail
    refine bodyPost_ret (v := .agg #[.int .i64 5, .int .i64 0, .string O]) (by simp [results, Tryz.results130, go_sem, r0, r1, r2]) rfl ⟨rfl, ?_⟩
    exact ((hbf.setCell (by simp) _).setCell (by simp) _).setCell (by simp) _
  · have e : Val.plainV v = v := if_neg h6
    rw [e]
    obtain ⟨k, n, t⟩ := v
    dsimp only at h6
    have h6' : (k == 6) = false := beq_eq_false_iff_ne.2 h6
    clear T0 T1 e
    unfold vC
    dsimp only
    go_enter Tryz.func130, Tryz.ntmps130
    go_wp2_with fail
    refine bodyPost_ret (v := .agg #[.int .i64 k, .int .i64 n, .string t]) (by simp [results, Tryz.results130, go_sem]) rfl ⟨rfl, ?_⟩
    exact HB.out _ _

end Go.Proofs.YtjgekikcmkicmaaGreatDoor

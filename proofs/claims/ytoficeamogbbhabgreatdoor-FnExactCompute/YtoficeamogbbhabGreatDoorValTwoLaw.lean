/-
  Worlds behind a region of two values that draws its order.
-/
import Derived.Test.YtoficeamogbbhabGreatDoorValPut
import Derived.Test.YtoficeamogbbhabGreatDoorValLaw
namespace Go.Proofs.YtoficeamogbbhabGreatDoor
open Go.RowKit

theorem below_grew {w w1 : World} {o : Obj} (h : Below (w.drew.alloc o).heap.size (w.drew.alloc o) w1) : Below w.heap.size w w1 := by
  have hb : Below w.heap.size w (w.drew.alloc o) := ((Below.refl w.heap.size w).drew).alloc (Nat.le_refl _) o
  exact hb.trans (h.mono hb.size)
theorem below_then {w w1 w2 : World} {o : Obj} (h : Below w.heap.size w w1) (h2 : Below (w1.alloc o).heap.size (w1.alloc o) w2) : Below w.heap.size w w2 := by
  have hb := h.alloc h.size o
  exact hb.trans (h2.mono hb.size)
theorem below_up {w w1 : World} {o : Obj} (h : Below w.heap.size w w1) : Below w.heap.size w (w1.alloc o) := h.alloc h.size o
theorem lies_grew {w w1 : World} (h : Below (w.drew.alloc zObj).heap.size (w.drew.alloc zObj) w1) : Lies w1 w.heap.size Val.zeroV := (lies_new w.drew Val.zeroV).keep h
theorem lies_then {w w1 : World} (h : Below (w.alloc zObj).heap.size (w.alloc zObj) w1) : Lies w1 w.heap.size Val.zeroV := (lies_new w Val.zeroV).keep h

theorem cell_put {W : World} {r A i : Nat} {v : Value} (x0 x1 x2 : Value) (h : A ≠ r) (g : W.cell? ⟨A, i, none⟩ = some v) : (((W.setCell ⟨r, 0, none⟩ x0).setCell ⟨r, 1, none⟩ x1).setCell ⟨r, 2, none⟩ x2).cell? ⟨A, i, none⟩ = some v := by
  have e : (((W.setCell ⟨r, 0, none⟩ x0).setCell ⟨r, 1, none⟩ x1).setCell ⟨r, 2, none⟩ x2).heap[A]? = W.heap[A]? := by
    rw [heap_setCell_other _ _ _ _ h, heap_setCell_other _ _ _ _ h, heap_setCell_other _ _ _ _ h]
  unfold World.cell? at g ⊢
  simp only at g ⊢
  rw [e]
  exact g
/-- Six cells of two blocks, behind what is put into a third. -/
theorem six_put {W : World} {r A B : Nat} {v0 v1 v2 u0 u1 u2 : Value} {x0 x1 x2 : Value} (ha : A ≠ r) (hb : B ≠ r)
    (h : W.cell? ⟨A, 0, none⟩ = some v0 ∧ W.cell? ⟨A, 1, none⟩ = some v1 ∧ W.cell? ⟨A, 2, none⟩ = some v2 ∧ W.cell? ⟨B, 0, none⟩ = some u0 ∧ W.cell? ⟨B, 1, none⟩ = some u1 ∧ W.cell? ⟨B, 2, none⟩ = some u2) :
    (((W.setCell ⟨r, 0, none⟩ x0).setCell ⟨r, 1, none⟩ x1).setCell ⟨r, 2, none⟩ x2).cell? ⟨A, 0, none⟩ = some v0 ∧ (((W.setCell ⟨r, 0, none⟩ x0).setCell ⟨r, 1, none⟩ x1).setCell ⟨r, 2, none⟩ x2).cell? ⟨A, 1, none⟩ = some v1 ∧ (((W.setCell ⟨r, 0, none⟩ x0).setCell ⟨r, 1, none⟩ x1).setCell ⟨r, 2, none⟩ x2).cell? ⟨A, 2, none⟩ = some v2 ∧
    (((W.setCell ⟨r, 0, none⟩ x0).setCell ⟨r, 1, none⟩ x1).setCell ⟨r, 2, none⟩ x2).cell? ⟨B, 0, none⟩ = some u0 ∧ (((W.setCell ⟨r, 0, none⟩ x0).setCell ⟨r, 1, none⟩ x1).setCell ⟨r, 2, none⟩ x2).cell? ⟨B, 1, none⟩ = some u1 ∧ (((W.setCell ⟨r, 0, none⟩ x0).setCell ⟨r, 1, none⟩ x1).setCell ⟨r, 2, none⟩ x2).cell? ⟨B, 2, none⟩ = some u2 :=
  ⟨cell_put _ _ _ ha h.1, cell_put _ _ _ ha h.2.1, cell_put _ _ _ ha h.2.2.1, cell_put _ _ _ hb h.2.2.2.1, cell_put _ _ _ hb h.2.2.2.2.1, cell_put _ _ _ hb h.2.2.2.2.2⟩

end Go.Proofs.YtoficeamogbbhabGreatDoor

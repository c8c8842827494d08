/-
  A value put into a block that holds one; a pair put into a block that holds one.
-/
import Derived.Test.YtlmlmdmechhalaaValRight
import Derived.Laws.Rows
namespace Go.Proofs.Ytlmlmdmechhalaa
open Go.RowKit

def put3 (W : World) (b : Nat) (x : Val.VV) : World := ((W.setCell ⟨b, 0, none⟩ (.int .i64 x.kind)).setCell ⟨b, 1, none⟩ (.int .i64 x.num)).setCell ⟨b, 2, none⟩ (.string x.text)
theorem put3_size (W : World) (b : Nat) (x : Val.VV) : (put3 W b x).heap.size = W.heap.size := by simp [put3]
theorem put3_other (W : World) (b : Nat) (x : Val.VV) (c : Nat) (h : c ≠ b) : (put3 W b x).heap[c]? = W.heap[c]? := by
  unfold put3
  rw [heap_setCell_other _ _ _ _ h, heap_setCell_other _ _ _ _ h, heap_setCell_other _ _ _ _ h]
theorem Lies.put {W : World} {b : Nat} {v : Val.VV} (h : Lies W b v) (x : Val.VV) : Lies (put3 W b x) b x := by
  unfold Lies put3 at *
  have h1 := heap_setCell_same W b 0 (vC v) _ (.int .i64 x.kind) h
  have h2 := heap_setCell_same _ b 1 _ _ (.int .i64 x.num) h1
  have h3 := heap_setCell_same _ b 2 _ _ (.string x.text) h2
  exact h3
theorem Lies.putOther {W : World} {c : Nat} {v : Val.VV} (h : Lies W c v) (b : Nat) (x : Val.VV) (hne : c ≠ b) : Lies (put3 W b x) c v := (put3_other W b x c hne).trans h
theorem put3_below {w W : World} {B : Nat} (h : Below B w W) (b : Nat) (x : Val.VV) (hb : B ≤ b) : Below B w (put3 W b x) :=
  ((h.setCell (p := ⟨b, 0, none⟩) hb _).setCell (p := ⟨b, 1, none⟩) hb _).setCell (p := ⟨b, 2, none⟩) hb _

end Go.Proofs.Ytlmlmdmechhalaa

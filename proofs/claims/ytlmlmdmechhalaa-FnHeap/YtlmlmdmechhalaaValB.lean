/-
  A value's cells, and the walk of the specification's ValueRight.
-/
import Derived.Test.YtlmlmdmechhalaaRows
import Derived.Test.YtlmlmdmechhalaaVal
import Derived.WalkKit
import Derived.WalkSpells
import Derived.WalkLawsBesides
import Derived.Below
import Derived.Deep.Light
namespace Go.Proofs.Ytlmlmdmechhalaa
open Go.RowKit

def vC (v : Val.VV) : Array Value := #[.int .i64 v.kind, .int .i64 v.num, .string v.text]
theorem vretB {a b : Bool} (h : a = b) : Ending.returned (.bool a) = .returned (.bool b) := by rw [h]

set_option maxHeartbeats 2000000 in
theorem sValueRight (v : Val.VV) (w : World) : Calls Try.prog 47 #[.agg (vC v)] w fun e w' => e = .returned (.bool (Val.right v)) ∧ Below w.heap.size w w' := by
  unfold vC
  obtain ⟨k, n, t⟩ := v
  dsimp only
  have hb : ∀ o, Below w.heap.size w (w.alloc o) := fun o => (Below.refl _ _).alloc (Nat.le_refl _) o
  have HB : Hid (∀ o, Below w.heap.size w (w.alloc o)) := hb
  clear hb
  go_enter Try.func47, Try.ntmps47
  go_wp2
  all_goals
    go_ret
    refine ⟨vretB ?_, HB.out _⟩
    go_light
    simp_all [Val.right, Val.noText]
    all_goals (try (intros; omega))

def vBad : Array Value := #[.int .i64 4, .int .i64 0, .string ⟨#[]⟩]
theorem vC_bad : vC Val.badV = vBad := rfl

theorem v3_of {W : World} {b : Nat} {t : TypeId} {v0 v1 v2 : Value} (h : W.heap[b]? = some (.cells #[v0, v1, v2] t (0, 0))) :
    (W.cell? ⟨b, 0, none⟩ = some v0 ∧ W.cell? ⟨b, 1, none⟩ = some v1 ∧ W.cell? ⟨b, 2, none⟩ = some v2) ∧ (W.frozen? ⟨b, 0, none⟩ = false ∧ W.frozen? ⟨b, 1, none⟩ = false ∧ W.frozen? ⟨b, 2, none⟩ = false) := by
  simp [World.cell?, World.frozen?, h]
def zObj : Obj := .cells #[.int .i64 0, .int .i64 0, .string ⟨#[]⟩] 27
/-- A result's block, behind what leaves it alone: three stores, and it is read. -/
theorem res_facts {w w1 : World} {o : Obj} (h : Below ((w.alloc o).alloc zObj).heap.size ((w.alloc o).alloc zObj) w1) : w1.heap[w.heap.size + 1]? = some (.cells #[.int .i64 0, .int .i64 0, .string ⟨#[]⟩] 27 (0, 0)) := by
  refine (h.block _ (by simp)).trans ?_
  have := heap_alloc_new (w.alloc o) zObj
  rw [World.size_alloc] at this
  exact this

/-- Three cells of a block that holds a value. -/
def Lies (W : World) (b : Nat) (v : Val.VV) : Prop := W.heap[b]? = some (.cells (vC v) 27 (0, 0))
theorem Lies.lt {W : World} {b : Nat} {v : Val.VV} (h : Lies W b v) : b < W.heap.size := (Array.getElem?_eq_some_iff.1 h).1
theorem Lies.three {W : World} {b : Nat} {v : Val.VV} (h : Lies W b v) :
    (W.cell? ⟨b, 0, none⟩ = some (.int .i64 v.kind) ∧ W.cell? ⟨b, 1, none⟩ = some (.int .i64 v.num) ∧ W.cell? ⟨b, 2, none⟩ = some (.string v.text)) ∧ (W.frozen? ⟨b, 0, none⟩ = false ∧ W.frozen? ⟨b, 1, none⟩ = false ∧ W.frozen? ⟨b, 2, none⟩ = false) := v3_of h
theorem Lies.keep {W W' : World} {b : Nat} {v : Val.VV} (h : Lies W b v) (hb : Below W.heap.size W W') : Lies W' b v := (hb.block _ h.lt).trans h
theorem Lies.grow {W : World} {b : Nat} {v : Val.VV} (h : Lies W b v) (o : Obj) : Lies (W.alloc o) b v := h.keep ((Below.refl _ _).alloc (Nat.le_refl _) o)
theorem lies_new (W : World) (v : Val.VV) : Lies (W.alloc (.cells (vC v) 27)) W.heap.size v := heap_alloc_new W _

theorem store3 {w W : World} {r : Nat} (h : Below w.heap.size w W) (hr : w.heap.size ≤ r) (o1 o2 : Obj) (v0 v1 v2 : Value) :
    Below w.heap.size w (((((W.setCell ⟨r, 0, none⟩ v0).setCell ⟨r, 1, none⟩ v1).setCell ⟨r, 2, none⟩ v2).alloc o1).alloc o2) := by
  have q := ((h.setCell (p := ⟨r, 0, none⟩) hr v0).setCell (p := ⟨r, 1, none⟩) hr v1).setCell (p := ⟨r, 2, none⟩) hr v2
  exact (q.alloc q.size o1).alloc (q.alloc q.size o1).size o2

end Go.Proofs.Ytlmlmdmechhalaa

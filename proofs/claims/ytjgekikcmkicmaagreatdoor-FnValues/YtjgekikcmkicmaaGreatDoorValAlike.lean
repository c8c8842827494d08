/-
  The walks of Alike, on both sides.
-/
import Derived.Test.YtjgekikcmkicmaaGreatDoorValRight
namespace Go.Proofs.YtjgekikcmkicmaaGreatDoor
namespace Val
def alike (a b : VV) : Bool := decide (a.kind = b.kind) && decide (a.num = b.num) && decide (a.text.toList = b.text.toList) && decide (a.kind ≠ 4)
def alikeV (a b : VV) : Bool := right a && right b && alike a b
end Val
open Go.RowKit

set_option maxHeartbeats 2000000 in
theorem sAlike0 (a b : Val.VV) (w : World) : Calls Tryz.prog 38 #[.agg (vC a), .agg (vC b)] w fun e w' => e = .returned (.bool (Val.alike a b)) ∧ Below w.heap.size w w' := by
  unfold vC
  obtain ⟨k, n, t⟩ := a
  obtain ⟨k2, n2, t2⟩ := b
  dsimp only
  have HB : Hid (∀ o o2, Below w.heap.size w ((w.alloc o).alloc o2)) := fun o o2 => ((Below.refl _ _).alloc (Nat.le_refl _) o).alloc (by simp) o2
  go_enter Tryz.func38, Tryz.ntmps38
  go_wp2
  all_goals
    go_ret
    refine ⟨vretB ?_, HB.out _ _⟩
    go_light
    simp_all [Val.alike]
    all_goals rfl

theorem lies_two (w : World) (a b : Val.VV) : Lies ((w.alloc (.cells (vC a) 24)).alloc (.cells (vC b) 24)) w.heap.size a ∧ Lies ((w.alloc (.cells (vC a) 24)).alloc (.cells (vC b) 24)) (w.heap.size + 1) b := by
  refine ⟨(lies_new w a).grow _, ?_⟩
  have := lies_new (w.alloc (.cells (vC a) 24)) b
  rw [World.size_alloc] at this
  exact this

/-- The cells of a pair. -/
def pC (a b : Val.VV) : Array Value := #[.int .i64 a.kind, .int .i64 a.num, .string a.text, .int .i64 b.kind, .int .i64 b.num, .string b.text]

set_option maxHeartbeats 2000000 in
theorem iPairAlike (a b : Val.VV) (w : World) : Calls Tryz.prog 37 #[.agg (pC a b)] w fun e w' => e = .returned (.bool (Val.alike a b)) ∧ Below w.heap.size w w' := by
  unfold pC
  obtain ⟨k, n, t⟩ := a
  obtain ⟨k2, n2, t2⟩ := b
  dsimp only
  have HB : Hid (∀ o, Below w.heap.size w (w.alloc o)) := fun o => ((Below.refl _ _).alloc (Nat.le_refl _) o)
  go_enter Tryz.func37, Tryz.ntmps37
  go_wp2
  all_goals
    go_ret
    refine ⟨vretB ?_, HB.out _⟩
    go_light
    simp_all [Val.alike]
    all_goals rfl

/-- A block that holds a pair. -/
def LiesP (W : World) (r : Nat) (a b : Val.VV) : Prop := W.heap[r]? = some (.cells (pC a b) 53 (0, 0))
theorem LiesP.lt {W : World} {r : Nat} {a b : Val.VV} (h : LiesP W r a b) : r < W.heap.size := (Array.getElem?_eq_some_iff.1 h).1
theorem LiesP.six {W : World} {r : Nat} {a b : Val.VV} (h : LiesP W r a b) :
    (W.cell? ⟨r, 0, none⟩ = some (.int .i64 a.kind) ∧ W.cell? ⟨r, 1, none⟩ = some (.int .i64 a.num) ∧ W.cell? ⟨r, 2, none⟩ = some (.string a.text) ∧ W.cell? ⟨r, 3, none⟩ = some (.int .i64 b.kind) ∧ W.cell? ⟨r, 4, none⟩ = some (.int .i64 b.num) ∧ W.cell? ⟨r, 5, none⟩ = some (.string b.text)) ∧
    (W.frozen? ⟨r, 0, none⟩ = false ∧ W.frozen? ⟨r, 1, none⟩ = false ∧ W.frozen? ⟨r, 2, none⟩ = false ∧ W.frozen? ⟨r, 3, none⟩ = false ∧ W.frozen? ⟨r, 4, none⟩ = false ∧ W.frozen? ⟨r, 5, none⟩ = false) := by
  unfold LiesP at h
  simp [World.cell?, World.frozen?, h, pC]
theorem LiesP.keep {W W' : World} {r : Nat} {a b : Val.VV} (h : LiesP W r a b) (hb : Below W.heap.size W W') : LiesP W' r a b := (hb.block _ h.lt).trans h
theorem LiesP.grow {W : World} {r : Nat} {a b : Val.VV} (h : LiesP W r a b) (o : Obj) : LiesP (W.alloc o) r a b := h.keep ((Below.refl _ _).alloc (Nat.le_refl _) o)
theorem liesP_new (W : World) (a b : Val.VV) : LiesP (W.alloc (.cells (pC a b) 53)) W.heap.size a b := heap_alloc_new W _

set_option maxHeartbeats 2000000 in
theorem iPairRight (a b : Val.VV) (w : World) : Calls Tryz.prog 36 #[.agg (pC a b)] w fun e w' => e = .returned (.bool (Val.right a && Val.right b)) ∧ Below w.heap.size w w' := by
  have R : Hid _ := fun (W : World) => iValueRight a W
  have R2 : Hid _ := fun (W : World) => iValueRight b W
  have HB : Hid (∀ o, Below w.heap.size w (w.alloc o)) := fun o => ((Below.refl _ _).alloc (Nat.le_refl _) o)
  have HL : Hid (LiesP (w.alloc (.cells (pC a b) 53)) w.heap.size a b) := liesP_new w a b
  obtain ⟨A, hA⟩ : ∃ B, Val.right a = B := ⟨_, rfl⟩
  obtain ⟨B, hB⟩ : ∃ B, Val.right b = B := ⟨_, rfl⟩
  rw [hA] at R
  rw [hB] at R2
  rw [hA, hB]
  clear hA hB
  obtain ⟨k, n, t⟩ := a
  obtain ⟨k2, n2, t2⟩ := b
  unfold vC at *
  unfold pC at *
  dsimp only at *
  go_enter Tryz.func36, Tryz.ntmps36
  go_wp2_with fail
  refine (R.out _).mono ?_
  rintro e w1 ⟨rfl, hb1⟩
  have hbw : Below w.heap.size w w1 := (HB.out _).trans (hb1.mono (HB.out _).size)
  have L1 := HL.out.keep hb1
  clear hb1
  obtain ⟨⟨r0, r1, r2, r3, r4, r5⟩, f0, f1, f2, f3, f4, f5⟩ := L1.six
  dsimp only at r0 r1 r2 r3 r4 r5
  cases A
  · go_wp2_with fail
    go_ret
    exact ⟨rfl, hbw⟩
  · go_wp2_with fail
    refine (R2.out _).mono ?_
    rintro e w2 ⟨rfl, hb2⟩
    have hbw2 := hbw.trans (hb2.mono hbw.size)
    go_wp2_with fail
    go_ret
    exact ⟨by rfl, hbw2⟩

/-- The world in which a function of two values has laid them, and their pair. -/
def wPair (w : World) (a b : Val.VV) : World := ((w.alloc (.cells (vC a) 24)).alloc (.cells (vC b) 24)).alloc (.cells (pC a b) 53)
theorem wPair_lies (w : World) (a b : Val.VV) : LiesP (wPair w a b) (w.heap.size + 1 + 1) a b := by
  have := liesP_new ((w.alloc (.cells (vC a) 24)).alloc (.cells (vC b) 24)) a b
  rw [World.size_alloc, World.size_alloc] at this
  exact this
theorem wPair_below (w : World) (a b : Val.VV) : Below w.heap.size w (wPair w a b) :=
  (((Below.refl _ _).alloc (Nat.le_refl _) _).alloc (by simp) _).alloc (by simp; omega) _
theorem wPair_lies2 (w : World) (a b : Val.VV) : Lies (wPair w a b) w.heap.size a ∧ Lies (wPair w a b) (w.heap.size + 1) b := ⟨(lies_two w a b).1.grow _, (lies_two w a b).2.grow _⟩

end Go.Proofs.YtjgekikcmkicmaaGreatDoor

/-
  The walks of TypeOf, on both sides.
-/
import Derived.Test.YtjgekikcmkicmaaGreatDoorValRight
namespace Go.Proofs.YtjgekikcmkicmaaGreatDoor
namespace Val
def kinds : List ByteArray := [⟨#[117, 110, 100, 101, 102, 105, 110, 101, 100]⟩, ⟨#[111, 98, 106, 101, 99, 116]⟩, ⟨#[98, 111, 111, 108, 101, 97, 110]⟩, ⟨#[110, 117, 109, 98, 101, 114]⟩, ⟨#[110, 117, 109, 98, 101, 114]⟩, ⟨#[115, 116, 114, 105, 110, 103]⟩, ⟨#[111, 98, 106, 101, 99, 116]⟩]
def typeV (v : VV) : ByteArray := if right v then kinds.getD v.kind.toNat e0 else e0
theorem right_kind (v : VV) (h : right v = true) : v.kind = 0 ∨ v.kind = 1 ∨ v.kind = 2 ∨ v.kind = 3 ∨ v.kind = 4 ∨ v.kind = 5 ∨ v.kind = 6 := by
  unfold right at h
  by_cases h0 : v.kind = 0 ∨ v.kind = 1 ∨ v.kind = 4
  · omega
  · rw [if_neg h0] at h
    by_cases h2 : v.kind = 2
    · omega
    · rw [if_neg h2] at h
      by_cases h3 : v.kind = 3
      · omega
      · rw [if_neg h3] at h
        by_cases h5 : v.kind = 5
        · omega
        · rw [if_neg h5] at h
          by_cases h6 : v.kind = 6
          · omega
          · rw [if_neg h6] at h; cases h
end Val
open Go.RowKit

/-- The table of kinds' names lies in its block. -/
def KindsIn (W : World) : Prop := ∀ (j : Nat) (h : j < Val.kinds.length), W.cell? ⟨0, j, none⟩ = some (.string Val.kinds[j])
theorem KindsIn.lt {W : World} (h : KindsIn W) : 0 < W.heap.size := by
  have := h 0 (by decide)
  rcases Nat.lt_or_ge 0 W.heap.size with g | g
  · exact g
  · simp [World.cell?, Array.getElem?_eq_none g] at this
theorem KindsIn.keep {W W' : World} (h : KindsIn W) (hb : Below W.heap.size W W') : KindsIn W' := fun j hj => by
  have e := hb.block _ h.lt
  have := h j hj
  unfold World.cell? at this ⊢
  simp only at this ⊢
  rw [e]
  exact this
theorem KindsIn.seven {W : World} (h : KindsIn W) :
    W.cell? ⟨0, 0, none⟩ = some (.string ⟨#[117, 110, 100, 101, 102, 105, 110, 101, 100]⟩) ∧ W.cell? ⟨0, 1, none⟩ = some (.string ⟨#[111, 98, 106, 101, 99, 116]⟩) ∧ W.cell? ⟨0, 2, none⟩ = some (.string ⟨#[98, 111, 111, 108, 101, 97, 110]⟩) ∧ W.cell? ⟨0, 3, none⟩ = some (.string ⟨#[110, 117, 109, 98, 101, 114]⟩) ∧
    W.cell? ⟨0, 4, none⟩ = some (.string ⟨#[110, 117, 109, 98, 101, 114]⟩) ∧ W.cell? ⟨0, 5, none⟩ = some (.string ⟨#[115, 116, 114, 105, 110, 103]⟩) ∧ W.cell? ⟨0, 6, none⟩ = some (.string ⟨#[111, 98, 106, 101, 99, 116]⟩) :=
  ⟨h 0 (by decide), h 1 (by decide), h 2 (by decide), h 3 (by decide), h 4 (by decide), h 5 (by decide), h 6 (by decide)⟩

set_option maxHeartbeats 2000000 in
theorem sTypeOf (v : Val.VV) (w : World) : Calls Tryz.prog 21 #[.agg (vC v)] w fun e w' => e = .returned (.string (Val.typeV v)) ∧ Below w.heap.size w w' := by
  have R : Hid _ := fun (W : World) => sValueRight v W
  have HB : Hid (∀ o, Below w.heap.size w (w.alloc o)) := fun o => (Below.refl _ _).alloc (Nat.le_refl _) o
  have HL : Hid (Lies (w.alloc (.cells (vC v) 24)) w.heap.size v) := lies_new w v
  have hK := Val.right_kind v
  obtain ⟨B, hB⟩ : ∃ B, Val.right v = B := ⟨_, rfl⟩
  have hE : Val.typeV v = if B then Val.kinds.getD v.kind.toNat Val.e0 else Val.e0 := by unfold Val.typeV; rw [hB]
  rw [hB] at R hK
  rw [hE]
  clear hB hE
  obtain ⟨k, n, t⟩ := v
  unfold vC at *
  dsimp only at *
  go_enter Tryz.func21, Tryz.ntmps21
  go_wp2_with fail
  refine (R.out _).mono ?_
  rintro e w1 ⟨rfl, hb1⟩
  have hbw : Below w.heap.size w w1 := (HB.out _).trans (hb1.mono (HB.out _).size)
  have L1 := HL.out.keep hb1
  have hlt := L1.lt
  obtain ⟨⟨r0, r1, r2⟩, f0, f1, f2⟩ := L1.three
  dsimp only at r0 r1 r2
  clear hb1
  have HW : Hid (Below w.heap.size w w1) := hbw
  clear hbw
  cases B
  · go_wp2_with fail
    go_ret
    exact ⟨rfl, HW.out⟩
  · rcases hK rfl with rfl | rfl | rfl | rfl | rfl | rfl | rfl
    all_goals
      go_wp2_with fail
      go_ret
      exact ⟨rfl, HW.out.alloc HW.out.size _⟩

set_option maxHeartbeats 2000000 in
theorem iTypeOf (v : Val.VV) (w : World) (hk : KindsIn w) : Calls Tryz.prog 20 #[.agg (vC v)] w fun e w' => e = .returned (.string (Val.typeV v)) ∧ Below w.heap.size w w' := by
  have R : Hid _ := fun (W : World) => iValueRight v W
  have HB : Hid (∀ o, Below w.heap.size w (w.alloc o)) := fun o => (Below.refl _ _).alloc (Nat.le_refl _) o
  have HL : Hid (Lies (w.alloc (.cells (vC v) 24)) w.heap.size v) := lies_new w v
  have HK : Hid (KindsIn w) := hk
  clear hk
  have hK := Val.right_kind v
  obtain ⟨B, hB⟩ : ∃ B, Val.right v = B := ⟨_, rfl⟩
  have hE : Val.typeV v = if B then Val.kinds.getD v.kind.toNat Val.e0 else Val.e0 := by unfold Val.typeV; rw [hB]
  rw [hB] at R hK
  rw [hE]
  clear hB hE
  obtain ⟨k, n, t⟩ := v
  unfold vC at *
  dsimp only at *
  go_enter Tryz.func20, Tryz.ntmps20
  go_wp2_with fail
  refine (R.out _).mono ?_
  rintro e w1 ⟨rfl, hb1⟩
  have hbw : Below w.heap.size w w1 := (HB.out _).trans (hb1.mono (HB.out _).size)
  have L1 := HL.out.keep hb1
  have hlt := L1.lt
  obtain ⟨⟨r0, r1, r2⟩, f0, f1, f2⟩ := L1.three
  dsimp only at r0 r1 r2
  obtain ⟨c0, c1, c2, c3, c4, c5, c6⟩ := (HK.out.keep hbw).seven
  clear hb1
  have HW : Hid (Below w.heap.size w w1) := hbw
  clear hbw
  cases B
  · go_wp2_with fail
    go_ret
    exact ⟨rfl, HW.out⟩
  · rcases hK rfl with rfl | rfl | rfl | rfl | rfl | rfl | rfl
    all_goals
      go_wp2_with fail
      go_ret
      exact ⟨rfl, HW.out⟩

end Go.Proofs.YtjgekikcmkicmaaGreatDoor

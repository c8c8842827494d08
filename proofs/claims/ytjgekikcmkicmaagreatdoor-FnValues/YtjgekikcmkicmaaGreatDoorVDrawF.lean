/-
  The walk of the specification's DrawEqual.
-/
import Derived.Test.YtjgekikcmkicmaaGreatDoorVDrawE
namespace Go.Proofs.YtjgekikcmkicmaaGreatDoor
open Go.RowKit

set_option maxHeartbeats 4000000 in
theorem sDrawEqual (a : Option Addr) (len cap : Nat) (cs : List UInt8) (w : World) (hl : cs.length = len) (hlb : len ≤ 1048576) (hB : BytesIn w a cs) :
    Calls Tryz.prog 6 #[.slice a len cap] w fun e w' => ∃ (x y : Val.VV), x.text.size ≤ 2000 ∧ y.text.size ≤ 2000 ∧ e = .returned (.tuple #[.agg (vC x), .agg (vC y)]) ∧ Below w.heap.size w w' := by
  have l0 : Lies ((w.alloc zObj).alloc zObj) w.heap.size Val.zeroV := (lies_new w Val.zeroV).grow _
  have l1 : Lies ((w.alloc zObj).alloc zObj) (w.heap.size + 1) Val.zeroV := by
    have := lies_new (w.alloc zObj) Val.zeroV
    rw [World.size_alloc] at this
    exact this
  have hb0 : Below w.heap.size w ((w.alloc zObj).alloc zObj) := ((Below.refl _ _).alloc (Nat.le_refl _) _).alloc (by simp) _
  have H : Hid _ := fun (_ : Unit) => sDrawAlike a len cap cs ((w.alloc zObj).alloc zObj) hl hlb (hB.under hb0)
  have HQ : Hid (_ ∧ _ ∧ _) := ⟨l0, l1, hb0⟩
  clear l0 l1 hb0 hB
  unfold zObj at H HQ
  go_enter Tryz.func6, Tryz.ntmps6
  go_wp2_with fail
  refine (H.out ()).mono ?_
  obtain ⟨l0, l1, hb0⟩ := HQ.out
  rintro e w1 ⟨⟨xk, xn, xt⟩, ⟨yk, yn, yt⟩, hxt, hyt, rfl, hb1⟩
  replace l0 := l0.keep hb1
  replace l1 := l1.keep hb1
  have hbw := hb0.trans (hb1.mono hb0.size)
  clear hb1 hb0 H HQ
  generalize hY : w.heap.size + 1 = Y at *
  obtain ⟨⟨y0, y1, y2⟩, f0, f1, f2⟩ := l0.three
  obtain ⟨⟨z0, z1, z2⟩, g0, g1, g2⟩ := l1.three
  have hlt0 := l0.lt
  have hlt1 := l1.lt
  unfold vC
  dsimp only [Val.zeroV, Val.e0] at y0 y1 y2 z0 z1 z2 hxt hyt ⊢
  have hne : w.heap.size ≠ Y := by omega
  clear l0 l1
  go_wp2_with fail
  refine bodyPost_ret (v := .tuple #[.agg #[.int .i64 xk, .int .i64 xn, .string xt], .agg #[.int .i64 yk, .int .i64 yn, .string yt]]) (by simp [results, Tryz.results6, go_sem, y0, y1, y2, z0, z1, z2]) rfl ⟨⟨xk, xn, xt⟩, ⟨yk, yn, yt⟩, hxt, hyt, rfl, ?_⟩
  exact put3_below (put3_below hbw w.heap.size ⟨xk, xn, xt⟩ (Nat.le_refl _)) Y ⟨yk, yn, yt⟩ (by omega)

end Go.Proofs.YtjgekikcmkicmaaGreatDoor

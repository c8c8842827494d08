/-
  The walk of the specification's DrawCompute.
-/
import Derived.Test.YtjgekikcmkicmaaGreatDoorVDrawV
import Derived.Test.YtjgekikcmkicmaaGreatDoorValAlike
import Derived.Deep.RegionWith
import Derived.BigRegion
namespace Go.Proofs.YtjgekikcmkicmaaGreatDoor
open Go.RowKit

theorem BytesIn.under {w w' : World} {a : Option Addr} {cs : List UInt8} (h : BytesIn w a cs) (hb : Below w.heap.size w w') : BytesIn w' a cs := by
  rcases h with h | ⟨b, o, e, hc⟩
  · exact .inl h
  · exact .inr ⟨b, o, e, fun i hi => by rw [hb.cell (World.block_lt_of_cell? w _ (hc i hi))]; exact hc i hi⟩
def opsL : List ByteArray := [⟨#[43]⟩, ⟨#[45]⟩, ⟨#[42]⟩, ⟨#[47]⟩, ⟨#[37]⟩, ⟨#[43]⟩, ⟨#[42, 42]⟩]
/-- All but block S and what is new is as it was. -/
theorem keep_under {S : Nat} {w w1 w2 : World} (hb : Below w.heap.size w w1) (hk : Keep S w1 w2) (hS : w.heap.size ≤ S) : Below w.heap.size w w2 :=
  ⟨hk.os.trans hb.os, hk.tape.trans hb.tape, hk.output.trans hb.output, Nat.le_trans hb.size hk.size, fun k hk' => (hk.block k (Nat.lt_of_lt_of_le hk' hb.size) (by omega)).trans (hb.block k hk')⟩

set_option maxHeartbeats 4000000 in
theorem sDrawCompute (a : Option Addr) (len cap : Nat) (cs : List UInt8) (w : World) (hl : cs.length = len) (hlb : len ≤ 1048576) (hB : BytesIn w a cs) :
    Calls Tryz.prog 24 #[.slice a len cap] w fun e w' => ∃ (op : ByteArray) (x y : Val.VV), op.size ≤ 2 ∧ x.text.size ≤ 2000 ∧ y.text.size ≤ 2000 ∧ e = .returned (.tuple #[.string op, .agg (vC x), .agg (vC y)]) ∧ Below w.heap.size w w' := by
  have l0 : Lies ((w.alloc zObj).alloc zObj) w.heap.size Val.zeroV := (lies_new w Val.zeroV).grow _
  have l1 : Lies ((w.alloc zObj).alloc zObj) (w.heap.size + 1) Val.zeroV := by
    have := lies_new (w.alloc zObj) Val.zeroV
    rw [World.size_alloc] at this
    exact this
  have hb0 : Below w.heap.size w ((w.alloc zObj).alloc zObj) := ((Below.refl _ _).alloc (Nat.le_refl _) _).alloc (by simp) _
  have hsz : ((w.alloc zObj).alloc zObj).heap.size = w.heap.size + 1 + 1 := by rw [World.size_alloc, World.size_alloc]
  have H : Hid _ := fun (_ : Unit) => sSource a len cap cs ((w.alloc zObj).alloc zObj) hl hlb (hB.under hb0)
  have HQ : Hid (_ ∧ _ ∧ _ ∧ _) := ⟨l0, l1, hb0, hsz⟩
  clear l0 l1 hb0 hsz hB
  unfold zObj at H HQ
  go_enter Tryz.func24, Tryz.ntmps24
  go_wp2_with fail
  refine (H.out ()).mono ?_
  obtain ⟨l0, l1, hb0, hsz⟩ := HQ.out
  rw [hsz]
  rintro e w1 ⟨rfl, hs1, hb1⟩
  have hb1' : Below ((w.alloc (.cells #[.int .i64 0, .int .i64 0, .string ⟨#[]⟩] 24)).alloc (.cells #[.int .i64 0, .int .i64 0, .string ⟨#[]⟩] 24)).heap.size ((w.alloc (.cells #[.int .i64 0, .int .i64 0, .string ⟨#[]⟩] 24)).alloc (.cells #[.int .i64 0, .int .i64 0, .string ⟨#[]⟩] 24)) w1 := by rw [hsz]; exact hb1
  replace l0 := l0.keep hb1'
  replace l1 := l1.keep hb1'
  have hbw := hb0.trans (hb1'.mono hb0.size)
  clear hb1 hb1' hb0 hsz H HQ
  generalize hSS : w.heap.size + 1 + 1 = S at *
  generalize hY : w.heap.size + 1 = Y at *
  have hs2 : ∀ o, Src (w1.alloc o) S := fun o => src_grow1 hs1
  have HS2 : Hid (∀ o, Src (w1.alloc o) S) := hs2
  have hlt1 := hs1.lt
  clear hs2 hs1
  go_wp2_with fail
  refine (pick_of S w1.heap.size 7 opsL _ rfl (by omega) (by omega) (HS2.out _) (heap_alloc_new _ _) (by omega)).mono ?_
  rintro e w2 ⟨op, hop, rfl, hs2, hk2⟩
  have hos : op.size ≤ 2 := by
    have : ∀ x ∈ opsL, x.size ≤ 2 := by decide
    exact this op hop
  replace l0 := (l0.grow _).keepK hk2 (by omega)
  replace l1 := (l1.grow _).keepK hk2 (by omega)
  replace hbw := keep_under (hbw.alloc hbw.size _) hk2 (by omega)
  clear hk2 HS2 hop hlt1
  have V : Hid _ := fun (W : World) (h : Src W S) => sValue S W h
  go_wp2_with fail
  refine (V.out _ hs2).mono ?_
  rintro e w3 ⟨⟨xk, xn, xt⟩, hxt, rfl, hs3, hk3⟩
  unfold vC
  dsimp only at hxt ⊢
  replace l0 := (l0.keepK hk3 (by omega)).grow (.cells #[.int .i64 xk, .int .i64 xn, .string xt] 24)
  replace l1 := (l1.keepK hk3 (by omega)).grow (.cells #[.int .i64 xk, .int .i64 xn, .string xt] 24)
  replace hbw := keep_under hbw hk3 (by omega)
  have hsX := hs3.lt
  have lX : Lies (w3.alloc (.cells #[.int .i64 xk, .int .i64 xn, .string xt] 24)) w3.heap.size ⟨xk, xn, xt⟩ := lies_new w3 ⟨xk, xn, xt⟩
  have hb4 : Below w.heap.size w (w3.alloc (.cells #[.int .i64 xk, .int .i64 xn, .string xt] 24)) := hbw.alloc hbw.size _
  have hs4 : Src (w3.alloc (.cells #[.int .i64 xk, .int .i64 xn, .string xt] 24)) S := src_grow1 hs3
  have HX : Hid (_ ∧ _ ∧ _ ∧ _ ∧ _) := ⟨l0, l1, lX, hb4, hs4⟩
  clear l0 l1 lX hb4 hs4 hbw hs3 hk3
  go_wp2_with fail
  obtain ⟨l0, l1, lX, hbw, hs4⟩ := HX.out
  clear HX
  generalize w3.alloc (.cells #[.int .i64 xk, .int .i64 xn, .string xt] 24) = w4 at *
  generalize hX : w3.heap.size = X at *
  obtain ⟨⟨r0, r1, r2⟩, -⟩ := lX.three
  have hltX := lX.lt
  dsimp only at r0 r1 r2
  have n1 : w.heap.size ≠ S := by omega
  have n2 : Y ≠ S := by omega
  have n3 : X ≠ S := by omega
  go_region_with (go_at_call 46; refine (V.out _ (hs4.below (Below.refl w4.heap.size w4).drew)).mono ?_; rintro e W5 ⟨⟨yk, yn, yt⟩, hyt, rfl, hs5, hk5⟩; have k5 : Keep S w4 W5 := (Keep.refl S w4).drew.trans hk5; have m0 := l0.keepK k5 n1; have m1 := l1.keepK k5 n2; have mX := lX.keepK k5 n3; obtain ⟨⟨a0, a1, a2⟩, -⟩ := mX.three; obtain ⟨⟨y0, y1, y2⟩, f0, f1, f2⟩ := m0.three; obtain ⟨⟨z0, z1, z2⟩, g0, g1, g2⟩ := m1.three; have hlt0 := m0.lt; have hlt1 := m1.lt; unfold vC; dsimp only [Val.zeroV, Val.e0] at a0 a1 a2 y0 y1 y2 z0 z1 z2 hyt ⊢)
  all_goals
    go_wp2_with fail
    have hb5 := keep_under hbw k5 (by omega)
    refine bodyPost_ret (v := .tuple #[.string op, .agg #[.int .i64 xk, .int .i64 xn, .string xt], .agg #[.int .i64 yk, .int .i64 yn, .string yt]]) (by simp [results, Tryz.results24, go_sem, y0, y1, y2, z0, z1, z2]) rfl ⟨op, ⟨xk, xn, xt⟩, ⟨yk, yn, yt⟩, hos, hxt, hyt, rfl, ?_⟩
    exact put3_below (put3_below hb5 w.heap.size ⟨xk, xn, xt⟩ (Nat.le_refl _)) Y ⟨yk, yn, yt⟩ (by omega)

end Go.Proofs.YtjgekikcmkicmaaGreatDoor

/-
  The walks of the specification's DrawToText, DrawAlike, DrawEqual.
-/
import Derived.Test.YtjgekikcmkicmaaGreatDoorVDrawC
namespace Go.Proofs.YtjgekikcmkicmaaGreatDoor
open Go.RowKit

set_option maxHeartbeats 2000000 in
theorem sDrawToText (a : Option Addr) (len cap : Nat) (cs : List UInt8) (w : World) (hl : cs.length = len) (hlb : len ≤ 1048576) (hB : BytesIn w a cs) :
    Calls Tryz.prog 14 #[.slice a len cap] w fun e w' => ∃ x : Val.VV, x.text.size ≤ 2000 ∧ e = .returned (.agg (vC x)) ∧ Below w.heap.size w w' := by
  have l0 : Lies (w.alloc zObj) w.heap.size Val.zeroV := lies_new w Val.zeroV
  have hb0 : Below w.heap.size w (w.alloc zObj) := (Below.refl _ _).alloc (Nat.le_refl _) _
  have hsz : (w.alloc zObj).heap.size = w.heap.size + 1 := World.size_alloc _ _
  have H : Hid _ := fun (_ : Unit) => sSource a len cap cs (w.alloc zObj) hl hlb (hB.under hb0)
  have V : Hid _ := fun (S : Nat) (W : World) (h : Src W S) => sValue S W h
  have HQ : Hid (_ ∧ _ ∧ _) := ⟨l0, hb0, hsz⟩
  clear l0 hb0 hsz hB
  unfold zObj at H HQ
  go_enter Tryz.func14, Tryz.ntmps14
  go_wp2_with fail
  refine (H.out ()).mono ?_
  obtain ⟨l0, hb0, hsz⟩ := HQ.out
  rw [hsz]
  rintro e w1 ⟨rfl, hs1, hb1⟩
  have hb1' : Below (w.alloc (.cells #[.int .i64 0, .int .i64 0, .string ⟨#[]⟩] 24)).heap.size (w.alloc (.cells #[.int .i64 0, .int .i64 0, .string ⟨#[]⟩] 24)) w1 := by rw [hsz]; exact hb1
  replace l0 := l0.keep hb1'
  have hbw := hb0.trans (hb1'.mono hb0.size)
  clear hb1 hb1' hb0 hsz H HQ
  generalize hSS : w.heap.size + 1 = S at *
  go_wp2_with fail
  refine (V.out S _ hs1).mono ?_
  rintro e w2 ⟨⟨xk, xn, xt⟩, hxt, rfl, hs2, hk2⟩
  replace l0 := l0.keepK hk2 (by omega)
  have hb2 := keep_under hbw hk2 (by omega)
  obtain ⟨⟨y0, y1, y2⟩, f0, f1, f2⟩ := l0.three
  have hlt := l0.lt
  unfold vC
  dsimp only [Val.zeroV, Val.e0] at y0 y1 y2 hxt ⊢
  go_wp2_with fail
  refine bodyPost_ret (v := .agg #[.int .i64 xk, .int .i64 xn, .string xt]) (by simp [results, Tryz.results14, go_sem, y0, y1, y2]) rfl ⟨⟨xk, xn, xt⟩, hxt, rfl, ?_⟩
  exact put3_below hb2 w.heap.size ⟨xk, xn, xt⟩ (Nat.le_refl _)

set_option maxHeartbeats 4000000 in
theorem sDrawAlike (a : Option Addr) (len cap : Nat) (cs : List UInt8) (w : World) (hl : cs.length = len) (hlb : len ≤ 1048576) (hB : BytesIn w a cs) :
    Calls Tryz.prog 35 #[.slice a len cap] w fun e w' => ∃ (x y : Val.VV), x.text.size ≤ 2000 ∧ y.text.size ≤ 2000 ∧ e = .returned (.tuple #[.agg (vC x), .agg (vC y)]) ∧ Below w.heap.size w w' := by
  have l0 : Lies ((w.alloc zObj).alloc zObj) w.heap.size Val.zeroV := (lies_new w Val.zeroV).grow _
  have l1 : Lies ((w.alloc zObj).alloc zObj) (w.heap.size + 1) Val.zeroV := by
    have := lies_new (w.alloc zObj) Val.zeroV
    rw [World.size_alloc] at this
    exact this
  have hb0 : Below w.heap.size w ((w.alloc zObj).alloc zObj) := ((Below.refl _ _).alloc (Nat.le_refl _) _).alloc (by simp) _
  have hsz : ((w.alloc zObj).alloc zObj).heap.size = w.heap.size + 1 + 1 := by rw [World.size_alloc, World.size_alloc]
  have H : Hid _ := fun (_ : Unit) => sSource a len cap cs ((w.alloc zObj).alloc zObj) hl hlb (hB.under hb0)
  have HQ : Hid (_ ∧ _ ∧ _ ∧ _) := ⟨l0, l1, hb0, hsz⟩
  clear l0 l1 hb0 hsz hB
  unfold zObj at H HQ
  go_enter Tryz.func35, Tryz.ntmps35
  go_wp2_with fail
  refine (H.out ()).mono ?_
  obtain ⟨l0, l1, hb0, hsz⟩ := HQ.out
  rw [hsz]
  rintro e w1 ⟨rfl, hs1, hb1⟩
  have hb1' : Below ((w.alloc (.cells #[.int .i64 0, .int .i64 0, .string ⟨#[]⟩] 24)).alloc (.cells #[.int .i64 0, .int .i64 0, .string ⟨#[]⟩] 24)).heap.size ((w.alloc (.cells #[.int .i64 0, .int .i64 0, .string ⟨#[]⟩] 24)).alloc (.cells #[.int .i64 0, .int .i64 0, .string ⟨#[]⟩] 24)) w1 := by rw [hsz]; exact hb1
  replace l0 := l0.keep hb1'
  replace l1 := l1.keep hb1'
  have hbw := hb0.trans (hb1'.mono hb0.size)
  clear hb1 hb1' hb0 hsz H HQ
  generalize hSS : w.heap.size + 1 + 1 = S at *
  generalize hY : w.heap.size + 1 = Y at *
  have V : Hid _ := fun (W : World) (h : Src W S) => sValue S W h
  have O1 : Hid _ := fun (W : World) (h : Src W S) => sOne S 3 W (by omega) (by omega) h
  go_wp2_with fail
  refine (V.out _ hs1).mono ?_
  rintro e w3 ⟨⟨xk, xn, xt⟩, hxt, rfl, hs3, hk3⟩
  unfold vC
  dsimp only at hxt ⊢
  replace l0 := (l0.keepK hk3 (by omega)).grow (.cells #[.int .i64 xk, .int .i64 xn, .string xt] 24)
  replace l1 := (l1.keepK hk3 (by omega)).grow (.cells #[.int .i64 xk, .int .i64 xn, .string xt] 24)
  replace hbw := keep_under hbw hk3 (by omega)
  have hsX := hs3.lt
  have lX : Lies (w3.alloc (.cells #[.int .i64 xk, .int .i64 xn, .string xt] 24)) w3.heap.size ⟨xk, xn, xt⟩ := lies_new w3 ⟨xk, xn, xt⟩
  have hb4 : Below w.heap.size w (w3.alloc (.cells #[.int .i64 xk, .int .i64 xn, .string xt] 24)) := hbw.alloc hbw.size _
  have hs4 : Src (w3.alloc (.cells #[.int .i64 xk, .int .i64 xn, .string xt] 24)) S := src_grow1 hs3
  have HX : Hid (_ ∧ _ ∧ _ ∧ _ ∧ _) := ⟨l0, l1, lX, hb4, hs4⟩
  clear l0 l1 lX hb4 hs4 hbw hs3 hk3 hs1
  go_wp2_with fail
  obtain ⟨l0, l1, lX, hbw, hs4⟩ := HX.out
  clear HX
  generalize w3.alloc (.cells #[.int .i64 xk, .int .i64 xn, .string xt] 24) = w4 at *
  generalize hX : w3.heap.size = X at *
  have n1 : w.heap.size ≠ S := by omega
  have n2 : Y ≠ S := by omega
  have n3 : X ≠ S := by omega
  refine (O1.out _ hs4).mono ?_
  rintro e w5 ⟨c, rfl, hs5, hk5⟩
  replace l0 := l0.keepK hk5 n1
  replace l1 := l1.keepK hk5 n2
  replace lX := lX.keepK hk5 n3
  replace hbw := keep_under hbw hk5 (by omega)
  clear hs4 hk5 O1
  obtain ⟨⟨r0, r1, r2⟩, -⟩ := lX.three
  have hltX := lX.lt
  dsimp only at r0 r1 r2
  cases c
  · go_wp2_with fail
    go_region_with (go_at_call 46; refine (V.out _ (hs5.below (Below.refl w5.heap.size w5).drew)).mono ?_; rintro e W5 ⟨⟨yk, yn, yt⟩, hyt, rfl, hs6, hk6⟩; have k6 : Keep S w5 W5 := (Keep.refl S w5).drew.trans hk6; have m0 := l0.keepK k6 n1; have m1 := l1.keepK k6 n2; have mX := lX.keepK k6 n3; obtain ⟨⟨a0, a1, a2⟩, -⟩ := mX.three; obtain ⟨⟨y0, y1, y2⟩, f0, f1, f2⟩ := m0.three; obtain ⟨⟨z0, z1, z2⟩, g0, g1, g2⟩ := m1.three; have hlt0 := m0.lt; have hlt1 := m1.lt; unfold vC; dsimp only [Val.zeroV, Val.e0] at a0 a1 a2 y0 y1 y2 z0 z1 z2 hyt ⊢)
    all_goals
      go_wp2_with fail
      have hb5 := keep_under hbw k6 (by omega)
      refine bodyPost_ret (v := .tuple #[.agg #[.int .i64 xk, .int .i64 xn, .string xt], .agg #[.int .i64 yk, .int .i64 yn, .string yt]]) (by simp [results, Tryz.results35, go_sem, y0, y1, y2, z0, z1, z2]) rfl ⟨⟨xk, xn, xt⟩, ⟨yk, yn, yt⟩, hxt, hyt, rfl, ?_⟩
      exact put3_below (put3_below hb5 w.heap.size ⟨xk, xn, xt⟩ (Nat.le_refl _)) Y ⟨yk, yn, yt⟩ (by omega)
  · obtain ⟨⟨y0, y1, y2⟩, f0, f1, f2⟩ := l0.three
    obtain ⟨⟨z0, z1, z2⟩, g0, g1, g2⟩ := l1.three
    have hlt0 := l0.lt
    have hlt1 := l1.lt
    dsimp only [Val.zeroV, Val.e0] at y0 y1 y2 z0 z1 z2
    go_wp2_with fail
    go_region
    all_goals
      go_wp2_with fail
      refine bodyPost_ret (v := .tuple #[.agg #[.int .i64 xk, .int .i64 xn, .string xt], .agg #[.int .i64 xk, .int .i64 xn, .string xt]]) (by simp [results, Tryz.results35, go_sem, y0, y1, y2, z0, z1, z2]) rfl ⟨⟨xk, xn, xt⟩, ⟨xk, xn, xt⟩, hxt, hxt, rfl, ?_⟩
      first
        | exact (put3_below (put3_below hbw w.heap.size ⟨xk, xn, xt⟩ (Nat.le_refl _)) Y ⟨xk, xn, xt⟩ (by omega)).drew
        | exact (put3_below (put3_below hbw Y ⟨xk, xn, xt⟩ (by omega)) w.heap.size ⟨xk, xn, xt⟩ (Nat.le_refl _)).drew

end Go.Proofs.YtjgekikcmkicmaaGreatDoor

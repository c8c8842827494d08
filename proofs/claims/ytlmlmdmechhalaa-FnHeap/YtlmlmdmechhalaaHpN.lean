/-
  The walk of the program's find.
-/
import Derived.Test.YtlmlmdmechhalaaHpM
import Derived.Test.YtlmlmdmechhalaaHpIR
namespace Go.Proofs.Ytlmlmdmechhalaa
open Go.RowKit
open Hp (PP OO propC rP kl encP putAll)

set_option maxHeartbeats 4000000 in
set_option maxRecDepth 100000 in
theorem iFind (w : World) (lo : Nat) (v : Value) (h : List OO) (cs : Nat → HC) (key : ByteArray) (ref : Int) (res : Option (Nat × Nat)) (hk : key.size ≤ 9223372036854775807) (hall : AllAt w lo v h h.length cs) (hR : Hp.RightH h) (h0 : 0 ≤ ref) (hl : ref < h.length) (hsk : Hp.Sk h key ref res) :
    Calls Try.prog 52 #[v, .int .i64 ref, .string key] w fun e w' => e = .returned (.tuple #[.agg (propC (Hp.propOf h res)), .bool res.isSome]) ∧ Below w.heap.size w w' := by
  have hlen : h.length ≤ 400 := hR.1
  obtain ⟨g, cap, rfl⟩ : ∃ g cap, v = .slice (some ⟨g, 0, none⟩) h.length cap := by
    rcases hall.1.2 with ⟨_, e⟩ | ⟨g, cap, _, e, _⟩
    · omega
    · exact ⟨g, cap, e⟩
  have HA : Hid (AllAt w lo (.slice (some ⟨g, 0, none⟩) h.length cap) h h.length cs) := hall
  have HR : Hid (Hp.RightH h) := hR
  have HB0 : Hid (∀ o, Below w.heap.size w (w.alloc o)) := fun o => (Below.refl _ _).alloc (Nat.le_refl _) o
  generalize hRB : res.isSome = RB
  generalize hRP : Hp.propOf h res = RP
  have HN : Hid (∀ r, r < 0 → Hp.Sk h key r res → RB = false ∧ RP = Hp.zeroP) := fun r hr x => by
    have e := x.neg hr
    subst e
    exact ⟨hRB.symm, hRP.symm⟩
  have HRR : Hid (res.isSome = RB ∧ Hp.propOf h res = RP) := ⟨hRB, hRP⟩
  clear hRB hRP
  have m1 := Try.mOwnH
  have m2 := Try.mOwnA
  have m3 := Try.mParH
  have m4 := Try.mParA
  clear hall hR
  go_enter Try.func52, Try.ntmps52
  go_wp2_with fail
  generalize hW0 : w.alloc _ = W0
  have hBW : Below w.heap.size w W0 := by rw [← hW0]; exact HB0.out _
  have hX0 : W0.heap[w.heap.size]? = some (.cells #[.string ByteArray.empty, .int .i64 0, .int .i64 0, .string ByteArray.empty, .bool false, .bool false] 78 (0, 0)) := by rw [← hW0]; exact heap_alloc_new _ _
  have hS0 : w.heap.size < W0.heap.size := by rw [← hW0]; simp
  clear hW0 HB0
  go_loopw [1] (fun vr wr => ∃ r : Int, vr = .int .i64 r ∧ -1 ≤ r ∧ r < h.length ∧ Below W0.heap.size W0 wr ∧ Hid (Hp.Sk h key r res)) (fun vr _ => (intOf vr + 1).toNat)
  case atStart => exact ⟨ref, rfl, by omega, hl, Below.refl _ _, hsk⟩
  case round =>
    obtain ⟨r, rfl, hr0, hrl, hb, HS⟩ := hrel
    have hbw : Below w.heap.size w wr := hBW.trans (hb.mono hBW.size)
    obtain ⟨⟨x0, x1, x2, x3, x4, x5⟩, y0, y1, y2, y3, y4, y5⟩ := six_same ((hb.block _ hS0).trans hX0)
    have hSr : w.heap.size < wr.heap.size := by have := hb.size; omega
    by_cases hneg : r < 0
    · obtain rfl : r = -1 := by omega
      obtain ⟨hres, hrp⟩ := HN.out _ hneg HS.out
      have HBW : Hid (Below w.heap.size w wr) := hbw
      have HX : Hid (wr.heap[w.heap.size]? = some (.cells #[.string ByteArray.empty, .int .i64 0, .int .i64 0, .string ByteArray.empty, .bool false, .bool false] 78 (0, 0))) := (hb.block _ hS0).trans hX0
      subst hres hrp
      clear hbw hb
      go_wp2_with fail
      obtain ⟨st1, st2⟩ := six_stored wr w.heap.size 78 (.string ⟨#[]⟩) (.int .i64 0) (.int .i64 0) (.string ⟨#[]⟩) (.bool false) (.bool false) HX.out
      generalize World.setCell _ _ _ = W9 at st1 st2 ⊢
      obtain ⟨⟨z0, z1, z2, z3, z4, z5⟩, -⟩ := six_same st1
      exact bodyPost_ret (v := .tuple #[.agg (propC Hp.zeroP), .bool false]) (by simp [results, Try.results52, go_sem, propC, Hp.zeroP, Val.zeroV, Val.e0, z0, z1, z2, z3, z4, z5]) rfl ⟨rfl, st2 _ _ HBW.out (Nat.le_refl _)⟩
    obtain ⟨i, rfl⟩ : ∃ i : Nat, r = (i : Int) := ⟨r.toNat, by omega⟩
    have hi : i < h.length := by omega
    have hcell : wr.cell? ⟨g, i, none⟩ = some (hV (cs i)) := by
      have := ((HA.out.1).cellAt i (by omega)).trans (rowV_get cs h.length i hi)
      exact (World.cell?_of_block (w := w) (hbw.block g (World.block_lt_of_cell? w _ this))).trans this
    have hH : HeldAt wr lo h[i] (cs i) := (HA.out.2.1 i hi hi).under hbw
    have C1 := fun (W : World) (hW : Below wr.heap.size wr W) => iOwn W lo h[i] (cs i) key hk (hH.under hW)
    have C1A := fun (ht : (cs i).t = 133) (W : World) (hW : Below wr.heap.size wr W) => iOwnA W lo h[i] (cs i) key hk (hH.under hW) ht
    have C2 := fun (W : World) (hW : Below wr.heap.size wr W) => iParent W lo h[i] (cs i) (hH.under hW)
    have hTT := hH.1
    unfold hTy at hTT
    have HRI : Hid (-1 ≤ h[i].pro ∧ h[i].pro < i) := ⟨(HR.out.2 i hi).2.2.1, (HR.out.2 i hi).2.2.2.1⟩
    have HF1 : Hid (∀ p, h[i].ps.find? (Hp.same key) = some p → RB = true ∧ RP = p) := fun p hp => by
      rw [← HRR.out.1, ← HRR.out.2]
      rw [Hp.find_fi] at hp
      obtain ⟨hlt, hp⟩ := List.getElem?_eq_some_iff.1 hp
      rw [Hp.Sk.found hi hlt HS.out, Hp.propOf_at hi hlt]
      exact ⟨rfl, hp⟩
    have HF2 : Hid (h[i].ps.find? (Hp.same key) = none → Hp.Sk h key h[i].pro res) := fun hp => by
      rw [Hp.find_fi] at hp
      have := List.getElem?_eq_none_iff.1 hp
      exact Hp.Sk.step hi (by omega) HS.out
    unfold hV at hcell
    generalize h[i].pro = pro at *
    generalize h[i].ps.find? (Hp.same key) = fo at *
    generalize (cs i).b = bb at *
    generalize (cs i).T = T at *
    generalize (cs i).t = tt at *
    have H1 : Hid _ := C1
    have H1A : Hid _ := C1A
    have H2 : Hid _ := C2
    have HWR : Hid (_ ∧ _) := ⟨hb, hbw⟩
    clear C1 C1A C2 hH hb hbw x0 x1 x2 x3 x4 x5 y0 y1 y2 y3 y4 y5
    have hi' : (i : Int) < (h.length : Int) := by omega
    cases fo with
    | some p =>
      obtain ⟨hr1, hr2⟩ := HF1.out p rfl
      subst hr1 hr2
      obtain ⟨pk, ⟨p1, p2, p3⟩, p4, p5⟩ := RP
      have G1 := H1.out
      dsimp only [Option.getD, Option.isSome, propC] at G1
      have H3 : Hid _ := G1
      have G1A := H1A.out
      dsimp only [Option.getD, Option.isSome, propC] at G1A
      have H3A : Hid _ := G1A
      clear G1 H1 G1A H1A HN HF1 HF2 HRR
      rcases hTT with ⟨rfl, hte⟩ | ⟨rfl, hte⟩
      all_goals
        go_wp2_with fail
        first | refine (H3.out _ (Below.refl _ _)).mono ?_ | refine (H3A.out hte _ (Below.refl _ _)).mono ?_
        rintro e w1 ⟨rfl, hb1⟩
        obtain ⟨hb, hbw⟩ := HWR.out
        have hbw1 := hbw.trans (hb1.mono hbw.size)
        have hX1 := (hb1.block _ hSr).trans ((hb.block _ hS0).trans hX0)
        have hSr1 : w.heap.size < w1.heap.size := by have := hb1.size; omega
        obtain ⟨⟨x0, x1, x2, x3, x4, x5⟩, y0, y1, y2, y3, y4, y5⟩ := six_same hX1
        have HX : Hid (_ ∧ _) := ⟨hX1, hbw1⟩
        clear hb hbw hbw1 hX1 hb1
        go_wp2_with fail
        obtain ⟨st1, st2⟩ := six_stored w1 w.heap.size 78 (.string pk) (.int .i64 p1) (.int .i64 p2) (.string p3) (.bool p4) (.bool p5) HX.out.1
        generalize World.setCell _ _ _ = W9 at st1 st2 ⊢
        have hb9 := st2 _ _ HX.out.2 (Nat.le_refl _)
        have hb10 : Below w.heap.size w (W9.alloc (.cells #[.string pk, .int .i64 p1, .int .i64 p2, .string p3, .bool p4, .bool p5] 78)) := hb9.alloc hb9.size _
        have st3 := (Below.heap_alloc W9 (.cells #[.string pk, .int .i64 p1, .int .i64 p2, .string p3, .bool p4, .bool p5] 78) _ (Array.getElem?_eq_some_iff.1 st1).1).trans st1
        generalize W9.alloc _ = W10 at hb10 st3 ⊢
        obtain ⟨⟨z0, z1, z2, z3, z4, z5⟩, -⟩ := six_same st3
        exact bodyPost_ret (v := .tuple #[.agg #[.string pk, .int .i64 p1, .int .i64 p2, .string p3, .bool p4, .bool p5], .bool true]) (by simp [results, Try.results52, go_sem, z0, z1, z2, z3, z4, z5]) rfl ⟨rfl, hb10⟩
    | none =>
      have G1 := H1.out
      dsimp only [Option.getD, Option.isSome, propC, Hp.zeroP, Val.zeroV, Val.e0] at G1
      have H3 : Hid _ := G1
      have G1A := H1A.out
      dsimp only [Option.getD, Option.isSome, propC, Hp.zeroP, Val.zeroV, Val.e0] at G1A
      have H3A : Hid _ := G1A
      have HNX : Hid (Hp.Sk h key pro res) := HF2.out rfl
      clear G1 H1 G1A H1A HN HF1 HF2 HRR
      rcases hTT with ⟨rfl, hte⟩ | ⟨rfl, hte⟩
      all_goals
        go_wp2_with fail
        first | refine (H3.out _ (Below.refl _ _)).mono ?_ | refine (H3A.out hte _ (Below.refl _ _)).mono ?_
        rintro e w1 ⟨rfl, hb1⟩
        obtain ⟨hb, hbw⟩ := HWR.out
        have hcell1 := (World.cell?_of_block (a := ⟨g, i, none⟩) (hb1.block g (World.block_lt_of_cell? wr _ hcell))).trans hcell
        have hgl := World.block_lt_of_cell? w1 _ hcell1
        have HAL : Hid (∀ o, Below wr.heap.size wr (w1.alloc o)) := fun o => hb1.trans (((Below.refl _ _).alloc (Nat.le_refl _) o).mono hb1.size)
        clear hb hbw hcell hb1
        go_wp2_with fail
        refine (H2.out _ (HAL.out _)).mono ?_
        rintro e w2 ⟨rfl, rfl⟩
        go_wp2_with fail
        have := HRI.out
        exact ⟨⟨pro, rfl, by omega, by omega, HWR.out.1.trans ((HAL.out _).mono HWR.out.1.size), HNX.out⟩, by simp [intOf]; omega⟩

end Go.Proofs.Ytlmlmdmechhalaa

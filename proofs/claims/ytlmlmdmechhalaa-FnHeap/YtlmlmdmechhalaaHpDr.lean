/-
  Draws of heaps: a number of an object, or none's.
-/
import Derived.Test.YtlmlmdmechhalaaHpDs
namespace Go.Proofs.Ytlmlmdmechhalaa
open Go.RowKit
open Hp (PP OO propC)

set_option maxHeartbeats 1000000 in
theorem sEdge (S : Nat) (w : World) (h : Src w S) : Calls Try.prog 66 #[.pointer (some ⟨S, 0, none⟩)] w fun e w' => ∃ x : Int, e = .returned (.int .i64 x) ∧ Src w' S ∧ Keep S w w' := by
  have hS := h.lt
  have N1 : Hid _ := fun (W : World) (h : Src W S) => sNany S 14 W (by omega) (by omega) h
  have HS : Hid (∀ o, Src (w.alloc o) S) := fun o => src_grow1 h
  have HK : Hid (∀ o w', Keep S (w.alloc o) w' → Keep S w w') := fun o w' hk => ((Keep.refl S w).alloc o).trans hk
  clear h
  go_enter Try.func66, Try.ntmps66
  go_wp2_with fail
  refine (N1.out _ (HS.out _)).mono ?_
  rintro e w1 ⟨r, rfl, hr, hs, hk⟩
  obtain ⟨x, hx⟩ : ∃ x : Int, w1.cell? ⟨w.heap.size, r, none⟩ = some (.int .i64 x) :=
    ints_at (xs := [0, 1, -1, 2, 1000, 1001, 2147483648, 2147483647, -2147483648, 4611686018427387904, 9223372036854775807, -9223372036854775808, 1000000, 1000001]) ((hk.block w.heap.size (by simp) (by omega)).trans (heap_alloc_new w _)) (by simp; omega)
  have hr' : (r : Int) < 14 := by omega
  have HF : Hid (Src w1 S ∧ Keep S w w1) := ⟨hs, HK.out _ _ hk⟩
  clear hs hk
  go_wp2_with fail
  go_ret
  exact ⟨x, rfl, HF.out⟩

set_option maxHeartbeats 4000000 in
set_option maxRecDepth 100000 in
theorem sRefD (S : Nat) (a : Option Addr) (n cap : Nat) (w : World) (hn : 1 ≤ n) (hn4 : n ≤ 4) (h : Src w S) : Calls Try.prog 38 #[.pointer (some ⟨S, 0, none⟩), .agg #[.slice a n cap]] w fun e w' => ∃ x : Int, e = .returned (.int .i64 x) ∧ Src w' S ∧ Keep S w w' := by
  have hS := h.lt
  have N1 : Hid _ := fun (most : Nat) (hm : 1 ≤ most) (hm2 : most ≤ 1000000) (W : World) (h : Src W S) => sNany S most W hm hm2 h
  have H10 : Hid _ := fun (W : World) (h : Src W S) => sOne S 10 W (by omega) (by omega) h
  have HED : Hid _ := fun (W : World) (h : Src W S) => sEdge S W h
  have HS : Hid (∀ o, Src (w.alloc o) S) := fun o => src_grow1 h
  have HK : Hid (∀ o w', Keep S (w.alloc o) w' → Keep S w w') := fun o w' hk => ((Keep.refl S w).alloc o).trans hk
  clear h
  go_enter Try.func38, Try.ntmps38
  go_wp2_with fail
  refine (H10.out _ (HS.out _)).mono ?_
  rintro e W0 ⟨b, rfl, hs, hk⟩
  have hbx : W0.heap[w.heap.size]? = some (.cells #[.slice a n cap] 25 (0, 0)) := (hk.block w.heap.size (by simp) (by omega)).trans (heap_alloc_new w _)
  have HKW : Hid (Src W0 S ∧ Keep S w W0) := ⟨hs, HK.out _ _ hk⟩
  have HBX : Hid (∀ W, Keep S W0 W → W.cell? ⟨w.heap.size, 0, none⟩ = some (.slice a n cap)) := fun W k => (one_of ((k.block _ (Array.getElem?_eq_some_iff.1 hbx).1 (by omega)).trans hbx)).1
  have HBK : Hid (∀ W, Keep S W0 W → Keep S w W) := fun W k => HKW.out.2.trans k
  clear hs hk
  have x0 := (one_of hbx).1
  cases b
  · go_wp2_with fail
    refine (N1.out n hn (by omega) W0 HKW.out.1).mono ?_
    rintro e W1 ⟨r, rfl, hr, hs1, hk1⟩
    have HF : Hid (Src W1 S ∧ Keep S w W1) := ⟨hs1, HBK.out _ hk1⟩
    clear hs1 hk1
    go_wp2_with fail
    go_ret
    exact ⟨_, rfl, HF.out⟩
  · go_wp2_with fail
    have hkd : Keep S W0 W0.drew := (Keep.refl S W0).drew
    have hsd : Src W0.drew S := HKW.out.1.below (Below.refl _ _).drew
    refine wp_region_held_drew (S := fun W' => W'.cell? ⟨w.heap.size, 0, none⟩ = some (.slice a n cap)) (by kernel_rfl) (HBX.out _ hkd) (fun hHeld => ?_)
    generalize hD : W0.drew = Y1 at hkd hsd hHeld ⊢
    clear hD
    refine takeIn 0 (v := ?va0) rfl (by kernel_rfl) (by kernel_rfl) (by kernel_rfl) (fun _ _ _ h => h) ?wa0 (by assumption) ?ya0 ?ra0
    case wa0 => rfl
    case ya0 => (intro w hSw; (try dsimp only at hSw); go_simp; first | done | with_reducible rfl)
    simp only [Act.put, List.setIfInBounds_toArray, List.set_cons_zero, List.set_cons_succ]
    refine takeIn 1 (v := ?va1) rfl (by kernel_rfl) (by kernel_rfl) (by kernel_rfl) (fun _ _ _ h => h) ?wa1 (by assumption) ?ya1 ?ra1
    case wa1 => rfl
    case ya1 => (intro w hSw; (try dsimp only at hSw); go_simp; first | done | with_reducible rfl)
    simp only [Act.put, List.setIfInBounds_toArray, List.set_cons_zero, List.set_cons_succ]
    refine takeIn 2 (v := ?va2) rfl (by kernel_rfl) (by kernel_rfl) (by kernel_rfl) (fun _ _ _ h => h) ?wa2 (by assumption) ?ya2 ?ra2
    case wa2 => rfl
    case ya2 => (intro w hSw; (try dsimp only at hSw); go_simp; first | done | with_reducible rfl)
    simp only [Act.put, List.setIfInBounds_toArray, List.set_cons_zero, List.set_cons_succ]
    refine takeIn 3 (v := ?va3) rfl (by kernel_rfl) (by kernel_rfl) (by kernel_rfl) (fun _ _ _ h => h) ?wa3 (by assumption) ?ya3 ?ra3
    case wa3 => rfl
    case ya3 => (intro w hSw; (try dsimp only at hSw); go_simp; first | done | with_reducible rfl)
    simp only [Act.put, List.setIfInBounds_toArray, List.set_cons_zero, List.set_cons_succ]
    refine takeIn 6 (v := ?va6) rfl (by kernel_rfl) (by kernel_rfl) (by kernel_rfl) (fun _ _ _ h => h) ?wa6 (by assumption) ?ya6 ?ra6
    case wa6 => rfl
    case ya6 => (intro w hSw; (try dsimp only at hSw); go_simp; first | done | with_reducible rfl)
    simp only [Act.put, List.setIfInBounds_toArray, List.set_cons_zero, List.set_cons_succ]
    refine oneUp 4 rfl (by kernel_rfl) (by rfl) (fun K hK => ?_)
    go_simp
    refine (HED.out Y1 hsd).mono ?_
    rintro e Y2 ⟨ed, rfl, hs2, hk2'⟩
    have hk2 : Keep S W0 Y2 := hkd.trans hk2'
    clear hk2'
    refine hK.out _ _ (HBX.out Y2 hk2) (fun hHeld2 => ?_)
    clear hK K
    (try simp only [Act.put, List.setIfInBounds_toArray, List.set_cons_zero, List.set_cons_succ])
    refine twoUp 5 7 rfl rfl (by kernel_rfl) (by rfl) (by rfl) (fun K hK => ?_) (fun K hK => ?_)
    · go_simp
      generalize hG1 : World.alloc _ _ = Y3
      have hk3 : Keep S W0 Y3 := by rw [← hG1]; exact hk2.alloc _
      have hs3 : Src Y3 S := by rw [← hG1]; exact src_grow1 hs2
      have G3 : Hid (Y3.heap[Y2.heap.size]? = some (.cells #[.int .i64 (-1), .int .i64 n, .int .i64 ed] 2 (0, 0))) := by
        rw [← hG1]
        exact heap_alloc_new _ _
      have L3 : S < Y2.heap.size := hs2.lt
      clear hG1
      refine hK.out _ _ (HBX.out Y3 hk3) (fun hHeldb1 => ?_)
      clear hK K
      (try simp only [Act.put, List.setIfInBounds_toArray, List.set_cons_zero, List.set_cons_succ])
      refine oneUp 7 rfl (by kernel_rfl) (by rfl) (fun K hK => ?_)
      go_simp
      refine (N1.out 3 (by omega) (by omega) Y3 hs3).mono ?_
      rintro e Y4 ⟨r, rfl, hr, hs4, hk4'⟩
      have hk4 : Keep S W0 Y4 := hk3.trans hk4'
      have G4 : Hid (Y4.heap[Y2.heap.size]? = some (.cells #[.int .i64 (-1), .int .i64 n, .int .i64 ed] 2 (0, 0))) := (hk4'.block _ (Array.getElem?_eq_some_iff.1 G3.out).1 (by omega)).trans G3.out
      have HS4 : Hid (Src Y4 S) := hs4
      refine hK.out _ _ (HBX.out Y4 hk4) (fun hHeldb2 => ?_)
      clear hK K
      (try simp only [Act.put, List.setIfInBounds_toArray, List.set_cons_zero, List.set_cons_succ])
      obtain ⟨xp, hxp⟩ : ∃ x : Int, Y4.cell? ⟨Y2.heap.size, r, none⟩ = some (.int .i64 x) := ints_at (xs := [-1, (n : Int), ed]) G4.out (by simp; omega)
      have hrrp : (r : Int) < 3 := by omega
      refine takeIn 8 (v := ?vpx8) rfl (by kernel_rfl) (by kernel_rfl) (by kernel_rfl) (fun _ _ _ h => h) ?wpx8 (by assumption) ?ypx8 ?rpx8
      case wpx8 => rfl
      case ypx8 => (intro w hSw; (try dsimp only at hSw); go_simp; first | done | with_reducible rfl)
      simp only [Act.put, List.setIfInBounds_toArray, List.set_cons_zero, List.set_cons_succ]
      refine oneUp 9 rfl (by kernel_rfl) (by rfl) (fun K hK => ?_)
      go_simp
      refine hK.out _ _ (HBX.out Y4 hk4) (fun hHeldp9 => ?_)
      clear hK K
      (try simp only [Act.put, List.setIfInBounds_toArray, List.set_cons_zero, List.set_cons_succ])
      refine takeIn 10 (v := ?vpx10) rfl (by kernel_rfl) (by kernel_rfl) (by kernel_rfl) (fun _ _ _ h => h) ?wpx10 (by assumption) ?ypx10 ?rpx10
      case wpx10 => rfl
      case ypx10 => (intro w hSw; (try dsimp only at hSw); go_simp; first | done | with_reducible rfl)
      simp only [Act.put, List.setIfInBounds_toArray, List.set_cons_zero, List.set_cons_succ]
      refine wpAnyH_done (by kernel_rfl) ?_ _
      go_wp2_with fail
      go_ret
      exact ⟨xp, rfl, HS4.out, HBK.out _ hk4⟩
    · go_simp
      refine (N1.out 3 (by omega) (by omega) Y2 hs2).mono ?_
      rintro e Y3 ⟨r, rfl, hr, hs3, hk3'⟩
      have hk3 : Keep S W0 Y3 := hk2.trans hk3'
      refine hK.out _ _ (HBX.out Y3 hk3) (fun hHeldc1 => ?_)
      clear hK K
      (try simp only [Act.put, List.setIfInBounds_toArray, List.set_cons_zero, List.set_cons_succ])
      refine oneUp 5 rfl (by kernel_rfl) (by rfl) (fun K hK => ?_)
      go_simp
      generalize hG1 : World.alloc _ _ = Y4
      have hk4 : Keep S W0 Y4 := by rw [← hG1]; exact hk3.alloc _
      have HS4 : Hid (Src Y4 S) := by
        rw [← hG1]
        exact src_grow1 hs3
      have G4 : Hid (Y4.heap[Y3.heap.size]? = some (.cells #[.int .i64 (-1), .int .i64 n, .int .i64 ed] 2 (0, 0))) := by
        rw [← hG1]
        exact heap_alloc_new _ _
      clear hG1
      refine hK.out _ _ (HBX.out Y4 hk4) (fun hHeldc2 => ?_)
      clear hK K
      (try simp only [Act.put, List.setIfInBounds_toArray, List.set_cons_zero, List.set_cons_succ])
      obtain ⟨xq, hxq⟩ : ∃ x : Int, Y4.cell? ⟨Y3.heap.size, r, none⟩ = some (.int .i64 x) := ints_at (xs := [-1, (n : Int), ed]) G4.out (by simp; omega)
      have hrrq : (r : Int) < 3 := by omega
      refine takeIn 8 (v := ?vqx8) rfl (by kernel_rfl) (by kernel_rfl) (by kernel_rfl) (fun _ _ _ h => h) ?wqx8 (by assumption) ?yqx8 ?rqx8
      case wqx8 => rfl
      case yqx8 => (intro w hSw; (try dsimp only at hSw); go_simp; first | done | with_reducible rfl)
      simp only [Act.put, List.setIfInBounds_toArray, List.set_cons_zero, List.set_cons_succ]
      refine oneUp 9 rfl (by kernel_rfl) (by rfl) (fun K hK => ?_)
      go_simp
      refine hK.out _ _ (HBX.out Y4 hk4) (fun hHeldq9 => ?_)
      clear hK K
      (try simp only [Act.put, List.setIfInBounds_toArray, List.set_cons_zero, List.set_cons_succ])
      refine takeIn 10 (v := ?vqx10) rfl (by kernel_rfl) (by kernel_rfl) (by kernel_rfl) (fun _ _ _ h => h) ?wqx10 (by assumption) ?yqx10 ?rqx10
      case wqx10 => rfl
      case yqx10 => (intro w hSw; (try dsimp only at hSw); go_simp; first | done | with_reducible rfl)
      simp only [Act.put, List.setIfInBounds_toArray, List.set_cons_zero, List.set_cons_succ]
      refine wpAnyH_done (by kernel_rfl) ?_ _
      go_wp2_with fail
      go_ret
      exact ⟨xq, rfl, HS4.out, HBK.out _ hk4⟩

end Go.Proofs.Ytlmlmdmechhalaa

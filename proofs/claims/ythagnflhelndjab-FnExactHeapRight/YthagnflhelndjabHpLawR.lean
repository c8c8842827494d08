/-
  The walk of the law FnExactHeapRight.
-/
import Derived.Test.YthagnflhelndjabHpToO
import Derived.Test.YthagnflhelndjabHpEq
import Derived.Test.YthagnflhelndjabHpSR
import Derived.Test.YthagnflhelndjabHpIW
namespace Go.Proofs.Ythagnflhelndjab
open Go.RowKit
open Hp (PP OO propC)

set_option maxHeartbeats 4000000 in
set_option maxRecDepth 100000 in
theorem heapRight_walk (a : Option Addr) (cap : Nat) (h : List OO) (ks : Nat → OC) (w : World) (hok : OkH h) (hin : HIn w 0 a h ks) :
    Calls Try.prog 7 #[.agg #[.slice a h.length cap]] w fun e w' => e = .returned (.bool true) ∧ Below w.heap.size w w' := by
  have HB0 : Hid (∀ o, Below w.heap.size w (w.alloc o)) := fun o => (Below.refl _ _).alloc (Nat.le_refl _) o
  have C1 := fun W (hW : Below w.heap.size w W) => lSzHeap a cap 1048576 0 h ks W (Nat.le_refl _) hok (hin.under hW)
  have C2 := fun (hz : szH h ≤ 1048576) W (hW : Below w.heap.size w W) => lToHeap a cap 0 h ks W (by unfold szH at hz; omega) (fun x hx => by
    obtain ⟨i, hi, rfl⟩ := List.getElem_of_mem hx
    have h1 := sum_mem (fun o : OO => szPs o.ps) h i hi
    unfold szH at hz
    have h2 : h[i].ps.length ≤ szPs h[i].ps := by unfold szPs; omega
    have h3 : szPs h[i].ps ≤ (h.map fun o => szPs o.ps).sum := h1
    omega) (hin.under hW)
  have C3 := fun W (b : Nat) (ds : Nat → OC) (hc : ∀ i (hi : i < h.length), h[i].ps.length ≤ (ds i).pc) (h1 : HIn W 0 (some ⟨b, 0, none⟩) h ds) => sHeapRight (some ⟨b, 0, none⟩) h.length 0 h ds W hok hc h1
  have C4 := fun (hz : szH h ≤ 1048576) W (b : Nat) (ds : Nat → OC) (h1 : HIn W 0 (some ⟨b, 0, none⟩) h ds) => iHeapRight (some ⟨b, 0, none⟩) h.length 0 h ds W hz hok h1
  have C5 := fun W (b1 b2 : Nat) (d1 d2 : Nat → OC) (h1 : HIn W 0 (some ⟨b1, 0, none⟩) h d1) (h2 : HIn W 0 (some ⟨b2, 0, none⟩) h d2) => lEqHeap (some ⟨b1, 0, none⟩) (some ⟨b2, 0, none⟩) h.length h.length 0 0 h d1 d2 W hok h1 h2
  have HHR : Hid (∀ W g cs gs, HRow W g h cs gs → HIn W 0 (some ⟨g, 0, none⟩) h cs ∧ (∀ i (hi : i < h.length), h[i].ps.length ≤ (cs i).pc)) := fun W g cs gs k => ⟨k.hIn (Nat.zero_le _), k.caps⟩
  generalize rightB h = R at *
  generalize szH h = z at *
  have H1 : Hid _ := C1
  have H2 : Hid _ := C2
  have H3 : Hid _ := C3
  have H4 : Hid _ := C4
  have H5 : Hid _ := C5
  clear C1 C2 C3 C4 C5 hok hin
  have hbne : (R != R) = false := by simp
  have hbeq : (R == R) = true := by simp
  go_enter Try.func7, Try.ntmps7
  go_wp2_with fail
  generalize hW0 : w.alloc _ = W0
  have hP0 : W0.heap[w.heap.size]? = some (.cells #[.slice a h.length cap] 45 (0, 0)) := by rw [← hW0]; exact heap_alloc_new _ _
  have hBW : Below w.heap.size w W0 := by rw [← hW0]; exact HB0.out _
  have hS0 : w.heap.size < W0.heap.size := by rw [← hW0]; simp
  clear hW0 HB0
  refine (H1.out W0 hBW).mono ?_
  rintro e W1 ⟨rfl, hb1⟩
  have hbw1 : Below w.heap.size w W1 := hBW.trans (hb1.mono hBW.size)
  by_cases hz : z ≤ 1048576
  case neg =>
    rw [subR_gt (by omega)]
    go_wp2_with fail
    go_ret
    exact ⟨rfl, hbw1⟩
  rw [subR_le hz]
  have hz' : ¬ (((1048576 - z : Nat) : Int)) < 0 := by omega
  have hP1 := (hb1.block _ hS0).trans hP0
  have hS1 : w.heap.size < W1.heap.size := by have := hb1.size; omega
  have p1 := (one_of hP1).1
  clear hb1 hP0 hS0 hBW
  go_wp2_with fail
  refine (H2.out hz W1 hbw1).mono ?_
  rintro e W2 ⟨g1, cs1, gs1, rfl, hb2, hg1, hr1⟩
  obtain ⟨hin1, hcp1⟩ := HHR.out _ _ _ _ hr1
  have hP2 := (hb2.block _ hS1).trans hP1
  have hS2 : w.heap.size < W2.heap.size := by have := hb2.size; omega
  have hbw2 : Below w.heap.size w W2 := hbw1.trans (hb2.mono hbw1.size)
  have HIN1 : Hid (_ ∧ _) := ⟨hin1, hcp1⟩
  clear hin1 hcp1 hr1 hg1 hb2 hP1 hS1 hbw1 p1
  go_wp2_with fail
  refine (H3.out W2 g1 cs1 HIN1.out.2 HIN1.out.1).mono ?_
  rintro e W3 ⟨rfl, hb3⟩
  have hP3 := (hb3.block _ hS2).trans hP2
  have hS3 : w.heap.size < W3.heap.size := by have := hb3.size; omega
  have hbw3 : Below w.heap.size w W3 := hbw2.trans (hb3.mono hbw2.size)
  have p3 := (one_of hP3).1
  clear hb3 hP2 hS2 hbw2 HIN1
  go_wp2_with fail
  refine (H2.out hz W3 hbw3).mono ?_
  rintro e W4 ⟨g2, cs2, gs2, rfl, hb4, hg2, hr2⟩
  have hP4 := (hb4.block _ hS3).trans hP3
  have hS4 : w.heap.size < W4.heap.size := by have := hb4.size; omega
  have hbw4 : Below w.heap.size w W4 := hbw3.trans (hb4.mono hbw3.size)
  have HR2 : Hid (HRow W4 g2 h cs2 gs2) := hr2
  clear hr2 hg2 hb4 hP3 hS3 hbw3 p3
  go_wp2_with fail
  generalize hW5 : W4.alloc _ = W5
  have hB5 : Below W4.heap.size W4 W5 := by rw [← hW5]; exact (Below.refl _ _).alloc (Nat.le_refl _) _
  have hX5 : W5.heap[W4.heap.size]? = some (.cells #[.slice (some ⟨g2, 0, none⟩) h.length h.length] 50 (0, 0)) := by rw [← hW5]; exact heap_alloc_new _ _
  have hS5 : W4.heap.size < W5.heap.size := by rw [← hW5]; simp
  have hr5 := HR2.out.under hB5
  have hP5 := (hB5.block _ hS4).trans hP4
  have hbw5 : Below w.heap.size w W5 := hbw4.trans (hB5.mono hbw4.size)
  clear hW5 hP4 hbw4 HR2 hB5
  generalize W4.heap.size = X at *
  obtain ⟨hin5, -⟩ := HHR.out _ _ _ _ hr5
  refine (H4.out hz W5 g2 cs2 hin5).mono ?_
  rintro e W6 ⟨rfl, hb6⟩
  have hr6 := hr5.under hb6
  have hP6 := (hb6.block _ (by omega)).trans hP5
  have hX6 := (hb6.block _ hS5).trans hX5
  have hbw6 : Below w.heap.size w W6 := hbw5.trans (hb6.mono hbw5.size)
  have hSP : w.heap.size < W6.heap.size := by have := hb6.size; omega
  have hSX : X < W6.heap.size := by have := hb6.size; omega
  clear hr5 hP5 hX5 hbw5 hb6 hin5 hS5
  have p6 := (one_of hP6).1
  have x6 := (one_of hX6).1
  have HH6 : Hid (HRow W6 g2 h cs2 gs2 ∧ Below w.heap.size w W6) := ⟨hr6, hbw6⟩
  clear hr6 hbw6
  go_wp2_with fail
  go_region_with (first
    | (go_at_call 23; refine (H2.out hz _ HH6.out.2.drew).mono ?_; rintro e WA ⟨g3, cs3, gs3, rfl, hA, hgA, hrA⟩; have hA2 : Below W6.heap.size W6 WA := (Below.refl W6.heap.size W6).drew.trans hA; have pA := (one_of ((hA2.block _ hSP).trans hP6)).1; have xA := (one_of ((hA2.block _ hSX).trans hX6)).1; have HRA : Hid (HRow WA g3 h cs3 gs3) := hrA; clear hrA)
    | (go_at_call 25; refine (H5.out _ g2 g3 cs2 cs3 (HHR.out _ _ _ _ (HH6.out.1.under hA2)).1 (HHR.out _ _ _ _ HRA.out).1).mono ?_; rintro e WB ⟨rfl, hBB⟩; have hB2 : Below W6.heap.size W6 WB := hA2.trans (hBB.mono hA2.size)))
  all_goals
    go_wp2_with fail
    go_ret
    exact ⟨rfl, HH6.out.2.trans (hB2.mono HH6.out.2.size)⟩

end Go.Proofs.Ythagnflhelndjab

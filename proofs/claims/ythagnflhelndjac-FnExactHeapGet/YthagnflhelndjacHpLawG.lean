/-
  The walk of the law FnExactHeapGet.
-/
import Derived.Test.YthagnflhelndjacHpToO
import Derived.Test.YthagnflhelndjacHpEq
import Derived.Test.YthagnflhelndjacHpSG
import Derived.Test.YthagnflhelndjacHpP
namespace Go.Proofs.Ythagnflhelndjac
open Go.RowKit
open Hp (PP OO propC)

set_option maxHeartbeats 4000000 in
set_option maxRecDepth 100000 in
theorem heapGet_walk (a : Option Addr) (cap : Nat) (h : List OO) (ks : Nat → OC) (ref : Int) (key : ByteArray) (w : World) (hk : key.size ≤ 9223372036854775807) (hok : OkH h) (hin : HIn w 0 a h ks) :
    Calls Try.prog 4 #[.agg #[.slice a h.length cap], .int .i64 ref, .string key] w fun e w' => e = .returned (.bool true) ∧ Below w.heap.size w w' := by
  have HB0 : Hid (∀ o, Below w.heap.size w (w.alloc o)) := fun o => (Below.refl _ _).alloc (Nat.le_refl _) o
  have C1 := fun W (hW : Below w.heap.size w W) => lSzHeap a cap 1048576 0 h ks W (Nat.le_refl _) hok (hin.under hW)
  have C2 := fun (hz : szH h ≤ 1048576) W (hW : Below w.heap.size w W) => lToHeap a cap 0 h ks W (by unfold szH at hz; omega) (fun x hx => by
    obtain ⟨i, hi, rfl⟩ := List.getElem_of_mem hx
    have h1 := sum_mem (fun o : OO => szPs o.ps) h i hi
    unfold szH at hz
    have h2 : h[i].ps.length ≤ szPs h[i].ps := by unfold szPs; omega
    have h3 : szPs h[i].ps ≤ (h.map fun o => szPs o.ps).sum := h1
    omega) (hin.under hW)
  have C3 := fun W (b : Nat) (ds : Nat → OC) (hc : ∀ i (hi : i < h.length), h[i].ps.length ≤ (ds i).pc) (h1 : HIn W 0 (some ⟨b, 0, none⟩) h ds) => sHeapGet (some ⟨b, 0, none⟩) h.length 0 h ds ref key W hok hc h1 hk
  have C4 := fun (hz : szH h ≤ 1048576) W (b : Nat) (ds : Nat → OC) (h1 : HIn W 0 (some ⟨b, 0, none⟩) h ds) => iHeapGet (some ⟨b, 0, none⟩) h.length 0 h ds ref key W hk hz hok h1
  have C5 := fun W (b1 b2 : Nat) (d1 d2 : Nat → OC) (h1 : HIn W 0 (some ⟨b1, 0, none⟩) h d1) (h2 : HIn W 0 (some ⟨b2, 0, none⟩) h d2) => lEqHeap (some ⟨b1, 0, none⟩) (some ⟨b2, 0, none⟩) h.length h.length 0 0 h d1 d2 W hok h1 h2
  have HHR : Hid (∀ W g cs gs, HRow W g h cs gs → HIn W 0 (some ⟨g, 0, none⟩) h cs ∧ (∀ i (hi : i < h.length), h[i].ps.length ≤ (cs i).pc)) := fun W g cs gs k => ⟨k.hIn (Nat.zero_le _), k.caps⟩
  have C6 := fun (W : World) => lEqValue (Hp.getV h ref key) W
  generalize Hp.getV h ref key = V at *
  obtain ⟨vk, vn, vt⟩ := V
  unfold vC at C3 C4 C6
  dsimp only at C3 C4 C6
  generalize szH h = z at *
  have H1 : Hid _ := C1
  have H2 : Hid _ := C2
  have H3 : Hid _ := C3
  have H4 : Hid _ := C4
  have H5 : Hid _ := C5
  have H6 : Hid _ := C6
  clear C1 C2 C3 C4 C5 C6 hok hin
  go_enter Try.func4, Try.ntmps4
  by_cases hkl : 1048576 < key.size
  · have hkl' : (1048576 : Int) < (key.size : Int) := by omega
    go_wp2_with fail
    go_ret
    exact ⟨rfl, HB0.out _⟩
  have hkl' : ¬ (1048576 : Int) < (key.size : Int) := by omega
  go_wp2_with fail
  generalize hW0 : w.alloc _ = W0
  have hP0 : W0.heap[w.heap.size]? = some (.cells #[.slice a h.length cap] 24 (0, 0)) := by rw [← hW0]; exact heap_alloc_new _ _
  have hBW : Below w.heap.size w W0 := by rw [← hW0]; exact HB0.out _
  have hS0 : w.heap.size < W0.heap.size := by rw [← hW0]; simp
  clear hW0 HB0
  refine (H1.out W0 hBW).mono ?_
  rintro e W1 ⟨rfl, hb1⟩
  have hbw1 : Below w.heap.size w W1 := hBW.trans (hb1.mono hBW.size)
  by_cases hz : z ≤ 1048576
  case neg =>
    rw [subR_gt (by omega)]
    go_wp2_with fail
    go_ret
    exact ⟨rfl, hbw1⟩
  rw [subR_le hz]
  have hz' : ¬ (((1048576 - z : Nat) : Int)) < 0 := by omega
  have hP1 := (hb1.block _ hS0).trans hP0
  have hS1 : w.heap.size < W1.heap.size := by have := hb1.size; omega
  have p1 := (one_of hP1).1
  clear hb1 hP0 hS0 hBW
  go_wp2_with fail
  refine (H2.out hz W1 hbw1).mono ?_
  rintro e W2 ⟨g1, cs1, gs1, rfl, hb2, hg1, hr1⟩
  obtain ⟨hin1, hcp1⟩ := HHR.out _ _ _ _ hr1
  have hP2 := (hb2.block _ hS1).trans hP1
  have hS2 : w.heap.size < W2.heap.size := by have := hb2.size; omega
  have hbw2 : Below w.heap.size w W2 := hbw1.trans (hb2.mono hbw1.size)
  have HIN1 : Hid (_ ∧ _) := ⟨hin1, hcp1⟩
  clear hin1 hcp1 hr1 hg1 hb2 hP1 hS1 hbw1 p1
  go_wp2_with fail
  refine (H3.out W2 g1 cs1 HIN1.out.2 HIN1.out.1).mono ?_
  rintro e W3 ⟨rfl, hb3⟩
  have hP3 := (hb3.block _ hS2).trans hP2
  have hS3 : w.heap.size < W3.heap.size := by have := hb3.size; omega
  have hbw3 : Below w.heap.size w W3 := hbw2.trans (hb3.mono hbw2.size)
  have p3 := (one_of hP3).1
  clear hb3 hP2 hS2 hbw2 HIN1
  go_wp2_with fail
  generalize hV3 : W3.alloc _ = V3
  have hB3 : Below W3.heap.size W3 V3 := by rw [← hV3]; exact (Below.refl _ _).alloc (Nat.le_refl _) _
  have hY3 : V3.heap[W3.heap.size]? = some (.cells #[.int .i64 vk, .int .i64 vn, .string vt] 34 (0, 0)) := by rw [← hV3]; exact heap_alloc_new _ _
  have hSY : W3.heap.size < V3.heap.size := by rw [← hV3]; simp
  have hQ3 := (hB3.block _ hS3).trans hP3
  have hT3 : w.heap.size < V3.heap.size := by omega
  have hbv3 : Below w.heap.size w V3 := hbw3.trans (hB3.mono hbw3.size)
  clear hV3 hB3 hP3 hbw3 p3
  generalize W3.heap.size = Y at *
  refine (H2.out hz V3 hbv3).mono ?_
  rintro e W4 ⟨g2, cs2, gs2, rfl, hb4, hg2, hr2⟩
  have hP4 := (hb4.block _ hT3).trans hQ3
  have hY4 := (hb4.block _ hSY).trans hY3
  have hS4 : w.heap.size < W4.heap.size := by have := hb4.size; omega
  have hSY4 : Y < W4.heap.size := by have := hb4.size; omega
  have hbw4 : Below w.heap.size w W4 := hbv3.trans (hb4.mono hbv3.size)
  have HR2 : Hid (HRow W4 g2 h cs2 gs2) := hr2
  clear hr2 hg2 hb4 hQ3 hS3 hbv3 hY3 hSY hT3
  go_wp2_with fail
  generalize hW5 : W4.alloc _ = W5
  have hB5 : Below W4.heap.size W4 W5 := by rw [← hW5]; exact (Below.refl _ _).alloc (Nat.le_refl _) _
  have hX5 : W5.heap[W4.heap.size]? = some (.cells #[.slice (some ⟨g2, 0, none⟩) h.length h.length] 29 (0, 0)) := by rw [← hW5]; exact heap_alloc_new _ _
  have hS5 : W4.heap.size < W5.heap.size := by rw [← hW5]; simp
  have hr5 := HR2.out.under hB5
  have hP5 := (hB5.block _ hS4).trans hP4
  have hY5 := (hB5.block _ hSY4).trans hY4
  have hbw5 : Below w.heap.size w W5 := hbw4.trans (hB5.mono hbw4.size)
  clear hW5 hP4 hbw4 HR2 hB5 hY4
  generalize W4.heap.size = X at *
  obtain ⟨hin5, -⟩ := HHR.out _ _ _ _ hr5
  refine (H4.out hz W5 g2 cs2 hin5).mono ?_
  rintro e W6 ⟨rfl, hb6⟩
  have hr6 := hr5.under hb6
  have hP6 := (hb6.block _ (by omega)).trans hP5
  have hX6 := (hb6.block _ hS5).trans hX5
  have hY6 := (hb6.block _ (by omega)).trans hY5
  have hbw6 : Below w.heap.size w W6 := hbw5.trans (hb6.mono hbw5.size)
  have hSP : w.heap.size < W6.heap.size := by have := hb6.size; omega
  have hSX : X < W6.heap.size := by have := hb6.size; omega
  have hSY6 : Y < W6.heap.size := by omega
  clear hr5 hP5 hX5 hbw5 hb6 hin5 hS5 hY5
  have y6 := three_allS hY6
  have HH6 : Hid (_ ∧ _ ∧ _ ∧ _) := ⟨hr6, hbw6, hP6, hX6⟩
  obtain ⟨⟨y60, y61, y62⟩, -⟩ := y6
  have HA6 : Hid (∀ o, Below W6.heap.size W6 (W6.alloc o)) := fun o => (Below.refl _ _).alloc (Nat.le_refl _) o
  clear hr6 hbw6 hP6 hX6 hY6
  go_wp2_with fail
  refine (H6.out _).mono ?_
  rintro e W7 ⟨rfl, hb7⟩
  have hB7 := (HA6.out (.cells #[.int .i64 vk, .int .i64 vn, .string vt] 34)).trans (hb7.mono (HA6.out _).size)
  obtain ⟨hr6, hbw6, hP6, hX6⟩ := HH6.out
  have hr7 := hr6.under hB7
  have hP7 := (hB7.block _ hSP).trans hP6
  have hX7 := (hB7.block _ hSX).trans hX6
  have hbw7 : Below w.heap.size w W7 := hbw6.trans (hB7.mono hbw6.size)
  have hSP7 : w.heap.size < W7.heap.size := by have := hB7.size; omega
  have hSX7 : X < W7.heap.size := by have := hB7.size; omega
  have p7 := (one_of hP7).1
  have x7 := (one_of hX7).1
  have HH7 : Hid (HRow W7 g2 h cs2 gs2 ∧ Below w.heap.size w W7) := ⟨hr7, hbw7⟩
  clear hr6 hbw6 hP6 hX6 hr7 hbw7 hB7 hb7 HH6 HA6 y60 y61 y62
  go_wp2_with fail
  go_region_with (first
    | (go_at_call 11; refine (H2.out hz _ HH7.out.2.drew).mono ?_; rintro e WA ⟨g3, cs3, gs3, rfl, hA, hgA, hrA⟩; have hA2 : Below W7.heap.size W7 WA := (Below.refl W7.heap.size W7).drew.trans hA; have pA := (one_of ((hA2.block _ hSP7).trans hP7)).1; have xA := (one_of ((hA2.block _ hSX7).trans hX7)).1; have HRA : Hid (HRow WA g3 h cs3 gs3) := hrA; clear hrA)
    | (go_at_call 13; refine (H5.out _ g2 g3 cs2 cs3 (HHR.out _ _ _ _ (HH7.out.1.under hA2)).1 (HHR.out _ _ _ _ HRA.out).1).mono ?_; rintro e WB ⟨rfl, hBB⟩; have hB2 : Below W7.heap.size W7 WB := hA2.trans (hBB.mono hA2.size)))
  all_goals
    go_wp2_with fail
    go_ret
    exact ⟨rfl, HH7.out.2.trans (hB2.mono HH7.out.2.size)⟩

end Go.Proofs.Ythagnflhelndjac

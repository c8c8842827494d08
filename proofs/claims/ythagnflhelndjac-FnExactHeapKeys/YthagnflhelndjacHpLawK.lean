/-
  The walk of the law FnExactHeapKeys.
-/
import Derived.Test.YthagnflhelndjacHpEq
import Derived.Test.YthagnflhelndjacHpSK
import Derived.Test.YthagnflhelndjacMkS
import Derived.Deep.CutRange
namespace Go.Proofs.Ythagnflhelndjac
open Go.RowKit
open Hp (PP OO propC)

theorem keysV_small {h : List OO} (hz : szH h ≤ 1048576) (ref : Int) : (Hp.keysV h ref).length ≤ 1048576 := by
  unfold Hp.keysV
  split
  · refine Nat.le_trans (keysPs_le _) ?_
    cases e : h[ref.toNat]? with
    | none => simp
    | some x =>
      obtain ⟨hi, rfl⟩ := List.getElem?_eq_some_iff.1 e
      have h1 : szPs h[ref.toNat].ps ≤ (h.map fun o => szPs o.ps).sum := sum_mem (fun o : OO => szPs o.ps) h _ hi
      have h2 : h[ref.toNat].ps.length ≤ szPs h[ref.toNat].ps := by unfold szPs; omega
      unfold szH at hz
      simp only [Option.map_some, Option.getD_some]
      omega
  · simp
theorem HRow.blks {w : World} {g : Nat} {h : List OO} {cs : Nat → OC} {gs : Nat → Nat} (k : HRow w g h cs gs) {q : Nat} (hq : Blks g h gs q) : g ≤ q ∧ q < w.heap.size := by
  have hg := k.lt
  obtain ⟨f, k⟩ := k
  rcases hq with rfl | ⟨j, hj, _, rfl⟩
  · exact ⟨Nat.le_refl _, hg⟩
  · exact ⟨by have := (k.pa j hj).2; omega, (k.props j hj hj).lt⟩
theorem SRow.marks {Q : Nat → Prop} {w w' : World} {B : Nat} {v : Value} {l : List ByteArray} (h : SRow w B v l) (hm : Marks Q w w') (hq : ∀ q, v.ownBlock = some q → ¬ Q q) : SRow w' B v l :=
  row_same h fun q e => hm.block q (World.ownsRow.lt h q e).2 (hq q e)

set_option maxHeartbeats 8000000 in
set_option maxRecDepth 100000 in
theorem heapKeys_walk (a : Option Addr) (cap : Nat) (h : List OO) (ks : Nat → OC) (ref : Int) (w : World) (hok : OkH h) (hin : HIn w 0 a h ks) :
    Calls Try.prog 7 #[.agg #[.slice a h.length cap], .int .i64 ref] w fun e w' => e = .returned (.bool true) ∧ Below w.heap.size w w' := by
  have HB0 : Hid (∀ o, Below w.heap.size w (w.alloc o)) := fun o => (Below.refl _ _).alloc (Nat.le_refl _) o
  have C1 := fun W (hW : Below w.heap.size w W) => lSzHeap a cap 1048576 0 h ks W (Nat.le_refl _) hok (hin.under hW)
  have C2 := fun (hz : szH h ≤ 1048576) W (hW : Below w.heap.size w W) => lToHeap a cap 0 h ks W (by unfold szH at hz; omega) (fun x hx => by
    obtain ⟨i, hi, rfl⟩ := List.getElem_of_mem hx
    have h1 := sum_mem (fun o : OO => szPs o.ps) h i hi
    unfold szH at hz
    have h2 : h[i].ps.length ≤ szPs h[i].ps := by unfold szPs; omega
    have h3 : szPs h[i].ps ≤ (h.map fun o => szPs o.ps).sum := h1
    omega) (hin.under hW)
  have C3 := fun (hz : szH h ≤ 1048576) W (b : Nat) (ds : Nat → OC) (hc : ∀ i (hi : i < h.length), h[i].ps.length ≤ (ds i).pc) (h1 : HIn W 0 (some ⟨b, 0, none⟩) h ds) => sHeapKeys (some ⟨b, 0, none⟩) h.length 0 h ds ref W hz hok hc h1
  have C4 := fun (hz : szH h ≤ 1048576) W (b : Nat) (ds : Nat → OC) (h1 : HIn W 0 (some ⟨b, 0, none⟩) h ds) => iHeapKeys (some ⟨b, 0, none⟩) h.length 0 h ds ref W hz hok h1
  have C5 := fun W (b1 b2 : Nat) (d1 d2 : Nat → OC) (h1 : HIn W 0 (some ⟨b1, 0, none⟩) h d1) (h2 : HIn W 0 (some ⟨b2, 0, none⟩) h d2) => lEqHeap (some ⟨b1, 0, none⟩) (some ⟨b2, 0, none⟩) h.length h.length 0 0 h d1 d2 W hok h1 h2
  have C6 := fun (hz : szH h ≤ 1048576) W (g : Nat) (ds : Nat → OC) (gs : Nat → Nat) (k : HRow W g h ds gs) => lMarkHeap g h.length _ 1 h ds gs _ W (by omega) (Nat.le_refl 1) (by omega) k.gh
  have HVL : Hid (szH h ≤ 1048576 → (Hp.keysV h ref).length ≤ 1048576) := fun hz => keysV_small hz ref
  have HHR : Hid (∀ W g cs gs, HRow W g h cs gs → HIn W 0 (some ⟨g, 0, none⟩) h cs ∧ (∀ i (hi : i < h.length), h[i].ps.length ≤ (cs i).pc)) := fun W g cs gs k => ⟨k.hIn (Nat.zero_le _), k.caps⟩
  generalize Hp.keysV h ref = V at *
  generalize szH h = z at *
  have H1 : Hid _ := C1
  have H2 : Hid _ := C2
  have H3 : Hid _ := C3
  have H4 : Hid _ := C4
  have H5 : Hid _ := C5
  have H6 : Hid _ := C6
  have HE : Hid (∀ (a1 a2 : Option Addr) (cap1 cap2 B1 B2 : Nat) (W : World), V.length ≤ 1048576 → SRow W B1 (.slice a1 V.length cap1) V → SRow W B2 (.slice a2 V.length cap2) V → Calls Try.prog 27 #[.slice a1 V.length cap1, .slice a2 V.length cap2] W fun e w' => e = .returned (.bool true) ∧ Below W.heap.size W w') := fun a1 a2 c1 c2 B1 B2 W hv h1 h2 => lEqStr a1 a2 c1 c2 B1 B2 V W hv h1 h2
  have HM : Hid (∀ (a : Option Addr) (cap B : Nat) (W : World), V.length ≤ 1048576 → SRow W B (.slice a V.length cap) V → Calls Try.prog 28 #[.slice a V.length cap, .int .i64 1] W fun e w' => e = .returned (.int .i64 ((1 + V.length : Nat) : Int)) ∧ SRow w' B (.slice a V.length cap) (mkSs 1 V.length) ∧ Marks (fun q => (Value.slice a V.length cap).ownBlock = some q) W w') := fun a cap B W hv h1 => lMarkStr a cap 1 B V W hv (Nat.le_refl 1) (by omega) h1
  have HD : Hid (∀ (a : Option Addr) (cap B : Nat) (W : World), V.length ≤ 1048576 → SRow W B (.slice a V.length cap) (mkSs 1 V.length) → Calls Try.prog 29 #[.slice a V.length cap, .int .i64 1] W fun e w' => e = .returned (.int .i64 ((1 + V.length : Nat) : Int)) ∧ Below W.heap.size W w') := fun a cap B W hv h1 => lHeldStr a cap 1 B V.length W hv (Nat.le_refl 1) (by omega) h1
  clear C1 C2 C3 C4 C5 C6 hok hin
  go_enter Try.func7, Try.ntmps7
  go_wp2_with fail
  generalize hW0 : w.alloc _ = W0
  have hP0 : W0.heap[w.heap.size]? = some (.cells #[.slice a h.length cap] 24 (0, 0)) := by rw [← hW0]; exact heap_alloc_new _ _
  have hBW : Below w.heap.size w W0 := by rw [← hW0]; exact HB0.out _
  have hS0 : w.heap.size < W0.heap.size := by rw [← hW0]; simp
  clear hW0 HB0
  refine (H1.out W0 hBW).mono ?_
  rintro e W1 ⟨rfl, hb1⟩
  have hbw1 : Below w.heap.size w W1 := hBW.trans (hb1.mono hBW.size)
  by_cases hz : z ≤ 1048576
  case neg =>
    rw [subR_gt (by omega)]
    go_wp2_with fail
    go_ret
    exact ⟨rfl, hbw1⟩
  rw [subR_le hz]
  have hz' : ¬ (((1048576 - z : Nat) : Int)) < 0 := by omega
  have hvl := HVL.out hz
  have hP1 := (hb1.block _ hS0).trans hP0
  have hS1 : w.heap.size < W1.heap.size := by have := hb1.size; omega
  have p1 := (one_of hP1).1
  clear hb1 hP0 hS0 hBW
  go_wp2_with fail
  refine (H2.out hz W1 hbw1).mono ?_
  rintro e W2 ⟨g1, cs1, gs1, rfl, hb2, hg1, hr1⟩
  obtain ⟨hin1, hcp1⟩ := HHR.out _ _ _ _ hr1
  have hP2 := (hb2.block _ hS1).trans hP1
  have hS2 : w.heap.size < W2.heap.size := by have := hb2.size; omega
  have hbw2 : Below w.heap.size w W2 := hbw1.trans (hb2.mono hbw1.size)
  have HIN1 : Hid (_ ∧ _) := ⟨hin1, hcp1⟩
  clear hin1 hcp1 hr1 hg1 hb2 hP1 hS1 hbw1 p1
  go_wp2_with fail
  refine (H3.out hz W2 g1 cs1 HIN1.out.2 HIN1.out.1).mono ?_
  rintro e W3 ⟨v6, rfl, hb3, hs6⟩
  obtain ⟨a6, c6, rfl⟩ := hs6.shape
  have hP3 := (hb3.block _ hS2).trans hP2
  have hS3 : w.heap.size < W3.heap.size := by have := hb3.size; omega
  have hbw3 : Below w.heap.size w W3 := hbw2.trans (hb3.mono hbw2.size)
  have p3 := (one_of hP3).1
  have HS6 : Hid (SRow W3 W2.heap.size (.slice a6 V.length c6) V) := hs6
  clear hb3 hP2 hbw2 HIN1 hs6
  go_wp2_with fail
  refine (H2.out hz W3 hbw3).mono ?_
  rintro e W4 ⟨g2, cs2, gs2, rfl, hb4, hg2, hr2⟩
  have hP4 := (hb4.block _ hS3).trans hP3
  have hS4 : w.heap.size < W4.heap.size := by have := hb4.size; omega
  have hbw4 : Below w.heap.size w W4 := hbw3.trans (hb4.mono hbw3.size)
  have HR2 : Hid (HRow W4 g2 h cs2 gs2 ∧ (∀ q, Blks g2 h gs2 q → W3.heap.size ≤ q ∧ q < W4.heap.size)) := ⟨hr2, fun q hq => by have := hr2.blks hq; omega⟩
  have HS4 : Hid (SRow W4 W2.heap.size (.slice a6 V.length c6) V ∧ (∀ q, (Value.slice a6 V.length c6).ownBlock = some q → q < W3.heap.size)) := ⟨HS6.out.under hb4, fun q hq => (World.ownsRow.lt HS6.out q hq).2⟩
  have hb34 := hb4.size
  clear hr2 hg2 hb4 hP3 hbw3 p3 HS6
  go_wp2_with fail
  generalize hW5 : W4.alloc _ = W5
  have hB5 : Below W4.heap.size W4 W5 := by rw [← hW5]; exact (Below.refl _ _).alloc (Nat.le_refl _) _
  have hX5 : W5.heap[W4.heap.size]? = some (.cells #[.slice (some ⟨g2, 0, none⟩) h.length h.length] 29 (0, 0)) := by rw [← hW5]; exact heap_alloc_new _ _
  have hS5 : W4.heap.size < W5.heap.size := by rw [← hW5]; simp
  have hr5 := HR2.out.1.under hB5
  have hP5 := (hB5.block _ hS4).trans hP4
  have hbw5 : Below w.heap.size w W5 := hbw4.trans (hB5.mono hbw4.size)
  have HS5 : Hid (SRow W5 W2.heap.size (.slice a6 V.length c6) V) := HS4.out.1.under hB5
  have HQ6 : Hid (∀ q, (Value.slice a6 V.length c6).ownBlock = some q → q < W3.heap.size) := HS4.out.2
  have HBL : Hid (∀ q, Blks g2 h gs2 q → W3.heap.size ≤ q ∧ q < W4.heap.size) := HR2.out.2
  clear hW5 hP4 hbw4 HR2 hB5 HS4
  generalize W4.heap.size = X at *
  obtain ⟨hin5, -⟩ := HHR.out _ _ _ _ hr5
  refine (H4.out hz W5 g2 cs2 hin5).mono ?_
  rintro e W6 ⟨v8, rfl, hb6, hs8⟩
  obtain ⟨a8, c8, rfl⟩ := hs8.shape
  have hr6 := hr5.under hb6
  have hP6 := (hb6.block _ (by omega)).trans hP5
  have hX6 := (hb6.block _ hS5).trans hX5
  have hbw6 : Below w.heap.size w W6 := hbw5.trans (hb6.mono hbw5.size)
  have hSP : w.heap.size < W6.heap.size := by have := hb6.size; omega
  have hSX : X < W6.heap.size := by have := hb6.size; omega
  have HQ8 : Hid (∀ q, (Value.slice a8 V.length c8).ownBlock = some q → X < q) := fun q hq => by have := (World.ownsRow.lt hs8 q hq).1; omega
  have HS6 : Hid (SRow W6 W2.heap.size (.slice a6 V.length c6) V ∧ SRow W6 W5.heap.size (.slice a8 V.length c8) V) := ⟨HS5.out.under hb6, hs8⟩
  clear hr5 hP5 hX5 hbw5 hb6 hin5 hs8 HS5
  have HH6 : Hid (_ ∧ _ ∧ _ ∧ _) := ⟨hr6, hbw6, hP6, hX6⟩
  clear hr6 hbw6 hP6 hX6
  go_wp2_with fail
  refine (HE.out a8 a6 c8 c6 _ _ W6 hvl HS6.out.2 HS6.out.1).mono ?_
  rintro e W7 ⟨rfl, hb7⟩
  obtain ⟨hr6, hbw6, hP6, hX6⟩ := HH6.out
  have hr7 := hr6.under hb7
  have hP7 := (hb7.block _ hSP).trans hP6
  have hX7 := (hb7.block _ hSX).trans hX6
  have hbw7 : Below w.heap.size w W7 := hbw6.trans (hb7.mono hbw6.size)
  have hSP7 : w.heap.size < W7.heap.size := by have := hb7.size; omega
  have hSX7 : X < W7.heap.size := by have := hb7.size; omega
  have p7 := (one_of hP7).1
  have x7 := (one_of hX7).1
  have HS7 : Hid (SRow W7 W2.heap.size (.slice a6 V.length c6) V ∧ SRow W7 W5.heap.size (.slice a8 V.length c8) V) := ⟨HS6.out.1.under hb7, HS6.out.2.under hb7⟩
  have HH7 : Hid (HRow W7 g2 h cs2 gs2 ∧ Below w.heap.size w W7) := ⟨hr7, hbw7⟩
  clear hr6 hbw6 hP6 hX6 hr7 hbw7 hb7 HH6 HS6
  go_wp2_with fail
  go_cut [35] from 12 to 73 (fun v W8 => v = .bool false ∧ Below W7.heap.size W7 W8)
  case first =>
    go_region_with (first
      | (go_at_call 11; refine (H2.out hz _ HH7.out.2.drew).mono ?_; rintro e WA ⟨g3, cs3, gs3, rfl, hA, hgA, hrA⟩; have hA2 : Below W7.heap.size W7 WA := (Below.refl W7.heap.size W7).drew.trans hA; have pA := (one_of ((hA2.block _ hSP7).trans hP7)).1; have xA := (one_of ((hA2.block _ hSX7).trans hX7)).1; have HRA : Hid (HRow WA g3 h cs3 gs3) := hrA; clear hrA)
      | (go_at_call 13; refine (H5.out _ g2 g3 cs2 cs3 (HHR.out _ _ _ _ (HH7.out.1.under hA2)).1 (HHR.out _ _ _ _ HRA.out).1).mono ?_; rintro e WB ⟨rfl, hBB⟩; have hB2 : Below W7.heap.size W7 WB := hA2.trans (hBB.mono hA2.size)))
    all_goals
      go_wp2_with fail
      go_meet
      exact ⟨rfl, hB2⟩
  case rest =>
  obtain ⟨rfl, hcut⟩ := hcut
  have hr8 := HH7.out.1.under hcut
  have hP8 := (hcut.block _ hSP7).trans hP7
  have hX8 := (hcut.block _ hSX7).trans hX7
  have hbw8 : Below w.heap.size w wc := HH7.out.2.trans (hcut.mono HH7.out.2.size)
  have hSP8 : w.heap.size < wc.heap.size := by have := hcut.size; omega
  have hSX8 : X < wc.heap.size := by have := hcut.size; omega
  have x8 := (one_of hX8).1
  have HS8 : Hid (SRow wc W2.heap.size (.slice a6 V.length c6) V ∧ SRow wc W5.heap.size (.slice a8 V.length c8) V) := ⟨HS7.out.1.under hcut, HS7.out.2.under hcut⟩
  have HH8 : Hid (HRow wc g2 h cs2 gs2 ∧ Below w.heap.size w wc ∧ wc.heap[w.heap.size]? = some (.cells #[.slice a h.length cap] 24 (0, 0))) := ⟨hr8, hbw8, hP8⟩
  clear hr8 hP8 hX8 hbw8 hcut HH7 HS7 hP7 hX7 p7 x7
  go_wp2_with fail
  refine (H6.out hz wc g2 cs2 gs2 HH8.out.1).mono ?_
  rintro e W9 ⟨rfl, -, hm9⟩
  have hbw9 : Below w.heap.size w W9 := Marks.below HH8.out.2.1 hm9 (fun q hq => by have := (HBL.out q hq).1; omega) (by omega)
  have hP9 := (hm9.block _ hSP8 (fun e => by have := (HBL.out _ e).1; omega)).trans HH8.out.2.2
  have HS9 : Hid (SRow W9 W2.heap.size (.slice a6 V.length c6) V ∧ SRow W9 W5.heap.size (.slice a8 V.length c8) V) := ⟨HS8.out.1.marks hm9 (fun q hq e => by have := HQ6.out q hq; have := (HBL.out q e).1; omega), HS8.out.2.marks hm9 (fun q hq e => by have := HQ8.out q hq; have := (HBL.out q e).2; omega)⟩
  have hSP9 : w.heap.size < W9.heap.size := by have := hm9.size; omega
  have HH9 : Hid (_ ∧ _) := ⟨hbw9, hP9⟩
  clear hm9 hbw9 hP9 HH8 HS8 x8
  generalize (1 + mkK h h.length) = M
  have hM0 : ¬ ((M : Nat) : Int) < 0 := by omega
  go_wp2_with fail
  refine (HE.out a8 a6 c8 c6 _ _ W9 hvl HS9.out.2 HS9.out.1).mono ?_
  rintro e W10 ⟨rfl, hb10⟩
  have HS10 : Hid (SRow W10 W2.heap.size (.slice a6 V.length c6) V ∧ SRow W10 W5.heap.size (.slice a8 V.length c8) V) := ⟨HS9.out.1.under hb10, HS9.out.2.under hb10⟩
  have HH10 : Hid (Below w.heap.size w W10 ∧ W10.heap[w.heap.size]? = some (.cells #[.slice a h.length cap] 24 (0, 0))) := ⟨HH9.out.1.trans (hb10.mono HH9.out.1.size), (hb10.block _ hSP9).trans HH9.out.2⟩
  have hSP10 : w.heap.size < W10.heap.size := by have := hb10.size; omega
  clear hb10 HS9 HH9
  go_wp2_with fail
  refine (HM.out a8 c8 _ W10 hvl HS10.out.2).mono ?_
  rintro e W11 ⟨rfl, hs11, hm11⟩
  have HS11 : Hid (SRow W11 W2.heap.size (.slice a6 V.length c6) V ∧ SRow W11 W5.heap.size (.slice a8 V.length c8) (mkSs 1 V.length)) := ⟨HS10.out.1.marks hm11 (fun q hq e => by have := HQ6.out q hq; have := HQ8.out q e; omega), hs11⟩
  have HH11 : Hid (Below w.heap.size w W11 ∧ W11.heap[w.heap.size]? = some (.cells #[.slice a h.length cap] 24 (0, 0))) := ⟨Marks.below HH10.out.1 hm11 (fun q hq => by have := HQ8.out q hq; omega) (by omega), (hm11.block _ hSP10 (fun e => by have := HQ8.out _ e; omega)).trans HH10.out.2⟩
  have hSP11 : w.heap.size < W11.heap.size := by have := hm11.size; omega
  clear hs11 hm11 HS10 HH10
  have hn0 : ¬ (((1 + V.length : Nat) : Int)) < 0 := by omega
  have hn1 : ((((1 + V.length : Nat) : Int)) != (((1 + V.length : Nat) : Int))) = false := by simp
  go_wp2_with fail
  refine (HD.out a8 c8 _ W11 hvl HS11.out.2).mono ?_
  rintro e W12 ⟨rfl, hb12⟩
  have HS12 : Hid (SRow W12 W2.heap.size (.slice a6 V.length c6) V ∧ SRow W12 W5.heap.size (.slice a8 V.length c8) (mkSs 1 V.length)) := ⟨HS11.out.1.under hb12, HS11.out.2.under hb12⟩
  have hP12 := (hb12.block _ hSP11).trans HH11.out.2
  have HH12 : Hid (Below w.heap.size w W12) := HH11.out.1.trans (hb12.mono HH11.out.1.size)
  have hSP12 : w.heap.size < W12.heap.size := by have := hb12.size; omega
  have p12 := (one_of hP12).1
  clear hb12 HS11 HH11 hP12
  go_wp2_with fail
  refine (H2.out hz W12 HH12.out).mono ?_
  rintro e W13 ⟨g4, cs4, gs4, rfl, hb13, -, hr13⟩
  have HS13 : Hid (SRow W13 W2.heap.size (.slice a6 V.length c6) V ∧ SRow W13 W5.heap.size (.slice a8 V.length c8) (mkSs 1 V.length)) := ⟨HS12.out.1.under hb13, HS12.out.2.under hb13⟩
  have HH13 : Hid (Below w.heap.size w W13 ∧ HRow W13 g4 h cs4 gs4) := ⟨HH12.out.trans (hb13.mono HH12.out.size), hr13⟩
  clear hb13 hr13 HS12 HH12 p12
  go_wp2_with fail
  refine (H4.out hz W13 g4 cs4 (HHR.out _ _ _ _ HH13.out.2).1).mono ?_
  rintro e W14 ⟨v12, rfl, hb14, hs14⟩
  obtain ⟨a12, c12, rfl⟩ := hs14.shape
  have HS14 : Hid (SRow W14 W2.heap.size (.slice a6 V.length c6) V ∧ SRow W14 W5.heap.size (.slice a8 V.length c8) (mkSs 1 V.length) ∧ SRow W14 W13.heap.size (.slice a12 V.length c12) V) := ⟨HS13.out.1.under hb14, HS13.out.2.under hb14, hs14⟩
  have HH14 : Hid (Below w.heap.size w W14) := HH13.out.1.trans (hb14.mono HH13.out.1.size)
  clear hb14 hs14 HS13 HH13
  go_wp2_with fail
  refine (HE.out a12 a6 c12 c6 _ _ W14 hvl HS14.out.2.2 HS14.out.1).mono ?_
  rintro e W15 ⟨rfl, hb15⟩
  have HS15 : Hid (SRow W15 W5.heap.size (.slice a8 V.length c8) (mkSs 1 V.length)) := HS14.out.2.1.under hb15
  have HH15 : Hid (Below w.heap.size w W15) := HH14.out.trans (hb15.mono HH14.out.size)
  clear hb15 HS14 HH14
  go_wp2_with fail
  refine (HD.out a8 c8 _ W15 hvl HS15.out).mono ?_
  rintro e W16 ⟨rfl, hb16⟩
  have HH16 : Hid (Below w.heap.size w W16) := HH15.out.trans (hb16.mono HH15.out.size)
  clear hb16
  go_wp2_with fail
  go_ret
  exact ⟨rfl, HH16.out⟩

end Go.Proofs.Ythagnflhelndjac

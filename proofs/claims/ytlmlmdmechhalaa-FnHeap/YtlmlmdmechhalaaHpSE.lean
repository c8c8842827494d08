/-
  The walk of the specification's HeapDelete.
-/
import Derived.Test.YtlmlmdmechhalaaHpSD
import Derived.Test.YtlmlmdmechhalaaHpSH
namespace Go.Proofs.Ytlmlmdmechhalaa
open Go.RowKit
open Hp (PP OO propC)

set_option maxHeartbeats 8000000 in
set_option maxRecDepth 100000 in
theorem sHeapDelete (b o cap B : Nat) (h : List OO) (cs : Nat → OC) (ref : Int) (key : ByteArray) (w : World) (hz : szH h ≤ 1048576) (hok : OkH h) (hcap : ∀ i (hi : i < h.length), h[i].ps.length ≤ (cs i).pc) (hsome : ∀ i (_ : i < h.length), ((cs i).pa = none ∧ h[i].ps = []) ∨ ∃ pb po, (cs i).pa = some ⟨pb, po, none⟩) (hh : HIn w B (some ⟨b, o, none⟩) h cs) :
    Calls Try.prog 24 #[.agg #[.slice (some ⟨b, o, none⟩) h.length cap], .int .i64 ref, .string key] w fun e w' => ∃ a cap, e = .returned (.agg #[.slice a (delV h ref key).length cap]) ∧ Below w.heap.size w w' ∧ ∃ cs, HOwn w' w.heap.size (.slice a (delV h ref key).length cap) (delV h ref key) (delV h ref key).length cs := by
  have C1 := fun (W : World) (hW : Below w.heap.size w W) => sCopy b o cap B h cs W (by unfold szH at hz; omega) (fun i hi => len_of hz hi) hsome (hh.under hW)
  have C2 := fun (W : World) (hW : Below w.heap.size w W) => sRef (some ⟨b, o, none⟩) cap B h cs ref W hok hcap (hh.under hW)
  have HV1 : Hid (4000 < key.size → delV h ref key = []) := fun k => delV_long k
  have HVA : Hid (¬ 4000 < key.size → Hp.refB h ref = false → delV h ref key = h) := fun k1 k => delV_no k1 k
  have HVB : Hid (¬ 4000 < key.size → Hp.refB h ref = true → ∃ i : Nat, ref = i ∧ ∃ hi : i < h.length, h[i].ps.length ≤ 1048576 ∧ delV h ref key = h.set i (delO h[i] key) ∧ (delV h ref key).length = h.length) := fun k1 k => by
    obtain ⟨hr, h0, h1⟩ := Hp.refB_iff.1 k
    obtain ⟨i, rfl⟩ : ∃ i : Nat, ref = i := ⟨ref.toNat, by omega⟩
    have hi : i < h.length := by omega
    have e := delV_yes (key := key) k1 k hi
    exact ⟨i, rfl, hi, len_of hz hi, e, by rw [e, List.length_set]⟩
  generalize delV h ref key = V at *
  generalize Hp.refB h ref = RB at *
  have H1 : Hid _ := C1
  have H2 : Hid _ := C2
  clear C1 C2 hok hh hz hcap hsome
  have HN : Hid (∀ o1 o2, _) := two_new w
  by_cases hks : 4000 < key.size
  · have hV := HV1.out hks
    subst hV
    have hks' : (4000 : Int) < (key.size : Int) := by omega
    go_enter Try.func24, Try.ntmps24
    go_wp2_with fail
    have hn := HN.out (.cells #[.slice (some ⟨b, o, none⟩) h.length cap] 25) (.cells #[.slice none 0 0] 25)
    generalize World.alloc _ _ = W0 at hn ⊢
    obtain ⟨z0, u0⟩ := one_of hn.2.1
    exact bodyPost_ret (v := .agg #[.slice none 0 0]) (by simp [results, Try.results24, go_sem, z0]) rfl ⟨none, 0, rfl, hn.2.2.1, fun _ => ⟨none, 0⟩, hOwn_nil _ _ _ _⟩
  have hks' : ¬ (4000 : Int) < (key.size : Int) := by omega
  go_enter Try.func24, Try.ntmps24
  go_wp2_with fail
  have hn := HN.out (.cells #[.slice (some ⟨b, o, none⟩) h.length cap] 25) (.cells #[.slice none 0 0] 25)
  have n5 : ((w.alloc (.cells #[.slice (some ⟨b, o, none⟩) h.length cap] 25)).alloc (.cells #[.slice none 0 0] 25)).heap.size = w.heap.size + 1 + 1 := by simp
  generalize World.alloc _ _ = W0 at hn n5 ⊢
  obtain ⟨n1, n2, n3, n4⟩ := hn
  refine (H1.out _ n3).mono ?_
  rintro e w1 ⟨a2, cap2, rfl, hb1, ds, ho1⟩
  have k1 := (hb1.block _ (by omega)).trans n1
  have k3 := (hb1.block _ n4).trans n2
  have hbf := n3.trans (hb1.mono n3.size)
  have hs1 : w.heap.size + 1 + 1 ≤ w1.heap.size := by have := hb1.size; omega
  rw [n5] at ho1
  have HGL : Hid (∀ g, a2 = some ⟨g, 0, none⟩ → w.heap.size + 1 + 1 ≤ g ∧ g < w1.heap.size) := fun g e => World.ownsRow.lt ho1.1 g (by rw [e]; rfl)
  clear n1 n2 n3 n4 n5 hb1 HN H1
  obtain ⟨x0, -⟩ := one_of k1
  obtain ⟨t0, u0⟩ := one_of k3
  have HF : Hid (_ ∧ _ ∧ _ ∧ _) := ⟨hbf, k1, k3, ho1⟩
  clear k1 k3 hbf ho1
  have hs0 : w.heap.size < w1.heap.size := by omega
  have hs2 : w.heap.size ≠ w1.heap.size := by omega
  go_wp2_with fail
  have hW2 : ∀ (W' : World), Below (w1.alloc (.cells #[.slice a2 h.length cap2] 25)).heap.size (w1.alloc (.cells #[.slice a2 h.length cap2] 25)) W' → W'.heap[w.heap.size]? = some (.cells #[.slice (some ⟨b, o, none⟩) h.length cap] 25 (0, 0)) ∧ W'.heap[w.heap.size + 1]? = some (.cells #[.slice none 0 0] 25 (0, 0)) ∧ W'.heap[w1.heap.size]? = some (.cells #[.slice a2 h.length cap2] 25 (0, 0)) ∧ Below w.heap.size w W' ∧ HOwn W' (w.heap.size + 1 + 1) (.slice a2 h.length cap2) h h.length ds := fun W' hW => by
    obtain ⟨hbf, k1, k3, ho1⟩ := HF.out
    have hal : Below w1.heap.size w1 W' := ((Below.refl w1.heap.size w1).alloc (Nat.le_refl _) _).trans (hW.mono (by simp))
    exact ⟨(hal.block _ (by omega)).trans k1, (hal.block _ (by omega)).trans k3, (hW.block _ (by simp)).trans (heap_alloc_new w1 _), hbf.trans (hal.mono (by omega)), ho1.under hal⟩
  have HCL : Hid _ := hW2
  have hYs : w1.heap.size < (w1.alloc (.cells #[.slice a2 h.length cap2] 25)).heap.size := by simp
  clear hW2 HF x0 t0 u0
  generalize World.alloc _ _ = W2 at HCL hYs ⊢
  generalize w1.heap.size = Y at *
  refine (H2.out W2 (HCL.out W2 (Below.refl _ _)).2.2.2.1).mono ?_
  rintro e w3 ⟨rfl, hb3⟩
  obtain ⟨k1, k3, k4, -, -⟩ := HCL.out w3 hb3
  obtain ⟨x0, -⟩ := one_of k1
  obtain ⟨t0, u0⟩ := one_of k3
  obtain ⟨y0, -⟩ := one_of k4
  clear k1 k3 k4
  have HB3 : Hid (Below W2.heap.size W2 w3) := hb3
  clear hb3
  cases RB
  · have hV := HVA.out hks rfl
    subst hV
    obtain ⟨-, k3, -, kb, ko⟩ := HCL.out w3 HB3.out
    have HG : Hid (_ ∧ _ ∧ _) := ⟨k3, kb, ko⟩
    clear k3 kb ko
    go_wp2_with fail
    have hE := endHeap HG.out.1 (by omega) (by omega) HG.out.2.1 HG.out.2.2
    clear t0 u0
    generalize World.setCell _ _ _ = W9 at hE ⊢
    have t0 := hE.1
    exact bodyPost_ret (v := .agg #[.slice a2 V.length cap2]) (by simp [results, Try.results24, go_sem, t0]) rfl ⟨a2, cap2, rfl, hE.2.1, ds, hE.2.2⟩
  · obtain ⟨i, rfl, hi, hpl, hVe, hVl⟩ := HVB.out hks rfl
    obtain ⟨k1, k3, k4, kb, ko⟩ := HCL.out w3 HB3.out
    obtain ⟨g, rfl⟩ : ∃ g, a2 = some ⟨g, 0, none⟩ := by
      rcases ko.1.2 with ⟨_, e⟩ | ⟨g, cap', _, e, _⟩
      · omega
      · injection e with e1 _ _; exact ⟨g, e1⟩
    have hgl := HGL.out g rfl
    have hsz : W2.heap.size ≤ w3.heap.size := (HB3.out).size
    have C3 := sDelete w3 Y (w.heap.size + 1 + 1) g cap2 h ds i key hi hpl k4 (by omega) ko
    rw [← hVe] at C3
    have H3 : Hid _ := C3
    have HG : Hid (_ ∧ _ ∧ _) := ⟨k3, k4, kb⟩
    clear C3 hVe k1 k3 k4 kb ko
    go_wp2_with fail
    refine Calls.mono H3.out ?_
    rintro e w5 ⟨r, rfl, ⟨ds', ho5⟩, hm5⟩
    have j3 := (hm5.block (w.heap.size + 1) (by omega) (by omega)).trans HG.out.1
    have j4 := (hm5.block Y (by omega) (by omega)).trans HG.out.2.1
    have jb : Below w.heap.size w w5 := Marks.below HG.out.2.2 hm5 (fun q e => by omega) (by omega)
    obtain ⟨t0, u0⟩ := one_of j3
    obtain ⟨y0, -⟩ := one_of j4
    rw [hVl] at ho5
    have HK : Hid (_ ∧ _ ∧ _) := ⟨j3, jb, ho5⟩
    clear j3 j4 jb ho5 hm5
    go_wp2_with fail
    have hE := endHeap2 hVl HK.out.1 (by omega) (by omega) HK.out.2.1 HK.out.2.2
    clear t0 u0
    generalize World.setCell _ _ _ = W9 at hE ⊢
    have t0 := hE.1
    exact bodyPost_ret (v := .agg #[.slice (some ⟨g, 0, none⟩) h.length cap2]) (by simp [results, Try.results24, go_sem, t0]) rfl (by rw [hVl]; exact ⟨_, _, rfl, hE.2.1, ds', hE.2.2⟩)

end Go.Proofs.Ytlmlmdmechhalaa

/-
  The walk of the specification's HeapPut.
-/
import Derived.Test.YtlmlmdmechhalaaHpSP
import Derived.Test.YtlmlmdmechhalaaHpZ
import Derived.Test.YtlmlmdmechhalaaHpSF
namespace Go.Proofs.Ytlmlmdmechhalaa
open Go.RowKit
open Hp (PP OO propC)

theorem endHeap2 {w wr : World} {X lo : Nat} {v0 : Value} {a : Option Addr} {cap : Nat} {h : List OO} {n : Nat} (hn : h.length = n) {cs : Nat → OC} {t : TypeId} (hX : wr.heap[X]? = some (.cells #[v0] t (0, 0))) (hw : w.heap.size ≤ X) (hlo : X < lo) (hb : Below w.heap.size w wr) (k : HOwn wr lo (.slice a n cap) h n cs) :
    (wr.setCell ⟨X, 0, none⟩ (.slice a n cap)).cell? ⟨X, 0, none⟩ = some (.slice a n cap) ∧ Below w.heap.size w (wr.setCell ⟨X, 0, none⟩ (.slice a n cap)) ∧ HOwn (wr.setCell ⟨X, 0, none⟩ (.slice a n cap)) w.heap.size (.slice a n cap) h n cs := by
  subst hn
  exact endHeap hX hw hlo hb k

set_option maxHeartbeats 2000000 in
set_option maxRecDepth 100000 in
theorem sHeapPut (b o cap B : Nat) (h : List OO) (cs : Nat → OC) (ref : Int) (key : ByteArray) (v : Val.VV) (w : World) (hk : key.size ≤ 9223372036854775807) (hz : szH h ≤ 1048576) (hok : OkH h) (hcap : ∀ i (hi : i < h.length), h[i].ps.length ≤ (cs i).pc) (hsome : ∀ i (_ : i < h.length), ((cs i).pa = none ∧ h[i].ps = []) ∨ ∃ pb po, (cs i).pa = some ⟨pb, po, none⟩) (hh : HIn w B (some ⟨b, o, none⟩) h cs) :
    Calls Try.prog 16 #[.agg #[.slice (some ⟨b, o, none⟩) h.length cap], .int .i64 ref, .string key, .agg (vC v)] w fun e w' => ∃ a cap, e = .returned (.agg #[.slice a (putV h ref key v).length cap]) ∧ Below w.heap.size w w' ∧ ∃ cs, HOwn w' w.heap.size (.slice a (putV h ref key v).length cap) (putV h ref key v) (putV h ref key v).length cs := by
  have C1 := fun (W : World) (hW : Below w.heap.size w W) => sCopy b o cap B h cs W (by unfold szH at hz; omega) (fun i hi => len_of hz hi) hsome (hh.under hW)
  have C2 := fun (W : World) (hW : Below w.heap.size w W) => sRef (some ⟨b, o, none⟩) cap B h cs ref W hok hcap (hh.under hW)
  have HV1 : Hid (4000 < key.size → putV h ref key v = []) := fun k => putV_long k
  have HLN : h.length ≤ 1048576 := by unfold szH at hz; omega
  have HVA : Hid (¬ 4000 < key.size ∧ (Hp.refB h ref && (decide (key.size ≤ 1000) && (Val.right v && (decide (v.kind ≠ 6) || decide (v.num < h.length))))) = false → putV h ref key v = h) := fun k => by
    unfold putV
    rw [if_neg k.1]
    have : (Hp.refB h ref && prB h.length ⟨key, v, false, false⟩) = false := by unfold prB stB; exact k.2
    rw [this]
    rfl
  have HVB : Hid (¬ 4000 < key.size ∧ (Hp.refB h ref && (decide (key.size ≤ 1000) && (Val.right v && (decide (v.kind ≠ 6) || decide (v.num < h.length))))) = true → ∃ i : Nat, ref = i ∧ ∃ hi : i < h.length, h[i].ps.length ≤ 1048576 ∧ putV h ref key v = h.set i (putO h[i] key v) ∧ (putV h ref key v).length = h.length) := fun k => by
    have k2 := k.2
    rw [Bool.and_eq_true] at k2
    obtain ⟨hr, h0, h1⟩ := Hp.refB_iff.1 k2.1
    obtain ⟨i, rfl⟩ : ∃ i : Nat, ref = i := ⟨ref.toNat, by omega⟩
    have hi : i < h.length := by omega
    have e : putV h i key v = h.set i (putO h[i] key v) := by
      rw [putV_yes k.1 k2.1 hi]
      have : prB h.length ⟨key, v, false, false⟩ = true := by unfold prB stB; exact k2.2
      rw [if_pos this]
    exact ⟨i, rfl, hi, len_of hz hi, e, by rw [e, List.length_set]⟩
  have C4 := fun (W : World) => sValueRight v W
  generalize putV h ref key v = V at *
  generalize Hp.refB h ref = RB at *
  generalize Val.right v = RV at *
  obtain ⟨vk, vn, vt⟩ := v
  unfold vC at C4 ⊢
  dsimp only at C4 HVA HVB ⊢
  have H1 : Hid _ := C1
  have H2 : Hid _ := C2
  have H4 : Hid _ := C4
  clear C1 C2 C4 hok hh hz hcap hsome
  have HN : Hid (∀ o1 o2 o3, (((w.alloc o1).alloc o2).alloc o3).heap[w.heap.size]? = some o1 ∧ (((w.alloc o1).alloc o2).alloc o3).heap[w.heap.size + 1]? = some o2 ∧ (((w.alloc o1).alloc o2).alloc o3).heap[w.heap.size + 1 + 1]? = some o3 ∧ Below w.heap.size w (((w.alloc o1).alloc o2).alloc o3) ∧ (((w.alloc o1).alloc o2).alloc o3).heap.size = w.heap.size + 1 + 1 + 1) := fun o1 o2 o3 => by
    refine ⟨?_, ?_, ?_, (((Below.refl _ _).alloc (Nat.le_refl _) o1).alloc (by simp) o2).alloc (by simp; omega) o3, by simp⟩
    · exact (Below.heap_alloc _ _ _ (by simp; omega)).trans ((Below.heap_alloc _ _ _ (by simp)).trans (heap_alloc_new _ _))
    · have := heap_alloc_new (w.alloc o1) o2
      rw [World.size_alloc] at this
      exact (Below.heap_alloc _ _ _ (by simp)).trans this
    · have := heap_alloc_new ((w.alloc o1).alloc o2) o3
      rw [World.size_alloc, World.size_alloc] at this
      exact this
  by_cases hks : 4000 < key.size
  · have hV := HV1.out hks
    subst hV
    have hks' : (4000 : Int) < (key.size : Int) := by omega
    go_enter Try.func16, Try.ntmps16
    go_wp2_with fail
    have hn := HN.out (.cells #[.slice (some ⟨b, o, none⟩) h.length cap] 25) (.cells #[.int .i64 vk, .int .i64 vn, .string vt] 27) (.cells #[.slice none 0 0] 25)
    generalize World.alloc _ _ = W0 at hn ⊢
    obtain ⟨z0, u0⟩ := one_of hn.2.2.1
    exact bodyPost_ret (v := .agg #[.slice none 0 0]) (by simp [results, Try.results16, go_sem, z0]) rfl ⟨none, 0, rfl, hn.2.2.2.1, fun _ => ⟨none, 0⟩, hOwn_nil _ _ _ _⟩
  have hks' : ¬ (4000 : Int) < (key.size : Int) := by omega
  go_enter Try.func16, Try.ntmps16
  go_wp2_with fail
  have hn := HN.out (.cells #[.slice (some ⟨b, o, none⟩) h.length cap] 25) (.cells #[.int .i64 vk, .int .i64 vn, .string vt] 27) (.cells #[.slice none 0 0] 25)
  generalize World.alloc _ _ = W0 at hn ⊢
  obtain ⟨n1, n2, n3, n4, n5⟩ := hn
  refine (H1.out _ n4).mono ?_
  rintro e w1 ⟨a2, cap2, rfl, hb1, ds, ho1⟩
  have k1 := (hb1.block _ (by omega)).trans n1
  have k2 := (hb1.block _ (by omega)).trans n2
  have k3 := (hb1.block _ (by omega)).trans n3
  have hbf := n4.trans (hb1.mono n4.size)
  have hs1 : w.heap.size + 1 + 1 + 1 ≤ w1.heap.size := by have := hb1.size; omega
  rw [n5] at ho1
  have HGL : Hid (∀ g, a2 = some ⟨g, 0, none⟩ → w.heap.size + 1 + 1 + 1 ≤ g ∧ g < w1.heap.size) := fun g e => World.ownsRow.lt ho1.1 g (by rw [e]; rfl)
  clear n1 n2 n3 n4 n5 hb1 HN H1
  obtain ⟨x0, -⟩ := one_of k1
  obtain ⟨⟨z0, z1, z2⟩, -⟩ := three_all k2
  obtain ⟨t0, u0⟩ := one_of k3
  have HF : Hid (_ ∧ _ ∧ _ ∧ _ ∧ _) := ⟨hbf, k1, k2, k3, ho1⟩
  clear k1 k2 k3 hbf ho1
  have hs0 : w.heap.size < w1.heap.size := by omega
  have hs2 : w.heap.size ≠ w1.heap.size := by omega
  go_wp2_with fail
  have hW2 : ∀ (W' : World), Below (w1.alloc (.cells #[.slice a2 h.length cap2] 25)).heap.size (w1.alloc (.cells #[.slice a2 h.length cap2] 25)) W' → W'.heap[w.heap.size]? = some (.cells #[.slice (some ⟨b, o, none⟩) h.length cap] 25 (0, 0)) ∧ W'.heap[w.heap.size + 1]? = some (.cells #[.int .i64 vk, .int .i64 vn, .string vt] 27 (0, 0)) ∧ W'.heap[w.heap.size + 1 + 1]? = some (.cells #[.slice none 0 0] 25 (0, 0)) ∧ W'.heap[w1.heap.size]? = some (.cells #[.slice a2 h.length cap2] 25 (0, 0)) ∧ Below w.heap.size w W' ∧ HOwn W' (w.heap.size + 1 + 1 + 1) (.slice a2 h.length cap2) h h.length ds := fun W' hW => by
    obtain ⟨hbf, k1, k2, k3, ho1⟩ := HF.out
    have hal : Below w1.heap.size w1 W' := ((Below.refl w1.heap.size w1).alloc (Nat.le_refl _) _).trans (hW.mono (by simp))
    exact ⟨(hal.block _ (by omega)).trans k1, (hal.block _ (by omega)).trans k2, (hal.block _ (by omega)).trans k3, (hW.block _ (by simp)).trans (heap_alloc_new w1 _), hbf.trans (hal.mono (by omega)), ho1.under hal⟩
  have HCL : Hid _ := hW2
  have hYs : w1.heap.size < (w1.alloc (.cells #[.slice a2 h.length cap2] 25)).heap.size := by simp
  clear hW2 HF x0 z0 z1 z2 t0 u0
  generalize World.alloc _ _ = W2 at HCL hYs ⊢
  generalize w1.heap.size = Y at *
  refine (H2.out W2 (HCL.out W2 (Below.refl _ _)).2.2.2.2.1).mono ?_
  rintro e w3 ⟨rfl, hb3⟩
  obtain ⟨k1, k2, k3, k4, -, -⟩ := HCL.out w3 hb3
  obtain ⟨x0, -⟩ := one_of k1
  obtain ⟨⟨z0, z1, z2⟩, -⟩ := three_all k2
  obtain ⟨t0, u0⟩ := one_of k3
  obtain ⟨y0, -⟩ := one_of k4
  clear k1 k2 k3 k4
  have HB3 : Hid (Below W2.heap.size W2 w3) := hb3
  clear hb3
  cases RB
  · have hV := HVA.out (by exact ⟨hks, by simp⟩)
    subst hV
    obtain ⟨-, -, k3, -, kb, ko⟩ := HCL.out w3 HB3.out
    have HG : Hid (_ ∧ _ ∧ _) := ⟨k3, kb, ko⟩
    clear k3 kb ko
    go_wp2_with fail
    have hE := endHeap HG.out.1 (by omega) (by omega) HG.out.2.1 HG.out.2.2
    clear t0 u0
    generalize World.setCell _ _ _ = W9 at hE ⊢
    have t0 := hE.1
    exact bodyPost_ret (v := .agg #[.slice a2 V.length cap2]) (by simp [results, Try.results16, go_sem, t0]) rfl ⟨a2, cap2, rfl, hE.2.1, ds, hE.2.2⟩
  by_cases hk1 : key.size ≤ 1000
  case neg =>
    have hk1' : ¬ (key.size : Int) ≤ 1000 := by omega
    have hV := HVA.out (by exact ⟨hks, by simp [hk1]⟩)
    subst hV
    obtain ⟨-, -, k3, -, kb, ko⟩ := HCL.out w3 HB3.out
    have HG : Hid (_ ∧ _ ∧ _) := ⟨k3, kb, ko⟩
    clear k3 kb ko
    go_wp2_with fail
    have hE := endHeap HG.out.1 (by omega) (by omega) HG.out.2.1 HG.out.2.2
    clear t0 u0
    generalize World.setCell _ _ _ = W9 at hE ⊢
    have t0 := hE.1
    exact bodyPost_ret (v := .agg #[.slice a2 V.length cap2]) (by simp [results, Try.results16, go_sem, t0]) rfl ⟨a2, cap2, rfl, hE.2.1, ds, hE.2.2⟩
  have hk1' : (key.size : Int) ≤ 1000 := by omega
  go_wp2_with fail
  refine (H4.out w3).mono ?_
  rintro e w4 ⟨rfl, hb4⟩
  have HB4 : Hid (Below W2.heap.size W2 w4) := HB3.out.trans (hb4.mono HB3.out.size)
  clear hb4 x0 z0 z1 z2 t0 u0 y0
  obtain ⟨k1, k2, k3, k4, -, -⟩ := HCL.out w4 HB4.out
  obtain ⟨x0, -⟩ := one_of k1
  obtain ⟨⟨z0, z1, z2⟩, -⟩ := three_all k2
  obtain ⟨t0, u0⟩ := one_of k3
  obtain ⟨y0, -⟩ := one_of k4
  clear k1 k2 k3 k4
  cases RV
  · have hV := HVA.out (by exact ⟨hks, by simp⟩)
    subst hV
    obtain ⟨-, -, k3, -, kb, ko⟩ := HCL.out w4 HB4.out
    have HG : Hid (_ ∧ _ ∧ _) := ⟨k3, kb, ko⟩
    clear k3 kb ko
    go_wp2_with fail
    have hE := endHeap HG.out.1 (by omega) (by omega) HG.out.2.1 HG.out.2.2
    clear t0 u0
    generalize World.setCell _ _ _ = W9 at hE ⊢
    have t0 := hE.1
    exact bodyPost_ret (v := .agg #[.slice a2 V.length cap2]) (by simp [results, Try.results16, go_sem, t0]) rfl ⟨a2, cap2, rfl, hE.2.1, ds, hE.2.2⟩
  by_cases hv6 : vk = 6
  · subst hv6
    by_cases hvn : vn < (h.length : Int)
    · obtain ⟨i, rfl, hi, hpl, hVe, hVl⟩ := HVB.out (by exact ⟨hks, by simp [hk1, hvn]⟩)
      obtain ⟨k1, k2, k3, k4, kb, ko⟩ := HCL.out w4 HB4.out
      obtain ⟨g, rfl⟩ : ∃ g, a2 = some ⟨g, 0, none⟩ := by
        rcases ko.1.2 with ⟨_, e⟩ | ⟨g, cap', _, e, _⟩
        · omega
        · injection e with e1 _ _; exact ⟨g, e1⟩
      have hgl := HGL.out g rfl
      have hsz : W2.heap.size ≤ w4.heap.size := (HB4.out).size
      have C3 := sPut w4 Y (w.heap.size + 1 + 1 + 1) g cap2 h ds i key ⟨6, vn, vt⟩ hi hpl k4 (by omega) ko
      rw [← hVe] at C3
      unfold vC at C3
      dsimp only at C3
      have H3 : Hid _ := C3
      have HG : Hid (_ ∧ _ ∧ _) := ⟨k3, k4, kb⟩
      clear C3 hVe k1 k2 k3 k4 kb ko
      go_wp2_with fail
      refine Calls.mono H3.out ?_
      rintro e w5 ⟨rfl, ⟨ds', ho5⟩, hm5⟩
      have j3 := (hm5.block (w.heap.size + 1 + 1) (by omega) (by omega)).trans HG.out.1
      have j4 := (hm5.block Y (by omega) (by omega)).trans HG.out.2.1
      have jb : Below w.heap.size w w5 := Marks.below HG.out.2.2 hm5 (fun q e => by omega) (by omega)
      obtain ⟨t0, u0⟩ := one_of j3
      obtain ⟨y0, -⟩ := one_of j4
      rw [hVl] at ho5
      have HK : Hid (_ ∧ _ ∧ _) := ⟨j3, jb, ho5⟩
      clear j3 j4 jb ho5 hm5
      go_wp2_with fail
      have hE := endHeap2 hVl HK.out.1 (by omega) (by omega) HK.out.2.1 HK.out.2.2
      clear t0 u0
      generalize World.setCell _ _ _ = W9 at hE ⊢
      have t0 := hE.1
      exact bodyPost_ret (v := .agg #[.slice (some ⟨g, 0, none⟩) h.length cap2]) (by simp [results, Try.results16, go_sem, t0]) rfl (by rw [hVl]; exact ⟨_, _, rfl, hE.2.1, ds', hE.2.2⟩)
    · have hV := HVA.out (by exact ⟨hks, by simp [hvn]⟩)
      subst hV
      obtain ⟨-, -, k3, -, kb, ko⟩ := HCL.out w4 HB4.out
      have HG : Hid (_ ∧ _ ∧ _) := ⟨k3, kb, ko⟩
      clear k3 kb ko
      go_wp2_with fail
      have hE := endHeap HG.out.1 (by omega) (by omega) HG.out.2.1 HG.out.2.2
      clear t0 u0
      generalize World.setCell _ _ _ = W9 at hE ⊢
      have t0 := hE.1
      exact bodyPost_ret (v := .agg #[.slice a2 V.length cap2]) (by simp [results, Try.results16, go_sem, t0]) rfl ⟨a2, cap2, rfl, hE.2.1, ds, hE.2.2⟩
  · obtain ⟨i, rfl, hi, hpl, hVe, hVl⟩ := HVB.out (by exact ⟨hks, by simp [hk1, hv6]⟩)
    obtain ⟨k1, k2, k3, k4, kb, ko⟩ := HCL.out w4 HB4.out
    obtain ⟨g, rfl⟩ : ∃ g, a2 = some ⟨g, 0, none⟩ := by
      rcases ko.1.2 with ⟨_, e⟩ | ⟨g, cap', _, e, _⟩
      · omega
      · injection e with e1 _ _; exact ⟨g, e1⟩
    have hgl := HGL.out g rfl
    have hsz : W2.heap.size ≤ w4.heap.size := (HB4.out).size
    have C3 := sPut w4 Y (w.heap.size + 1 + 1 + 1) g cap2 h ds i key ⟨vk, vn, vt⟩ hi hpl k4 (by omega) ko
    rw [← hVe] at C3
    unfold vC at C3
    dsimp only at C3
    have H3 : Hid _ := C3
    have HG : Hid (_ ∧ _ ∧ _) := ⟨k3, k4, kb⟩
    clear C3 hVe k1 k2 k3 k4 kb ko
    go_wp2_with fail
    refine Calls.mono H3.out ?_
    rintro e w5 ⟨rfl, ⟨ds', ho5⟩, hm5⟩
    have j3 := (hm5.block (w.heap.size + 1 + 1) (by omega) (by omega)).trans HG.out.1
    have j4 := (hm5.block Y (by omega) (by omega)).trans HG.out.2.1
    have jb : Below w.heap.size w w5 := Marks.below HG.out.2.2 hm5 (fun q e => by omega) (by omega)
    obtain ⟨t0, u0⟩ := one_of j3
    obtain ⟨y0, -⟩ := one_of j4
    rw [hVl] at ho5
    have HK : Hid (_ ∧ _ ∧ _) := ⟨j3, jb, ho5⟩
    clear j3 j4 jb ho5 hm5
    go_wp2_with fail
    have hE := endHeap2 hVl HK.out.1 (by omega) (by omega) HK.out.2.1 HK.out.2.2
    clear t0 u0
    generalize World.setCell _ _ _ = W9 at hE ⊢
    have t0 := hE.1
    exact bodyPost_ret (v := .agg #[.slice (some ⟨g, 0, none⟩) h.length cap2]) (by simp [results, Try.results16, go_sem, t0]) rfl (by rw [hVl]; exact ⟨_, _, rfl, hE.2.1, ds', hE.2.2⟩)

end Go.Proofs.Ytlmlmdmechhalaa

/-
  The walks of the program's copyOfValue and HeapGet.
-/
import Derived.Test.YtlmlmdmechhalaaHpO
import Derived.Test.YtlmlmdmechhalaaShelfC
namespace Go.Proofs.Ytlmlmdmechhalaa
open Go.RowKit
open Hp (PP OO propC rP kl encP putAll)

theorem three_all {W : World} {b : Nat} {t : TypeId} {v0 v1 v2 : Value} (h : W.heap[b]? = some (.cells #[v0, v1, v2] t (0, 0))) :
    (W.cell? ⟨b, 0, none⟩ = some v0 ∧ W.cell? ⟨b, 1, none⟩ = some v1 ∧ W.cell? ⟨b, 2, none⟩ = some v2) ∧ (W.frozen? ⟨b, 0, none⟩ = false ∧ W.frozen? ⟨b, 1, none⟩ = false ∧ W.frozen? ⟨b, 2, none⟩ = false) := by
  simp [World.cell?, World.frozen?, h]
theorem three_stored (W : World) (b : Nat) (t : TypeId) (u0 u1 u2 : Value) {v0 v1 v2 : Value} (h : W.heap[b]? = some (.cells #[v0, v1, v2] t (0, 0))) :
    ((((W.setCell ⟨b, 0, none⟩ u0).setCell ⟨b, 1, none⟩ u1).setCell ⟨b, 2, none⟩ u2).heap[b]? = some (.cells #[u0, u1, u2] t (0, 0))) ∧
    ∀ B a, Below B a W → B ≤ b → Below B a (((W.setCell ⟨b, 0, none⟩ u0).setCell ⟨b, 1, none⟩ u1).setCell ⟨b, 2, none⟩ u2) :=
  ⟨blk_set (blk_set (blk_set h 0 u0) 1 u1) 2 u2, fun _ _ k hb => ((k.setCell (p := ⟨b, 0, none⟩) hb u0).setCell (p := ⟨b, 1, none⟩) hb u1).setCell (p := ⟨b, 2, none⟩) hb u2⟩

theorem iClone (s : ByteArray) (w : World) (hs : s.size ≤ 1048576) : Calls Try.prog 76 #[.string s] w fun e w' => e = .returned (.string s) ∧ Below w.heap.size w w' := by
  go_enter Try.func76, Try.ntmps76
  go_wp2_with fail
  refine (Try.stringslite_Clone s _ (by omega)).mono ?_
  rintro e w1 ⟨rfl, hb1⟩
  go_wp2_with fail
  go_ret
  exact ⟨rfl, hb1⟩

set_option maxHeartbeats 4000000 in
theorem iCopyValue (v : Val.VV) (w : World) (hs : v.text.size ≤ 1048576) : Calls Try.prog 53 #[.agg (vC v)] w fun e w' => e = .returned (.agg (vC v)) ∧ Below w.heap.size w w' := by
  obtain ⟨k, n, t⟩ := v
  have H1 : Hid _ := fun (W : World) => iClone t W hs
  unfold vC at *
  dsimp only at *
  have HN : Hid (∀ o1 o2, ((w.alloc o1).alloc o2).heap[w.heap.size]? = some o1 ∧ ((w.alloc o1).alloc o2).heap[w.heap.size + 1]? = some o2 ∧ Below w.heap.size w ((w.alloc o1).alloc o2) ∧ w.heap.size + 1 < ((w.alloc o1).alloc o2).heap.size) := fun o1 o2 => ⟨(Below.heap_alloc _ _ _ (by simp)).trans (heap_alloc_new _ _), by have := heap_alloc_new (w.alloc o1) o2; rwa [World.size_alloc] at this, ((Below.refl _ _).alloc (Nat.le_refl _) o1).alloc (by simp) o2, by simp⟩
  go_enter Try.func53, Try.ntmps53
  go_wp2_with fail
  refine (H1.out _).mono ?_
  rintro e w1 ⟨rfl, hb1⟩
  obtain ⟨n1, n2, n3, n4⟩ := HN.out (.cells #[.int .i64 k, .int .i64 n, .string t] 27) (.cells #[.int .i64 0, .int .i64 0, .string ⟨#[]⟩] 27)
  have k1 := (hb1.block _ (by omega)).trans n1
  have k2 := (hb1.block _ n4).trans n2
  have hbw := n3.trans (hb1.mono n3.size)
  have hs1 : w.heap.size + 1 < w1.heap.size := by have := hb1.size; omega
  clear n1 n2 n3 n4 hb1 HN
  have hne : w.heap.size ≠ w.heap.size + 1 := by omega
  generalize hA : w.heap.size + 1 = A at *
  obtain ⟨⟨x0, x1, x2⟩, y0, y1, y2⟩ := three_all k1
  obtain ⟨⟨z0, z1, z2⟩, u0, u1, u2⟩ := three_all k2
  have HK : Hid (_ ∧ _ ∧ _) := ⟨k1, k2, hbw⟩
  clear k1 k2 hbw
  go_wp2_with fail
  obtain ⟨k1, k2, hbw⟩ := HK.out
  have k2' := (Below.heap_setCell w1 ⟨w.heap.size, 2, none⟩ (.string t) A (by show A ≠ w.heap.size; omega)).trans k2
  have hb2 : Below w.heap.size w (w1.setCell ⟨w.heap.size, 2, none⟩ (.string t)) := hbw.setCell (p := ⟨w.heap.size, 2, none⟩) (Nat.le_refl _) _
  obtain ⟨st1, st2⟩ := three_stored _ A 27 (.int .i64 k) (.int .i64 n) (.string t) k2'
  have hb3 := st2 _ _ hb2 (by omega)
  clear st2 k1 k2 k2' hbw hb2 HK x0 x1 x2 y0 y1 y2 z0 z1 z2 u0 u1 u2
  generalize World.setCell _ ⟨A, 2, none⟩ _ = W9 at st1 hb3 ⊢
  obtain ⟨⟨z0, z1, z2⟩, -⟩ := three_all st1
  exact bodyPost_ret (v := .agg #[.int .i64 k, .int .i64 n, .string t]) (by simp [results, Try.results53, go_sem, z0, z1, z2]) rfl ⟨rfl, hb3⟩

theorem szP_le {h : List OO} (hz : szH h ≤ 1048576) {i : Nat} (hi : i < h.length) {j : Nat} (hj : j < h[i].ps.length) : h[i].ps[j].key.size ≤ 1048576 ∧ h[i].ps[j].v.text.size ≤ 1048576 := by
  have h1 := sum_mem (fun o : OO => szPs o.ps) h i hi
  have h2 := sum_mem szP h[i].ps j hj
  have h3 : szPs h[i].ps ≤ (h.map fun o => szPs o.ps).sum := h1
  unfold szH at hz
  have h4 : (h[i].ps.map szP).sum ≤ szPs h[i].ps := by unfold szPs; omega
  have h5 : h[i].ps[j].key.size + h[i].ps[j].v.text.size ≤ (h[i].ps.map szP).sum := h2
  omega
theorem propOf_small {h : List OO} (hz : szH h ≤ 1048576) (res : Option (Nat × Nat)) : (Hp.propOf h res).v.text.size ≤ 1048576 := by
  rcases res with _ | ⟨i, j⟩
  · show (0 : Nat) ≤ 1048576; omega
  · by_cases hi : i < h.length
    · by_cases hj : j < h[i].ps.length
      · rw [Hp.propOf_at hi hj]; exact (szP_le hz hi hj).2
      · have e : Hp.propOf h (some (i, j)) = Hp.zeroP := by simp [Hp.propOf, hi, hj]
        rw [e]; show (0 : Nat) ≤ 1048576; omega
    · have e : Hp.propOf h (some (i, j)) = Hp.zeroP := by simp [Hp.propOf, hi]
      rw [e]; show (0 : Nat) ≤ 1048576; omega

set_option maxHeartbeats 4000000 in
theorem iHeapGet (a : Option Addr) (cap B : Nat) (h : List OO) (cs : Nat → OC) (ref : Int) (key : ByteArray) (w : World) (hk : key.size ≤ 9223372036854775807) (hz : szH h ≤ 1048576) (hok : OkH h) (hh : HIn w B a h cs) :
    Calls Try.prog 17 #[.agg #[.slice a h.length cap], .int .i64 ref, .string key] w fun e w' => e = .returned (.agg (vC (Hp.getV h ref key))) ∧ Below w.heap.size w w' := by
  have C1 := fun (W : World) (hW : Below w.heap.size w W) => iHoldersWith a cap B h cs ref W hz hok (hh.under hW)
  have C2 := fun (W : World) (lo : Nat) (v : Value) (ds : Nat → HC) (hr : Hp.refB h ref = true) (k : AllAt W lo v h h.length ds) => iFind W lo v h ds key ref (Hp.skOf h key ref) hk k (Hp.refB_iff.1 hr).1 (Hp.refB_iff.1 hr).2.1 (Hp.refB_iff.1 hr).2.2 (Hp.skOf_sk (Hp.refB_iff.1 hr).1 key (Hp.refB_iff.1 hr).2.2)
  have C3 := fun (W : World) => iCopyValue (Hp.propOf h (Hp.skOf h key ref)).v W (propOf_small hz _)
  have HV1 : Hid (4000 < key.size → Hp.getV h ref key = Val.zeroV) := fun k => Hp.getV_long k
  have HV2 : Hid (Hp.refB h ref = false → Hp.getV h ref key = Val.zeroV) := fun k => Hp.getV_no k
  have HV3 : Hid (¬ 4000 < key.size → Hp.refB h ref = true → Hp.getV h ref key = (Hp.propOf h (Hp.skOf h key ref)).v) := fun k1 k => Hp.getV_yes k1 k
  have HN : Hid (∀ o1 o2, ((w.alloc o1).alloc o2).heap[w.heap.size]? = some o1 ∧ ((w.alloc o1).alloc o2).heap[w.heap.size + 1]? = some o2 ∧ Below w.heap.size w ((w.alloc o1).alloc o2) ∧ w.heap.size + 1 < ((w.alloc o1).alloc o2).heap.size) := fun o1 o2 => ⟨(Below.heap_alloc _ _ _ (by simp)).trans (heap_alloc_new _ _), by have := heap_alloc_new (w.alloc o1) o2; rwa [World.size_alloc] at this, ((Below.refl _ _).alloc (Nat.le_refl _) o1).alloc (by simp) o2, by simp⟩
  generalize Hp.getV h ref key = V at *
  generalize Hp.refB h ref = RB at *
  generalize Hp.skOf h key ref = sk at *
  generalize Hp.propOf h sk = p at *
  generalize sk.isSome = sb at *
  have H1 : Hid _ := C1
  obtain ⟨pk, ⟨p1, p2, p3⟩, p4, p5⟩ := p
  obtain ⟨v1, v2, v3⟩ := V
  unfold propC at C2
  unfold vC at C3 ⊢
  dsimp only at C2 C3 HV3 ⊢
  have H2 : Hid _ := C2
  have H3 : Hid _ := C3
  clear C1 C2 C3 hok hh hz
  go_enter Try.func17, Try.ntmps17
  by_cases hlk : 4000 < key.size
  · have hlk' : (4000 : Int) < (key.size : Int) := by omega
    have hV := HV1.out hlk
    cases hV
    go_wp2_with fail
    exact bodyPost_ret (v := .agg #[.int .i64 0, .int .i64 0, .string ⟨#[]⟩]) (by simp [results, Try.results17, go_sem]) rfl ⟨rfl, (HN.out _ _).2.2.1⟩
  have hlk' : ¬ (4000 : Int) < (key.size : Int) := by omega
  go_wp2_with fail
  generalize hW0 : (w.alloc _).alloc _ = W0
  obtain ⟨n1, n2, n3, n4⟩ := HN.out (.cells #[.slice a h.length cap] 25) (.cells #[.int .i64 0, .int .i64 0, .string ⟨#[]⟩] 27)
  rw [hW0] at n1 n2 n3 n4
  clear hW0 HN
  refine (H1.out _ n3).mono ?_
  rintro e w1 ⟨v, rfl, hb1, hall⟩
  have k2 := (hb1.block _ n4).trans n2
  have hbf := n3.trans (hb1.mono n3.size)
  have hs1 : w.heap.size + 1 < w1.heap.size := by have := hb1.size; omega
  clear n1 n2 n3 n4 hb1
  have hws : w.heap.size ≤ w.heap.size + 1 := by omega
  generalize w.heap.size + 1 = A at *
  have HF : Hid (_ ∧ _ ∧ _) := ⟨hbf, hall, k2⟩
  obtain ⟨⟨z0, z1, z2⟩, u0, u1, u2⟩ := three_all k2
  clear hbf hall k2
  cases RB
  · have hV := HV2.out rfl
    cases hV
    go_wp2_with fail
    obtain ⟨st1, st2⟩ := three_stored w1 A 27 (.int .i64 0) (.int .i64 0) (.string ⟨#[]⟩) HF.out.2.2
    have hb3 := st2 _ _ HF.out.1 hws
    clear st2 z0 z1 z2
    generalize World.setCell _ ⟨A, 2, none⟩ _ = W9 at st1 hb3 ⊢
    obtain ⟨⟨z0, z1, z2⟩, -⟩ := three_all st1
    exact bodyPost_ret (v := .agg #[.int .i64 0, .int .i64 0, .string ⟨#[]⟩]) (by simp [results, Try.results17, go_sem, z0, z1, z2]) rfl ⟨rfl, hb3⟩
  · have hV := HV3.out hlk rfl
    cases hV
    obtain ⟨ds, hds⟩ := HF.out.2.1 rfl
    have HD : Hid _ := hds
    clear hds
    go_wp2_with fail
    refine (H2.out _ _ _ ds trivial HD.out).mono ?_
    rintro e w2 ⟨rfl, hb2⟩
    have k3 := (hb2.block _ hs1).trans HF.out.2.2
    have hbf2 := HF.out.1.trans (hb2.mono HF.out.1.size)
    have hs2 : A < w2.heap.size := by have := hb2.size; omega
    have hAl := Below.heap_alloc w2 (.cells #[.string pk, .int .i64 p1, .int .i64 p2, .string p3, .bool p4, .bool p5] 78) A hs2
    have hbf3 : Below w.heap.size w (w2.alloc (.cells #[.string pk, .int .i64 p1, .int .i64 p2, .string p3, .bool p4, .bool p5] 78)) := hbf2.alloc hbf2.size _
    have HF3 : Hid (_ ∧ _) := ⟨hbf3, hAl.trans k3⟩
    have hs3 : A < (w2.alloc (.cells #[.string pk, .int .i64 p1, .int .i64 p2, .string p3, .bool p4, .bool p5] 78)).heap.size := by simp; omega
    clear hbf2 hb2 hbf3 hAl k3 z0 z1 z2 u0 u1 u2
    go_wp2_with fail
    refine (H3.out _).mono ?_
    rintro e w3 ⟨rfl, hb3⟩
    have k4 := (hb3.block _ hs3).trans HF3.out.2
    have hbf4 := HF3.out.1.trans (hb3.mono HF3.out.1.size)
    obtain ⟨⟨z0, z1, z2⟩, u0, u1, u2⟩ := three_all k4
    have HF4 : Hid (_ ∧ _) := ⟨hbf4, k4⟩
    clear hbf4 k4 hb3
    go_wp2_with fail
    obtain ⟨st1, st2⟩ := three_stored w3 A 27 (.int .i64 p1) (.int .i64 p2) (.string p3) HF4.out.2
    have hb5 := st2 _ _ HF4.out.1 hws
    clear st2 z0 z1 z2
    generalize World.setCell _ ⟨A, 2, none⟩ _ = W9 at st1 hb5 ⊢
    obtain ⟨⟨z0, z1, z2⟩, -⟩ := three_all st1
    exact bodyPost_ret (v := .agg #[.int .i64 p1, .int .i64 p2, .string p3]) (by simp [results, Try.results17, go_sem, z0, z1, z2]) rfl ⟨rfl, hb5⟩

end Go.Proofs.Ytlmlmdmechhalaa

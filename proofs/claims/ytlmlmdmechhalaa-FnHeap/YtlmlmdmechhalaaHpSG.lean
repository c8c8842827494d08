/-
  The walks of the specification's l05Get and HeapGet.
-/
import Derived.Test.YtlmlmdmechhalaaHpSF
namespace Go.Proofs.Ytlmlmdmechhalaa
open Go.RowKit
open Hp (PP OO propC)

theorem blk_setS {W : World} {b : Nat} {t : TypeId} {c : Array Value} (h : W.heap[b]? = some (.cells c t (0, 0))) (o : Nat) (u : Value) : (W.setCell ⟨b, o, none⟩ u).heap[b]? = some (.cells (c.setIfInBounds o u) t (0, 0)) := by
  simp [World.setCell, Array.getElem?_modify, h]
theorem three_allS {W : World} {b : Nat} {t : TypeId} {v0 v1 v2 : Value} (h : W.heap[b]? = some (.cells #[v0, v1, v2] t (0, 0))) :
    (W.cell? ⟨b, 0, none⟩ = some v0 ∧ W.cell? ⟨b, 1, none⟩ = some v1 ∧ W.cell? ⟨b, 2, none⟩ = some v2) ∧ (W.frozen? ⟨b, 0, none⟩ = false ∧ W.frozen? ⟨b, 1, none⟩ = false ∧ W.frozen? ⟨b, 2, none⟩ = false) := by
  simp [World.cell?, World.frozen?, h]
theorem three_storedS (W : World) (b : Nat) (t : TypeId) (u0 u1 u2 : Value) {v0 v1 v2 : Value} (h : W.heap[b]? = some (.cells #[v0, v1, v2] t (0, 0))) :
    ((((W.setCell ⟨b, 0, none⟩ u0).setCell ⟨b, 1, none⟩ u1).setCell ⟨b, 2, none⟩ u2).heap[b]? = some (.cells #[u0, u1, u2] t (0, 0))) ∧
    ∀ B a, Below B a W → B ≤ b → Below B a (((W.setCell ⟨b, 0, none⟩ u0).setCell ⟨b, 1, none⟩ u1).setCell ⟨b, 2, none⟩ u2) :=
  ⟨blk_setS (blk_setS (blk_setS h 0 u0) 1 u1) 2 u2, fun _ _ k hb => ((k.setCell (p := ⟨b, 0, none⟩) hb u0).setCell (p := ⟨b, 1, none⟩) hb u1).setCell (p := ⟨b, 2, none⟩) hb u2⟩
theorem two_new (w : World) (o1 o2 : Obj) : ((w.alloc o1).alloc o2).heap[w.heap.size]? = some o1 ∧ ((w.alloc o1).alloc o2).heap[w.heap.size + 1]? = some o2 ∧ Below w.heap.size w ((w.alloc o1).alloc o2) ∧ w.heap.size + 1 < ((w.alloc o1).alloc o2).heap.size :=
  ⟨(Below.heap_alloc _ _ _ (by simp)).trans (heap_alloc_new _ _), by have := heap_alloc_new (w.alloc o1) o2; rwa [World.size_alloc] at this, ((Below.refl _ _).alloc (Nat.le_refl _) o1).alloc (by simp) o2, by simp⟩

set_option maxHeartbeats 4000000 in
theorem sGet (a : Option Addr) (cap B : Nat) (h : List OO) (cs : Nat → OC) (key : ByteArray) (ref : Int) (res : Option (Nat × Nat)) (w : World) (hok : OkH h) (hh : HIn w B a h cs) (hR : Hp.RightH h) (h0 : 0 ≤ ref) (hl : ref < h.length) (hsk : Hp.Sk h key ref res) :
    Calls Try.prog 54 #[.agg #[.slice a h.length cap], .int .i64 ref, .string key] w fun e w' => e = .returned (.agg (vC (Hp.propOf h res).v)) ∧ Below w.heap.size w w' := by
  have C1 := fun (W : World) (hW : Below w.heap.size w W) => sFind a cap B h cs key ref res W hok (hh.under hW) hR h0 hl hsk
  have hlen : h.length ≤ 400 := hR.1
  have HC : Hid (HIn w B a h cs ∧ (∀ x ∈ h, OkO x)) := ⟨hh, hok.2⟩
  have HN : Hid (∀ o1 o2, _) := two_new w
  have HLT : Hid (∀ i j, res = some (i, j) → ∃ (hi : i < h.length), j < h[i].ps.length) := fun i j e => by
    subst e
    obtain ⟨hi, hj, _⟩ := hsk.lt
    exact ⟨hi, hj⟩
  clear hok hh hR hsk
  rcases res with _ | ⟨i, j⟩
  · unfold vC
    dsimp only [Hp.propOf, Hp.zeroP, Val.zeroV, Hp.atI, Hp.kI, Option.isSome] at C1 ⊢
    have H1 : Hid _ := C1
    clear C1
    go_enter Try.func54, Try.ntmps54
    go_wp2_with fail
    generalize hW0 : (w.alloc _).alloc _ = W0
    obtain ⟨n1, n2, n3, n4⟩ := HN.out (.cells #[.slice a h.length cap] 25) (.cells #[.int .i64 0, .int .i64 0, .string ⟨#[]⟩] 27)
    rw [hW0] at n1 n2 n3 n4
    clear hW0 HN
    refine (H1.out _ n3).mono ?_
    rintro e w1 ⟨rfl, hb1⟩
    have k2 := (hb1.block _ n4).trans n2
    have hbf := n3.trans (hb1.mono n3.size)
    clear n1 n2 n3 n4 hb1
    have hws : w.heap.size ≤ w.heap.size + 1 := by omega
    generalize w.heap.size + 1 = A at *
    obtain ⟨⟨z0, z1, z2⟩, u0, u1, u2⟩ := three_allS k2
    have HF : Hid (_ ∧ _) := ⟨hbf, k2⟩
    clear hbf k2
    go_wp2_with fail
    obtain ⟨st1, st2⟩ := three_storedS w1 A 27 (.int .i64 0) (.int .i64 0) (.string ⟨#[]⟩) HF.out.2
    have hb3 := st2 _ _ HF.out.1 hws
    clear st2 z0 z1 z2
    generalize World.setCell _ ⟨A, 2, none⟩ _ = W9 at st1 hb3 ⊢
    obtain ⟨⟨z0, z1, z2⟩, -⟩ := three_allS st1
    exact bodyPost_ret (v := .agg #[.int .i64 0, .int .i64 0, .string ⟨#[]⟩]) (by simp [results, Try.results54, go_sem, z0, z1, z2]) rfl ⟨rfl, hb3⟩
  · obtain ⟨hi, hj⟩ := HLT.out i j rfl
    rw [Hp.propOf_at hi hj]
    dsimp only [Hp.atI, Hp.kI, Option.isSome] at C1
    have H1 : Hid _ := C1
    obtain ⟨⟨hos, hps⟩, hokk⟩ := HC.out
    rcases hos with rfl | ⟨b, o, rfl, hB, hc⟩
    · simp at hi
    have hjl := (hokk _ (List.getElem_mem hi)).1
    rcases hps i hi with e | ⟨b', o', hpa, hB', hc'⟩
    · rw [e] at hj; simp at hj
    have q1 := hc i hi
    have q2 := hc' j hj
    have HQ : Hid (∀ W, Below w.heap.size w W → OAt W b (o + i * 3) h[i] (cs i) ∧ PAt W b' (o' + j * 6) h[i].ps[j]) := fun W hW => ⟨q1.keep hB (.of_below hW B), q2.keep hB' (.of_below hW B)⟩
    have hi' : (i : Int) < (h.length : Int) := by omega
    have hj' : (j : Int) < (h[i].ps.length : Int) := by omega
    clear C1 hps hokk hc hc' q1 q2
    generalize h[i].ps[j] = p at *
    generalize h[i] = x at *
    generalize hce : cs i = c at *
    obtain ⟨cls, pro, ps⟩ := x
    obtain ⟨pa, pc⟩ := c
    obtain ⟨pk, ⟨p1, p2, p3⟩, p4, p5⟩ := p
    unfold vC
    unfold OAt PAt at HQ
    dsimp only at hpa HQ hj' hjl ⊢
    subst hpa
    clear hce
    go_enter Try.func54, Try.ntmps54
    go_wp2_with fail
    generalize hW0 : (w.alloc _).alloc _ = W0
    obtain ⟨n1, n2, n3, n4⟩ := HN.out (.cells #[.slice (some ⟨b, o, none⟩) h.length cap] 25) (.cells #[.int .i64 0, .int .i64 0, .string ⟨#[]⟩] 27)
    rw [hW0] at n1 n2 n3 n4
    clear hW0 HN
    refine (H1.out _ n3).mono ?_
    rintro e w1 ⟨rfl, hb1⟩
    have k1 := (hb1.block _ (by omega)).trans n1
    have k2 := (hb1.block _ n4).trans n2
    have hbf := n3.trans (hb1.mono n3.size)
    have x1 := one_of' k1
    obtain ⟨⟨o0, o1, o2⟩, r0, r1, r2, r3, r4, r5⟩ := HQ.out w1 hbf
    clear n1 n2 n3 n4 hb1 k1
    have hws : w.heap.size ≤ w.heap.size + 1 := by omega
    have hwn : w.heap.size ≠ w.heap.size + 1 := by omega
    generalize w.heap.size + 1 = A at *
    obtain ⟨⟨z0, z1, z2⟩, u0, u1, u2⟩ := three_allS k2
    have HF : Hid (_ ∧ _) := ⟨hbf, k2⟩
    clear hbf k2
    go_wp2_with fail
    obtain ⟨st1, st2⟩ := three_storedS w1 A 27 (.int .i64 p1) (.int .i64 p2) (.string p3) HF.out.2
    have hb3 := st2 _ _ HF.out.1 hws
    clear st2 z0 z1 z2
    generalize World.setCell _ ⟨A, 2, none⟩ _ = W9 at st1 hb3 ⊢
    obtain ⟨⟨z0, z1, z2⟩, -⟩ := three_allS st1
    exact bodyPost_ret (v := .agg #[.int .i64 p1, .int .i64 p2, .string p3]) (by simp [results, Try.results54, go_sem, z0, z1, z2]) rfl ⟨rfl, hb3⟩

set_option maxHeartbeats 4000000 in
theorem sHeapGet (a : Option Addr) (cap B : Nat) (h : List OO) (cs : Nat → OC) (ref : Int) (key : ByteArray) (w : World) (hok : OkH h) (hcap : ∀ i (hi : i < h.length), h[i].ps.length ≤ (cs i).pc) (hh : HIn w B a h cs) (hk : key.size ≤ 9223372036854775807) :
    Calls Try.prog 18 #[.agg #[.slice a h.length cap], .int .i64 ref, .string key] w fun e w' => e = .returned (.agg (vC (Hp.getV h ref key))) ∧ Below w.heap.size w w' := by
  have C1 := fun (W : World) (hW : Below w.heap.size w W) => sRef a cap B h cs ref W hok hcap (hh.under hW)
  have C2 := fun (W : World) (hW : Below w.heap.size w W) (hr : Hp.refB h ref = true) => sGet a cap B h cs key ref (Hp.skOf h key ref) W hok (hh.under hW) (Hp.refB_iff.1 hr).1 (Hp.refB_iff.1 hr).2.1 (Hp.refB_iff.1 hr).2.2 (Hp.skOf_sk (Hp.refB_iff.1 hr).1 key (Hp.refB_iff.1 hr).2.2)
  have HV1 : Hid (4000 < key.size → Hp.getV h ref key = Val.zeroV) := fun k => Hp.getV_long k
  have HV2 : Hid (Hp.refB h ref = false → Hp.getV h ref key = Val.zeroV) := fun k => Hp.getV_no k
  have HV3 : Hid (¬ 4000 < key.size → Hp.refB h ref = true → Hp.getV h ref key = (Hp.propOf h (Hp.skOf h key ref)).v) := fun k1 k => Hp.getV_yes k1 k
  have HN : Hid (∀ o1 o2, _) := two_new w
  generalize Hp.getV h ref key = V at *
  generalize Hp.refB h ref = RB at *
  generalize (Hp.propOf h (Hp.skOf h key ref)).v = p at *
  have H1 : Hid _ := C1
  obtain ⟨p1, p2, p3⟩ := p
  obtain ⟨v1, v2, v3⟩ := V
  unfold vC at C2 ⊢
  dsimp only at C2 ⊢
  have H2 : Hid _ := C2
  clear C1 C2 hok hh hcap
  go_enter Try.func18, Try.ntmps18
  by_cases hlk : 4000 < key.size
  · have hlk' : (4000 : Int) < (key.size : Int) := by omega
    have hV := HV1.out hlk
    cases hV
    go_wp2_with fail
    exact bodyPost_ret (v := .agg #[.int .i64 0, .int .i64 0, .string ⟨#[]⟩]) (by simp [results, Try.results18, go_sem]) rfl ⟨rfl, (HN.out _ _).2.2.1⟩
  have hlk' : ¬ (4000 : Int) < (key.size : Int) := by omega
  go_wp2_with fail
  generalize hW0 : (w.alloc _).alloc _ = W0
  obtain ⟨n1, n2, n3, n4⟩ := HN.out (.cells #[.slice a h.length cap] 25) (.cells #[.int .i64 0, .int .i64 0, .string ⟨#[]⟩] 27)
  rw [hW0] at n1 n2 n3 n4
  clear hW0 HN
  refine (H1.out _ n3).mono ?_
  rintro e w1 ⟨rfl, hb1⟩
  have k1 := (hb1.block _ (by omega)).trans n1
  have k2 := (hb1.block _ n4).trans n2
  have x1 := one_of' k1
  have hbf := n3.trans (hb1.mono n3.size)
  have hs1 : w.heap.size + 1 < w1.heap.size := by have := hb1.size; omega
  clear n1 n2 n3 n4 hb1 k1
  have hws : w.heap.size ≤ w.heap.size + 1 := by omega
  generalize w.heap.size + 1 = A at *
  have HF : Hid (_ ∧ _) := ⟨hbf, k2⟩
  obtain ⟨⟨z0, z1, z2⟩, u0, u1, u2⟩ := three_allS k2
  clear hbf k2
  cases RB
  · have hV := HV2.out rfl
    cases hV
    go_wp2_with fail
    obtain ⟨st1, st2⟩ := three_storedS w1 A 27 (.int .i64 0) (.int .i64 0) (.string ⟨#[]⟩) HF.out.2
    have hb3 := st2 _ _ HF.out.1 hws
    clear st2 z0 z1 z2
    generalize World.setCell _ ⟨A, 2, none⟩ _ = W9 at st1 hb3 ⊢
    obtain ⟨⟨z0, z1, z2⟩, -⟩ := three_allS st1
    exact bodyPost_ret (v := .agg #[.int .i64 0, .int .i64 0, .string ⟨#[]⟩]) (by simp [results, Try.results18, go_sem, z0, z1, z2]) rfl ⟨rfl, hb3⟩
  · have hV := HV3.out hlk rfl
    cases hV
    clear z0 z1 z2 u0 u1 u2
    go_wp2_with fail
    refine (H2.out _ HF.out.1 trivial).mono ?_
    rintro e w2 ⟨rfl, hb2⟩
    have k3 := (hb2.block _ hs1).trans HF.out.2
    have hbf2 := HF.out.1.trans (hb2.mono HF.out.1.size)
    obtain ⟨⟨z0, z1, z2⟩, u0, u1, u2⟩ := three_allS k3
    have HF4 : Hid (_ ∧ _) := ⟨hbf2, k3⟩
    clear hbf2 k3 hb2
    go_wp2_with fail
    obtain ⟨st1, st2⟩ := three_storedS w2 A 27 (.int .i64 p1) (.int .i64 p2) (.string p3) HF4.out.2
    have hb5 := st2 _ _ HF4.out.1 hws
    clear st2 z0 z1 z2
    generalize World.setCell _ ⟨A, 2, none⟩ _ = W9 at st1 hb5 ⊢
    obtain ⟨⟨z0, z1, z2⟩, -⟩ := three_allS st1
    exact bodyPost_ret (v := .agg #[.int .i64 p1, .int .i64 p2, .string p3]) (by simp [results, Try.results18, go_sem, z0, z1, z2]) rfl ⟨rfl, hb5⟩

end Go.Proofs.Ytlmlmdmechhalaa

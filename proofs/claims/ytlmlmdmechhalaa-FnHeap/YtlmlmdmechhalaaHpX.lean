/-
  The walk of the program's copyOfHeap.
-/
import Derived.Test.YtlmlmdmechhalaaHpW
import Derived.Test.YtlmlmdmechhalaaHpSG
namespace Go.Proofs.Ytlmlmdmechhalaa
open Go.RowKit
open Hp (PP OO propC rP kl encP putAll)

set_option maxHeartbeats 8000000 in
set_option maxRecDepth 100000 in
theorem iCopyHeap (a : Option Addr) (cap B : Nat) (h : List OO) (cs0 : Nat → OC) (w : World) (hz : szH h ≤ 1048576) (hh : HIn w B a h cs0) :
    Calls Try.prog 42 #[.agg #[.slice a h.length cap]] w fun e w' => ∃ a cap, e = .returned (.agg #[.slice a h.length cap]) ∧ Below w.heap.size w w' ∧ ∃ cs, HOwn w' w.heap.size (.slice a h.length cap) h h.length cs := by
  have hlen : h.length ≤ 1048576 := by unfold szH at hz; omega
  have HC : Hid (HIn w B a h cs0) := hh
  have HPL : Hid (∀ j (hj : j < h.length), h[j].ps.length ≤ 1048576 ∧ ∀ p ∈ h[j].ps, p.key.size ≤ 1048576 ∧ p.v.text.size ≤ 1048576) := fun j hj => by
    have h1 : szPs h[j].ps ≤ (h.map fun o => szPs o.ps).sum := sum_mem (fun o : OO => szPs o.ps) h j hj
    have h2 : h[j].ps.length ≤ szPs h[j].ps := by unfold szPs; omega
    refine ⟨by unfold szH at hz; omega, fun p hp => ?_⟩
    obtain ⟨i, hi, rfl⟩ := List.getElem_of_mem hp
    exact szP_le hz hj hi
  have HN : Hid (∀ o1 o2, _) := two_new w
  clear hh hz
  go_enter Try.func42, Try.ntmps42
  go_wp2_with fail
  generalize hW0 : (w.alloc _).alloc _ = W0
  obtain ⟨n1, n2, n3, n4⟩ := HN.out (.cells #[.slice a h.length cap] 25) (.cells #[.slice none 0 0] 25)
  rw [hW0] at n1 n2 n3 n4
  clear hW0 HN
  have hSz : w.heap.size ≤ W0.heap.size := n3.size
  generalize hR : w.heap.size + 1 = R at *
  go_loopw [3, 12] (fun vk vi wr => ∃ i : Nat, i ≤ h.length ∧ vi = .int .i64 i ∧ Hid (Below W0.heap.size W0 wr ∧ ∃ cs, HOwn wr W0.heap.size vk h i cs)) (fun _ vi _ => h.length - (intOf vi).toNat)
  case atStart => exact ⟨0, Nat.zero_le _, rfl, Below.refl _ _, fun _ => ⟨none, 0⟩, hOwn_nil _ _ _ _⟩
  case round =>
    obtain ⟨i, hi, rfl, HE⟩ := hrel
    obtain ⟨hb, cs, hO⟩ := HE.out
    obtain ⟨av, acap, rfl⟩ := own_shape hO.1
    have hbw : Below w.heap.size w wr := n3.trans (hb.mono n3.size)
    have hX1 := (hb.block _ n4).trans n2
    by_cases hlt : i < h.length
    case neg =>
      have hlt' : ¬ (i : Int) < (h.length : Int) := by omega
      have hie : i = h.length := by omega
      have HFF : Hid (HOwn wr W0.heap.size (.slice av h.length acap) h h.length cs ∧ Below w.heap.size w wr ∧ wr.heap[R]? = some (.cells #[.slice none 0 0] 25 (0, 0))) := by
        have := hO
        rw [hie] at this
        exact ⟨this, hbw, hX1⟩
      obtain ⟨z0, u0⟩ := one_of hX1
      subst hie
      clear hO hX1 hbw hb HE
      go_wp2_with fail
      have hb3 : Below w.heap.size w (wr.setCell ⟨R, 0, none⟩ (.slice av h.length acap)) := HFF.out.2.1.setCell (p := ⟨R, 0, none⟩) (by show w.heap.size ≤ R; omega) _
      have hfar : ∀ q, W0.heap.size ≤ q → (wr.setCell ⟨R, 0, none⟩ (.slice av h.length acap)).heap[q]? = wr.heap[q]? := fun q hq => Below.heap_setCell _ ⟨R, 0, none⟩ _ q (by show q ≠ R; omega)
      have st1 := blk_set HFF.out.2.2 0 (.slice av h.length acap)
      have hp3 : HOwn (wr.setCell ⟨R, 0, none⟩ (.slice av h.length acap)) w.heap.size (.slice av h.length acap) h h.length cs := HOwn.low (lo := W0.heap.size) ⟨row_same HFF.out.1.1 fun q hq => hfar q (World.ownsRow.lt HFF.out.1.1 q hq).1, fun j hj hjn => row_same (HFF.out.1.2.1 j hj hjn) fun q hq => hfar q (World.ownsRow.lt (HFF.out.1.2.1 j hj hjn) q hq).1, HFF.out.1.2.2⟩ hSz
      clear z0 u0
      generalize World.setCell _ _ _ = W9 at st1 hb3 hp3 ⊢
      have z0 : W9.cell? ⟨R, 0, none⟩ = some (.slice av h.length acap) := by simp [World.cell?, st1]
      exact bodyPost_ret (v := .agg #[.slice av h.length acap]) (by simp [results, Try.results42, go_sem, z0]) rfl ⟨av, acap, rfl, hb3, cs, hp3⟩
    have hlt' : (i : Int) < (h.length : Int) := by omega
    obtain ⟨hos, hps⟩ := HC.out
    rcases hos with rfl | ⟨b, o, rfl, hB, hc⟩
    · simp at hlt
    have h3 := (hc i hlt).keep hB (.of_below hbw B)
    have HPS : Hid (PsIn wr B (cs0 i).pa h[i].ps) := (hps i hlt).under hbw
    obtain ⟨hpl, hsm⟩ := HPL.out i hlt
    have HO : Hid (HOwn wr W0.heap.size (.slice av i acap) h i cs ∧ Below W0.heap.size W0 wr) := ⟨hO, hb⟩
    have HSM : Hid _ := hsm
    have hwz := hb.size
    clear hps hc hO hX1 HE hsm
    generalize hxe : h[i] = x at *
    have HXE : Hid (h[i] = x) := hxe
    clear hxe
    generalize cs0 i = c at *
    obtain ⟨cls, pro, ps⟩ := x
    obtain ⟨pa, pc⟩ := c
    obtain ⟨h60, h61, h62⟩ := h3
    dsimp only at h60 h61 h62 HPS hpl HSM
    have HBX : Hid (∀ o, Below wr.heap.size wr (wr.alloc o)) := fun o => (Below.refl _ _).alloc (Nat.le_refl _) o
    clear hb hbw
    go_wp2_with fail
    generalize hW1 : wr.alloc _ = W1
    have hB1 : Below wr.heap.size wr W1 := by rw [← hW1]; exact HBX.out _
    have hXo : W1.heap[wr.heap.size]? = some (.cells #[.int .i64 cls, .int .i64 pro, .slice pa ps.length pc] 76 (0, 0)) := by rw [← hW1]; exact heap_alloc_new _ _
    have hS1 : wr.heap.size < W1.heap.size := by rw [← hW1]; simp
    clear hW1 h60 h61 h62 HBX
    have HB1 : Hid _ := hB1
    clear hB1
    obtain ⟨wo, hwo⟩ : ∃ x, x = wr := ⟨_, rfl⟩
    rw [← hwo] at HB1 HPS HO hwz ⊢
    rw [← hwo] at hXo hS1
    clear hwo
    generalize hXX : wo.heap.size = X at *
    go_loopw [6, 19] (fun vk vj wx => ∃ j : Nat, j ≤ ps.length ∧ vj = .int .i64 j ∧ Hid (Below W1.heap.size W1 wx ∧ POwn wx W1.heap.size vk (ps.take j))) (fun _ vj _ => ps.length - (intOf vj).toNat)
    case atStart => exact ⟨0, Nat.zero_le _, rfl, Below.refl _ _, World.ownsRow_nil _ _ _ _⟩
    case round =>
      obtain ⟨j, hj, rfl, HJ⟩ := hrel
      obtain ⟨bv, bcap, rfl⟩ := own_shape HJ.out.2
      have hjl : (ps.take j).length = j := by simp; omega
      rw [hjl]
      have hX2 := (HJ.out.1.block _ hS1).trans hXo
      have hwx : Below X wo wr := HB1.out.trans (HJ.out.1.mono (by omega))
      by_cases hjt : j < ps.length
      case neg =>
        have hjt' : ¬ (j : Int) < (ps.length : Int) := by omega
        have hje : j = ps.length := by omega
        have HQ : Hid (POwn wr W1.heap.size (.slice bv ps.length bcap) ps ∧ HOwn wr W0.heap.size (.slice av i acap) h i cs ∧ Below W0.heap.size W0 wr) := by
          have h1 := HJ.out.2
          rw [List.take_of_length_le (by omega)] at h1
          rw [← hXX] at hwx
          exact ⟨h1, HO.out.1.under hwx, HO.out.2.trans (hwx.mono (by omega))⟩
        obtain ⟨⟨x0, x1, x2⟩, y0, y1, y2⟩ := three_all hX2
        have hXr : X < wr.heap.size := (Array.getElem?_eq_some_iff.1 hX2).1
        have hl1 := HJ.out.1.size
        subst hje
        clear HJ hX2 hwx
        have hfar : ∀ q u, q ≠ X → (wr.setCell ⟨X, 2, none⟩ u).heap[q]? = wr.heap[q]? := fun q u hq => Below.heap_setCell _ ⟨X, 2, none⟩ u q hq
        have HW2 : Hid (∀ u, POwn (wr.setCell ⟨X, 2, none⟩ u) W1.heap.size (.slice bv ps.length bcap) ps ∧ HOwn (wr.setCell ⟨X, 2, none⟩ u) W0.heap.size (.slice av i acap) h i cs ∧ Below W0.heap.size W0 (wr.setCell ⟨X, 2, none⟩ u) ∧ (wr.setCell ⟨X, 2, none⟩ u).heap.size = wr.heap.size) := fun u => by
          refine ⟨row_same HQ.out.1 fun q hq => hfar q u (by have := (World.ownsRow.lt HQ.out.1 q hq).1; omega), ⟨row_same HQ.out.2.1.1 fun q hq => hfar q u (by have := (World.ownsRow.lt HO.out.1.1 q hq).2; omega), fun j hj hjn => row_same (HQ.out.2.1.2.1 j hj hjn) fun q hq => hfar q u (by have := (World.ownsRow.lt (HO.out.1.2.1 j hj hjn) q hq).2; omega), HQ.out.2.1.2.2⟩, HQ.out.2.2.setCell (p := ⟨X, 2, none⟩) (by show W0.heap.size ≤ X; omega) _, by simp [World.setCell]⟩
        have HOX : Hid (∀ j (hj : j < h.length), j < i → ∀ q, (pV h[j] (cs j)).ownBlock = some q → q < W1.heap.size) := fun j hj hji q hq => by have := (World.ownsRow.lt (HO.out.1.2.1 j hj hji) q hq).2; omega
        clear HQ hfar
        have hsz2 : ∀ u, (wr.setCell ⟨X, 2, none⟩ u).heap.size = wr.heap.size := fun u => by simp [World.setCell]
        go_wp2_with (refine app_obj rfl (.tmp 31) (.tmp 33) rfl W0.heap.size _ _ _ (by rfl) (World.ownsRow.alloc (HW2.out _).2.1.1 _) ⟨wr.heap.size, 0, none⟩ ⟨cls, pro, ps⟩ ⟨bv, bcap⟩ (by rfl) (fun j u hu => by have := new_cells (wr.setCell ⟨X, 2, none⟩ (.slice bv ps.length bcap)) #[.int .i64 cls, .int .i64 pro, .slice bv ps.length bcap] 76 j u hu; rw [hsz2] at this; exact this) (by omega) (by rw [World.size_alloc, hsz2]; omega) ?_; intro v' w' hown' hgrow'; have hsh := own_shape hown'; obtain ⟨a2, cap2, rfl⟩ := hsh)
        obtain ⟨f1, f2, f3, f4⟩ := HW2.out (.slice bv ps.length bcap)
        generalize World.setCell wr _ _ = W2 at f1 f2 f3 f4 hgrow'
        have hal : ∀ o, Below W2.heap.size W2 (W2.alloc o) := fun o => (Below.refl _ _).alloc (Nat.le_refl _) o
        have hend := HOwn.snoc (f2.under (hal _)) hlt (c := ⟨bv, bcap⟩) (W := W1.heap.size) (by rw [HXE.out]; exact f1.under (hal _)) (by omega) HOX.out hgrow' (by rw [HXE.out]; exact hown')
        exact ⟨⟨i + 1, by omega, by go_num, (f3.alloc f3.size _).grown hgrow' (by rw [World.size_alloc]; omega) (fun q hq => (World.ownsRow.lt f2.1 q hq).1), _, hend⟩, by simp [intOf]; omega⟩
      have hjt' : (j : Int) < (ps.length : Int) := by omega
      obtain ⟨b', o', hpa, hB', hc'⟩ := HPS.out.resolve_left (fun e => by rw [e] at hjt; simp at hjt)
      rw [← hXX] at hwx
      have q2 := (hc' j hjt).keep hB' (.of_below hwx B)
      obtain ⟨hks, hts⟩ := HSM.out _ (List.getElem_mem hjt)
      have htk : ps.take (j + 1) = ps.take j ++ [ps[j]] := List.take_succ_eq_append_getElem hjt
      have HTK : Hid _ := htk
      have C1 := fun (W : World) => iCopyProp ps[j] W hks hts
      have HOJ : Hid (POwn wr W1.heap.size (.slice bv j bcap) (ps.take j) ∧ Below W1.heap.size W1 wr) := by
        have := HJ.out.2
        rw [hjl] at this
        exact ⟨this, HJ.out.1⟩
      have hwz1 := HJ.out.1.size
      unfold PAt at q2
      subst hpa
      clear hc' htk hX2 hwx HJ
      generalize ps[j] = p at *
      have HNW : Hid (∀ (W : World) j u, (propL p)[j]? = some u → (W.alloc (.cells (propC p) 78)).cell? ((⟨W.heap.size, 0, none⟩ : Addr).add j) = some u) := fun W j u h => new_cells W (propC p) 78 j u h
      obtain ⟨pk, ⟨p1, p2, p3⟩, p4, p5⟩ := p
      unfold propC at C1 HNW
      dsimp only at q2 C1 HNW
      have H1 : Hid _ := C1
      clear C1
      obtain ⟨r0, r1, r2, r3, r4, r5⟩ := q2
      have HAL : Hid (∀ o, Below wr.heap.size wr (wr.alloc o)) := fun o => (Below.refl _ _).alloc (Nat.le_refl _) o
      go_wp2_with fail
      refine (H1.out _).mono ?_
      rintro e w1 ⟨rfl, hb1⟩
      have hb1' := (HAL.out (.cells #[.string pk, .int .i64 p1, .int .i64 p2, .string p3, .bool p4, .bool p5] 78)).trans (hb1.mono (HAL.out _).size)
      have HF : Hid (POwn w1 W1.heap.size (.slice bv j bcap) (ps.take j) ∧ Below W1.heap.size W1 w1) := ⟨HOJ.out.1.under hb1', HOJ.out.2.trans (hb1'.mono hwz1)⟩
      have hw1 := HF.out.2.size
      clear hb1 hb1' r0 r1 r2 r3 r4 r5
      go_wp2_with (refine app_prop rfl (.tmp 23) (.tmp 26) rfl W1.heap.size _ _ (by rfl) (World.ownsRow.alloc HF.out.1 _) ⟨w1.heap.size, 0, none⟩ ⟨pk, ⟨p1, p2, p3⟩, p4, p5⟩ (by rfl) (HNW.out w1) (by simp; omega) (by simp; omega) ?_; intro v' w' hown' hgrow'; have hsh := own_shape hown'; obtain ⟨a2, cap2, rfl⟩ := hsh)
      have hle : (ps.take j ++ [(⟨pk, ⟨p1, p2, p3⟩, p4, p5⟩ : PP)]).length = j + 1 := by rw [List.length_append, hjl]; rfl
      rw [hle] at hown'
      have hfin : POwn w' W1.heap.size (.slice a2 (j + 1) cap2) (ps.take (j + 1)) := by
        rw [HTK.out]
        exact hown'
      exact ⟨⟨j + 1, by omega, by go_num, (HF.out.2.alloc HF.out.2.size _).grown hgrow' (by simp; omega) (fun q hq => (World.ownsRow.lt HF.out.1 q hq).1), hfin⟩, by simp [intOf]; omega⟩

end Go.Proofs.Ytlmlmdmechhalaa

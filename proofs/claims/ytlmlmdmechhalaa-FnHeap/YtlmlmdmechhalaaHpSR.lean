/-
  The walk of the specification's HeapRight.
-/
import Derived.Test.YtlmlmdmechhalaaHpS
import Derived.Test.YtlmlmdmechhalaaHpI
import Derived.Test.YtlmlmdmechhalaaRegL
namespace Go.Proofs.Ytlmlmdmechhalaa
open Go.RowKit
open Hp (PP OO propC)

theorem three_of' {W : World} {b : Nat} {t : TypeId} {v0 v1 v2 : Value} (h : W.heap[b]? = some (.cells #[v0, v1, v2] t (0, 0))) :
    W.cell? ⟨b, 0, none⟩ = some v0 ∧ W.cell? ⟨b, 1, none⟩ = some v1 ∧ W.cell? ⟨b, 2, none⟩ = some v2 := by
  simp [World.cell?, h]
theorem one_of' {W : World} {b : Nat} {t : TypeId} {v0 : Value} (h : W.heap[b]? = some (.cells #[v0] t (0, 0))) : W.cell? ⟨b, 0, none⟩ = some v0 := by
  simp [World.cell?, h]
theorem six_of2 {W : World} {b : Nat} {t : TypeId} {v0 v1 v2 v3 v4 v5 : Value} (h : W.heap[b]? = some (.cells #[v0, v1, v2, v3, v4, v5] t (0, 0))) :
    (W.cell? ⟨b, 0, none⟩ = some v0 ∧ W.cell? ⟨b, 1, none⟩ = some v1 ∧ W.cell? ⟨b, 2, none⟩ = some v2 ∧ W.cell? ⟨b, 3, none⟩ = some v3 ∧ W.cell? ⟨b, 4, none⟩ = some v4 ∧ W.cell? ⟨b, 5, none⟩ = some v5) := by
  simp [World.cell?, h]

theorem own_bad {ps : List PP} {k : Nat} (hk : k < ps.length) (h : Hp.ownI (ps.take k) ps[k].key ≠ -1) : ¬ Hp.Unlike ps := by
  intro hu
  apply h
  refine own_no fun q hq e => ?_
  obtain ⟨j, hj, rfl⟩ := List.getElem_of_mem hq
  have hjk : j < k := by simp at hj; omega
  rw [List.getElem_take] at e
  exact List.pairwise_iff_getElem.1 hu j k (by omega) hk hjk e
theorem own_good {ps : List PP} {k : Nat} (hk : k < ps.length) (h : Hp.ownI (ps.take k) ps[k].key = -1) (hu : Hp.Unlike (ps.take k)) : Hp.Unlike (ps.take (k + 1)) := by
  rw [List.take_succ_eq_append_getElem hk, Hp.unlike_snoc]
  refine ⟨hu, Hp.fi_ge fun hf => ?_⟩
  unfold Hp.ownI at h
  rw [if_pos hf] at h
  omega
theorem PsIn.take {w : World} {B : Nat} {a : Option Addr} {ps : List PP} (h : PsIn w B a ps) (k : Nat) : PsIn w B a (ps.take k) := by
  rcases h with rfl | ⟨b, o, ha, hb, hc⟩
  · exact .inl (by simp)
  · exact .inr ⟨b, o, ha, hb, fun i hi => by
      have hi' : i < ps.length := by simp at hi; omega
      rw [List.getElem_take]; exact hc i hi'⟩

set_option maxHeartbeats 8000000 in
set_option maxRecDepth 100000 in
theorem sHeapRight (a : Option Addr) (cap B : Nat) (h : List OO) (cs : Nat → OC) (w : World) (hok : OkH h) (hcap : ∀ i (hi : i < h.length), h[i].ps.length ≤ (cs i).pc) (hh : HIn w B a h cs) :
    Calls Try.prog 15 #[.agg #[.slice a h.length cap]] w fun e w' => e = .returned (.bool (rightB h)) ∧ Below w.heap.size w w' := by
  have HF : Hid (¬ Hp.RightH h → rightB h = false) := rightB_f
  have HT : Hid (Hp.RightH h → rightB h = true) := rightB_t
  have HC : Hid (HIn w B a h cs ∧ (∀ x ∈ h, OkO x) ∧ (∀ i (hi : i < h.length), h[i].ps.length ≤ (cs i).pc)) := ⟨hh, hok.2, hcap⟩
  have HB0 : Hid (∀ o, Below w.heap.size w (w.alloc o)) := fun o => (Below.refl _ _).alloc (Nat.le_refl _) o
  have hn := hok.1
  generalize rightB h = R at *
  clear hok hh hcap
  go_enter Try.func15, Try.ntmps15
  by_cases hbig : 400 < h.length
  · have hbig' : (400 : Int) < (h.length : Int) := by omega
    have hR : Hid (R = false) := HF.out fun k => by have := k.1; omega
    go_wp2_with fail
    go_ret
    exact ⟨vretB hR.out.symm, HB0.out _⟩
  have hbig' : ¬ (400 : Int) < (h.length : Int) := by omega
  go_wp2_with fail
  generalize hW0 : w.alloc _ = W0
  have hBW : Below w.heap.size w W0 := by rw [← hW0]; exact HB0.out _
  have hX0 : W0.heap[w.heap.size]? = some (.cells #[.slice a h.length cap] 25 (0, 0)) := by rw [← hW0]; exact heap_alloc_new _ _
  have hS0 : w.heap.size < W0.heap.size := by rw [← hW0]; simp
  clear hW0 HB0
  go_loopw [4] (fun vi wr => ∃ i : Nat, i ≤ h.length ∧ vi = .int .i64 i ∧ Below W0.heap.size W0 wr ∧ Hid (∀ j (hj : j < h.length), j < i → Hp.RightO h.length j h[j])) (fun vi _ => h.length - (intOf vi).toNat)
  case atStart => exact ⟨0, Nat.zero_le _, rfl, Below.refl _ _, fun j _ h => by omega⟩
  case round =>
    obtain ⟨i, hi, rfl, hb, HE⟩ := hrel
    have hx0 := one_of' ((hb.block _ hS0).trans hX0)
    by_cases hlt : i < h.length
    case neg =>
      have hlt' : ¬ (i : Int) < (h.length : Int) := by omega
      have hR : Hid (R = true) := HT.out ⟨by omega, fun j hj => HE.out j hj (by omega)⟩
      go_wp2_with fail
      go_ret
      exact ⟨vretB hR.out.symm, hBW.trans (hb.mono hBW.size)⟩
    have hlt' : (i : Int) < (h.length : Int) := by omega
    obtain ⟨⟨hos, hps⟩, hokk, hcap⟩ := HC.out
    rcases hos with rfl | ⟨b, o, rfl, hB, hc⟩
    · simp at hlt
    have hbw : Below w.heap.size w wr := hBW.trans (hb.mono hBW.size)
    have h3 := (hc i hlt).keep hB (.of_below hbw B)
    have HPS : Hid (PsIn wr B (cs i).pa h[i].ps) := (hps i hlt).under hbw
    have hcp := hcap i hlt
    have HOK : Hid (OkO h[i]) := hokk _ (List.getElem_mem hlt)
    have HX1 : Hid (¬ Hp.RightO h.length i h[i] → R = false) := fun k => HF.out fun hR => k (hR.2 i hlt)
    have HX2 : Hid (Hp.RightO h.length i h[i] → ∀ j (hj : j < h.length), j < i + 1 → Hp.RightO h.length j h[j]) := fun k j hj hji => by
      by_cases e : j = i
      · subst e; exact k
      · exact HE.out j hj (by omega)
    clear hps hokk hcap hc
    generalize h[i] = x at *
    generalize cs i = c at *
    obtain ⟨cls, pro, ps⟩ := x
    obtain ⟨h60, h61, h62⟩ := h3
    dsimp only at h60 h61 h62 hcp HPS HOK HX1 HX2
    have HBX : Hid (∀ o, Below wr.heap.size wr (wr.alloc o)) := fun o => (Below.refl _ _).alloc (Nat.le_refl _) o
    by_cases c1 : cls < 0
    · have hR : Hid (R = false) := HX1.out fun h => by have := h.1; dsimp only at this; omega
      go_wp2_with fail
      go_ret
      exact ⟨vretB hR.out.symm, hbw.trans ((HBX.out _).mono hbw.size)⟩
    by_cases c2 : 2 < cls
    · have hR : Hid (R = false) := HX1.out fun h => by have := h.2.1; dsimp only at this; omega
      go_wp2_with fail
      go_ret
      exact ⟨vretB hR.out.symm, hbw.trans ((HBX.out _).mono hbw.size)⟩
    by_cases c3 : pro < -1
    · have hR : Hid (R = false) := HX1.out fun h => by have := h.2.2.1; dsimp only at this; omega
      go_wp2_with fail
      go_ret
      exact ⟨vretB hR.out.symm, hbw.trans ((HBX.out _).mono hbw.size)⟩
    by_cases c4 : (i : Int) ≤ pro
    · have hR : Hid (R = false) := HX1.out fun h => by have := h.2.2.2.1; dsimp only at this; omega
      go_wp2_with fail
      go_ret
      exact ⟨vretB hR.out.symm, hbw.trans ((HBX.out _).mono hbw.size)⟩
    have HT2 : Hid ((∀ p ∈ ps, Hp.RightP h.length p) → Hp.Unlike ps → Hp.RightO h.length i ⟨cls, pro, ps⟩) := fun h1 h2 => ⟨by dsimp only; omega, by dsimp only; omega, by dsimp only; omega, by dsimp only; omega, h1, h2⟩
    have HF2 : Hid (¬ ((∀ p ∈ ps, Hp.RightP h.length p) ∧ Hp.Unlike ps) → R = false) := fun h => HX1.out fun k => h ⟨k.2.2.2.2.1, k.2.2.2.2.2⟩
    go_wp2_with fail
    generalize hW1 : wr.alloc _ = W1
    have hB1 : Below wr.heap.size wr W1 := by rw [← hW1]; exact HBX.out _
    have hX1 : W1.heap[wr.heap.size]? = some (.cells #[.int .i64 cls, .int .i64 pro, .slice c.pa ps.length c.pc] 76 (0, 0)) := by rw [← hW1]; exact heap_alloc_new _ _
    have hS1 : wr.heap.size < W1.heap.size := by rw [← hW1]; simp
    clear hW1 c1 c2 c3 c4 HX1 HE HBX h60 h61 h62 hx0
    have hO0 : W0.heap.size ≤ wr.heap.size := hb.size
    have HWR : Hid (Below W0.heap.size W0 wr ∧ Below w.heap.size w wr ∧ Below wr.heap.size wr W1) := ⟨hb, hbw, hB1⟩
    clear hb hbw hB1
    generalize c.pa = pa at *
    generalize c.pc = pc at *
    obtain ⟨wo, rfl⟩ : ∃ x, x = wr := ⟨_, rfl⟩
    obtain ⟨O, hO⟩ : ∃ O, wo.heap.size = O := ⟨_, rfl⟩
    rw [hO] at hX1 hS1 hO0
    simp only [hO]
    go_loopw [6] (fun vk wx => ∃ k : Nat, k ≤ ps.length ∧ vk = .int .i64 k ∧ Below W1.heap.size W1 wx ∧ Hid ((∀ p ∈ ps.take k, Hp.RightP h.length p) ∧ Hp.Unlike (ps.take k))) (fun vk _ => ps.length - (intOf vk).toNat)
    case atStart => exact ⟨0, Nat.zero_le _, rfl, Below.refl _ _, by simp, by simp [Hp.Unlike]⟩
    case round =>
      obtain ⟨k, hk, rfl, hbx, HK⟩ := hrel
      obtain ⟨q0, q1, q2⟩ := three_of' ((hbx.block _ hS1).trans hX1)
      obtain ⟨hb, hbw, hB1⟩ := HWR.out
      have hwx : Below wo.heap.size wo wr := hB1.trans (hbx.mono hB1.size)
      have hw0x : Below w.heap.size w wr := hbw.trans (hwx.mono hbw.size)
      by_cases hkl : k < ps.length
      case neg =>
        have hkl' : ¬ (k : Int) < (ps.length : Int) := by omega
        have HNX : Hid (∀ j (hj : j < h.length), j < i + 1 → Hp.RightO h.length j h[j]) := HX2.out (HT2.out (by have := HK.out.1; rwa [List.take_of_length_le (by omega)] at this) (by have := HK.out.2; rwa [List.take_of_length_le (by omega)] at this))
        go_wp2_with fail
        exact ⟨⟨i + 1, by omega, by go_num, hb.trans (hwx.mono (by omega)), HNX⟩, by simp [intOf]; omega⟩
      have hkl' : (k : Int) < (ps.length : Int) := by omega
      have hkc : (k : Int) ≤ (pc : Int) := by omega
      rcases HPS.out with rfl | ⟨b', o', rfl, hB', hc'⟩
      · simp at hkl
      have h6 := (hc' k hkl).keep hB' (.of_below hwx B)
      have hpl : ps.length ≤ 9223372036854775807 := HOK.out.1
      have SV : Hid _ := fun (W : World) => sValueRight ps[k].v W
      have SO := fun (W : World) (hW : Below wr.heap.size wr W) => sOwn 0 0 (some ⟨b', o', none⟩) pc B (ps.take k) ps[k].key W (by simp; omega) ((HPS.out.take k).under (hwx.trans (hW.mono hwx.size)))
      rw [List.length_take, Nat.min_eq_left (by omega)] at SO
      have HBad : Hid (¬ Hp.RightP h.length ps[k] → R = false) := fun hb => HF2.out fun hh => hb (hh.1 _ (List.getElem_mem hkl))
      have HOwn : Hid (Hp.ownI (ps.take k) ps[k].key ≠ -1 → R = false) := fun hb => HF2.out fun hh => own_bad hkl hb hh.2
      have HNext : Hid (Hp.RightP h.length ps[k] → Hp.ownI (ps.take k) ps[k].key = -1 → (∀ p ∈ ps.take (k + 1), Hp.RightP h.length p) ∧ Hp.Unlike (ps.take (k + 1))) := fun h1 h2 => ⟨fun p hp => by
        rw [List.take_succ_eq_append_getElem hkl, List.mem_append] at hp
        rcases hp with hp | hp
        · exact HK.out.1 p hp
        · rw [List.mem_singleton.1 hp]; exact h1, own_good hkl h2 HK.out.2⟩
      have HOR : Hid (Hp.ownI (ps.take k) ps[k].key = -1 ∨ 0 ≤ Hp.ownI (ps.take k) ps[k].key) := by
        show _ ∨ _
        unfold Hp.ownI; split <;> omega
      unfold Hp.RightP at HBad HNext
      generalize Hp.ownI (ps.take k) ps[k].key = own at *
      clear hc' HK
      generalize ps[k] = x at *
      obtain ⟨key, ⟨vk, vn, vt⟩, hd, fx⟩ := x
      obtain ⟨h60, h61, h62, h63, h64, h65⟩ := h6
      dsimp only at h60 h61 h62 h63 h64 h65 HBad HNext SO
      generalize hRV : Val.right ⟨vk, vn, vt⟩ = rv at *
      unfold vC at SV
      dsimp only at SV
      have HSO : Hid _ := SO
      clear SO hRV
      have HBP : Hid (∀ o, Below wr.heap.size wr (wr.alloc o)) := fun o => (Below.refl _ _).alloc (Nat.le_refl _) o
      have hOlt : O < wr.heap.size := by have := hbx.size; omega
      have HXO : Hid (wr.heap[O]? = some (.cells #[.int .i64 cls, .int .i64 pro, .slice (some ⟨b', o', none⟩) ps.length pc] 76 (0, 0))) := (hbx.block _ hS1).trans hX1
      go_wp2_with fail
      generalize hWP : wr.alloc _ = wp
      have hBP : Below wr.heap.size wr wp := by rw [← hWP]; exact HBP.out _
      have hXP : wp.heap[wr.heap.size]? = some (.cells #[.string key, .int .i64 vk, .int .i64 vn, .string vt, .bool hd, .bool fx] 78 (0, 0)) := by rw [← hWP]; exact heap_alloc_new _ _
      have hSP : wr.heap.size < wp.heap.size := by rw [← hWP]; simp
      have hXO := (hBP.block _ hOlt).trans HXO.out
      have hSO : O < wp.heap.size := by omega
      clear hWP HBP h60 h61 h62 h63 h64 h65 q0 q1 q2
      have hbp : Below w.heap.size w wp := hw0x.trans (hBP.mono hw0x.size)
      have hbp1 : Below W1.heap.size W1 wp := hbx.trans (hBP.mono hbx.size)
      obtain ⟨a0, a1, a2, a3, a4, a5⟩ := six_of2 hXP
      obtain ⟨b0, b1, b2⟩ := three_of' hXO
      generalize wr.heap.size = P at *
      have HSW : Hid (∀ W, Below wp.heap.size wp W → (W.cell? ⟨P, 0, none⟩ = some (.string key) ∧ W.cell? ⟨P, 1, none⟩ = some (.int .i64 vk) ∧ W.cell? ⟨P, 2, none⟩ = some (.int .i64 vn) ∧ W.cell? ⟨P, 3, none⟩ = some (.string vt) ∧ W.cell? ⟨P, 4, none⟩ = some (.bool hd) ∧ W.cell? ⟨P, 5, none⟩ = some (.bool fx)) ∧ (W.cell? ⟨O, 0, none⟩ = some (.int .i64 cls) ∧ W.cell? ⟨O, 1, none⟩ = some (.int .i64 pro) ∧ W.cell? ⟨O, 2, none⟩ = some (.slice (some ⟨b', o', none⟩) ps.length pc))) := fun W hW => ⟨six_of2 ((hW.block _ hSP).trans hXP), three_of' ((hW.block _ hSO).trans hXO)⟩
      clear a0 a1 a2 a3 a4 a5 b0 b1 b2
      by_cases hs : 1000 < key.size
      · have hs' : (1000 : Int) < (key.size : Int) := by omega
        have hR : Hid (R = false) := HBad.out fun h => by have := h.1; omega
        refine wp_region_held_drew (S := fun w' => (w'.cell? ⟨P, 0, none⟩ = some (.string key) ∧ w'.cell? ⟨P, 1, none⟩ = some (.int .i64 vk) ∧ w'.cell? ⟨P, 2, none⟩ = some (.int .i64 vn) ∧ w'.cell? ⟨P, 3, none⟩ = some (.string vt) ∧ w'.cell? ⟨P, 4, none⟩ = some (.bool hd) ∧ w'.cell? ⟨P, 5, none⟩ = some (.bool fx)) ∧ (w'.cell? ⟨O, 0, none⟩ = some (.int .i64 cls) ∧ w'.cell? ⟨O, 1, none⟩ = some (.int .i64 pro) ∧ w'.cell? ⟨O, 2, none⟩ = some (.slice (some ⟨b', o', none⟩) ps.length pc))) (by kernel_rfl) (HSW.out _ (Below.refl wp.heap.size wp).drew) (fun hHeld => ?_)
        refine takeIn 0 (v := ?v1) rfl (by kernel_rfl) (by kernel_rfl) (by kernel_rfl) (fun _ _ _ h => h) ?w1 (by assumption) ?y1 ?r1
        case w1 => rfl
        case y1 => (intro w hSw; (try dsimp only at hSw); go_simp; first | done | with_reducible rfl)
        simp only [Act.put, List.setIfInBounds_toArray, List.set_cons_zero, List.set_cons_succ]
        refine takeIn 1 (v := ?v2) rfl (by kernel_rfl) (by kernel_rfl) (by kernel_rfl) (fun _ _ _ h => h) ?w2 (by assumption) ?y2 ?r2
        case w2 => rfl
        case y2 => (intro w hSw; (try dsimp only at hSw); go_simp; first | done | with_reducible rfl)
        simp only [Act.put, List.setIfInBounds_toArray, List.set_cons_zero, List.set_cons_succ]
        refine takeIn 2 (v := ?v3) rfl (by kernel_rfl) (by kernel_rfl) (by kernel_rfl) (fun _ _ _ h => h) ?w3 (by assumption) ?y3 ?r3
        case w3 => rfl
        case y3 => (intro w hSw; (try dsimp only at hSw); go_simp; first | done | with_reducible rfl)
        simp only [Act.put, List.setIfInBounds_toArray, List.set_cons_zero, List.set_cons_succ]
        refine takeIn 3 (v := ?v4) rfl (by kernel_rfl) (by kernel_rfl) (by kernel_rfl) (fun _ _ _ h => h) ?w4 (by assumption) ?y4 ?r4
        case w4 => rfl
        case y4 => (intro w hSw; (try dsimp only at hSw); go_simp; first | done | with_reducible rfl)
        simp only [Act.put, List.setIfInBounds_toArray, List.set_cons_zero, List.set_cons_succ]
        refine takeIn 4 (v := ?v5) rfl (by kernel_rfl) (by kernel_rfl) (by kernel_rfl) (fun _ _ _ h => h) ?w5 (by assumption) ?y5 ?r5
        case w5 => rfl
        case y5 => (intro w hSw; (try dsimp only at hSw); go_simp; first | done | with_reducible rfl)
        simp only [Act.put, List.setIfInBounds_toArray, List.set_cons_zero, List.set_cons_succ]
        refine takeOut 5 rfl (by kernel_rfl) (by kernel_rfl) (by kernel_rfl) (fun _ _ _ h => h) ?w6 (by assumption) ?r6
        case w6 => rfl
        simp only [Act.put, List.setIfInBounds_toArray, List.set_cons_zero, List.set_cons_succ]
        refine takeOut 6 rfl (by kernel_rfl) (by kernel_rfl) (by kernel_rfl) (fun _ _ _ h => h) ?w7 (by assumption) ?r7
        case w7 => rfl
        simp only [Act.put, List.setIfInBounds_toArray, List.set_cons_zero, List.set_cons_succ]
        refine takeOut 7 rfl (by kernel_rfl) (by kernel_rfl) (by kernel_rfl) (fun _ _ _ h => h) ?w8 (by assumption) ?r8
        case w8 => rfl
        simp only [Act.put, List.setIfInBounds_toArray, List.set_cons_zero, List.set_cons_succ]
        refine takeOut 8 rfl (by kernel_rfl) (by kernel_rfl) (by kernel_rfl) (fun _ _ _ h => h) ?w9 (by assumption) ?r9
        case w9 => rfl
        simp only [Act.put, List.setIfInBounds_toArray, List.set_cons_zero, List.set_cons_succ]
        refine takeIn 9 (v := ?v10) rfl (by kernel_rfl) (by kernel_rfl) (by kernel_rfl) (fun _ _ _ h => h) ?w10 (by assumption) ?y10 ?r10
        case w10 => rfl
        case y10 => (intro w hSw; (try dsimp only at hSw); go_simp; first | done | with_reducible rfl)
        simp only [Act.put, List.setIfInBounds_toArray, List.set_cons_zero, List.set_cons_succ]
        refine takeIn 10 (v := ?v11) rfl (by kernel_rfl) (by kernel_rfl) (by kernel_rfl) (fun _ _ _ h => h) ?w11 (by assumption) ?y11 ?r11
        case w11 => rfl
        case y11 => (intro w hSw; (try dsimp only at hSw); go_simp; first | done | with_reducible rfl)
        simp only [Act.put, List.setIfInBounds_toArray, List.set_cons_zero, List.set_cons_succ]
        refine takeOut 11 rfl (by kernel_rfl) (by kernel_rfl) (by kernel_rfl) (fun _ _ _ h => h) ?w12 (by assumption) ?r12
        case w12 => rfl
        simp only [Act.put, List.setIfInBounds_toArray, List.set_cons_zero, List.set_cons_succ]
        refine takeOut 12 rfl (by kernel_rfl) (by kernel_rfl) (by kernel_rfl) (fun _ _ _ h => h) ?w13 (by assumption) ?r13
        case w13 => rfl
        simp only [Act.put, List.setIfInBounds_toArray, List.set_cons_zero, List.set_cons_succ]
        refine takeOut 13 rfl (by kernel_rfl) (by kernel_rfl) (by kernel_rfl) (fun _ _ _ h => h) ?w14 (by assumption) ?r14
        case w14 => rfl
        simp only [Act.put, List.setIfInBounds_toArray, List.set_cons_zero, List.set_cons_succ]
        refine takeOut 14 rfl (by kernel_rfl) (by kernel_rfl) (by kernel_rfl) (fun _ _ _ h => h) ?w15 (by assumption) ?r15
        case w15 => rfl
        simp only [Act.put, List.setIfInBounds_toArray, List.set_cons_zero, List.set_cons_succ]
        refine takeOut 15 rfl (by kernel_rfl) (by kernel_rfl) (by kernel_rfl) (fun _ _ _ h => h) ?w16 (by assumption) ?r16
        case w16 => rfl
        simp only [Act.put, List.setIfInBounds_toArray, List.set_cons_zero, List.set_cons_succ]
        refine takeOut 16 rfl (by kernel_rfl) (by kernel_rfl) (by kernel_rfl) (fun _ _ _ h => h) ?w17 (by assumption) ?r17
        case w17 => rfl
        simp only [Act.put, List.setIfInBounds_toArray, List.set_cons_zero, List.set_cons_succ]
        refine takeOut 17 rfl (by kernel_rfl) (by kernel_rfl) (by kernel_rfl) (fun _ _ _ h => h) ?w18 (by assumption) ?r18
        case w18 => rfl
        simp only [Act.put, List.setIfInBounds_toArray, List.set_cons_zero, List.set_cons_succ]
        refine takeOut 18 rfl (by kernel_rfl) (by kernel_rfl) (by kernel_rfl) (fun _ _ _ h => h) ?w19 (by assumption) ?r19
        case w19 => rfl
        simp only [Act.put, List.setIfInBounds_toArray, List.set_cons_zero, List.set_cons_succ]
        refine takeOut 19 rfl (by kernel_rfl) (by kernel_rfl) (by kernel_rfl) (fun _ _ _ h => h) ?w20 (by assumption) ?r20
        case w20 => rfl
        simp only [Act.put, List.setIfInBounds_toArray, List.set_cons_zero, List.set_cons_succ]
        refine takeOut 20 rfl (by kernel_rfl) (by kernel_rfl) (by kernel_rfl) (fun _ _ _ h => h) ?w21 (by assumption) ?r21
        case w21 => rfl
        simp only [Act.put, List.setIfInBounds_toArray, List.set_cons_zero, List.set_cons_succ]
        refine takeOut 21 rfl (by kernel_rfl) (by kernel_rfl) (by kernel_rfl) (fun _ _ _ h => h) ?w22 (by assumption) ?r22
        case w22 => rfl
        simp only [Act.put, List.setIfInBounds_toArray, List.set_cons_zero, List.set_cons_succ]
        refine takeIn 22 (v := ?v23) rfl (by kernel_rfl) (by kernel_rfl) (by kernel_rfl) (fun _ _ _ h => h) ?w23 (by assumption) ?y23 ?r23
        case w23 => rfl
        case y23 => (intro w hSw; (try dsimp only at hSw); go_simp; first | done | with_reducible rfl)
        simp only [Act.put, List.setIfInBounds_toArray, List.set_cons_zero, List.set_cons_succ]
        refine takeIn 23 (v := ?v24) rfl (by kernel_rfl) (by kernel_rfl) (by kernel_rfl) (fun _ _ _ h => h) ?w24 (by assumption) ?y24 ?r24
        case w24 => rfl
        case y24 => (intro w hSw; (try dsimp only at hSw); go_simp; first | done | with_reducible rfl)
        simp only [Act.put, List.setIfInBounds_toArray, List.set_cons_zero, List.set_cons_succ]
        refine takeOut 24 rfl (by kernel_rfl) (by kernel_rfl) (by kernel_rfl) (fun _ _ _ h => h) ?w25 (by assumption) ?r25
        case w25 => rfl
        simp only [Act.put, List.setIfInBounds_toArray, List.set_cons_zero, List.set_cons_succ]
        refine takeOut 25 rfl (by kernel_rfl) (by kernel_rfl) (by kernel_rfl) (fun _ _ _ h => h) ?w26 (by assumption) ?r26
        case w26 => rfl
        simp only [Act.put, List.setIfInBounds_toArray, List.set_cons_zero, List.set_cons_succ]
        refine takeOut 26 rfl (by kernel_rfl) (by kernel_rfl) (by kernel_rfl) (fun _ _ _ h => h) ?w27 (by assumption) ?r27
        case w27 => rfl
        simp only [Act.put, List.setIfInBounds_toArray, List.set_cons_zero, List.set_cons_succ]
        refine takeOut 27 rfl (by kernel_rfl) (by kernel_rfl) (by kernel_rfl) (fun _ _ _ h => h) ?w28 (by assumption) ?r28
        case w28 => rfl
        simp only [Act.put, List.setIfInBounds_toArray, List.set_cons_zero, List.set_cons_succ]
        refine takeOut 28 rfl (by kernel_rfl) (by kernel_rfl) (by kernel_rfl) (fun _ _ _ h => h) ?w29 (by assumption) ?r29
        case w29 => rfl
        simp only [Act.put, List.setIfInBounds_toArray, List.set_cons_zero, List.set_cons_succ]
        refine takeOut 29 rfl (by kernel_rfl) (by kernel_rfl) (by kernel_rfl) (fun _ _ _ h => h) ?w30 (by assumption) ?r30
        case w30 => rfl
        simp only [Act.put, List.setIfInBounds_toArray, List.set_cons_zero, List.set_cons_succ]
        refine takeOut 30 rfl (by kernel_rfl) (by kernel_rfl) (by kernel_rfl) (fun _ _ _ h => h) ?w31 (by assumption) ?r31
        case w31 => rfl
        simp only [Act.put, List.setIfInBounds_toArray, List.set_cons_zero, List.set_cons_succ]
        refine takeOut 31 rfl (by kernel_rfl) (by kernel_rfl) (by kernel_rfl) (fun _ _ _ h => h) ?w32 (by assumption) ?r32
        case w32 => rfl
        simp only [Act.put, List.setIfInBounds_toArray, List.set_cons_zero, List.set_cons_succ]
        refine takeOut 32 rfl (by kernel_rfl) (by kernel_rfl) (by kernel_rfl) (fun _ _ _ h => h) ?w33 (by assumption) ?r33
        case w33 => rfl
        simp only [Act.put, List.setIfInBounds_toArray, List.set_cons_zero, List.set_cons_succ]
        refine takeIn 33 (v := ?v34) rfl (by kernel_rfl) (by kernel_rfl) (by kernel_rfl) (fun _ _ _ h => h) ?w34 (by assumption) ?y34 ?r34
        case w34 => rfl
        case y34 => (intro w hSw; (try dsimp only at hSw); go_simp; first | done | with_reducible rfl)
        simp only [Act.put, List.setIfInBounds_toArray, List.set_cons_zero, List.set_cons_succ]
        refine wpAnyH_done (by kernel_rfl) ?_ _
        go_wp2_with fail
        go_ret
        exact ⟨vretB hR.out.symm, hbp.drew⟩
      have hs' : ¬ (1000 : Int) < (key.size : Int) := by omega
      cases rv
      · have hR : Hid (R = false) := HBad.out fun h => by cases h.2.1
        refine wp_region_held_drew (S := fun w' => (w'.cell? ⟨P, 0, none⟩ = some (.string key) ∧ w'.cell? ⟨P, 1, none⟩ = some (.int .i64 vk) ∧ w'.cell? ⟨P, 2, none⟩ = some (.int .i64 vn) ∧ w'.cell? ⟨P, 3, none⟩ = some (.string vt) ∧ w'.cell? ⟨P, 4, none⟩ = some (.bool hd) ∧ w'.cell? ⟨P, 5, none⟩ = some (.bool fx)) ∧ (w'.cell? ⟨O, 0, none⟩ = some (.int .i64 cls) ∧ w'.cell? ⟨O, 1, none⟩ = some (.int .i64 pro) ∧ w'.cell? ⟨O, 2, none⟩ = some (.slice (some ⟨b', o', none⟩) ps.length pc))) (by kernel_rfl) (HSW.out _ (Below.refl wp.heap.size wp).drew) (fun hHeld => ?_)
        refine takeIn 0 (v := ?v35) rfl (by kernel_rfl) (by kernel_rfl) (by kernel_rfl) (fun _ _ _ h => h) ?w35 (by assumption) ?y35 ?r35
        case w35 => rfl
        case y35 => (intro w hSw; (try dsimp only at hSw); go_simp; first | done | with_reducible rfl)
        simp only [Act.put, List.setIfInBounds_toArray, List.set_cons_zero, List.set_cons_succ]
        refine takeIn 1 (v := ?v36) rfl (by kernel_rfl) (by kernel_rfl) (by kernel_rfl) (fun _ _ _ h => h) ?w36 (by assumption) ?y36 ?r36
        case w36 => rfl
        case y36 => (intro w hSw; (try dsimp only at hSw); go_simp; first | done | with_reducible rfl)
        simp only [Act.put, List.setIfInBounds_toArray, List.set_cons_zero, List.set_cons_succ]
        refine takeIn 2 (v := ?v37) rfl (by kernel_rfl) (by kernel_rfl) (by kernel_rfl) (fun _ _ _ h => h) ?w37 (by assumption) ?y37 ?r37
        case w37 => rfl
        case y37 => (intro w hSw; (try dsimp only at hSw); go_simp; first | done | with_reducible rfl)
        simp only [Act.put, List.setIfInBounds_toArray, List.set_cons_zero, List.set_cons_succ]
        refine takeIn 3 (v := ?v38) rfl (by kernel_rfl) (by kernel_rfl) (by kernel_rfl) (fun _ _ _ h => h) ?w38 (by assumption) ?y38 ?r38
        case w38 => rfl
        case y38 => (intro w hSw; (try dsimp only at hSw); go_simp; first | done | with_reducible rfl)
        simp only [Act.put, List.setIfInBounds_toArray, List.set_cons_zero, List.set_cons_succ]
        refine takeIn 4 (v := ?v39) rfl (by kernel_rfl) (by kernel_rfl) (by kernel_rfl) (fun _ _ _ h => h) ?w39 (by assumption) ?y39 ?r39
        case w39 => rfl
        case y39 => (intro w hSw; (try dsimp only at hSw); go_simp; first | done | with_reducible rfl)
        simp only [Act.put, List.setIfInBounds_toArray, List.set_cons_zero, List.set_cons_succ]
        refine takeIn 5 (v := ?v40) rfl (by kernel_rfl) (by kernel_rfl) (by kernel_rfl) (fun _ _ _ h => h) ?w40 (by assumption) ?y40 ?r40
        case w40 => rfl
        case y40 => (intro w hSw; (try dsimp only at hSw); go_simp; first | done | with_reducible rfl)
        simp only [Act.put, List.setIfInBounds_toArray, List.set_cons_zero, List.set_cons_succ]
        refine takeIn 6 (v := ?v41) rfl (by kernel_rfl) (by kernel_rfl) (by kernel_rfl) (fun _ _ _ h => h) ?w41 (by assumption) ?y41 ?r41
        case w41 => rfl
        case y41 => (intro w hSw; (try dsimp only at hSw); go_simp; first | done | with_reducible rfl)
        simp only [Act.put, List.setIfInBounds_toArray, List.set_cons_zero, List.set_cons_succ]
        refine oneUp 7 rfl (by kernel_rfl) (by rfl) (fun K hK => ?_)
        go_simp
        refine (SV.out _).mono ?_
        rintro e WA ⟨rfl, hA⟩
        have hA2 : Below wp.heap.size wp WA := (Below.refl wp.heap.size wp).drew.trans hA
        refine hK.out _ _ ?_ (fun hHeld => ?_)
        · (try dsimp only); exact HSW.out _ hA2
        clear hK K
        try simp only [Act.put, List.setIfInBounds_toArray, List.set_cons_zero, List.set_cons_succ]
        refine takeIn 8 (v := ?v42) rfl (by kernel_rfl) (by kernel_rfl) (by kernel_rfl) (fun _ _ _ h => h) ?w42 (by assumption) ?y42 ?r42
        case w42 => rfl
        case y42 => (intro w hSw; (try dsimp only at hSw); go_simp; first | done | with_reducible rfl)
        simp only [Act.put, List.setIfInBounds_toArray, List.set_cons_zero, List.set_cons_succ]
        refine takeIn 9 (v := ?v43) rfl (by kernel_rfl) (by kernel_rfl) (by kernel_rfl) (fun _ _ _ h => h) ?w43 (by assumption) ?y43 ?r43
        case w43 => rfl
        case y43 => (intro w hSw; (try dsimp only at hSw); go_simp; first | done | with_reducible rfl)
        simp only [Act.put, List.setIfInBounds_toArray, List.set_cons_zero, List.set_cons_succ]
        refine takeIn 10 (v := ?v44) rfl (by kernel_rfl) (by kernel_rfl) (by kernel_rfl) (fun _ _ _ h => h) ?w44 (by assumption) ?y44 ?r44
        case w44 => rfl
        case y44 => (intro w hSw; (try dsimp only at hSw); go_simp; first | done | with_reducible rfl)
        simp only [Act.put, List.setIfInBounds_toArray, List.set_cons_zero, List.set_cons_succ]
        refine takeOut 11 rfl (by kernel_rfl) (by kernel_rfl) (by kernel_rfl) (fun _ _ _ h => h) ?w45 (by assumption) ?r45
        case w45 => rfl
        simp only [Act.put, List.setIfInBounds_toArray, List.set_cons_zero, List.set_cons_succ]
        refine takeOut 12 rfl (by kernel_rfl) (by kernel_rfl) (by kernel_rfl) (fun _ _ _ h => h) ?w46 (by assumption) ?r46
        case w46 => rfl
        simp only [Act.put, List.setIfInBounds_toArray, List.set_cons_zero, List.set_cons_succ]
        refine takeOut 13 rfl (by kernel_rfl) (by kernel_rfl) (by kernel_rfl) (fun _ _ _ h => h) ?w47 (by assumption) ?r47
        case w47 => rfl
        simp only [Act.put, List.setIfInBounds_toArray, List.set_cons_zero, List.set_cons_succ]
        refine takeOut 14 rfl (by kernel_rfl) (by kernel_rfl) (by kernel_rfl) (fun _ _ _ h => h) ?w48 (by assumption) ?r48
        case w48 => rfl
        simp only [Act.put, List.setIfInBounds_toArray, List.set_cons_zero, List.set_cons_succ]
        refine takeOut 15 rfl (by kernel_rfl) (by kernel_rfl) (by kernel_rfl) (fun _ _ _ h => h) ?w49 (by assumption) ?r49
        case w49 => rfl
        simp only [Act.put, List.setIfInBounds_toArray, List.set_cons_zero, List.set_cons_succ]
        refine takeOut 16 rfl (by kernel_rfl) (by kernel_rfl) (by kernel_rfl) (fun _ _ _ h => h) ?w50 (by assumption) ?r50
        case w50 => rfl
        simp only [Act.put, List.setIfInBounds_toArray, List.set_cons_zero, List.set_cons_succ]
        refine takeOut 17 rfl (by kernel_rfl) (by kernel_rfl) (by kernel_rfl) (fun _ _ _ h => h) ?w51 (by assumption) ?r51
        case w51 => rfl
        simp only [Act.put, List.setIfInBounds_toArray, List.set_cons_zero, List.set_cons_succ]
        refine takeOut 18 rfl (by kernel_rfl) (by kernel_rfl) (by kernel_rfl) (fun _ _ _ h => h) ?w52 (by assumption) ?r52
        case w52 => rfl
        simp only [Act.put, List.setIfInBounds_toArray, List.set_cons_zero, List.set_cons_succ]
        refine takeOut 19 rfl (by kernel_rfl) (by kernel_rfl) (by kernel_rfl) (fun _ _ _ h => h) ?w53 (by assumption) ?r53
        case w53 => rfl
        simp only [Act.put, List.setIfInBounds_toArray, List.set_cons_zero, List.set_cons_succ]
        refine takeOut 20 rfl (by kernel_rfl) (by kernel_rfl) (by kernel_rfl) (fun _ _ _ h => h) ?w54 (by assumption) ?r54
        case w54 => rfl
        simp only [Act.put, List.setIfInBounds_toArray, List.set_cons_zero, List.set_cons_succ]
        refine takeOut 21 rfl (by kernel_rfl) (by kernel_rfl) (by kernel_rfl) (fun _ _ _ h => h) ?w55 (by assumption) ?r55
        case w55 => rfl
        simp only [Act.put, List.setIfInBounds_toArray, List.set_cons_zero, List.set_cons_succ]
        refine takeIn 22 (v := ?v56) rfl (by kernel_rfl) (by kernel_rfl) (by kernel_rfl) (fun _ _ _ h => h) ?w56 (by assumption) ?y56 ?r56
        case w56 => rfl
        case y56 => (intro w hSw; (try dsimp only at hSw); go_simp; first | done | with_reducible rfl)
        simp only [Act.put, List.setIfInBounds_toArray, List.set_cons_zero, List.set_cons_succ]
        refine takeIn 23 (v := ?v57) rfl (by kernel_rfl) (by kernel_rfl) (by kernel_rfl) (fun _ _ _ h => h) ?w57 (by assumption) ?y57 ?r57
        case w57 => rfl
        case y57 => (intro w hSw; (try dsimp only at hSw); go_simp; first | done | with_reducible rfl)
        simp only [Act.put, List.setIfInBounds_toArray, List.set_cons_zero, List.set_cons_succ]
        refine takeOut 24 rfl (by kernel_rfl) (by kernel_rfl) (by kernel_rfl) (fun _ _ _ h => h) ?w58 (by assumption) ?r58
        case w58 => rfl
        simp only [Act.put, List.setIfInBounds_toArray, List.set_cons_zero, List.set_cons_succ]
        refine takeOut 25 rfl (by kernel_rfl) (by kernel_rfl) (by kernel_rfl) (fun _ _ _ h => h) ?w59 (by assumption) ?r59
        case w59 => rfl
        simp only [Act.put, List.setIfInBounds_toArray, List.set_cons_zero, List.set_cons_succ]
        refine takeOut 26 rfl (by kernel_rfl) (by kernel_rfl) (by kernel_rfl) (fun _ _ _ h => h) ?w60 (by assumption) ?r60
        case w60 => rfl
        simp only [Act.put, List.setIfInBounds_toArray, List.set_cons_zero, List.set_cons_succ]
        refine takeOut 27 rfl (by kernel_rfl) (by kernel_rfl) (by kernel_rfl) (fun _ _ _ h => h) ?w61 (by assumption) ?r61
        case w61 => rfl
        simp only [Act.put, List.setIfInBounds_toArray, List.set_cons_zero, List.set_cons_succ]
        refine takeOut 28 rfl (by kernel_rfl) (by kernel_rfl) (by kernel_rfl) (fun _ _ _ h => h) ?w62 (by assumption) ?r62
        case w62 => rfl
        simp only [Act.put, List.setIfInBounds_toArray, List.set_cons_zero, List.set_cons_succ]
        refine takeOut 29 rfl (by kernel_rfl) (by kernel_rfl) (by kernel_rfl) (fun _ _ _ h => h) ?w63 (by assumption) ?r63
        case w63 => rfl
        simp only [Act.put, List.setIfInBounds_toArray, List.set_cons_zero, List.set_cons_succ]
        refine takeOut 30 rfl (by kernel_rfl) (by kernel_rfl) (by kernel_rfl) (fun _ _ _ h => h) ?w64 (by assumption) ?r64
        case w64 => rfl
        simp only [Act.put, List.setIfInBounds_toArray, List.set_cons_zero, List.set_cons_succ]
        refine takeOut 31 rfl (by kernel_rfl) (by kernel_rfl) (by kernel_rfl) (fun _ _ _ h => h) ?w65 (by assumption) ?r65
        case w65 => rfl
        simp only [Act.put, List.setIfInBounds_toArray, List.set_cons_zero, List.set_cons_succ]
        refine takeOut 32 rfl (by kernel_rfl) (by kernel_rfl) (by kernel_rfl) (fun _ _ _ h => h) ?w66 (by assumption) ?r66
        case w66 => rfl
        simp only [Act.put, List.setIfInBounds_toArray, List.set_cons_zero, List.set_cons_succ]
        refine takeIn 33 (v := ?v67) rfl (by kernel_rfl) (by kernel_rfl) (by kernel_rfl) (fun _ _ _ h => h) ?w67 (by assumption) ?y67 ?r67
        case w67 => rfl
        case y67 => (intro w hSw; (try dsimp only at hSw); go_simp; first | done | with_reducible rfl)
        simp only [Act.put, List.setIfInBounds_toArray, List.set_cons_zero, List.set_cons_succ]
        refine wpAnyH_done (by kernel_rfl) ?_ _
        go_wp2_with fail
        go_ret
        exact ⟨vretB hR.out.symm, hbp.trans (hA2.mono hbp.size)⟩
      by_cases h6 : vk = 6
      · have h6a : (vk == 6) = true := by simp [h6]
        have H6 : Hid (vk = 6) := h6
        clear h6
        by_cases hm : (h.length : Int) ≤ vn
        · have hmd : decide ((h.length : Int) ≤ vn) = true := decide_eq_true hm
          have hR : Hid (R = false) := HBad.out fun h => by have := h.2.2 H6.out; omega
          refine wp_region_held_drew (S := fun w' => (w'.cell? ⟨P, 0, none⟩ = some (.string key) ∧ w'.cell? ⟨P, 1, none⟩ = some (.int .i64 vk) ∧ w'.cell? ⟨P, 2, none⟩ = some (.int .i64 vn) ∧ w'.cell? ⟨P, 3, none⟩ = some (.string vt) ∧ w'.cell? ⟨P, 4, none⟩ = some (.bool hd) ∧ w'.cell? ⟨P, 5, none⟩ = some (.bool fx)) ∧ (w'.cell? ⟨O, 0, none⟩ = some (.int .i64 cls) ∧ w'.cell? ⟨O, 1, none⟩ = some (.int .i64 pro) ∧ w'.cell? ⟨O, 2, none⟩ = some (.slice (some ⟨b', o', none⟩) ps.length pc))) (by kernel_rfl) (HSW.out _ (Below.refl wp.heap.size wp).drew) (fun hHeld => ?_)
          refine takeIn 0 (v := ?v68) rfl (by kernel_rfl) (by kernel_rfl) (by kernel_rfl) (fun _ _ _ h => h) ?w68 (by assumption) ?y68 ?r68
          case w68 => rfl
          case y68 => (intro w hSw; (try dsimp only at hSw); go_simp; first | done | with_reducible rfl)
          simp only [Act.put, List.setIfInBounds_toArray, List.set_cons_zero, List.set_cons_succ]
          refine takeIn 1 (v := ?v69) rfl (by kernel_rfl) (by kernel_rfl) (by kernel_rfl) (fun _ _ _ h => h) ?w69 (by assumption) ?y69 ?r69
          case w69 => rfl
          case y69 => (intro w hSw; (try dsimp only at hSw); go_simp; first | done | with_reducible rfl)
          simp only [Act.put, List.setIfInBounds_toArray, List.set_cons_zero, List.set_cons_succ]
          refine takeIn 2 (v := ?v70) rfl (by kernel_rfl) (by kernel_rfl) (by kernel_rfl) (fun _ _ _ h => h) ?w70 (by assumption) ?y70 ?r70
          case w70 => rfl
          case y70 => (intro w hSw; (try dsimp only at hSw); go_simp; first | done | with_reducible rfl)
          simp only [Act.put, List.setIfInBounds_toArray, List.set_cons_zero, List.set_cons_succ]
          refine takeIn 3 (v := ?v71) rfl (by kernel_rfl) (by kernel_rfl) (by kernel_rfl) (fun _ _ _ h => h) ?w71 (by assumption) ?y71 ?r71
          case w71 => rfl
          case y71 => (intro w hSw; (try dsimp only at hSw); go_simp; first | done | with_reducible rfl)
          simp only [Act.put, List.setIfInBounds_toArray, List.set_cons_zero, List.set_cons_succ]
          refine takeIn 4 (v := ?v72) rfl (by kernel_rfl) (by kernel_rfl) (by kernel_rfl) (fun _ _ _ h => h) ?w72 (by assumption) ?y72 ?r72
          case w72 => rfl
          case y72 => (intro w hSw; (try dsimp only at hSw); go_simp; first | done | with_reducible rfl)
          simp only [Act.put, List.setIfInBounds_toArray, List.set_cons_zero, List.set_cons_succ]
          refine takeIn 5 (v := ?v73) rfl (by kernel_rfl) (by kernel_rfl) (by kernel_rfl) (fun _ _ _ h => h) ?w73 (by assumption) ?y73 ?r73
          case w73 => rfl
          case y73 => (intro w hSw; (try dsimp only at hSw); go_simp; first | done | with_reducible rfl)
          simp only [Act.put, List.setIfInBounds_toArray, List.set_cons_zero, List.set_cons_succ]
          refine takeIn 6 (v := ?v74) rfl (by kernel_rfl) (by kernel_rfl) (by kernel_rfl) (fun _ _ _ h => h) ?w74 (by assumption) ?y74 ?r74
          case w74 => rfl
          case y74 => (intro w hSw; (try dsimp only at hSw); go_simp; first | done | with_reducible rfl)
          simp only [Act.put, List.setIfInBounds_toArray, List.set_cons_zero, List.set_cons_succ]
          refine oneUp 7 rfl (by kernel_rfl) (by rfl) (fun K hK => ?_)
          go_simp
          refine (SV.out _).mono ?_
          rintro e WA ⟨rfl, hA⟩
          have hA2 : Below wp.heap.size wp WA := (Below.refl wp.heap.size wp).drew.trans hA
          refine hK.out _ _ ?_ (fun hHeld => ?_)
          · (try dsimp only); exact HSW.out _ hA2
          clear hK K
          try simp only [Act.put, List.setIfInBounds_toArray, List.set_cons_zero, List.set_cons_succ]
          refine takeIn 8 (v := ?v75) rfl (by kernel_rfl) (by kernel_rfl) (by kernel_rfl) (fun _ _ _ h => h) ?w75 (by assumption) ?y75 ?r75
          case w75 => rfl
          case y75 => (intro w hSw; (try dsimp only at hSw); go_simp; first | done | with_reducible rfl)
          simp only [Act.put, List.setIfInBounds_toArray, List.set_cons_zero, List.set_cons_succ]
          refine takeIn 9 (v := ?v76) rfl (by kernel_rfl) (by kernel_rfl) (by kernel_rfl) (fun _ _ _ h => h) ?w76 (by assumption) ?y76 ?r76
          case w76 => rfl
          case y76 => (intro w hSw; (try dsimp only at hSw); go_simp; first | done | with_reducible rfl)
          simp only [Act.put, List.setIfInBounds_toArray, List.set_cons_zero, List.set_cons_succ]
          refine takeIn 10 (v := ?v77) rfl (by kernel_rfl) (by kernel_rfl) (by kernel_rfl) (fun _ _ _ h => h) ?w77 (by assumption) ?y77 ?r77
          case w77 => rfl
          case y77 => (intro w hSw; (try dsimp only at hSw); go_simp; first | done | with_reducible rfl)
          simp only [Act.put, List.setIfInBounds_toArray, List.set_cons_zero, List.set_cons_succ]
          refine takeIn 11 (v := ?v78) rfl (by kernel_rfl) (by kernel_rfl) (by kernel_rfl) (fun _ _ _ h => h) ?w78 (by assumption) ?y78 ?r78
          case w78 => rfl
          case y78 => (intro w hSw; (try dsimp only at hSw); go_simp; first | done | with_reducible rfl)
          simp only [Act.put, List.setIfInBounds_toArray, List.set_cons_zero, List.set_cons_succ]
          refine takeIn 12 (v := ?v79) rfl (by kernel_rfl) (by kernel_rfl) (by kernel_rfl) (fun _ _ _ h => h) ?w79 (by assumption) ?y79 ?r79
          case w79 => rfl
          case y79 => (intro w hSw; (try dsimp only at hSw); go_simp; first | done | with_reducible rfl)
          simp only [Act.put, List.setIfInBounds_toArray, List.set_cons_zero, List.set_cons_succ]
          refine takeIn 13 (v := ?v80) rfl (by kernel_rfl) (by kernel_rfl) (by kernel_rfl) (fun _ _ _ h => h) ?w80 (by assumption) ?y80 ?r80
          case w80 => rfl
          case y80 => (intro w hSw; (try dsimp only at hSw); go_simp; first | done | with_reducible rfl)
          simp only [Act.put, List.setIfInBounds_toArray, List.set_cons_zero, List.set_cons_succ]
          refine takeIn 14 (v := ?v81) rfl (by kernel_rfl) (by kernel_rfl) (by kernel_rfl) (fun _ _ _ h => h) ?w81 (by assumption) ?y81 ?r81
          case w81 => rfl
          case y81 => (intro w hSw; (try dsimp only at hSw); go_simp; first | done | with_reducible rfl)
          simp only [Act.put, List.setIfInBounds_toArray, List.set_cons_zero, List.set_cons_succ]
          refine takeIn 15 (v := ?v82) rfl (by kernel_rfl) (by kernel_rfl) (by kernel_rfl) (fun _ _ _ h => h) ?w82 (by assumption) ?y82 ?r82
          case w82 => rfl
          case y82 => (intro w hSw; (try dsimp only at hSw); go_simp; first | done | with_reducible rfl)
          simp only [Act.put, List.setIfInBounds_toArray, List.set_cons_zero, List.set_cons_succ]
          refine takeIn 16 (v := ?v83) rfl (by kernel_rfl) (by kernel_rfl) (by kernel_rfl) (fun _ _ _ h => h) ?w83 (by assumption) ?y83 ?r83
          case w83 => rfl
          case y83 => (intro w hSw; (try dsimp only at hSw); go_simp; first | done | with_reducible rfl)
          simp only [Act.put, List.setIfInBounds_toArray, List.set_cons_zero, List.set_cons_succ]
          refine takeIn 17 (v := ?v84) rfl (by kernel_rfl) (by kernel_rfl) (by kernel_rfl) (fun _ _ _ h => h) ?w84 (by assumption) ?y84 ?r84
          case w84 => rfl
          case y84 => (intro w hSw; (try dsimp only at hSw); go_simp; first | done | with_reducible rfl)
          simp only [Act.put, List.setIfInBounds_toArray, List.set_cons_zero, List.set_cons_succ]
          refine takeIn 18 (v := ?v85) rfl (by kernel_rfl) (by kernel_rfl) (by kernel_rfl) (fun _ _ _ h => h) ?w85 (by assumption) ?y85 ?r85
          case w85 => rfl
          case y85 => (intro w hSw; (try dsimp only at hSw); go_simp; first | done | with_reducible rfl)
          simp only [Act.put, List.setIfInBounds_toArray, List.set_cons_zero, List.set_cons_succ]
          refine takeIn 19 (v := ?v86) rfl (by kernel_rfl) (by kernel_rfl) (by kernel_rfl) (fun _ _ _ h => h) ?w86 (by assumption) ?y86 ?r86
          case w86 => rfl
          case y86 => (intro w hSw; (try dsimp only at hSw); go_simp; first | done | with_reducible rfl)
          simp only [Act.put, List.setIfInBounds_toArray, List.set_cons_zero, List.set_cons_succ]
          refine takeIn 20 (v := ?v87) rfl (by kernel_rfl) (by kernel_rfl) (by kernel_rfl) (fun _ _ _ h => h) ?w87 (by assumption) ?y87 ?r87
          case w87 => rfl
          case y87 => (intro w hSw; (try dsimp only at hSw); go_simp; first | done | with_reducible rfl)
          simp only [Act.put, List.setIfInBounds_toArray, List.set_cons_zero, List.set_cons_succ]
          refine takeIn 21 (v := ?v88) rfl (by kernel_rfl) (by kernel_rfl) (by kernel_rfl) (fun _ _ _ h => h) ?w88 (by assumption) ?y88 ?r88
          case w88 => rfl
          case y88 => (intro w hSw; (try dsimp only at hSw); go_simp; first | done | with_reducible rfl)
          simp only [Act.put, List.setIfInBounds_toArray, List.set_cons_zero, List.set_cons_succ]
          refine takeIn 22 (v := ?v89) rfl (by kernel_rfl) (by kernel_rfl) (by kernel_rfl) (fun _ _ _ h => h) ?w89 (by assumption) ?y89 ?r89
          case w89 => rfl
          case y89 => (intro w hSw; (try dsimp only at hSw); go_simp; first | done | with_reducible rfl)
          simp only [Act.put, List.setIfInBounds_toArray, List.set_cons_zero, List.set_cons_succ]
          refine takeIn 23 (v := ?v90) rfl (by kernel_rfl) (by kernel_rfl) (by kernel_rfl) (fun _ _ _ h => h) ?w90 (by assumption) ?y90 ?r90
          case w90 => rfl
          case y90 => (intro w hSw; (try dsimp only at hSw); go_simp; first | done | with_reducible rfl)
          simp only [Act.put, List.setIfInBounds_toArray, List.set_cons_zero, List.set_cons_succ]
          refine takeOut 24 rfl (by kernel_rfl) (by kernel_rfl) (by kernel_rfl) (fun _ _ _ h => h) ?w91 (by assumption) ?r91
          case w91 => rfl
          simp only [Act.put, List.setIfInBounds_toArray, List.set_cons_zero, List.set_cons_succ]
          refine takeOut 25 rfl (by kernel_rfl) (by kernel_rfl) (by kernel_rfl) (fun _ _ _ h => h) ?w92 (by assumption) ?r92
          case w92 => rfl
          simp only [Act.put, List.setIfInBounds_toArray, List.set_cons_zero, List.set_cons_succ]
          refine takeOut 26 rfl (by kernel_rfl) (by kernel_rfl) (by kernel_rfl) (fun _ _ _ h => h) ?w93 (by assumption) ?r93
          case w93 => rfl
          simp only [Act.put, List.setIfInBounds_toArray, List.set_cons_zero, List.set_cons_succ]
          refine takeOut 27 rfl (by kernel_rfl) (by kernel_rfl) (by kernel_rfl) (fun _ _ _ h => h) ?w94 (by assumption) ?r94
          case w94 => rfl
          simp only [Act.put, List.setIfInBounds_toArray, List.set_cons_zero, List.set_cons_succ]
          refine takeOut 28 rfl (by kernel_rfl) (by kernel_rfl) (by kernel_rfl) (fun _ _ _ h => h) ?w95 (by assumption) ?r95
          case w95 => rfl
          simp only [Act.put, List.setIfInBounds_toArray, List.set_cons_zero, List.set_cons_succ]
          refine takeOut 29 rfl (by kernel_rfl) (by kernel_rfl) (by kernel_rfl) (fun _ _ _ h => h) ?w96 (by assumption) ?r96
          case w96 => rfl
          simp only [Act.put, List.setIfInBounds_toArray, List.set_cons_zero, List.set_cons_succ]
          refine takeOut 30 rfl (by kernel_rfl) (by kernel_rfl) (by kernel_rfl) (fun _ _ _ h => h) ?w97 (by assumption) ?r97
          case w97 => rfl
          simp only [Act.put, List.setIfInBounds_toArray, List.set_cons_zero, List.set_cons_succ]
          refine takeOut 31 rfl (by kernel_rfl) (by kernel_rfl) (by kernel_rfl) (fun _ _ _ h => h) ?w98 (by assumption) ?r98
          case w98 => rfl
          simp only [Act.put, List.setIfInBounds_toArray, List.set_cons_zero, List.set_cons_succ]
          refine takeOut 32 rfl (by kernel_rfl) (by kernel_rfl) (by kernel_rfl) (fun _ _ _ h => h) ?w99 (by assumption) ?r99
          case w99 => rfl
          simp only [Act.put, List.setIfInBounds_toArray, List.set_cons_zero, List.set_cons_succ]
          refine takeIn 33 (v := ?v100) rfl (by kernel_rfl) (by kernel_rfl) (by kernel_rfl) (fun _ _ _ h => h) ?w100 (by assumption) ?y100 ?r100
          case w100 => rfl
          case y100 => (intro w hSw; (try dsimp only at hSw); go_simp; first | done | with_reducible rfl)
          simp only [Act.put, List.setIfInBounds_toArray, List.set_cons_zero, List.set_cons_succ]
          refine wpAnyH_done (by kernel_rfl) ?_ _
          go_wp2_with fail
          go_ret
          exact ⟨vretB hR.out.symm, hbp.trans (hA2.mono hbp.size)⟩
        · have hmd : decide ((h.length : Int) ≤ vn) = false := decide_eq_false hm
          rcases HOR.out with ho | ho
          · have hod : decide ((0 : Int) ≤ own) = false := decide_eq_false (by omega)
            have HN := HNext.out ⟨by omega, rfl, fun _ => by omega⟩ ho
            have HNH : Hid (_ ∧ _) := HN
            clear HN
            refine wp_region_held_drew (S := fun w' => (w'.cell? ⟨P, 0, none⟩ = some (.string key) ∧ w'.cell? ⟨P, 1, none⟩ = some (.int .i64 vk) ∧ w'.cell? ⟨P, 2, none⟩ = some (.int .i64 vn) ∧ w'.cell? ⟨P, 3, none⟩ = some (.string vt) ∧ w'.cell? ⟨P, 4, none⟩ = some (.bool hd) ∧ w'.cell? ⟨P, 5, none⟩ = some (.bool fx)) ∧ (w'.cell? ⟨O, 0, none⟩ = some (.int .i64 cls) ∧ w'.cell? ⟨O, 1, none⟩ = some (.int .i64 pro) ∧ w'.cell? ⟨O, 2, none⟩ = some (.slice (some ⟨b', o', none⟩) ps.length pc))) (by kernel_rfl) (HSW.out _ (Below.refl wp.heap.size wp).drew) (fun hHeld => ?_)
            refine takeIn 0 (v := ?v101) rfl (by kernel_rfl) (by kernel_rfl) (by kernel_rfl) (fun _ _ _ h => h) ?w101 (by assumption) ?y101 ?r101
            case w101 => rfl
            case y101 => (intro w hSw; (try dsimp only at hSw); go_simp; first | done | with_reducible rfl)
            simp only [Act.put, List.setIfInBounds_toArray, List.set_cons_zero, List.set_cons_succ]
            refine takeIn 1 (v := ?v102) rfl (by kernel_rfl) (by kernel_rfl) (by kernel_rfl) (fun _ _ _ h => h) ?w102 (by assumption) ?y102 ?r102
            case w102 => rfl
            case y102 => (intro w hSw; (try dsimp only at hSw); go_simp; first | done | with_reducible rfl)
            simp only [Act.put, List.setIfInBounds_toArray, List.set_cons_zero, List.set_cons_succ]
            refine takeIn 2 (v := ?v103) rfl (by kernel_rfl) (by kernel_rfl) (by kernel_rfl) (fun _ _ _ h => h) ?w103 (by assumption) ?y103 ?r103
            case w103 => rfl
            case y103 => (intro w hSw; (try dsimp only at hSw); go_simp; first | done | with_reducible rfl)
            simp only [Act.put, List.setIfInBounds_toArray, List.set_cons_zero, List.set_cons_succ]
            refine takeIn 3 (v := ?v104) rfl (by kernel_rfl) (by kernel_rfl) (by kernel_rfl) (fun _ _ _ h => h) ?w104 (by assumption) ?y104 ?r104
            case w104 => rfl
            case y104 => (intro w hSw; (try dsimp only at hSw); go_simp; first | done | with_reducible rfl)
            simp only [Act.put, List.setIfInBounds_toArray, List.set_cons_zero, List.set_cons_succ]
            refine takeIn 4 (v := ?v105) rfl (by kernel_rfl) (by kernel_rfl) (by kernel_rfl) (fun _ _ _ h => h) ?w105 (by assumption) ?y105 ?r105
            case w105 => rfl
            case y105 => (intro w hSw; (try dsimp only at hSw); go_simp; first | done | with_reducible rfl)
            simp only [Act.put, List.setIfInBounds_toArray, List.set_cons_zero, List.set_cons_succ]
            refine takeIn 5 (v := ?v106) rfl (by kernel_rfl) (by kernel_rfl) (by kernel_rfl) (fun _ _ _ h => h) ?w106 (by assumption) ?y106 ?r106
            case w106 => rfl
            case y106 => (intro w hSw; (try dsimp only at hSw); go_simp; first | done | with_reducible rfl)
            simp only [Act.put, List.setIfInBounds_toArray, List.set_cons_zero, List.set_cons_succ]
            refine takeIn 6 (v := ?v107) rfl (by kernel_rfl) (by kernel_rfl) (by kernel_rfl) (fun _ _ _ h => h) ?w107 (by assumption) ?y107 ?r107
            case w107 => rfl
            case y107 => (intro w hSw; (try dsimp only at hSw); go_simp; first | done | with_reducible rfl)
            simp only [Act.put, List.setIfInBounds_toArray, List.set_cons_zero, List.set_cons_succ]
            refine oneUp 7 rfl (by kernel_rfl) (by rfl) (fun K hK => ?_)
            go_simp
            refine (SV.out _).mono ?_
            rintro e WA ⟨rfl, hA⟩
            have hA2 : Below wp.heap.size wp WA := (Below.refl wp.heap.size wp).drew.trans hA
            refine hK.out _ _ ?_ (fun hHeld => ?_)
            · (try dsimp only); exact HSW.out _ hA2
            clear hK K
            try simp only [Act.put, List.setIfInBounds_toArray, List.set_cons_zero, List.set_cons_succ]
            refine takeIn 8 (v := ?v108) rfl (by kernel_rfl) (by kernel_rfl) (by kernel_rfl) (fun _ _ _ h => h) ?w108 (by assumption) ?y108 ?r108
            case w108 => rfl
            case y108 => (intro w hSw; (try dsimp only at hSw); go_simp; first | done | with_reducible rfl)
            simp only [Act.put, List.setIfInBounds_toArray, List.set_cons_zero, List.set_cons_succ]
            refine takeIn 9 (v := ?v109) rfl (by kernel_rfl) (by kernel_rfl) (by kernel_rfl) (fun _ _ _ h => h) ?w109 (by assumption) ?y109 ?r109
            case w109 => rfl
            case y109 => (intro w hSw; (try dsimp only at hSw); go_simp; first | done | with_reducible rfl)
            simp only [Act.put, List.setIfInBounds_toArray, List.set_cons_zero, List.set_cons_succ]
            refine takeIn 10 (v := ?v110) rfl (by kernel_rfl) (by kernel_rfl) (by kernel_rfl) (fun _ _ _ h => h) ?w110 (by assumption) ?y110 ?r110
            case w110 => rfl
            case y110 => (intro w hSw; (try dsimp only at hSw); go_simp; first | done | with_reducible rfl)
            simp only [Act.put, List.setIfInBounds_toArray, List.set_cons_zero, List.set_cons_succ]
            refine takeIn 11 (v := ?v111) rfl (by kernel_rfl) (by kernel_rfl) (by kernel_rfl) (fun _ _ _ h => h) ?w111 (by assumption) ?y111 ?r111
            case w111 => rfl
            case y111 => (intro w hSw; (try dsimp only at hSw); go_simp; first | done | with_reducible rfl)
            simp only [Act.put, List.setIfInBounds_toArray, List.set_cons_zero, List.set_cons_succ]
            refine takeIn 12 (v := ?v112) rfl (by kernel_rfl) (by kernel_rfl) (by kernel_rfl) (fun _ _ _ h => h) ?w112 (by assumption) ?y112 ?r112
            case w112 => rfl
            case y112 => (intro w hSw; (try dsimp only at hSw); go_simp; first | done | with_reducible rfl)
            simp only [Act.put, List.setIfInBounds_toArray, List.set_cons_zero, List.set_cons_succ]
            refine takeIn 13 (v := ?v113) rfl (by kernel_rfl) (by kernel_rfl) (by kernel_rfl) (fun _ _ _ h => h) ?w113 (by assumption) ?y113 ?r113
            case w113 => rfl
            case y113 => (intro w hSw; (try dsimp only at hSw); go_simp; first | done | with_reducible rfl)
            simp only [Act.put, List.setIfInBounds_toArray, List.set_cons_zero, List.set_cons_succ]
            refine takeIn 14 (v := ?v114) rfl (by kernel_rfl) (by kernel_rfl) (by kernel_rfl) (fun _ _ _ h => h) ?w114 (by assumption) ?y114 ?r114
            case w114 => rfl
            case y114 => (intro w hSw; (try dsimp only at hSw); go_simp; first | done | with_reducible rfl)
            simp only [Act.put, List.setIfInBounds_toArray, List.set_cons_zero, List.set_cons_succ]
            refine takeIn 15 (v := ?v115) rfl (by kernel_rfl) (by kernel_rfl) (by kernel_rfl) (fun _ _ _ h => h) ?w115 (by assumption) ?y115 ?r115
            case w115 => rfl
            case y115 => (intro w hSw; (try dsimp only at hSw); go_simp; first | done | with_reducible rfl)
            simp only [Act.put, List.setIfInBounds_toArray, List.set_cons_zero, List.set_cons_succ]
            refine takeIn 16 (v := ?v116) rfl (by kernel_rfl) (by kernel_rfl) (by kernel_rfl) (fun _ _ _ h => h) ?w116 (by assumption) ?y116 ?r116
            case w116 => rfl
            case y116 => (intro w hSw; (try dsimp only at hSw); go_simp; first | done | with_reducible rfl)
            simp only [Act.put, List.setIfInBounds_toArray, List.set_cons_zero, List.set_cons_succ]
            refine takeIn 17 (v := ?v117) rfl (by kernel_rfl) (by kernel_rfl) (by kernel_rfl) (fun _ _ _ h => h) ?w117 (by assumption) ?y117 ?r117
            case w117 => rfl
            case y117 => (intro w hSw; (try dsimp only at hSw); go_simp; first | done | with_reducible rfl)
            simp only [Act.put, List.setIfInBounds_toArray, List.set_cons_zero, List.set_cons_succ]
            refine takeIn 18 (v := ?v118) rfl (by kernel_rfl) (by kernel_rfl) (by kernel_rfl) (fun _ _ _ h => h) ?w118 (by assumption) ?y118 ?r118
            case w118 => rfl
            case y118 => (intro w hSw; (try dsimp only at hSw); go_simp; first | done | with_reducible rfl)
            simp only [Act.put, List.setIfInBounds_toArray, List.set_cons_zero, List.set_cons_succ]
            refine takeIn 19 (v := ?v119) rfl (by kernel_rfl) (by kernel_rfl) (by kernel_rfl) (fun _ _ _ h => h) ?w119 (by assumption) ?y119 ?r119
            case w119 => rfl
            case y119 => (intro w hSw; (try dsimp only at hSw); go_simp; first | done | with_reducible rfl)
            simp only [Act.put, List.setIfInBounds_toArray, List.set_cons_zero, List.set_cons_succ]
            refine takeIn 20 (v := ?v120) rfl (by kernel_rfl) (by kernel_rfl) (by kernel_rfl) (fun _ _ _ h => h) ?w120 (by assumption) ?y120 ?r120
            case w120 => rfl
            case y120 => (intro w hSw; (try dsimp only at hSw); go_simp; first | done | with_reducible rfl)
            simp only [Act.put, List.setIfInBounds_toArray, List.set_cons_zero, List.set_cons_succ]
            refine takeIn 21 (v := ?v121) rfl (by kernel_rfl) (by kernel_rfl) (by kernel_rfl) (fun _ _ _ h => h) ?w121 (by assumption) ?y121 ?r121
            case w121 => rfl
            case y121 => (intro w hSw; (try dsimp only at hSw); go_simp; first | done | with_reducible rfl)
            simp only [Act.put, List.setIfInBounds_toArray, List.set_cons_zero, List.set_cons_succ]
            refine takeIn 22 (v := ?v122) rfl (by kernel_rfl) (by kernel_rfl) (by kernel_rfl) (fun _ _ _ h => h) ?w122 (by assumption) ?y122 ?r122
            case w122 => rfl
            case y122 => (intro w hSw; (try dsimp only at hSw); go_simp; first | done | with_reducible rfl)
            simp only [Act.put, List.setIfInBounds_toArray, List.set_cons_zero, List.set_cons_succ]
            refine takeIn 23 (v := ?v123) rfl (by kernel_rfl) (by kernel_rfl) (by kernel_rfl) (fun _ _ _ h => h) ?w123 (by assumption) ?y123 ?r123
            case w123 => rfl
            case y123 => (intro w hSw; (try dsimp only at hSw); go_simp; first | done | with_reducible rfl)
            simp only [Act.put, List.setIfInBounds_toArray, List.set_cons_zero, List.set_cons_succ]
            refine takeIn 24 (v := ?v124) rfl (by kernel_rfl) (by kernel_rfl) (by kernel_rfl) (fun _ _ _ h => h) ?w124 (by assumption) ?y124 ?r124
            case w124 => rfl
            case y124 => (intro w hSw; (try dsimp only at hSw); go_simp; first | done | with_reducible rfl)
            simp only [Act.put, List.setIfInBounds_toArray, List.set_cons_zero, List.set_cons_succ]
            refine takeIn 25 (v := ?v125) rfl (by kernel_rfl) (by kernel_rfl) (by kernel_rfl) (fun _ _ _ h => h) ?w125 (by assumption) ?y125 ?r125
            case w125 => rfl
            case y125 => (intro w hSw; (try dsimp only at hSw); go_simp; first | done | with_reducible rfl)
            simp only [Act.put, List.setIfInBounds_toArray, List.set_cons_zero, List.set_cons_succ]
            refine takeIn 26 (v := ?v126) rfl (by kernel_rfl) (by kernel_rfl) (by kernel_rfl) (fun _ _ _ h => h) ?w126 (by assumption) ?y126 ?r126
            case w126 => rfl
            case y126 => (intro w hSw; (try dsimp only at hSw); go_simp; first | done | with_reducible rfl)
            simp only [Act.put, List.setIfInBounds_toArray, List.set_cons_zero, List.set_cons_succ]
            refine takeIn 27 (v := ?v127) rfl (by kernel_rfl) (by kernel_rfl) (by kernel_rfl) (fun _ _ _ h => h) ?w127 (by assumption) ?y127 ?r127
            case w127 => rfl
            case y127 => (intro w hSw; (try dsimp only at hSw); go_simp; first | done | with_reducible rfl)
            simp only [Act.put, List.setIfInBounds_toArray, List.set_cons_zero, List.set_cons_succ]
            refine takeIn 28 (v := ?v128) rfl (by kernel_rfl) (by kernel_rfl) (by kernel_rfl) (fun _ _ _ h => h) ?w128 (by assumption) ?y128 ?r128
            case w128 => rfl
            case y128 => (intro w hSw; (try dsimp only at hSw); go_simp; first | done | with_reducible rfl)
            simp only [Act.put, List.setIfInBounds_toArray, List.set_cons_zero, List.set_cons_succ]
            refine takeIn 29 (v := ?v129) rfl (by kernel_rfl) (by kernel_rfl) (by kernel_rfl) (fun _ _ _ h => h) ?w129 (by assumption) ?y129 ?r129
            case w129 => rfl
            case y129 => (intro w hSw; (try dsimp only at hSw); go_simp; first | done | with_reducible rfl)
            simp only [Act.put, List.setIfInBounds_toArray, List.set_cons_zero, List.set_cons_succ]
            refine takeIn 30 (v := ?v130) rfl (by kernel_rfl) (by kernel_rfl) (by kernel_rfl) (fun _ _ _ h => h) ?w130 (by assumption) ?y130 ?r130
            case w130 => rfl
            case y130 => (intro w hSw; (try dsimp only at hSw); go_simp; first | done | with_reducible rfl)
            simp only [Act.put, List.setIfInBounds_toArray, List.set_cons_zero, List.set_cons_succ]
            refine oneUp 31 rfl (by kernel_rfl) (by rfl) (fun K hK => ?_)
            go_simp
            refine (HSO.out _ (hBP.trans (hA2.mono (Nat.le_of_lt hSP)))).mono ?_
            rintro e WB ⟨rfl, hB⟩
            have hB2 : Below wp.heap.size wp WB := hA2.trans (hB.mono hA2.size)
            refine hK.out _ _ ?_ (fun hHeld => ?_)
            · (try dsimp only); exact HSW.out _ hB2
            clear hK K
            try simp only [Act.put, List.setIfInBounds_toArray, List.set_cons_zero, List.set_cons_succ]
            refine takeIn 32 (v := ?v131) rfl (by kernel_rfl) (by kernel_rfl) (by kernel_rfl) (fun _ _ _ h => h) ?w131 (by assumption) ?y131 ?r131
            case w131 => rfl
            case y131 => (intro w hSw; (try dsimp only at hSw); go_simp; first | done | with_reducible rfl)
            simp only [Act.put, List.setIfInBounds_toArray, List.set_cons_zero, List.set_cons_succ]
            refine takeIn 33 (v := ?v132) rfl (by kernel_rfl) (by kernel_rfl) (by kernel_rfl) (fun _ _ _ h => h) ?w132 (by assumption) ?y132 ?r132
            case w132 => rfl
            case y132 => (intro w hSw; (try dsimp only at hSw); go_simp; first | done | with_reducible rfl)
            simp only [Act.put, List.setIfInBounds_toArray, List.set_cons_zero, List.set_cons_succ]
            refine wpAnyH_done (by kernel_rfl) ?_ _
            go_wp2_with fail
            exact ⟨⟨k + 1, by omega, by go_num, hbp1.trans (hB2.mono hbp1.size), HNH.out⟩, by simp [intOf]; omega⟩
          · have hod : decide ((0 : Int) ≤ own) = true := decide_eq_true ho
            have hR : Hid (R = false) := HOwn.out (by omega)
            refine wp_region_held_drew (S := fun w' => (w'.cell? ⟨P, 0, none⟩ = some (.string key) ∧ w'.cell? ⟨P, 1, none⟩ = some (.int .i64 vk) ∧ w'.cell? ⟨P, 2, none⟩ = some (.int .i64 vn) ∧ w'.cell? ⟨P, 3, none⟩ = some (.string vt) ∧ w'.cell? ⟨P, 4, none⟩ = some (.bool hd) ∧ w'.cell? ⟨P, 5, none⟩ = some (.bool fx)) ∧ (w'.cell? ⟨O, 0, none⟩ = some (.int .i64 cls) ∧ w'.cell? ⟨O, 1, none⟩ = some (.int .i64 pro) ∧ w'.cell? ⟨O, 2, none⟩ = some (.slice (some ⟨b', o', none⟩) ps.length pc))) (by kernel_rfl) (HSW.out _ (Below.refl wp.heap.size wp).drew) (fun hHeld => ?_)
            refine takeIn 0 (v := ?v133) rfl (by kernel_rfl) (by kernel_rfl) (by kernel_rfl) (fun _ _ _ h => h) ?w133 (by assumption) ?y133 ?r133
            case w133 => rfl
            case y133 => (intro w hSw; (try dsimp only at hSw); go_simp; first | done | with_reducible rfl)
            simp only [Act.put, List.setIfInBounds_toArray, List.set_cons_zero, List.set_cons_succ]
            refine takeIn 1 (v := ?v134) rfl (by kernel_rfl) (by kernel_rfl) (by kernel_rfl) (fun _ _ _ h => h) ?w134 (by assumption) ?y134 ?r134
            case w134 => rfl
            case y134 => (intro w hSw; (try dsimp only at hSw); go_simp; first | done | with_reducible rfl)
            simp only [Act.put, List.setIfInBounds_toArray, List.set_cons_zero, List.set_cons_succ]
            refine takeIn 2 (v := ?v135) rfl (by kernel_rfl) (by kernel_rfl) (by kernel_rfl) (fun _ _ _ h => h) ?w135 (by assumption) ?y135 ?r135
            case w135 => rfl
            case y135 => (intro w hSw; (try dsimp only at hSw); go_simp; first | done | with_reducible rfl)
            simp only [Act.put, List.setIfInBounds_toArray, List.set_cons_zero, List.set_cons_succ]
            refine takeIn 3 (v := ?v136) rfl (by kernel_rfl) (by kernel_rfl) (by kernel_rfl) (fun _ _ _ h => h) ?w136 (by assumption) ?y136 ?r136
            case w136 => rfl
            case y136 => (intro w hSw; (try dsimp only at hSw); go_simp; first | done | with_reducible rfl)
            simp only [Act.put, List.setIfInBounds_toArray, List.set_cons_zero, List.set_cons_succ]
            refine takeIn 4 (v := ?v137) rfl (by kernel_rfl) (by kernel_rfl) (by kernel_rfl) (fun _ _ _ h => h) ?w137 (by assumption) ?y137 ?r137
            case w137 => rfl
            case y137 => (intro w hSw; (try dsimp only at hSw); go_simp; first | done | with_reducible rfl)
            simp only [Act.put, List.setIfInBounds_toArray, List.set_cons_zero, List.set_cons_succ]
            refine takeIn 5 (v := ?v138) rfl (by kernel_rfl) (by kernel_rfl) (by kernel_rfl) (fun _ _ _ h => h) ?w138 (by assumption) ?y138 ?r138
            case w138 => rfl
            case y138 => (intro w hSw; (try dsimp only at hSw); go_simp; first | done | with_reducible rfl)
            simp only [Act.put, List.setIfInBounds_toArray, List.set_cons_zero, List.set_cons_succ]
            refine takeIn 6 (v := ?v139) rfl (by kernel_rfl) (by kernel_rfl) (by kernel_rfl) (fun _ _ _ h => h) ?w139 (by assumption) ?y139 ?r139
            case w139 => rfl
            case y139 => (intro w hSw; (try dsimp only at hSw); go_simp; first | done | with_reducible rfl)
            simp only [Act.put, List.setIfInBounds_toArray, List.set_cons_zero, List.set_cons_succ]
            refine oneUp 7 rfl (by kernel_rfl) (by rfl) (fun K hK => ?_)
            go_simp
            refine (SV.out _).mono ?_
            rintro e WA ⟨rfl, hA⟩
            have hA2 : Below wp.heap.size wp WA := (Below.refl wp.heap.size wp).drew.trans hA
            refine hK.out _ _ ?_ (fun hHeld => ?_)
            · (try dsimp only); exact HSW.out _ hA2
            clear hK K
            try simp only [Act.put, List.setIfInBounds_toArray, List.set_cons_zero, List.set_cons_succ]
            refine takeIn 8 (v := ?v140) rfl (by kernel_rfl) (by kernel_rfl) (by kernel_rfl) (fun _ _ _ h => h) ?w140 (by assumption) ?y140 ?r140
            case w140 => rfl
            case y140 => (intro w hSw; (try dsimp only at hSw); go_simp; first | done | with_reducible rfl)
            simp only [Act.put, List.setIfInBounds_toArray, List.set_cons_zero, List.set_cons_succ]
            refine takeIn 9 (v := ?v141) rfl (by kernel_rfl) (by kernel_rfl) (by kernel_rfl) (fun _ _ _ h => h) ?w141 (by assumption) ?y141 ?r141
            case w141 => rfl
            case y141 => (intro w hSw; (try dsimp only at hSw); go_simp; first | done | with_reducible rfl)
            simp only [Act.put, List.setIfInBounds_toArray, List.set_cons_zero, List.set_cons_succ]
            refine takeIn 10 (v := ?v142) rfl (by kernel_rfl) (by kernel_rfl) (by kernel_rfl) (fun _ _ _ h => h) ?w142 (by assumption) ?y142 ?r142
            case w142 => rfl
            case y142 => (intro w hSw; (try dsimp only at hSw); go_simp; first | done | with_reducible rfl)
            simp only [Act.put, List.setIfInBounds_toArray, List.set_cons_zero, List.set_cons_succ]
            refine takeIn 11 (v := ?v143) rfl (by kernel_rfl) (by kernel_rfl) (by kernel_rfl) (fun _ _ _ h => h) ?w143 (by assumption) ?y143 ?r143
            case w143 => rfl
            case y143 => (intro w hSw; (try dsimp only at hSw); go_simp; first | done | with_reducible rfl)
            simp only [Act.put, List.setIfInBounds_toArray, List.set_cons_zero, List.set_cons_succ]
            refine takeIn 12 (v := ?v144) rfl (by kernel_rfl) (by kernel_rfl) (by kernel_rfl) (fun _ _ _ h => h) ?w144 (by assumption) ?y144 ?r144
            case w144 => rfl
            case y144 => (intro w hSw; (try dsimp only at hSw); go_simp; first | done | with_reducible rfl)
            simp only [Act.put, List.setIfInBounds_toArray, List.set_cons_zero, List.set_cons_succ]
            refine takeIn 13 (v := ?v145) rfl (by kernel_rfl) (by kernel_rfl) (by kernel_rfl) (fun _ _ _ h => h) ?w145 (by assumption) ?y145 ?r145
            case w145 => rfl
            case y145 => (intro w hSw; (try dsimp only at hSw); go_simp; first | done | with_reducible rfl)
            simp only [Act.put, List.setIfInBounds_toArray, List.set_cons_zero, List.set_cons_succ]
            refine takeIn 14 (v := ?v146) rfl (by kernel_rfl) (by kernel_rfl) (by kernel_rfl) (fun _ _ _ h => h) ?w146 (by assumption) ?y146 ?r146
            case w146 => rfl
            case y146 => (intro w hSw; (try dsimp only at hSw); go_simp; first | done | with_reducible rfl)
            simp only [Act.put, List.setIfInBounds_toArray, List.set_cons_zero, List.set_cons_succ]
            refine takeIn 15 (v := ?v147) rfl (by kernel_rfl) (by kernel_rfl) (by kernel_rfl) (fun _ _ _ h => h) ?w147 (by assumption) ?y147 ?r147
            case w147 => rfl
            case y147 => (intro w hSw; (try dsimp only at hSw); go_simp; first | done | with_reducible rfl)
            simp only [Act.put, List.setIfInBounds_toArray, List.set_cons_zero, List.set_cons_succ]
            refine takeIn 16 (v := ?v148) rfl (by kernel_rfl) (by kernel_rfl) (by kernel_rfl) (fun _ _ _ h => h) ?w148 (by assumption) ?y148 ?r148
            case w148 => rfl
            case y148 => (intro w hSw; (try dsimp only at hSw); go_simp; first | done | with_reducible rfl)
            simp only [Act.put, List.setIfInBounds_toArray, List.set_cons_zero, List.set_cons_succ]
            refine takeIn 17 (v := ?v149) rfl (by kernel_rfl) (by kernel_rfl) (by kernel_rfl) (fun _ _ _ h => h) ?w149 (by assumption) ?y149 ?r149
            case w149 => rfl
            case y149 => (intro w hSw; (try dsimp only at hSw); go_simp; first | done | with_reducible rfl)
            simp only [Act.put, List.setIfInBounds_toArray, List.set_cons_zero, List.set_cons_succ]
            refine takeIn 18 (v := ?v150) rfl (by kernel_rfl) (by kernel_rfl) (by kernel_rfl) (fun _ _ _ h => h) ?w150 (by assumption) ?y150 ?r150
            case w150 => rfl
            case y150 => (intro w hSw; (try dsimp only at hSw); go_simp; first | done | with_reducible rfl)
            simp only [Act.put, List.setIfInBounds_toArray, List.set_cons_zero, List.set_cons_succ]
            refine takeIn 19 (v := ?v151) rfl (by kernel_rfl) (by kernel_rfl) (by kernel_rfl) (fun _ _ _ h => h) ?w151 (by assumption) ?y151 ?r151
            case w151 => rfl
            case y151 => (intro w hSw; (try dsimp only at hSw); go_simp; first | done | with_reducible rfl)
            simp only [Act.put, List.setIfInBounds_toArray, List.set_cons_zero, List.set_cons_succ]
            refine takeIn 20 (v := ?v152) rfl (by kernel_rfl) (by kernel_rfl) (by kernel_rfl) (fun _ _ _ h => h) ?w152 (by assumption) ?y152 ?r152
            case w152 => rfl
            case y152 => (intro w hSw; (try dsimp only at hSw); go_simp; first | done | with_reducible rfl)
            simp only [Act.put, List.setIfInBounds_toArray, List.set_cons_zero, List.set_cons_succ]
            refine takeIn 21 (v := ?v153) rfl (by kernel_rfl) (by kernel_rfl) (by kernel_rfl) (fun _ _ _ h => h) ?w153 (by assumption) ?y153 ?r153
            case w153 => rfl
            case y153 => (intro w hSw; (try dsimp only at hSw); go_simp; first | done | with_reducible rfl)
            simp only [Act.put, List.setIfInBounds_toArray, List.set_cons_zero, List.set_cons_succ]
            refine takeIn 22 (v := ?v154) rfl (by kernel_rfl) (by kernel_rfl) (by kernel_rfl) (fun _ _ _ h => h) ?w154 (by assumption) ?y154 ?r154
            case w154 => rfl
            case y154 => (intro w hSw; (try dsimp only at hSw); go_simp; first | done | with_reducible rfl)
            simp only [Act.put, List.setIfInBounds_toArray, List.set_cons_zero, List.set_cons_succ]
            refine takeIn 23 (v := ?v155) rfl (by kernel_rfl) (by kernel_rfl) (by kernel_rfl) (fun _ _ _ h => h) ?w155 (by assumption) ?y155 ?r155
            case w155 => rfl
            case y155 => (intro w hSw; (try dsimp only at hSw); go_simp; first | done | with_reducible rfl)
            simp only [Act.put, List.setIfInBounds_toArray, List.set_cons_zero, List.set_cons_succ]
            refine takeIn 24 (v := ?v156) rfl (by kernel_rfl) (by kernel_rfl) (by kernel_rfl) (fun _ _ _ h => h) ?w156 (by assumption) ?y156 ?r156
            case w156 => rfl
            case y156 => (intro w hSw; (try dsimp only at hSw); go_simp; first | done | with_reducible rfl)
            simp only [Act.put, List.setIfInBounds_toArray, List.set_cons_zero, List.set_cons_succ]
            refine takeIn 25 (v := ?v157) rfl (by kernel_rfl) (by kernel_rfl) (by kernel_rfl) (fun _ _ _ h => h) ?w157 (by assumption) ?y157 ?r157
            case w157 => rfl
            case y157 => (intro w hSw; (try dsimp only at hSw); go_simp; first | done | with_reducible rfl)
            simp only [Act.put, List.setIfInBounds_toArray, List.set_cons_zero, List.set_cons_succ]
            refine takeIn 26 (v := ?v158) rfl (by kernel_rfl) (by kernel_rfl) (by kernel_rfl) (fun _ _ _ h => h) ?w158 (by assumption) ?y158 ?r158
            case w158 => rfl
            case y158 => (intro w hSw; (try dsimp only at hSw); go_simp; first | done | with_reducible rfl)
            simp only [Act.put, List.setIfInBounds_toArray, List.set_cons_zero, List.set_cons_succ]
            refine takeIn 27 (v := ?v159) rfl (by kernel_rfl) (by kernel_rfl) (by kernel_rfl) (fun _ _ _ h => h) ?w159 (by assumption) ?y159 ?r159
            case w159 => rfl
            case y159 => (intro w hSw; (try dsimp only at hSw); go_simp; first | done | with_reducible rfl)
            simp only [Act.put, List.setIfInBounds_toArray, List.set_cons_zero, List.set_cons_succ]
            refine takeIn 28 (v := ?v160) rfl (by kernel_rfl) (by kernel_rfl) (by kernel_rfl) (fun _ _ _ h => h) ?w160 (by assumption) ?y160 ?r160
            case w160 => rfl
            case y160 => (intro w hSw; (try dsimp only at hSw); go_simp; first | done | with_reducible rfl)
            simp only [Act.put, List.setIfInBounds_toArray, List.set_cons_zero, List.set_cons_succ]
            refine takeIn 29 (v := ?v161) rfl (by kernel_rfl) (by kernel_rfl) (by kernel_rfl) (fun _ _ _ h => h) ?w161 (by assumption) ?y161 ?r161
            case w161 => rfl
            case y161 => (intro w hSw; (try dsimp only at hSw); go_simp; first | done | with_reducible rfl)
            simp only [Act.put, List.setIfInBounds_toArray, List.set_cons_zero, List.set_cons_succ]
            refine takeIn 30 (v := ?v162) rfl (by kernel_rfl) (by kernel_rfl) (by kernel_rfl) (fun _ _ _ h => h) ?w162 (by assumption) ?y162 ?r162
            case w162 => rfl
            case y162 => (intro w hSw; (try dsimp only at hSw); go_simp; first | done | with_reducible rfl)
            simp only [Act.put, List.setIfInBounds_toArray, List.set_cons_zero, List.set_cons_succ]
            refine oneUp 31 rfl (by kernel_rfl) (by rfl) (fun K hK => ?_)
            go_simp
            refine (HSO.out _ (hBP.trans (hA2.mono (Nat.le_of_lt hSP)))).mono ?_
            rintro e WB ⟨rfl, hB⟩
            have hB2 : Below wp.heap.size wp WB := hA2.trans (hB.mono hA2.size)
            refine hK.out _ _ ?_ (fun hHeld => ?_)
            · (try dsimp only); exact HSW.out _ hB2
            clear hK K
            try simp only [Act.put, List.setIfInBounds_toArray, List.set_cons_zero, List.set_cons_succ]
            refine takeIn 32 (v := ?v163) rfl (by kernel_rfl) (by kernel_rfl) (by kernel_rfl) (fun _ _ _ h => h) ?w163 (by assumption) ?y163 ?r163
            case w163 => rfl
            case y163 => (intro w hSw; (try dsimp only at hSw); go_simp; first | done | with_reducible rfl)
            simp only [Act.put, List.setIfInBounds_toArray, List.set_cons_zero, List.set_cons_succ]
            refine takeIn 33 (v := ?v164) rfl (by kernel_rfl) (by kernel_rfl) (by kernel_rfl) (fun _ _ _ h => h) ?w164 (by assumption) ?y164 ?r164
            case w164 => rfl
            case y164 => (intro w hSw; (try dsimp only at hSw); go_simp; first | done | with_reducible rfl)
            simp only [Act.put, List.setIfInBounds_toArray, List.set_cons_zero, List.set_cons_succ]
            refine wpAnyH_done (by kernel_rfl) ?_ _
            go_wp2_with fail
            go_ret
            exact ⟨vretB hR.out.symm, hbp.trans (hB2.mono hbp.size)⟩
      · have h6a : (vk == 6) = false := by simp [h6]
        rcases HOR.out with ho | ho
        · have hod : decide ((0 : Int) ≤ own) = false := decide_eq_false (by omega)
          have HN := HNext.out ⟨by omega, rfl, fun e => absurd e h6⟩ ho
          have HNH : Hid (_ ∧ _) := HN
          clear HN
          refine wp_region_held_drew (S := fun w' => (w'.cell? ⟨P, 0, none⟩ = some (.string key) ∧ w'.cell? ⟨P, 1, none⟩ = some (.int .i64 vk) ∧ w'.cell? ⟨P, 2, none⟩ = some (.int .i64 vn) ∧ w'.cell? ⟨P, 3, none⟩ = some (.string vt) ∧ w'.cell? ⟨P, 4, none⟩ = some (.bool hd) ∧ w'.cell? ⟨P, 5, none⟩ = some (.bool fx)) ∧ (w'.cell? ⟨O, 0, none⟩ = some (.int .i64 cls) ∧ w'.cell? ⟨O, 1, none⟩ = some (.int .i64 pro) ∧ w'.cell? ⟨O, 2, none⟩ = some (.slice (some ⟨b', o', none⟩) ps.length pc))) (by kernel_rfl) (HSW.out _ (Below.refl wp.heap.size wp).drew) (fun hHeld => ?_)
          refine takeIn 0 (v := ?v165) rfl (by kernel_rfl) (by kernel_rfl) (by kernel_rfl) (fun _ _ _ h => h) ?w165 (by assumption) ?y165 ?r165
          case w165 => rfl
          case y165 => (intro w hSw; (try dsimp only at hSw); go_simp; first | done | with_reducible rfl)
          simp only [Act.put, List.setIfInBounds_toArray, List.set_cons_zero, List.set_cons_succ]
          refine takeIn 1 (v := ?v166) rfl (by kernel_rfl) (by kernel_rfl) (by kernel_rfl) (fun _ _ _ h => h) ?w166 (by assumption) ?y166 ?r166
          case w166 => rfl
          case y166 => (intro w hSw; (try dsimp only at hSw); go_simp; first | done | with_reducible rfl)
          simp only [Act.put, List.setIfInBounds_toArray, List.set_cons_zero, List.set_cons_succ]
          refine takeIn 2 (v := ?v167) rfl (by kernel_rfl) (by kernel_rfl) (by kernel_rfl) (fun _ _ _ h => h) ?w167 (by assumption) ?y167 ?r167
          case w167 => rfl
          case y167 => (intro w hSw; (try dsimp only at hSw); go_simp; first | done | with_reducible rfl)
          simp only [Act.put, List.setIfInBounds_toArray, List.set_cons_zero, List.set_cons_succ]
          refine takeIn 3 (v := ?v168) rfl (by kernel_rfl) (by kernel_rfl) (by kernel_rfl) (fun _ _ _ h => h) ?w168 (by assumption) ?y168 ?r168
          case w168 => rfl
          case y168 => (intro w hSw; (try dsimp only at hSw); go_simp; first | done | with_reducible rfl)
          simp only [Act.put, List.setIfInBounds_toArray, List.set_cons_zero, List.set_cons_succ]
          refine takeIn 4 (v := ?v169) rfl (by kernel_rfl) (by kernel_rfl) (by kernel_rfl) (fun _ _ _ h => h) ?w169 (by assumption) ?y169 ?r169
          case w169 => rfl
          case y169 => (intro w hSw; (try dsimp only at hSw); go_simp; first | done | with_reducible rfl)
          simp only [Act.put, List.setIfInBounds_toArray, List.set_cons_zero, List.set_cons_succ]
          refine takeIn 5 (v := ?v170) rfl (by kernel_rfl) (by kernel_rfl) (by kernel_rfl) (fun _ _ _ h => h) ?w170 (by assumption) ?y170 ?r170
          case w170 => rfl
          case y170 => (intro w hSw; (try dsimp only at hSw); go_simp; first | done | with_reducible rfl)
          simp only [Act.put, List.setIfInBounds_toArray, List.set_cons_zero, List.set_cons_succ]
          refine takeIn 6 (v := ?v171) rfl (by kernel_rfl) (by kernel_rfl) (by kernel_rfl) (fun _ _ _ h => h) ?w171 (by assumption) ?y171 ?r171
          case w171 => rfl
          case y171 => (intro w hSw; (try dsimp only at hSw); go_simp; first | done | with_reducible rfl)
          simp only [Act.put, List.setIfInBounds_toArray, List.set_cons_zero, List.set_cons_succ]
          refine oneUp 7 rfl (by kernel_rfl) (by rfl) (fun K hK => ?_)
          go_simp
          refine (SV.out _).mono ?_
          rintro e WA ⟨rfl, hA⟩
          have hA2 : Below wp.heap.size wp WA := (Below.refl wp.heap.size wp).drew.trans hA
          refine hK.out _ _ ?_ (fun hHeld => ?_)
          · (try dsimp only); exact HSW.out _ hA2
          clear hK K
          try simp only [Act.put, List.setIfInBounds_toArray, List.set_cons_zero, List.set_cons_succ]
          refine takeIn 8 (v := ?v172) rfl (by kernel_rfl) (by kernel_rfl) (by kernel_rfl) (fun _ _ _ h => h) ?w172 (by assumption) ?y172 ?r172
          case w172 => rfl
          case y172 => (intro w hSw; (try dsimp only at hSw); go_simp; first | done | with_reducible rfl)
          simp only [Act.put, List.setIfInBounds_toArray, List.set_cons_zero, List.set_cons_succ]
          refine takeIn 9 (v := ?v173) rfl (by kernel_rfl) (by kernel_rfl) (by kernel_rfl) (fun _ _ _ h => h) ?w173 (by assumption) ?y173 ?r173
          case w173 => rfl
          case y173 => (intro w hSw; (try dsimp only at hSw); go_simp; first | done | with_reducible rfl)
          simp only [Act.put, List.setIfInBounds_toArray, List.set_cons_zero, List.set_cons_succ]
          refine takeIn 10 (v := ?v174) rfl (by kernel_rfl) (by kernel_rfl) (by kernel_rfl) (fun _ _ _ h => h) ?w174 (by assumption) ?y174 ?r174
          case w174 => rfl
          case y174 => (intro w hSw; (try dsimp only at hSw); go_simp; first | done | with_reducible rfl)
          simp only [Act.put, List.setIfInBounds_toArray, List.set_cons_zero, List.set_cons_succ]
          refine takeIn 11 (v := ?v175) rfl (by kernel_rfl) (by kernel_rfl) (by kernel_rfl) (fun _ _ _ h => h) ?w175 (by assumption) ?y175 ?r175
          case w175 => rfl
          case y175 => (intro w hSw; (try dsimp only at hSw); go_simp; first | done | with_reducible rfl)
          simp only [Act.put, List.setIfInBounds_toArray, List.set_cons_zero, List.set_cons_succ]
          refine takeIn 12 (v := ?v176) rfl (by kernel_rfl) (by kernel_rfl) (by kernel_rfl) (fun _ _ _ h => h) ?w176 (by assumption) ?y176 ?r176
          case w176 => rfl
          case y176 => (intro w hSw; (try dsimp only at hSw); go_simp; first | done | with_reducible rfl)
          simp only [Act.put, List.setIfInBounds_toArray, List.set_cons_zero, List.set_cons_succ]
          refine takeIn 13 (v := ?v177) rfl (by kernel_rfl) (by kernel_rfl) (by kernel_rfl) (fun _ _ _ h => h) ?w177 (by assumption) ?y177 ?r177
          case w177 => rfl
          case y177 => (intro w hSw; (try dsimp only at hSw); go_simp; first | done | with_reducible rfl)
          simp only [Act.put, List.setIfInBounds_toArray, List.set_cons_zero, List.set_cons_succ]
          refine takeIn 14 (v := ?v178) rfl (by kernel_rfl) (by kernel_rfl) (by kernel_rfl) (fun _ _ _ h => h) ?w178 (by assumption) ?y178 ?r178
          case w178 => rfl
          case y178 => (intro w hSw; (try dsimp only at hSw); go_simp; first | done | with_reducible rfl)
          simp only [Act.put, List.setIfInBounds_toArray, List.set_cons_zero, List.set_cons_succ]
          refine takeIn 15 (v := ?v179) rfl (by kernel_rfl) (by kernel_rfl) (by kernel_rfl) (fun _ _ _ h => h) ?w179 (by assumption) ?y179 ?r179
          case w179 => rfl
          case y179 => (intro w hSw; (try dsimp only at hSw); go_simp; first | done | with_reducible rfl)
          simp only [Act.put, List.setIfInBounds_toArray, List.set_cons_zero, List.set_cons_succ]
          refine takeOut 16 rfl (by kernel_rfl) (by kernel_rfl) (by kernel_rfl) (fun _ _ _ h => h) ?w180 (by assumption) ?r180
          case w180 => rfl
          simp only [Act.put, List.setIfInBounds_toArray, List.set_cons_zero, List.set_cons_succ]
          refine takeOut 17 rfl (by kernel_rfl) (by kernel_rfl) (by kernel_rfl) (fun _ _ _ h => h) ?w181 (by assumption) ?r181
          case w181 => rfl
          simp only [Act.put, List.setIfInBounds_toArray, List.set_cons_zero, List.set_cons_succ]
          refine takeOut 18 rfl (by kernel_rfl) (by kernel_rfl) (by kernel_rfl) (fun _ _ _ h => h) ?w182 (by assumption) ?r182
          case w182 => rfl
          simp only [Act.put, List.setIfInBounds_toArray, List.set_cons_zero, List.set_cons_succ]
          refine takeOut 19 rfl (by kernel_rfl) (by kernel_rfl) (by kernel_rfl) (fun _ _ _ h => h) ?w183 (by assumption) ?r183
          case w183 => rfl
          simp only [Act.put, List.setIfInBounds_toArray, List.set_cons_zero, List.set_cons_succ]
          refine takeOut 20 rfl (by kernel_rfl) (by kernel_rfl) (by kernel_rfl) (fun _ _ _ h => h) ?w184 (by assumption) ?r184
          case w184 => rfl
          simp only [Act.put, List.setIfInBounds_toArray, List.set_cons_zero, List.set_cons_succ]
          refine takeIn 21 (v := ?v185) rfl (by kernel_rfl) (by kernel_rfl) (by kernel_rfl) (fun _ _ _ h => h) ?w185 (by assumption) ?y185 ?r185
          case w185 => rfl
          case y185 => (intro w hSw; (try dsimp only at hSw); go_simp; first | done | with_reducible rfl)
          simp only [Act.put, List.setIfInBounds_toArray, List.set_cons_zero, List.set_cons_succ]
          refine takeIn 22 (v := ?v186) rfl (by kernel_rfl) (by kernel_rfl) (by kernel_rfl) (fun _ _ _ h => h) ?w186 (by assumption) ?y186 ?r186
          case w186 => rfl
          case y186 => (intro w hSw; (try dsimp only at hSw); go_simp; first | done | with_reducible rfl)
          simp only [Act.put, List.setIfInBounds_toArray, List.set_cons_zero, List.set_cons_succ]
          refine takeIn 23 (v := ?v187) rfl (by kernel_rfl) (by kernel_rfl) (by kernel_rfl) (fun _ _ _ h => h) ?w187 (by assumption) ?y187 ?r187
          case w187 => rfl
          case y187 => (intro w hSw; (try dsimp only at hSw); go_simp; first | done | with_reducible rfl)
          simp only [Act.put, List.setIfInBounds_toArray, List.set_cons_zero, List.set_cons_succ]
          refine takeIn 24 (v := ?v188) rfl (by kernel_rfl) (by kernel_rfl) (by kernel_rfl) (fun _ _ _ h => h) ?w188 (by assumption) ?y188 ?r188
          case w188 => rfl
          case y188 => (intro w hSw; (try dsimp only at hSw); go_simp; first | done | with_reducible rfl)
          simp only [Act.put, List.setIfInBounds_toArray, List.set_cons_zero, List.set_cons_succ]
          refine takeIn 25 (v := ?v189) rfl (by kernel_rfl) (by kernel_rfl) (by kernel_rfl) (fun _ _ _ h => h) ?w189 (by assumption) ?y189 ?r189
          case w189 => rfl
          case y189 => (intro w hSw; (try dsimp only at hSw); go_simp; first | done | with_reducible rfl)
          simp only [Act.put, List.setIfInBounds_toArray, List.set_cons_zero, List.set_cons_succ]
          refine takeIn 26 (v := ?v190) rfl (by kernel_rfl) (by kernel_rfl) (by kernel_rfl) (fun _ _ _ h => h) ?w190 (by assumption) ?y190 ?r190
          case w190 => rfl
          case y190 => (intro w hSw; (try dsimp only at hSw); go_simp; first | done | with_reducible rfl)
          simp only [Act.put, List.setIfInBounds_toArray, List.set_cons_zero, List.set_cons_succ]
          refine takeIn 27 (v := ?v191) rfl (by kernel_rfl) (by kernel_rfl) (by kernel_rfl) (fun _ _ _ h => h) ?w191 (by assumption) ?y191 ?r191
          case w191 => rfl
          case y191 => (intro w hSw; (try dsimp only at hSw); go_simp; first | done | with_reducible rfl)
          simp only [Act.put, List.setIfInBounds_toArray, List.set_cons_zero, List.set_cons_succ]
          refine takeIn 28 (v := ?v192) rfl (by kernel_rfl) (by kernel_rfl) (by kernel_rfl) (fun _ _ _ h => h) ?w192 (by assumption) ?y192 ?r192
          case w192 => rfl
          case y192 => (intro w hSw; (try dsimp only at hSw); go_simp; first | done | with_reducible rfl)
          simp only [Act.put, List.setIfInBounds_toArray, List.set_cons_zero, List.set_cons_succ]
          refine takeIn 29 (v := ?v193) rfl (by kernel_rfl) (by kernel_rfl) (by kernel_rfl) (fun _ _ _ h => h) ?w193 (by assumption) ?y193 ?r193
          case w193 => rfl
          case y193 => (intro w hSw; (try dsimp only at hSw); go_simp; first | done | with_reducible rfl)
          simp only [Act.put, List.setIfInBounds_toArray, List.set_cons_zero, List.set_cons_succ]
          refine takeIn 30 (v := ?v194) rfl (by kernel_rfl) (by kernel_rfl) (by kernel_rfl) (fun _ _ _ h => h) ?w194 (by assumption) ?y194 ?r194
          case w194 => rfl
          case y194 => (intro w hSw; (try dsimp only at hSw); go_simp; first | done | with_reducible rfl)
          simp only [Act.put, List.setIfInBounds_toArray, List.set_cons_zero, List.set_cons_succ]
          refine oneUp 31 rfl (by kernel_rfl) (by rfl) (fun K hK => ?_)
          go_simp
          refine (HSO.out _ (hBP.trans (hA2.mono (Nat.le_of_lt hSP)))).mono ?_
          rintro e WB ⟨rfl, hB⟩
          have hB2 : Below wp.heap.size wp WB := hA2.trans (hB.mono hA2.size)
          refine hK.out _ _ ?_ (fun hHeld => ?_)
          · (try dsimp only); exact HSW.out _ hB2
          clear hK K
          try simp only [Act.put, List.setIfInBounds_toArray, List.set_cons_zero, List.set_cons_succ]
          refine takeIn 32 (v := ?v195) rfl (by kernel_rfl) (by kernel_rfl) (by kernel_rfl) (fun _ _ _ h => h) ?w195 (by assumption) ?y195 ?r195
          case w195 => rfl
          case y195 => (intro w hSw; (try dsimp only at hSw); go_simp; first | done | with_reducible rfl)
          simp only [Act.put, List.setIfInBounds_toArray, List.set_cons_zero, List.set_cons_succ]
          refine takeIn 33 (v := ?v196) rfl (by kernel_rfl) (by kernel_rfl) (by kernel_rfl) (fun _ _ _ h => h) ?w196 (by assumption) ?y196 ?r196
          case w196 => rfl
          case y196 => (intro w hSw; (try dsimp only at hSw); go_simp; first | done | with_reducible rfl)
          simp only [Act.put, List.setIfInBounds_toArray, List.set_cons_zero, List.set_cons_succ]
          refine wpAnyH_done (by kernel_rfl) ?_ _
          go_wp2_with fail
          exact ⟨⟨k + 1, by omega, by go_num, hbp1.trans (hB2.mono hbp1.size), HNH.out⟩, by simp [intOf]; omega⟩
        · have hod : decide ((0 : Int) ≤ own) = true := decide_eq_true ho
          have hR : Hid (R = false) := HOwn.out (by omega)
          refine wp_region_held_drew (S := fun w' => (w'.cell? ⟨P, 0, none⟩ = some (.string key) ∧ w'.cell? ⟨P, 1, none⟩ = some (.int .i64 vk) ∧ w'.cell? ⟨P, 2, none⟩ = some (.int .i64 vn) ∧ w'.cell? ⟨P, 3, none⟩ = some (.string vt) ∧ w'.cell? ⟨P, 4, none⟩ = some (.bool hd) ∧ w'.cell? ⟨P, 5, none⟩ = some (.bool fx)) ∧ (w'.cell? ⟨O, 0, none⟩ = some (.int .i64 cls) ∧ w'.cell? ⟨O, 1, none⟩ = some (.int .i64 pro) ∧ w'.cell? ⟨O, 2, none⟩ = some (.slice (some ⟨b', o', none⟩) ps.length pc))) (by kernel_rfl) (HSW.out _ (Below.refl wp.heap.size wp).drew) (fun hHeld => ?_)
          refine takeIn 0 (v := ?v197) rfl (by kernel_rfl) (by kernel_rfl) (by kernel_rfl) (fun _ _ _ h => h) ?w197 (by assumption) ?y197 ?r197
          case w197 => rfl
          case y197 => (intro w hSw; (try dsimp only at hSw); go_simp; first | done | with_reducible rfl)
          simp only [Act.put, List.setIfInBounds_toArray, List.set_cons_zero, List.set_cons_succ]
          refine takeIn 1 (v := ?v198) rfl (by kernel_rfl) (by kernel_rfl) (by kernel_rfl) (fun _ _ _ h => h) ?w198 (by assumption) ?y198 ?r198
          case w198 => rfl
          case y198 => (intro w hSw; (try dsimp only at hSw); go_simp; first | done | with_reducible rfl)
          simp only [Act.put, List.setIfInBounds_toArray, List.set_cons_zero, List.set_cons_succ]
          refine takeIn 2 (v := ?v199) rfl (by kernel_rfl) (by kernel_rfl) (by kernel_rfl) (fun _ _ _ h => h) ?w199 (by assumption) ?y199 ?r199
          case w199 => rfl
          case y199 => (intro w hSw; (try dsimp only at hSw); go_simp; first | done | with_reducible rfl)
          simp only [Act.put, List.setIfInBounds_toArray, List.set_cons_zero, List.set_cons_succ]
          refine takeIn 3 (v := ?v200) rfl (by kernel_rfl) (by kernel_rfl) (by kernel_rfl) (fun _ _ _ h => h) ?w200 (by assumption) ?y200 ?r200
          case w200 => rfl
          case y200 => (intro w hSw; (try dsimp only at hSw); go_simp; first | done | with_reducible rfl)
          simp only [Act.put, List.setIfInBounds_toArray, List.set_cons_zero, List.set_cons_succ]
          refine takeIn 4 (v := ?v201) rfl (by kernel_rfl) (by kernel_rfl) (by kernel_rfl) (fun _ _ _ h => h) ?w201 (by assumption) ?y201 ?r201
          case w201 => rfl
          case y201 => (intro w hSw; (try dsimp only at hSw); go_simp; first | done | with_reducible rfl)
          simp only [Act.put, List.setIfInBounds_toArray, List.set_cons_zero, List.set_cons_succ]
          refine takeIn 5 (v := ?v202) rfl (by kernel_rfl) (by kernel_rfl) (by kernel_rfl) (fun _ _ _ h => h) ?w202 (by assumption) ?y202 ?r202
          case w202 => rfl
          case y202 => (intro w hSw; (try dsimp only at hSw); go_simp; first | done | with_reducible rfl)
          simp only [Act.put, List.setIfInBounds_toArray, List.set_cons_zero, List.set_cons_succ]
          refine takeIn 6 (v := ?v203) rfl (by kernel_rfl) (by kernel_rfl) (by kernel_rfl) (fun _ _ _ h => h) ?w203 (by assumption) ?y203 ?r203
          case w203 => rfl
          case y203 => (intro w hSw; (try dsimp only at hSw); go_simp; first | done | with_reducible rfl)
          simp only [Act.put, List.setIfInBounds_toArray, List.set_cons_zero, List.set_cons_succ]
          refine oneUp 7 rfl (by kernel_rfl) (by rfl) (fun K hK => ?_)
          go_simp
          refine (SV.out _).mono ?_
          rintro e WA ⟨rfl, hA⟩
          have hA2 : Below wp.heap.size wp WA := (Below.refl wp.heap.size wp).drew.trans hA
          refine hK.out _ _ ?_ (fun hHeld => ?_)
          · (try dsimp only); exact HSW.out _ hA2
          clear hK K
          try simp only [Act.put, List.setIfInBounds_toArray, List.set_cons_zero, List.set_cons_succ]
          refine takeIn 8 (v := ?v204) rfl (by kernel_rfl) (by kernel_rfl) (by kernel_rfl) (fun _ _ _ h => h) ?w204 (by assumption) ?y204 ?r204
          case w204 => rfl
          case y204 => (intro w hSw; (try dsimp only at hSw); go_simp; first | done | with_reducible rfl)
          simp only [Act.put, List.setIfInBounds_toArray, List.set_cons_zero, List.set_cons_succ]
          refine takeIn 9 (v := ?v205) rfl (by kernel_rfl) (by kernel_rfl) (by kernel_rfl) (fun _ _ _ h => h) ?w205 (by assumption) ?y205 ?r205
          case w205 => rfl
          case y205 => (intro w hSw; (try dsimp only at hSw); go_simp; first | done | with_reducible rfl)
          simp only [Act.put, List.setIfInBounds_toArray, List.set_cons_zero, List.set_cons_succ]
          refine takeIn 10 (v := ?v206) rfl (by kernel_rfl) (by kernel_rfl) (by kernel_rfl) (fun _ _ _ h => h) ?w206 (by assumption) ?y206 ?r206
          case w206 => rfl
          case y206 => (intro w hSw; (try dsimp only at hSw); go_simp; first | done | with_reducible rfl)
          simp only [Act.put, List.setIfInBounds_toArray, List.set_cons_zero, List.set_cons_succ]
          refine takeIn 11 (v := ?v207) rfl (by kernel_rfl) (by kernel_rfl) (by kernel_rfl) (fun _ _ _ h => h) ?w207 (by assumption) ?y207 ?r207
          case w207 => rfl
          case y207 => (intro w hSw; (try dsimp only at hSw); go_simp; first | done | with_reducible rfl)
          simp only [Act.put, List.setIfInBounds_toArray, List.set_cons_zero, List.set_cons_succ]
          refine takeIn 12 (v := ?v208) rfl (by kernel_rfl) (by kernel_rfl) (by kernel_rfl) (fun _ _ _ h => h) ?w208 (by assumption) ?y208 ?r208
          case w208 => rfl
          case y208 => (intro w hSw; (try dsimp only at hSw); go_simp; first | done | with_reducible rfl)
          simp only [Act.put, List.setIfInBounds_toArray, List.set_cons_zero, List.set_cons_succ]
          refine takeIn 13 (v := ?v209) rfl (by kernel_rfl) (by kernel_rfl) (by kernel_rfl) (fun _ _ _ h => h) ?w209 (by assumption) ?y209 ?r209
          case w209 => rfl
          case y209 => (intro w hSw; (try dsimp only at hSw); go_simp; first | done | with_reducible rfl)
          simp only [Act.put, List.setIfInBounds_toArray, List.set_cons_zero, List.set_cons_succ]
          refine takeIn 14 (v := ?v210) rfl (by kernel_rfl) (by kernel_rfl) (by kernel_rfl) (fun _ _ _ h => h) ?w210 (by assumption) ?y210 ?r210
          case w210 => rfl
          case y210 => (intro w hSw; (try dsimp only at hSw); go_simp; first | done | with_reducible rfl)
          simp only [Act.put, List.setIfInBounds_toArray, List.set_cons_zero, List.set_cons_succ]
          refine takeIn 15 (v := ?v211) rfl (by kernel_rfl) (by kernel_rfl) (by kernel_rfl) (fun _ _ _ h => h) ?w211 (by assumption) ?y211 ?r211
          case w211 => rfl
          case y211 => (intro w hSw; (try dsimp only at hSw); go_simp; first | done | with_reducible rfl)
          simp only [Act.put, List.setIfInBounds_toArray, List.set_cons_zero, List.set_cons_succ]
          refine takeOut 16 rfl (by kernel_rfl) (by kernel_rfl) (by kernel_rfl) (fun _ _ _ h => h) ?w212 (by assumption) ?r212
          case w212 => rfl
          simp only [Act.put, List.setIfInBounds_toArray, List.set_cons_zero, List.set_cons_succ]
          refine takeOut 17 rfl (by kernel_rfl) (by kernel_rfl) (by kernel_rfl) (fun _ _ _ h => h) ?w213 (by assumption) ?r213
          case w213 => rfl
          simp only [Act.put, List.setIfInBounds_toArray, List.set_cons_zero, List.set_cons_succ]
          refine takeOut 18 rfl (by kernel_rfl) (by kernel_rfl) (by kernel_rfl) (fun _ _ _ h => h) ?w214 (by assumption) ?r214
          case w214 => rfl
          simp only [Act.put, List.setIfInBounds_toArray, List.set_cons_zero, List.set_cons_succ]
          refine takeOut 19 rfl (by kernel_rfl) (by kernel_rfl) (by kernel_rfl) (fun _ _ _ h => h) ?w215 (by assumption) ?r215
          case w215 => rfl
          simp only [Act.put, List.setIfInBounds_toArray, List.set_cons_zero, List.set_cons_succ]
          refine takeOut 20 rfl (by kernel_rfl) (by kernel_rfl) (by kernel_rfl) (fun _ _ _ h => h) ?w216 (by assumption) ?r216
          case w216 => rfl
          simp only [Act.put, List.setIfInBounds_toArray, List.set_cons_zero, List.set_cons_succ]
          refine takeIn 21 (v := ?v217) rfl (by kernel_rfl) (by kernel_rfl) (by kernel_rfl) (fun _ _ _ h => h) ?w217 (by assumption) ?y217 ?r217
          case w217 => rfl
          case y217 => (intro w hSw; (try dsimp only at hSw); go_simp; first | done | with_reducible rfl)
          simp only [Act.put, List.setIfInBounds_toArray, List.set_cons_zero, List.set_cons_succ]
          refine takeIn 22 (v := ?v218) rfl (by kernel_rfl) (by kernel_rfl) (by kernel_rfl) (fun _ _ _ h => h) ?w218 (by assumption) ?y218 ?r218
          case w218 => rfl
          case y218 => (intro w hSw; (try dsimp only at hSw); go_simp; first | done | with_reducible rfl)
          simp only [Act.put, List.setIfInBounds_toArray, List.set_cons_zero, List.set_cons_succ]
          refine takeIn 23 (v := ?v219) rfl (by kernel_rfl) (by kernel_rfl) (by kernel_rfl) (fun _ _ _ h => h) ?w219 (by assumption) ?y219 ?r219
          case w219 => rfl
          case y219 => (intro w hSw; (try dsimp only at hSw); go_simp; first | done | with_reducible rfl)
          simp only [Act.put, List.setIfInBounds_toArray, List.set_cons_zero, List.set_cons_succ]
          refine takeIn 24 (v := ?v220) rfl (by kernel_rfl) (by kernel_rfl) (by kernel_rfl) (fun _ _ _ h => h) ?w220 (by assumption) ?y220 ?r220
          case w220 => rfl
          case y220 => (intro w hSw; (try dsimp only at hSw); go_simp; first | done | with_reducible rfl)
          simp only [Act.put, List.setIfInBounds_toArray, List.set_cons_zero, List.set_cons_succ]
          refine takeIn 25 (v := ?v221) rfl (by kernel_rfl) (by kernel_rfl) (by kernel_rfl) (fun _ _ _ h => h) ?w221 (by assumption) ?y221 ?r221
          case w221 => rfl
          case y221 => (intro w hSw; (try dsimp only at hSw); go_simp; first | done | with_reducible rfl)
          simp only [Act.put, List.setIfInBounds_toArray, List.set_cons_zero, List.set_cons_succ]
          refine takeIn 26 (v := ?v222) rfl (by kernel_rfl) (by kernel_rfl) (by kernel_rfl) (fun _ _ _ h => h) ?w222 (by assumption) ?y222 ?r222
          case w222 => rfl
          case y222 => (intro w hSw; (try dsimp only at hSw); go_simp; first | done | with_reducible rfl)
          simp only [Act.put, List.setIfInBounds_toArray, List.set_cons_zero, List.set_cons_succ]
          refine takeIn 27 (v := ?v223) rfl (by kernel_rfl) (by kernel_rfl) (by kernel_rfl) (fun _ _ _ h => h) ?w223 (by assumption) ?y223 ?r223
          case w223 => rfl
          case y223 => (intro w hSw; (try dsimp only at hSw); go_simp; first | done | with_reducible rfl)
          simp only [Act.put, List.setIfInBounds_toArray, List.set_cons_zero, List.set_cons_succ]
          refine takeIn 28 (v := ?v224) rfl (by kernel_rfl) (by kernel_rfl) (by kernel_rfl) (fun _ _ _ h => h) ?w224 (by assumption) ?y224 ?r224
          case w224 => rfl
          case y224 => (intro w hSw; (try dsimp only at hSw); go_simp; first | done | with_reducible rfl)
          simp only [Act.put, List.setIfInBounds_toArray, List.set_cons_zero, List.set_cons_succ]
          refine takeIn 29 (v := ?v225) rfl (by kernel_rfl) (by kernel_rfl) (by kernel_rfl) (fun _ _ _ h => h) ?w225 (by assumption) ?y225 ?r225
          case w225 => rfl
          case y225 => (intro w hSw; (try dsimp only at hSw); go_simp; first | done | with_reducible rfl)
          simp only [Act.put, List.setIfInBounds_toArray, List.set_cons_zero, List.set_cons_succ]
          refine takeIn 30 (v := ?v226) rfl (by kernel_rfl) (by kernel_rfl) (by kernel_rfl) (fun _ _ _ h => h) ?w226 (by assumption) ?y226 ?r226
          case w226 => rfl
          case y226 => (intro w hSw; (try dsimp only at hSw); go_simp; first | done | with_reducible rfl)
          simp only [Act.put, List.setIfInBounds_toArray, List.set_cons_zero, List.set_cons_succ]
          refine oneUp 31 rfl (by kernel_rfl) (by rfl) (fun K hK => ?_)
          go_simp
          refine (HSO.out _ (hBP.trans (hA2.mono (Nat.le_of_lt hSP)))).mono ?_
          rintro e WB ⟨rfl, hB⟩
          have hB2 : Below wp.heap.size wp WB := hA2.trans (hB.mono hA2.size)
          refine hK.out _ _ ?_ (fun hHeld => ?_)
          · (try dsimp only); exact HSW.out _ hB2
          clear hK K
          try simp only [Act.put, List.setIfInBounds_toArray, List.set_cons_zero, List.set_cons_succ]
          refine takeIn 32 (v := ?v227) rfl (by kernel_rfl) (by kernel_rfl) (by kernel_rfl) (fun _ _ _ h => h) ?w227 (by assumption) ?y227 ?r227
          case w227 => rfl
          case y227 => (intro w hSw; (try dsimp only at hSw); go_simp; first | done | with_reducible rfl)
          simp only [Act.put, List.setIfInBounds_toArray, List.set_cons_zero, List.set_cons_succ]
          refine takeIn 33 (v := ?v228) rfl (by kernel_rfl) (by kernel_rfl) (by kernel_rfl) (fun _ _ _ h => h) ?w228 (by assumption) ?y228 ?r228
          case w228 => rfl
          case y228 => (intro w hSw; (try dsimp only at hSw); go_simp; first | done | with_reducible rfl)
          simp only [Act.put, List.setIfInBounds_toArray, List.set_cons_zero, List.set_cons_succ]
          refine wpAnyH_done (by kernel_rfl) ?_ _
          go_wp2_with fail
          go_ret
          exact ⟨vretB hR.out.symm, hbp.trans (hB2.mono hbp.size)⟩

end Go.Proofs.Ytlmlmdmechhalaa

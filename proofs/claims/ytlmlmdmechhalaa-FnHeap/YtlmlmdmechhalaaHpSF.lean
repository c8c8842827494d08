/-
  The walks of the specification's l05Ref, l05Find, HeapHas.
-/
import Derived.Test.YtlmlmdmechhalaaHpSR
import Derived.Test.YtlmlmdmechhalaaHpK
namespace Go.Proofs.Ytlmlmdmechhalaa
open Go.RowKit
open Hp (PP OO propC)

theorem rref (h : List OO) (ref : Int) : Hp.refB h ref = (rightB h && decide (0 ≤ ref) && decide (ref < h.length)) := by
  by_cases k : Hp.RefOk h ref
  · rw [Hp.refB_t k, rightB_t k.1, decide_eq_true k.2.1, decide_eq_true k.2.2]; rfl
  · rw [Hp.refB_f k]
    by_cases k1 : Hp.RightH h
    · rw [rightB_t k1]
      by_cases k2 : 0 ≤ ref
      · rw [decide_eq_true k2, decide_eq_false (fun k3 => k ⟨k1, k2, k3⟩)]; rfl
      · rw [decide_eq_false k2]; rfl
    · rw [rightB_f k1]; rfl

set_option maxHeartbeats 4000000 in
theorem sRef (a : Option Addr) (cap B : Nat) (h : List OO) (cs : Nat → OC) (ref : Int) (w : World) (hok : OkH h) (hcap : ∀ i (hi : i < h.length), h[i].ps.length ≤ (cs i).pc) (hh : HIn w B a h cs) :
    Calls Try.prog 50 #[.agg #[.slice a h.length cap], .int .i64 ref] w fun e w' => e = .returned (.bool (Hp.refB h ref)) ∧ Below w.heap.size w w' := by
  have C1 := fun (W : World) (hW : Below w.heap.size w W) => sHeapRight a cap B h cs W hok hcap (hh.under hW)
  have hl := hok.1
  have HB0 : Hid (∀ o, Below w.heap.size w (w.alloc o)) := fun o => (Below.refl _ _).alloc (Nat.le_refl _) o
  rw [rref]
  generalize rightB h = R at *
  have H1 : Hid _ := C1
  clear C1 hok hh hcap
  go_enter Try.func50, Try.ntmps50
  cases R
  · go_wp2_with (go_at_call 15; refine (H1.out _ (HB0.out _)).mono ?_; rintro e w1 ⟨rfl, hb1⟩)
    go_ret
    exact ⟨rfl, (HB0.out _).trans (hb1.mono (HB0.out _).size)⟩
  by_cases h0 : 0 ≤ ref
  · have h0d : decide (0 ≤ ref) = true := decide_eq_true h0
    go_wp2_with (go_at_call 15; refine (H1.out _ (HB0.out _)).mono ?_; rintro e w1 ⟨rfl, hb1⟩; have x1 := (one_of' ((hb1.block w.heap.size (by simp)).trans (heap_alloc_new _ _))))
    go_ret
    exact ⟨by simp [h0d], (HB0.out _).trans (hb1.mono (HB0.out _).size)⟩
  · have h0d : decide (0 ≤ ref) = false := decide_eq_false h0
    go_wp2_with (go_at_call 15; refine (H1.out _ (HB0.out _)).mono ?_; rintro e w1 ⟨rfl, hb1⟩)
    go_ret
    exact ⟨by simp [h0d], (HB0.out _).trans (hb1.mono (HB0.out _).size)⟩

set_option maxHeartbeats 4000000 in
set_option maxRecDepth 100000 in
theorem sFind (a : Option Addr) (cap B : Nat) (h : List OO) (cs : Nat → OC) (key : ByteArray) (ref : Int) (res : Option (Nat × Nat)) (w : World) (hok : OkH h) (hh : HIn w B a h cs) (hR : Hp.RightH h) (h0 : 0 ≤ ref) (hl : ref < h.length) (hsk : Hp.Sk h key ref res) :
    Calls Try.prog 55 #[.agg #[.slice a h.length cap], .int .i64 ref, .string key] w fun e w' => e = .returned (.tuple #[.int .i64 (Hp.atI res), .int .i64 (Hp.kI res), .bool res.isSome]) ∧ Below w.heap.size w w' := by
  have hlen : h.length ≤ 400 := hR.1
  have HC : Hid (HIn w B a h cs ∧ (∀ x ∈ h, OkO x)) := ⟨hh, hok.2⟩
  have HR : Hid (Hp.RightH h) := hR
  have HB0 : Hid (∀ o, Below w.heap.size w (w.alloc o)) := fun o => (Below.refl _ _).alloc (Nat.le_refl _) o
  generalize hRB : res.isSome = RB
  generalize hRA : Hp.atI res = RA
  generalize hRK : Hp.kI res = RK
  have HN : Hid (∀ r, r < 0 → Hp.Sk h key r res → RB = false ∧ RA = -1 ∧ RK = -1) := fun r hr x => by
    have e := x.neg hr
    subst e
    exact ⟨hRB.symm, hRA.symm, hRK.symm⟩
  have HY : Hid (∀ i j, res = some (i, j) → RB = true ∧ RA = i ∧ RK = j) := fun i j e => by
    subst e
    exact ⟨hRB.symm, hRA.symm, hRK.symm⟩
  clear hRB hRA hRK hok hh hR
  go_enter Try.func55, Try.ntmps55
  go_wp2_with fail
  generalize hW0 : w.alloc _ = W0
  have hBW : Below w.heap.size w W0 := by rw [← hW0]; exact HB0.out _
  have hX0 : W0.heap[w.heap.size]? = some (.cells #[.slice a h.length cap] 25 (0, 0)) := by rw [← hW0]; exact heap_alloc_new _ _
  have hS0 : w.heap.size < W0.heap.size := by rw [← hW0]; simp
  clear hW0 HB0
  go_loopw [1] (fun vr wr => ∃ r : Int, vr = .int .i64 r ∧ -1 ≤ r ∧ r < h.length ∧ Below W0.heap.size W0 wr ∧ Hid (Hp.Sk h key r res)) (fun vr _ => (intOf vr + 1).toNat)
  case atStart => exact ⟨ref, rfl, by omega, hl, Below.refl _ _, hsk⟩
  case round =>
    obtain ⟨r, rfl, hr0, hrl, hb, HS⟩ := hrel
    have hbw : Below w.heap.size w wr := hBW.trans (hb.mono hBW.size)
    have x0 := one_of' ((hb.block _ hS0).trans hX0)
    have hSr : w.heap.size < wr.heap.size := by have := hb.size; omega
    by_cases hneg : r < 0
    · obtain rfl : r = -1 := by omega
      obtain ⟨e1, e2, e3⟩ := HN.out _ hneg HS.out
      subst e1 e2 e3
      have HBW : Hid (Below w.heap.size w wr) := hbw
      clear hbw hb
      go_wp2_with fail
      exact bodyPost_ret (v := .tuple #[.int .i64 (-1), .int .i64 (-1), .bool false]) (by simp [results, Try.results55, go_sem]) rfl ⟨rfl, HBW.out⟩
    obtain ⟨i, rfl⟩ : ∃ i : Nat, r = (i : Int) := ⟨r.toNat, by omega⟩
    have hi : i < h.length := by omega
    have hi' : (i : Int) < (h.length : Int) := by omega
    obtain ⟨⟨hos, hps⟩, hokk⟩ := HC.out
    rcases hos with rfl | ⟨b, o, rfl, hB, hc⟩
    · simp at hi
    have h3 := (hc i hi).keep hB (.of_below hbw B)
    have hPS : PsIn wr B (cs i).pa h[i].ps := (hps i hi).under hbw
    have C1 := fun (W : World) (hW : Below wr.heap.size wr W) => sOwn h[i].cls h[i].pro (cs i).pa (cs i).pc B h[i].ps key W (hokk _ (List.getElem_mem hi)).1 (hPS.under hW)
    have HRI : Hid (-1 ≤ h[i].pro ∧ h[i].pro < i) := ⟨(HR.out.2 i hi).2.2.1, (HR.out.2 i hi).2.2.2.1⟩
    have HF1 : Hid (0 ≤ Hp.ownI h[i].ps key → RB = true ∧ RA = i ∧ RK = Hp.ownI h[i].ps key) := fun hp => by
      unfold Hp.ownI at hp ⊢
      by_cases hlt : Hp.fi h[i].ps key < h[i].ps.length
      · rw [if_pos hlt]
        exact HY.out _ _ (Hp.Sk.found hi hlt HS.out)
      · rw [if_neg hlt] at hp; omega
    have HF2 : Hid (¬ 0 ≤ Hp.ownI h[i].ps key → Hp.Sk h key h[i].pro res) := fun hp => by
      refine Hp.Sk.step hi (fun hlt => hp ?_) HS.out
      unfold Hp.ownI
      rw [if_pos hlt]
      omega
    clear hps hokk hc hPS
    generalize Hp.ownI h[i].ps key = own at *
    generalize h[i] = x at *
    generalize cs i = c at *
    obtain ⟨cls, pro, ps⟩ := x
    obtain ⟨h60, h61, h62⟩ := h3
    dsimp only at h60 h61 h62 HRI HF1 HF2 C1
    have H1 : Hid _ := C1
    have HWR : Hid (_ ∧ _) := ⟨hb, hbw⟩
    have hlb := World.block_lt_of_cell? wr _ h61
    clear C1 hb hbw
    go_wp2_with fail
    refine (H1.out _ (Below.refl _ _)).mono ?_
    rintro e w1 ⟨rfl, hb1⟩
    obtain ⟨hb, hbw⟩ := HWR.out
    have HB1 : Hid (Below w.heap.size w w1) := hbw.trans (hb1.mono hbw.size)
    have x1 := (World.cell?_of_block (a := ⟨w.heap.size, 0, none⟩) (hb1.block _ hSr)).trans x0
    have k1 := (World.cell?_of_block (a := ⟨b, o + i * 3 + 1, none⟩) (hb1.block _ hlb)).trans h61
    have HBL : Hid (Below W0.heap.size W0 w1) := hb.trans (hb1.mono hb.size)
    clear hb hbw hb1 x0 h60 h61 h62 hlb
    by_cases hown : 0 ≤ own
    · obtain ⟨e1, e2, e3⟩ := HF1.out hown
      subst e1 e2 e3
      go_wp2_with fail
      exact bodyPost_ret (v := .tuple #[.int .i64 i, .int .i64 _, .bool true]) (by simp [results, Try.results55, go_sem]) rfl ⟨rfl, HB1.out⟩
    · have HNX : Hid (Hp.Sk h key pro res) := HF2.out (by omega)
      go_wp2_with fail
      have := HRI.out
      exact ⟨⟨pro, rfl, by omega, by omega, HBL.out, HNX.out⟩, by simp [intOf]; omega⟩

set_option maxHeartbeats 4000000 in
theorem sHeapHas (a : Option Addr) (cap B : Nat) (h : List OO) (cs : Nat → OC) (ref : Int) (key : ByteArray) (w : World) (hok : OkH h) (hcap : ∀ i (hi : i < h.length), h[i].ps.length ≤ (cs i).pc) (hh : HIn w B a h cs) (hk : key.size ≤ 9223372036854775807) :
    Calls Try.prog 20 #[.agg #[.slice a h.length cap], .int .i64 ref, .string key] w fun e w' => e = .returned (.bool (Hp.hasV h ref key)) ∧ Below w.heap.size w w' := by
  have C1 := fun (W : World) (hW : Below w.heap.size w W) => sRef a cap B h cs ref W hok hcap (hh.under hW)
  have C2 := fun (W : World) (hW : Below w.heap.size w W) (hr : Hp.refB h ref = true) => sFind a cap B h cs key ref (Hp.skOf h key ref) W hok (hh.under hW) (Hp.refB_iff.1 hr).1 (Hp.refB_iff.1 hr).2.1 (Hp.refB_iff.1 hr).2.2 (Hp.skOf_sk (Hp.refB_iff.1 hr).1 key (Hp.refB_iff.1 hr).2.2)
  have HV1 : Hid (4000 < key.size → Hp.hasV h ref key = false) := fun k => Hp.hasV_long k
  have HV2 : Hid (Hp.refB h ref = false → Hp.hasV h ref key = false) := fun k => Hp.hasV_no k
  have HV3 : Hid (¬ 4000 < key.size → Hp.refB h ref = true → Hp.hasV h ref key = (Hp.skOf h key ref).isSome) := fun k1 k => Hp.hasV_yes k1 k
  have HB0 : Hid (∀ o, Below w.heap.size w (w.alloc o)) := fun o => (Below.refl _ _).alloc (Nat.le_refl _) o
  generalize Hp.hasV h ref key = V at *
  generalize Hp.refB h ref = RB at *
  generalize Hp.skOf h key ref = sk at *
  generalize sk.isSome = sb at *
  generalize Hp.atI sk = sa at *
  generalize Hp.kI sk = sq at *
  have H1 : Hid _ := C1
  have H2 : Hid _ := C2
  clear C1 C2 hok hh hcap
  go_enter Try.func20, Try.ntmps20
  by_cases hlk : 4000 < key.size
  · have hlk' : (4000 : Int) < (key.size : Int) := by omega
    have hV := HV1.out hlk
    subst hV
    go_wp2_with fail
    go_ret
    exact ⟨rfl, HB0.out _⟩
  have hlk' : ¬ (4000 : Int) < (key.size : Int) := by omega
  go_wp2_with fail
  refine (H1.out _ (HB0.out _)).mono ?_
  rintro e w1 ⟨rfl, hb1⟩
  have x1 := (one_of' ((hb1.block w.heap.size (by simp)).trans (heap_alloc_new _ _)))
  have hbf := (HB0.out (.cells #[.slice a h.length cap] 25)).trans (hb1.mono (HB0.out _).size)
  have HF : Hid _ := hbf
  clear hbf hb1
  cases RB
  · have hV := HV2.out rfl
    subst hV
    go_wp2_with fail
    go_ret
    exact ⟨rfl, HF.out⟩
  · have hV := HV3.out hlk rfl
    subst hV
    go_wp2_with fail
    refine (H2.out _ HF.out trivial).mono ?_
    rintro e w2 ⟨rfl, hb2⟩
    have HF3 : Hid (Below w.heap.size w w2) := HF.out.trans (hb2.mono HF.out.size)
    clear hb2
    go_wp2_with fail
    go_ret
    exact ⟨rfl, HF3.out⟩

end Go.Proofs.Ytlmlmdmechhalaa

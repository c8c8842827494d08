/-
  The walk of the law FnExactHeapDelete.
-/
import Derived.Test.YthagnflhelndjacMkE
import Derived.Test.YthagnflhelndjacHpSE
import Derived.Deep.CutRange
namespace Go.Proofs.Ythagnflhelndjac
open Go.RowKit
open Hp (PP OO propC)

theorem sum_erase (l : List PP) (i : Nat) : ((l.eraseIdx i).map szP).sum ≤ (l.map szP).sum := by
  induction l generalizing i with
  | nil => simp
  | cons p r ih =>
    cases i with
    | zero => simp
    | succ i =>
      have := ih i
      simp only [List.eraseIdx_cons_succ, List.map_cons, List.sum_cons]
      omega
theorem szPs_del (ps : List PP) (key : ByteArray) : szPs (Hp.delPs ps key) ≤ szPs ps := by
  unfold Hp.delPs
  split
  · split
    · exact Nat.le_refl _
    · unfold szPs
      have h1 := sum_erase ps (Hp.fi ps key)
      have h2 := List.length_eraseIdx_le ps (Hp.fi ps key)
      omega
  · exact Nat.le_refl _
theorem szH_setD {h : List OO} {i : Nat} (hi : i < h.length) (x : OO) : szH (h.set i x) + szPs h[i].ps = szH h + szPs x.ps := by
  have h1 := sum_set (h.map fun o => szPs o.ps) i (szPs x.ps) (by simpa using hi)
  unfold szH
  rw [List.length_set, List.map_set]
  simp only [List.getElem_map] at h1
  omega
theorem szH_del {h : List OO} (ref : Int) (key : ByteArray) (hz : szH h ≤ 1048576) : szH (delV h ref key) ≤ 1100000 := by
  unfold delV
  split
  · unfold szH; simp
  split
  · by_cases hi : ref.toNat < h.length
    · have h1 := szH_setD hi (delO h[ref.toNat] key)
      have h2 : szPs (delO h[ref.toNat] key).ps ≤ szPs h[ref.toNat].ps := szPs_del _ _
      rw [List.getElem?_eq_getElem hi, Option.getD_some]
      omega
    · rw [List.set_eq_of_length_le (by omega)]
      omega
  · omega
theorem HRow.blksD {w : World} {g : Nat} {h : List OO} {cs : Nat → OC} {gs : Nat → Nat} (k : HRow w g h cs gs) {q : Nat} (hq : Blks g h gs q) : g ≤ q ∧ q < w.heap.size := by
  have hg := k.lt
  obtain ⟨f, k⟩ := k
  rcases hq with rfl | ⟨j, hj, _, rfl⟩
  · exact ⟨Nat.le_refl _, hg⟩
  · exact ⟨by have := (k.pa j hj).2; omega, (k.props j hj hj).lt⟩

/-- The box of the argument. -/
def BoxH (w W : World) (s : Value) : Prop := Below w.heap.size w W ∧ w.heap.size < W.heap.size ∧ W.heap[w.heap.size]? = some (.cells #[s] 24 (0, 0))
theorem BoxH.under {w W W' : World} {s : Value} (k : BoxH w W s) (hb : Below W.heap.size W W') : BoxH w W' s := by
  obtain ⟨h1, h2, h3⟩ := k
  exact ⟨h1.trans (hb.mono h1.size), by have := hb.size; omega, (hb.block _ h2).trans h3⟩
theorem BoxH.marks {w W W' : World} {s : Value} {Q : Nat → Prop} (k : BoxH w W s) (hm : Marks Q W W') (hq : ∀ q, Q q → w.heap.size < q) : BoxH w W' s := by
  obtain ⟨h1, h2, h3⟩ := k
  exact ⟨Marks.below h1 hm (fun q e => by have := hq q e; omega) h1.size, by have := hm.size; omega, (hm.block _ h2 (fun e => by have := hq _ e; omega)).trans h3⟩
theorem BoxH.cell {w W : World} {s : Value} (k : BoxH w W s) : W.cell? ⟨w.heap.size, 0, none⟩ = some s := (one_of k.2.2).1

set_option maxHeartbeats 16000000 in
set_option maxRecDepth 100000 in
theorem heapDelete_walk (a : Option Addr) (cap : Nat) (h : List OO) (ks : Nat → OC) (ref : Int) (key : ByteArray) (w : World) (hok : OkH h) (hkey : key.size ≤ 9223372036854775807) (hin : HIn w 0 a h ks) :
    Calls Try.prog 6 #[.agg #[.slice a h.length cap], .int .i64 ref, .string key] w fun e w' => e = .returned (.bool true) ∧ Below w.heap.size w w' := by
  have HB0 : Hid (∀ o, Below w.heap.size w (w.alloc o)) := fun o => (Below.refl _ _).alloc (Nat.le_refl _) o
  have C1 := fun W (hW : Below w.heap.size w W) => lSzHeap a cap 1048576 0 h ks W (Nat.le_refl _) hok (hin.under hW)
  have C2 := fun (hz : szH h ≤ 1048576) W (hW : Below w.heap.size w W) => lToHeap a cap 0 h ks W (by unfold szH at hz; omega) (fun x hx => by
    obtain ⟨i, hi, rfl⟩ := List.getElem_of_mem hx
    exact len_of hz hi) (hin.under hW)
  have C3 := fun (hz : szH h ≤ 1048576) W (b : Nat) (ds : Nat → OC) (gs : Nat → Nat) (k : HRow W b h ds gs) => sHeapDelete b 0 h.length 0 h ds ref key W hz hok k.caps (fun i hi => by obtain ⟨f, k⟩ := k; exact ⟨_, _, (k.pa i hi).1⟩) (k.hIn (Nat.zero_le _))
  have C4 := fun (hz : szH h ≤ 1048576) W (b : Nat) (ds : Nat → OC) (gs : Nat → Nat) (k : HRow W b h ds gs) => iHeapDelete (some ⟨b, 0, none⟩) h.length 0 h ds ref key W hkey hz hok (k.hIn (Nat.zero_le _))
  have C5 := fun W (b1 b2 : Nat) (d1 d2 : Nat → OC) (g1 g2 : Nat → Nat) (h1 : HRow W b1 h d1 g1) (h2 : HRow W b2 h d2 g2) => lEqHeap (some ⟨b1, 0, none⟩) (some ⟨b2, 0, none⟩) h.length h.length 0 0 h d1 d2 W hok (h1.hIn (Nat.zero_le _)) (h2.hIn (Nat.zero_le _))
  have C6 := fun (hz : szH h ≤ 1048576) W (g : Nat) (ds : Nat → OC) (gs : Nat → Nat) (k : HRow W g h ds gs) => lMarkHeap g h.length _ 1 h ds gs _ W (by omega) (Nat.le_refl 1) (by omega) k.gh
  have HVZ : Hid (szH h ≤ 1048576 → szH (delV h ref key) ≤ 1100000) := fun hz => szH_del ref key hz
  generalize delV h ref key = V at *
  have HE : Hid (szH V ≤ 1100000 → ∀ (W : World) (lo1 X1 : Nat) (a1 : Option Addr) (c1 lo2 X2 : Nat) (a2 : Option Addr) (c2 : Nat), Ans W lo1 X1 a1 c1 V → Ans W lo2 X2 a2 c2 V → Calls Try.prog 13 #[.agg #[.slice a1 V.length c1], .agg #[.slice a2 V.length c2]] W fun e w' => e = .returned (.bool true) ∧ Below W.heap.size W w') := fun hz W lo1 X1 a1 c1 lo2 X2 a2 c2 k1 k2 => lEqAns V W lo1 X1 a1 c1 lo2 X2 a2 c2 (okH_of_sz hz) k1 k2
  have HM : Hid _ := fun (hz : szH V ≤ 1100000) (W : World) (lo X : Nat) (a : Option Addr) (c : Nat) (k : Ans W lo X a c V) => lMarkAns V W lo X a c hz k
  have HD : Hid _ := fun (hz : szH V ≤ 1100000) (W : World) (a : Option Addr) (c : Nat) (k : Marked W a V) => lHeldOwn V W a c hz k
  generalize (1 + mkK V V.length) = MV at *
  generalize szH V = zV at *
  generalize szH h = z at *
  have H1 : Hid _ := C1
  have H2 : Hid _ := C2
  have H3 : Hid _ := C3
  have H4 : Hid _ := C4
  have H5 : Hid _ := C5
  have H6 : Hid _ := C6
  clear C1 C2 C3 C4 C5 C6 hok hin hkey
  go_enter Try.func6, Try.ntmps6
  by_cases hkl : 1048576 < key.size
  · have hkl' : (1048576 : Int) < (key.size : Int) := by omega
    go_wp2_with fail
    go_ret
    exact ⟨rfl, HB0.out _⟩
  have hkl' : ¬ (1048576 : Int) < (key.size : Int) := by omega
  go_wp2_with fail
  generalize hW0 : w.alloc _ = W0
  have HX0 : Hid (BoxH w W0 (.slice a h.length cap)) := by
    rw [← hW0]
    exact ⟨HB0.out _, by simp, heap_alloc_new _ _⟩
  clear hW0 HB0
  refine (H1.out W0 HX0.out.1).mono ?_
  rintro e W1 ⟨rfl, hb1⟩
  have HX1 : Hid (BoxH w W1 (.slice a h.length cap)) := HX0.out.under hb1
  clear hb1 HX0
  by_cases hz : z ≤ 1048576
  case neg =>
    rw [subR_gt (by omega)]
    go_wp2_with fail
    go_ret
    exact ⟨rfl, HX1.out.1⟩
  rw [subR_le hz]
  have hz' : ¬ (((1048576 - z : Nat) : Int)) < 0 := by omega
  have hzV := HVZ.out hz
  have p0 := HX1.out.cell
  have hS1 := HX1.out.2.1
  go_wp2_with fail
  refine (H2.out hz W1 HX1.out.1).mono ?_
  rintro e WA ⟨g1, cs1, gs1, rfl, hb, -, hr1⟩
  have HXA : Hid (BoxH w WA (.slice a h.length cap)) := HX1.out.under hb
  have HR1 : Hid (HRow WA g1 h cs1 gs1) := hr1
  clear hb hr1 HX1 p0 hS1
  go_wp2_with fail
  refine (H3.out hz WA g1 cs1 gs1 HR1.out).mono ?_
  rintro e WB ⟨a10, c10, rfl, hb, cs10, ho10⟩
  have HXB : Hid (BoxH w WB (.slice a h.length cap)) := HXA.out.under hb
  have HO10 : Hid (HOwn WB WA.heap.size (.slice a10 V.length c10) V V.length cs10 ∧ WA.heap.size ≤ WB.heap.size ∧ w.heap.size < WA.heap.size) := ⟨ho10, hb.size, HXA.out.2.1⟩
  clear hb ho10 HXA HR1
  have p0 := HXB.out.cell
  have hS1 := HXB.out.2.1
  go_wp2_with fail
  generalize hG : WB.alloc _ = U0
  have HXa : Hid (BoxH w U0 (.slice a h.length cap)) := by
    rw [← hG]
    exact HXB.out.under ((Below.refl _ _).alloc (Nat.le_refl _) _)
  have HA10 : Hid (Ans U0 WA.heap.size WB.heap.size a10 c10 V ∧ w.heap.size < WA.heap.size) := by
    rw [← hG]
    exact ⟨ans_new HO10.out.1 HO10.out.2.1, HO10.out.2.2⟩
  clear hG HXB HO10 p0 hS1
  generalize WA.heap.size = lo10 at *
  generalize WB.heap.size = X10 at *
  refine (H2.out hz U0 HXa.out.1).mono ?_
  rintro e U1 ⟨g2, cs2, gs2, rfl, hb, hg2, hr2⟩
  have HXb : Hid (BoxH w U1 (.slice a h.length cap)) := HXa.out.under hb
  have HK10 : Hid (Kept lo10 U0 U1) := (Kept.refl _ _).under hb
  have HBL : Hid (∀ q, Blks g2 h gs2 q → U0.heap.size ≤ q ∧ q < U1.heap.size) := fun q hq => by have := hr2.blksD hq; omega
  have HR1 : Hid (HRow U1 g2 h cs2 gs2) := hr2
  have hU01 := hb.size
  clear hb hg2 hr2 HXa
  go_wp2_with fail
  generalize hG : U1.alloc _ = U2
  have hb : Below U1.heap.size U1 U2 := by rw [← hG]; exact (Below.refl _ _).alloc (Nat.le_refl _) _
  have hX11 : U2.heap[U1.heap.size]? = some (.cells #[.slice (some ⟨g2, 0, none⟩) h.length h.length] 29 (0, 0)) := by rw [← hG]; exact heap_alloc_new _ _
  have hU12 : U1.heap.size < U2.heap.size := by rw [← hG]; simp
  clear hG
  have HXc : Hid (BoxH w U2 (.slice a h.length cap)) := HXb.out.under hb
  have HK10b : Hid (Kept lo10 U0 U2) := HK10.out.under hb
  have HR2 : Hid (HRow U2 g2 h cs2 gs2) := HR1.out.under hb
  clear hb HXb HK10 HR1
  generalize hXe : U1.heap.size = X11 at *
  clear hXe
  refine (H4.out hz U2 g2 cs2 gs2 HR2.out).mono ?_
  rintro e WC ⟨a12, c12, rfl, hb, cs12, ho12⟩
  have HXC : Hid (BoxH w WC (.slice a h.length cap)) := HXc.out.under hb
  have HK10C : Hid (Kept lo10 U0 WC) := HK10b.out.under hb
  have HRC : Hid (HRow WC g2 h cs2 gs2) := HR2.out.under hb
  have hX11C := (hb.block _ hU12).trans hX11
  have HO12 : Hid (HOwn WC U2.heap.size (.slice a12 V.length c12) V V.length cs12 ∧ U2.heap.size ≤ WC.heap.size ∧ X11 < U2.heap.size ∧ w.heap.size < U2.heap.size) := ⟨ho12, hb.size, hU12, HXc.out.2.1⟩
  clear hb ho12 HXc HK10b HR2 hX11
  have y10 := (HA10.out.1.kept HK10C.out).cell
  have hX10s : X10 < WC.heap.size := (HA10.out.1.kept HK10C.out).lt
  go_wp2_with fail
  generalize hG : WC.alloc _ = U3
  have hb : Below WC.heap.size WC U3 := by rw [← hG]; exact (Below.refl _ _).alloc (Nat.le_refl _) _
  have HA12 : Hid (Ans U3 U2.heap.size WC.heap.size a12 c12 V ∧ X11 < U2.heap.size ∧ w.heap.size < U2.heap.size) := by
    rw [← hG]
    exact ⟨ans_new HO12.out.1 HO12.out.2.1, HO12.out.2.2⟩
  clear hG
  have HXd : Hid (BoxH w U3 (.slice a h.length cap)) := HXC.out.under hb
  have HK10c : Hid (Kept lo10 U0 U3) := HK10C.out.under hb
  have HR3 : Hid (HRow U3 g2 h cs2 gs2) := HRC.out.under hb
  have hX11c := (hb.block X11 (Array.getElem?_eq_some_iff.1 hX11C).1).trans hX11C
  clear hb HXC HK10C HRC hX11C HO12 hU12 y10 hX10s
  generalize U2.heap.size = lo12 at *
  generalize WC.heap.size = X12 at *
  refine (HE.out hzV U3 lo12 X12 a12 c12 lo10 X10 a10 c10 HA12.out.1 (HA10.out.1.kept HK10c.out)).mono ?_
  rintro e U4 ⟨rfl, hb⟩
  have HXe : Hid (BoxH w U4 (.slice a h.length cap)) := HXd.out.under hb
  have HK10d : Hid (Kept lo10 U0 U4) := HK10c.out.under hb
  have HK12d : Hid (Kept lo12 U3 U4) := (Kept.refl _ _).under hb
  have HR4 : Hid (HRow U4 g2 h cs2 gs2) := HR3.out.under hb
  have hX11d := (hb.block X11 (Array.getElem?_eq_some_iff.1 hX11c).1).trans hX11c
  clear hb HXd HK10c HR3 hX11c
  have x11 := (one_of hX11d).1
  have p0 := HXe.out.cell
  have hSP := HXe.out.2.1
  have hSX : X11 < U4.heap.size := (Array.getElem?_eq_some_iff.1 hX11d).1
  go_wp2_with fail
  go_cut [42] from 11 to 81 (fun v W => v = .bool false ∧ Below U4.heap.size U4 W)
  case first =>
    go_region_with (first
      | (go_at_call 11; refine (H2.out hz _ HXe.out.1.drew).mono ?_; rintro e WA ⟨g3, cs3, gs3, rfl, hA, hgA, hrA⟩; have hA2 : Below U4.heap.size U4 WA := (Below.refl U4.heap.size U4).drew.trans hA; have pA := (one_of ((hA2.block _ hSP).trans HXe.out.2.2)).1; have xA := (one_of ((hA2.block _ hSX).trans hX11d)).1; have HRA : Hid (HRow WA g3 h cs3 gs3) := hrA; clear hrA)
      | (go_at_call 13; refine (H5.out _ g2 g3 cs2 cs3 gs2 gs3 (HR4.out.under hA2) HRA.out).mono ?_; rintro e WB ⟨rfl, hBB⟩; have hB2 : Below U4.heap.size U4 WB := hA2.trans (hBB.mono hA2.size)))
    all_goals
      go_wp2_with fail
      go_meet
      exact ⟨rfl, hB2⟩
  case rest =>
  obtain ⟨rfl, hcut⟩ := hcut
  obtain ⟨U5, rfl⟩ : ∃ x, x = wc := ⟨_, rfl⟩
  have HXf : Hid (BoxH w U5 (.slice a h.length cap)) := HXe.out.under hcut
  have HK10e : Hid (Kept lo10 U0 U5) := HK10d.out.under hcut
  have HK12e : Hid (Kept lo12 U3 U5) := HK12d.out.under hcut
  have HR5 : Hid (HRow U5 g2 h cs2 gs2) := HR4.out.under hcut
  have x11b := (one_of ((hcut.block _ hSX).trans hX11d)).1
  clear hcut HXe HK10d HK12d HR4 hX11d x11 p0 hSP hSX
  go_wp2_with fail
  refine (H6.out hz U5 g2 cs2 gs2 HR5.out).mono ?_
  rintro e U6 ⟨rfl, -, hm⟩
  have HXg : Hid (BoxH w U6 (.slice a h.length cap)) := HXf.out.marks hm (fun q hq => by have := (HBL.out q hq).1; have := HA10.out.2; have := HA10.out.1.lt; have := HA10.out.1.1; omega)
  have HK10f : Hid (Kept lo10 U0 U6) := HK10e.out.marks hm (fun q _ h2 e => by have := (HBL.out q e).1; omega)
  have HK12f : Hid (Kept lo12 U3 U6) := HK12e.out.marks hm (fun q h1 _ e => by have := (HBL.out q e).2; have := HA12.out.2.1; omega)
  clear hm HXf HK10e HK12e HR5 x11b
  generalize (1 + mkK h h.length) = M
  have hM0 : ¬ ((M : Nat) : Int) < 0 := by omega
  have y12 := (HA12.out.1.kept HK12f.out).cell
  have y10 := (HA10.out.1.kept HK10f.out).cell
  go_wp2_with fail
  refine (HE.out hzV U6 lo12 X12 a12 c12 lo10 X10 a10 c10 (HA12.out.1.kept HK12f.out) (HA10.out.1.kept HK10f.out)).mono ?_
  rintro e U7 ⟨rfl, hb⟩
  have HXh : Hid (BoxH w U7 (.slice a h.length cap)) := HXg.out.under hb
  have HK10g : Hid (Kept lo10 U0 U7) := HK10f.out.under hb
  have HA12g : Hid (Ans U7 lo12 X12 a12 c12 V) := (HA12.out.1.kept HK12f.out).kept ((Kept.refl _ _).under hb)
  clear hb HXg HK10f HK12f y12 y10
  have y12 := HA12g.out.cell
  go_wp2_with fail
  refine (HM.out hzV U7 lo12 X12 a12 c12 HA12g.out).mono ?_
  rintro e U8 ⟨rfl, hmk, hbox, Q, hm, hQ⟩
  have HXi : Hid (BoxH w U8 (.slice a h.length cap)) := HXh.out.marks hm (fun q hq => by have := hQ q hq; have := HA12.out.2.2; omega)
  have HK10h : Hid (Kept lo10 U0 U8) := HK10g.out.marks hm (fun q _ h2 e => by have := hQ q e; have := HA12.out.2.1; omega)
  have HMK : Hid (Marked U8 a12 V ∧ U8.heap[X12]? = some (.cells #[.slice a12 V.length c12] 29 (0, 0))) := ⟨hmk, hbox⟩
  clear hm hmk hbox hQ HXh HK10g HA12g y12
  have hn0 : ¬ ((MV : Nat) : Int) < 0 := by omega
  have hn1 : ((((MV : Nat) : Int)) != ((MV : Nat) : Int)) = false := by simp
  have y12 := (one_of HMK.out.2).1
  go_wp2_with fail
  refine (HD.out hzV U8 a12 c12 HMK.out.1).mono ?_
  rintro e U9 ⟨rfl, hb⟩
  have HXj : Hid (BoxH w U9 (.slice a h.length cap)) := HXi.out.under hb
  have HK10i : Hid (Kept lo10 U0 U9) := HK10h.out.under hb
  have HMK9 : Hid (Marked U9 a12 V ∧ U9.heap[X12]? = some (.cells #[.slice a12 V.length c12] 29 (0, 0))) := ⟨HMK.out.1.under hb, (hb.block X12 (Array.getElem?_eq_some_iff.1 HMK.out.2).1).trans HMK.out.2⟩
  clear hb HXi HK10h HMK y12
  have p0 := HXj.out.cell
  go_wp2_with fail
  refine (H2.out hz U9 HXj.out.1).mono ?_
  rintro e WD ⟨g4, cs4, gs4, rfl, hb, -, hr4⟩
  have HXD : Hid (Below w.heap.size w WD) := (HXj.out.under hb).1
  have HK10D : Hid (Kept lo10 U0 WD) := HK10i.out.under hb
  have HMKD : Hid (Marked WD a12 V ∧ WD.heap[X12]? = some (.cells #[.slice a12 V.length c12] 29 (0, 0))) := ⟨HMK9.out.1.under hb, (hb.block X12 (Array.getElem?_eq_some_iff.1 HMK9.out.2).1).trans HMK9.out.2⟩
  have HR4 : Hid (HRow WD g4 h cs4 gs4) := hr4
  clear hb hr4 HXj HK10i HMK9 p0
  go_wp2_with fail
  refine (H4.out hz WD g4 cs4 gs4 HR4.out).mono ?_
  rintro e WE ⟨a16, c16, rfl, hb, cs16, ho16⟩
  have HXE : Hid (Below w.heap.size w WE) := HXD.out.trans (hb.mono HXD.out.size)
  have HK10E : Hid (Kept lo10 U0 WE) := HK10D.out.under hb
  have HMKE : Hid (Marked WE a12 V ∧ WE.heap[X12]? = some (.cells #[.slice a12 V.length c12] 29 (0, 0))) := ⟨HMKD.out.1.under hb, (hb.block X12 (Array.getElem?_eq_some_iff.1 HMKD.out.2).1).trans HMKD.out.2⟩
  have HO16 : Hid (HOwn WE WD.heap.size (.slice a16 V.length c16) V V.length cs16 ∧ WD.heap.size ≤ WE.heap.size) := ⟨ho16, hb.size⟩
  clear hb ho16 HXD HK10D HMKD HR4
  have y10 := (HA10.out.1.kept HK10E.out).cell
  have hX10s : X10 < WE.heap.size := (HA10.out.1.kept HK10E.out).lt
  have hX12s : X12 < WE.heap.size := (Array.getElem?_eq_some_iff.1 HMKE.out.2).1
  go_wp2_with fail
  generalize hG : WE.alloc _ = UA
  have hb : Below WE.heap.size WE UA := by rw [← hG]; exact (Below.refl _ _).alloc (Nat.le_refl _) _
  have HA16 : Hid (Ans UA WD.heap.size WE.heap.size a16 c16 V) := by
    rw [← hG]
    exact ans_new HO16.out.1 HO16.out.2
  clear hG
  have HXk : Hid (Below w.heap.size w UA) := HXE.out.trans (hb.mono HXE.out.size)
  have HK10j : Hid (Kept lo10 U0 UA) := HK10E.out.under hb
  have HMKA : Hid (Marked UA a12 V ∧ UA.heap[X12]? = some (.cells #[.slice a12 V.length c12] 29 (0, 0))) := ⟨HMKE.out.1.under hb, (hb.block X12 (Array.getElem?_eq_some_iff.1 HMKE.out.2).1).trans HMKE.out.2⟩
  clear hb HXE HK10E HMKE HO16 y10 hX10s hX12s
  refine (HE.out hzV UA WD.heap.size WE.heap.size a16 c16 lo10 X10 a10 c10 HA16.out (HA10.out.1.kept HK10j.out)).mono ?_
  rintro e UB ⟨rfl, hb⟩
  have HXl : Hid (Below w.heap.size w UB) := HXk.out.trans (hb.mono HXk.out.size)
  have HMKB : Hid (Marked UB a12 V ∧ UB.heap[X12]? = some (.cells #[.slice a12 V.length c12] 29 (0, 0))) := ⟨HMKA.out.1.under hb, (hb.block X12 (Array.getElem?_eq_some_iff.1 HMKA.out.2).1).trans HMKA.out.2⟩
  clear hb HXk HMKA HA16 HK10j
  have y12 := (one_of HMKB.out.2).1
  go_wp2_with fail
  refine (HD.out hzV UB a12 c12 HMKB.out.1).mono ?_
  rintro e UC ⟨rfl, hb⟩
  have HXm : Hid (Below w.heap.size w UC) := HXl.out.trans (hb.mono HXl.out.size)
  clear hb
  go_wp2_with fail
  go_ret
  exact ⟨rfl, HXm.out⟩

end Go.Proofs.Ythagnflhelndjac

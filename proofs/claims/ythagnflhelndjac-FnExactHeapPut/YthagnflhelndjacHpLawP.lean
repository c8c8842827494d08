/-
  The walk of the law FnExactHeapPut.
-/
import Derived.Test.YthagnflhelndjacMkE
import Derived.Test.YthagnflhelndjacHpSH
import Derived.Deep.CutRange
namespace Go.Proofs.Ythagnflhelndjac
open Go.RowKit
open Hp (PP OO propC)

theorem szH_set {h : List OO} {i : Nat} (hi : i < h.length) (x : OO) : szH (h.set i x) + szPs h[i].ps = szH h + szPs x.ps := by
  have h1 := sum_set (h.map fun o => szPs o.ps) i (szPs x.ps) (by simpa using hi)
  unfold szH
  rw [List.length_set, List.map_set]
  simp only [List.getElem_map] at h1
  omega
theorem szH_put {h : List OO} (ref : Int) (key : ByteArray) (v : Val.VV) (hz : szH h + v.text.size ≤ 1048576) : szH (putV h ref key v) ≤ 1100000 := by
  unfold putV
  split
  · unfold szH; simp
  split
  · rename_i hp
    by_cases hi : ref.toNat < h.length
    · simp only [Bool.and_eq_true] at hp
      obtain ⟨q1, -, -⟩ := (prB_iff _ _).1 hp.2
      have h1 := szH_set hi (putO h[ref.toNat] key v)
      have h2 : szPs (putO h[ref.toNat] key v).ps ≤ szPs h[ref.toNat].ps + 1 + key.size + v.text.size := szPs_put _ _ _
      rw [List.getElem?_eq_getElem hi, Option.getD_some]
      dsimp only at q1
      omega
    · rw [List.set_eq_of_length_le (by omega)]
      omega
  · omega

theorem HRow.blks {w : World} {g : Nat} {h : List OO} {cs : Nat → OC} {gs : Nat → Nat} (k : HRow w g h cs gs) {q : Nat} (hq : Blks g h gs q) : g ≤ q ∧ q < w.heap.size := by
  have hg := k.lt
  obtain ⟨f, k⟩ := k
  rcases hq with rfl | ⟨j, hj, _, rfl⟩
  · exact ⟨Nat.le_refl _, hg⟩
  · exact ⟨by have := (k.pa j hj).2; omega, (k.props j hj hj).lt⟩
/-- The boxes of the arguments. -/
def BoxF (w W : World) (s x0 x1 x2 : Value) : Prop :=
  Below w.heap.size w W ∧ w.heap.size + 1 < W.heap.size ∧ W.heap[w.heap.size]? = some (.cells #[s] 24 (0, 0)) ∧ W.heap[w.heap.size + 1]? = some (.cells #[x0, x1, x2] 37 (0, 0))
theorem BoxF.under {w W W' : World} {s x0 x1 x2 : Value} (k : BoxF w W s x0 x1 x2) (hb : Below W.heap.size W W') : BoxF w W' s x0 x1 x2 := by
  obtain ⟨h1, h2, h3, h4⟩ := k
  exact ⟨h1.trans (hb.mono h1.size), by have := hb.size; omega, (hb.block _ (by omega)).trans h3, (hb.block _ h2).trans h4⟩
theorem BoxF.marks {w W W' : World} {s x0 x1 x2 : Value} {Q : Nat → Prop} (k : BoxF w W s x0 x1 x2) (hm : Marks Q W W') (hq : ∀ q, Q q → w.heap.size + 1 < q) : BoxF w W' s x0 x1 x2 := by
  obtain ⟨h1, h2, h3, h4⟩ := k
  exact ⟨Marks.below h1 hm (fun q e => by have := hq q e; omega) h1.size, by have := hm.size; omega, (hm.block _ (by omega) (fun e => by have := hq _ e; omega)).trans h3, (hm.block _ h2 (fun e => by have := hq _ e; omega)).trans h4⟩
theorem BoxF.cells {w W : World} {s x0 x1 x2 : Value} (k : BoxF w W s x0 x1 x2) : W.cell? ⟨w.heap.size, 0, none⟩ = some s ∧ W.cell? ⟨w.heap.size + 1, 0, none⟩ = some x0 ∧ W.cell? ⟨w.heap.size + 1, 1, none⟩ = some x1 ∧ W.cell? ⟨w.heap.size + 1, 2, none⟩ = some x2 :=
  ⟨(one_of k.2.2.1).1, three_ofF k.2.2.2⟩

set_option maxHeartbeats 16000000 in
set_option maxRecDepth 100000 in
theorem heapPut_walk (a : Option Addr) (cap : Nat) (h : List OO) (ks : Nat → OC) (ref : Int) (key : ByteArray) (v : Val.VV) (w : World) (hok : OkH h) (hkey : key.size ≤ 9223372036854775807) (hvt : v.text.size ≤ 9223372036854775807) (hin : HIn w 0 a h ks) :
    Calls Try.prog 5 #[.agg #[.slice a h.length cap], .int .i64 ref, .string key, .agg (vC v)] w fun e w' => e = .returned (.bool true) ∧ Below w.heap.size w w' := by
  have HN : Hid (∀ o1 o2, _) := two_new w
  have C1 := fun W (hW : Below w.heap.size w W) => lSzHeap a cap 1048576 0 h ks W (Nat.le_refl _) hok (hin.under hW)
  have C1v := fun (l : Nat) W (hl : l ≤ 1048576) => lSzValue v l W hl hvt
  have C2 := fun (hz : szH h ≤ 1048576) W (hW : Below w.heap.size w W) => lToHeap a cap 0 h ks W (by unfold szH at hz; omega) (fun x hx => by
    obtain ⟨i, hi, rfl⟩ := List.getElem_of_mem hx
    exact len_of hz hi) (hin.under hW)
  have C2v := fun W => lToValue v W
  have C3 := fun (hz : szH h ≤ 1048576) W (b : Nat) (ds : Nat → OC) (gs : Nat → Nat) (k : HRow W b h ds gs) => sHeapPut b 0 h.length 0 h ds ref key v W hkey hz hok k.caps (fun i hi => by obtain ⟨f, k⟩ := k; exact ⟨_, _, (k.pa i hi).1⟩) (k.hIn (Nat.zero_le _))
  have C4 := fun (hz : szH h ≤ 1048576) W (b : Nat) (ds : Nat → OC) (gs : Nat → Nat) (k : HRow W b h ds gs) => iHeapPut (some ⟨b, 0, none⟩) h.length 0 h ds ref key v W hkey hz hok (k.hIn (Nat.zero_le _))
  have C5 := fun W (b1 b2 : Nat) (d1 d2 : Nat → OC) (g1 g2 : Nat → Nat) (h1 : HRow W b1 h d1 g1) (h2 : HRow W b2 h d2 g2) => lEqHeap (some ⟨b1, 0, none⟩) (some ⟨b2, 0, none⟩) h.length h.length 0 0 h d1 d2 W hok (h1.hIn (Nat.zero_le _)) (h2.hIn (Nat.zero_le _))
  have C6 := fun (hz : szH h ≤ 1048576) W (g : Nat) (ds : Nat → OC) (gs : Nat → Nat) (k : HRow W g h ds gs) => lMarkHeap g h.length _ 1 h ds gs _ W (by omega) (Nat.le_refl 1) (by omega) k.gh
  have HVZ : Hid (szH h + v.text.size ≤ 1048576 → szH (putV h ref key v) ≤ 1100000) := fun hz => szH_put ref key v hz
  generalize putV h ref key v = V at *
  have HE : Hid (szH V ≤ 1100000 → ∀ (W : World) (lo1 X1 : Nat) (a1 : Option Addr) (c1 lo2 X2 : Nat) (a2 : Option Addr) (c2 : Nat), Ans W lo1 X1 a1 c1 V → Ans W lo2 X2 a2 c2 V → Calls Try.prog 13 #[.agg #[.slice a1 V.length c1], .agg #[.slice a2 V.length c2]] W fun e w' => e = .returned (.bool true) ∧ Below W.heap.size W w') := fun hz W lo1 X1 a1 c1 lo2 X2 a2 c2 k1 k2 => lEqAns V W lo1 X1 a1 c1 lo2 X2 a2 c2 (okH_of_sz hz) k1 k2
  have HM : Hid _ := fun (hz : szH V ≤ 1100000) (W : World) (lo X : Nat) (a : Option Addr) (c : Nat) (k : Ans W lo X a c V) => lMarkAns V W lo X a c hz k
  have HD : Hid _ := fun (hz : szH V ≤ 1100000) (W : World) (a : Option Addr) (c : Nat) (k : Marked W a V) => lHeldOwn V W a c hz k
  generalize (1 + mkK V V.length) = MV at *
  generalize szH V = zV at *
  generalize szH h = z at *
  obtain ⟨vk, vn, vt⟩ := v
  unfold vC at *
  dsimp only at *
  have H1 : Hid _ := C1
  have H1v : Hid _ := C1v
  have H2 : Hid _ := C2
  have H2v : Hid _ := C2v
  have H3 : Hid _ := C3
  have H4 : Hid _ := C4
  have H5 : Hid _ := C5
  have H6 : Hid _ := C6
  clear C1 C1v C2 C2v C3 C4 C5 C6 hok hin hkey hvt
  go_enter Try.func5, Try.ntmps5
  by_cases hkl : 1048576 < key.size
  · have hkl' : (1048576 : Int) < (key.size : Int) := by omega
    go_wp2_with fail
    go_ret
    exact ⟨rfl, (HN.out _ _).2.2.1⟩
  have hkl' : ¬ (1048576 : Int) < (key.size : Int) := by omega
  go_wp2_with fail
  generalize hW0 : (w.alloc _).alloc _ = W0
  have hX0 : BoxF w W0 (.slice a h.length cap) (.int .i64 vk) (.int .i64 vn) (.string vt) := by
    obtain ⟨n1, n2, n3, n4⟩ := HN.out (.cells #[.slice a h.length cap] 24) (.cells #[.int .i64 vk, .int .i64 vn, .string vt] 37)
    rw [hW0] at n1 n2 n3 n4
    exact ⟨n3, n4, n1, n2⟩
  have HX0 : Hid (BoxF w W0 (.slice a h.length cap) (.int .i64 vk) (.int .i64 vn) (.string vt)) := hX0
  clear hW0 HN hX0
  refine (H1.out W0 HX0.out.1).mono ?_
  rintro e W1 ⟨rfl, hb1⟩
  have HX1 : Hid (BoxF w W1 (.slice a h.length cap) (.int .i64 vk) (.int .i64 vn) (.string vt)) := HX0.out.under hb1
  clear hb1 HX0
  by_cases hz : z ≤ 1048576
  case neg =>
    rw [subR_gt (by omega)]
    go_wp2_with fail
    go_ret
    exact ⟨rfl, HX1.out.1⟩
  rw [subR_le hz]
  have hz' : ¬ (((1048576 - z : Nat) : Int)) < 0 := by omega
  obtain ⟨p0, q0, q1, q2⟩ := HX1.out.cells
  have hS1 := HX1.out.2.1
  have hS1a : w.heap.size < W1.heap.size := by omega
  go_wp2_with fail
  refine (H1v.out (1048576 - z) W1 (by omega)).mono ?_
  rintro e W2 ⟨rfl, hb2⟩
  have HX2 : Hid (BoxF w W2 (.slice a h.length cap) (.int .i64 vk) (.int .i64 vn) (.string vt)) := HX1.out.under hb2
  clear hb2 HX1 p0 q0 q1 q2 hS1 hS1a
  by_cases hzv : vt.size ≤ 1048576 - z
  case neg =>
    rw [if_neg hzv]
    go_wp2_with fail
    go_ret
    exact ⟨rfl, HX2.out.1⟩
  rw [if_pos hzv]
  have hzv' : ¬ (((1048576 - z - vt.size : Nat) : Int)) < 0 := by omega
  have hzV := HVZ.out (by omega)
  have HSW2 : Hid (∀ W' : World, Below W2.heap.size W2 W' → W'.cell? ⟨w.heap.size, 0, none⟩ = some (.slice a h.length cap) ∧ W'.cell? ⟨w.heap.size + 1, 0, none⟩ = some (.int .i64 vk) ∧ W'.cell? ⟨w.heap.size + 1, 1, none⟩ = some (.int .i64 vn) ∧ W'.cell? ⟨w.heap.size + 1, 2, none⟩ = some (.string vt)) := fun W' hW => (HX2.out.under hW).cells
  go_wp2_with fail
  go_cut [10] from 10 to 94 (fun vp W => ∃ X lo a1 c1, vp = .pointer (some ⟨X, 0, none⟩) ∧ Hid (Ans W lo X a1 c1 V ∧ W2.heap.size ≤ lo ∧ Below W2.heap.size W2 W))
  case first =>
    refine wp_region_held_drew (S := fun W' => W'.cell? ⟨w.heap.size, 0, none⟩ = some (.slice a h.length cap) ∧ W'.cell? ⟨w.heap.size + 1, 0, none⟩ = some (.int .i64 vk) ∧ W'.cell? ⟨w.heap.size + 1, 1, none⟩ = some (.int .i64 vn) ∧ W'.cell? ⟨w.heap.size + 1, 2, none⟩ = some (.string vt)) (by kernel_rfl) (HSW2.out _ (Below.refl W2.heap.size W2).drew) (fun hHeld => ?_)
    have hB1 : Below W2.heap.size W2 W2.drew := (Below.refl W2.heap.size W2).drew
    generalize hD1 : W2.drew = Y1 at hHeld hB1 ⊢
    clear hD1
    refine takeIn 0 (v := ?vr1x0) rfl (by kernel_rfl) (by kernel_rfl) (by kernel_rfl) (fun _ _ _ h => h) ?wr1x0 (by assumption) ?yr1x0 ?rr1x0
    case wr1x0 => rfl
    case yr1x0 => (intro w hSw; (try dsimp only at hSw); go_simp; first | done | with_reducible rfl)
    simp only [Act.put, List.setIfInBounds_toArray, List.set_cons_zero, List.set_cons_succ]
    refine takeIn 2 (v := ?vr1x2) rfl (by kernel_rfl) (by kernel_rfl) (by kernel_rfl) (fun _ _ _ h => h) ?wr1x2 (by assumption) ?yr1x2 ?rr1x2
    case wr1x2 => rfl
    case yr1x2 => (intro w hSw; (try dsimp only at hSw); go_simp; first | done | with_reducible rfl)
    simp only [Act.put, List.setIfInBounds_toArray, List.set_cons_zero, List.set_cons_succ]
    refine takeIn 3 (v := ?vr1x3) rfl (by kernel_rfl) (by kernel_rfl) (by kernel_rfl) (fun _ _ _ h => h) ?wr1x3 (by assumption) ?yr1x3 ?rr1x3
    case wr1x3 => rfl
    case yr1x3 => (intro w hSw; (try dsimp only at hSw); go_simp; first | done | with_reducible rfl)
    simp only [Act.put, List.setIfInBounds_toArray, List.set_cons_zero, List.set_cons_succ]
    refine takeIn 4 (v := ?vr1x4) rfl (by kernel_rfl) (by kernel_rfl) (by kernel_rfl) (fun _ _ _ h => h) ?wr1x4 (by assumption) ?yr1x4 ?rr1x4
    case wr1x4 => rfl
    case yr1x4 => (intro w hSw; (try dsimp only at hSw); go_simp; first | done | with_reducible rfl)
    simp only [Act.put, List.setIfInBounds_toArray, List.set_cons_zero, List.set_cons_succ]
    refine twoUp 1 7 rfl rfl (by kernel_rfl) (by rfl) (by rfl) (fun K hK => ?_) (fun K hK => ?_)
    · go_simp
      refine (H2.out hz _ ((HX2.out.1).trans ((hB1).mono (HX2.out.1).size))).mono ?_
      rintro e Y2 ⟨g2, cs2, gs2, rfl, hb2, -, hr2⟩
      have HR2 : Hid (HRow Y2 g2 h cs2 gs2) := hr2
      clear hr2
      have hB2 := (hB1).trans (hb2.mono (hB1).size)
      refine hK.out _ _ (HSW2.out _ hB2) (fun hHeld2 => ?_)
      clear hK K
      (try simp only [Act.put, List.setIfInBounds_toArray, List.set_cons_zero, List.set_cons_succ])
      refine twoUp 5 7 rfl rfl (by kernel_rfl) (by rfl) (by rfl) (fun K hK => ?_) (fun K hK => ?_)
      · go_simp
        refine (H2v.out _).mono ?_
        rintro e Y3 ⟨rfl, hb3⟩
        have hB3 := (hB2).trans (hb3.mono (hB2).size)
        have HR3 : Hid (HRow Y3 g2 h cs2 gs2) := (HR2.out).under hb3
        refine hK.out _ _ (HSW2.out _ hB3) (fun hHeld3 => ?_)
        clear hK K
        (try simp only [Act.put, List.setIfInBounds_toArray, List.set_cons_zero, List.set_cons_succ])
        refine twoUp 6 7 rfl rfl (by kernel_rfl) (by rfl) (by rfl) (fun K hK => ?_) (fun K hK => ?_)
        · go_simp
          refine (H3.out hz _ g2 cs2 gs2 HR3.out).mono ?_
          rintro e Y4 ⟨a4, c4, rfl, hb4, hon4⟩
          have HO4 : Hid (∃ cs, HOwn Y4 (Y3).heap.size (.slice a4 V.length c4) V V.length cs) := hon4
          clear hon4
          have hB4 := (hB3).trans (hb4.mono (hB3).size)
          have HR4 : Hid (HRow Y4 g2 h cs2 gs2) := (HR3.out).under hb4
          refine hK.out _ _ (HSW2.out _ hB4) (fun hHeld4 => ?_)
          clear hK K
          (try simp only [Act.put, List.setIfInBounds_toArray, List.set_cons_zero, List.set_cons_succ])
          refine oneUp 7 rfl (by kernel_rfl) (by rfl) (fun K hK => ?_)
          go_simp
          generalize hG5 : World.alloc _ _ = Y5
          have hb5 : Below (Y4).heap.size (Y4) Y5 := by rw [← hG5]; exact (Below.refl _ _).alloc (Nat.le_refl _) _
          have hY5 : Y5.heap[(Y4).heap.size]? = some (.cells #[.slice none 0 0] 29 (0, 0)) := by rw [← hG5]; exact heap_alloc_new _ _
          clear hG5
          have hB5 := (hB4).trans (hb5.mono (hB4).size)
          have HR5 : Hid (HRow Y5 g2 h cs2 gs2) := (HR4.out).under hb5
          have HO5 : Hid (∃ cs, HOwn Y5 (Y3).heap.size (.slice a4 V.length c4) V V.length cs) := by
            obtain ⟨cs, k⟩ := HO4.out
            exact ⟨cs, k.under hb5⟩
          refine hK.out _ _ (HSW2.out _ hB5) (fun hHeld5 => ?_)
          clear hK K
          (try simp only [Act.put, List.setIfInBounds_toArray, List.set_cons_zero, List.set_cons_succ])
          obtain ⟨z6, u6⟩ := one_of hY5
          refine oneUp 8 rfl (by kernel_rfl) (by rfl) (fun K hK => ?_)
          go_simp
          have hF6 : Below W2.heap.size W2 ((Y5).setCell ⟨(Y4).heap.size, 0, none⟩ (.slice a4 V.length c4)) := (hB5).setCell (p := ⟨(Y4).heap.size, 0, none⟩) ((hB4).size) _
          refine hK.out _ _ (HSW2.out _ hF6) (fun hHeld6 => ?_)
          clear hK K
          have HA6 : Hid (Ans ((Y5).setCell ⟨(Y4).heap.size, 0, none⟩ (.slice a4 V.length c4)) W2.heap.size (Y4).heap.size a4 c4 V) := by
            obtain ⟨cs, k⟩ := HO5.out
            exact ans_set k hY5 ((hB3).size) ((hB4).size)
          refine wpAnyH_done (by kernel_rfl) ?_ _
          go_wp2_with fail
          go_meet
          exact ⟨_, _, _, _, rfl, HA6.out, Nat.le_refl _, hF6⟩
        · go_simp
          generalize hG7 : World.alloc _ _ = Y7
          have hb7 : Below (Y3).heap.size (Y3) Y7 := by rw [← hG7]; exact (Below.refl _ _).alloc (Nat.le_refl _) _
          have hY7 : Y7.heap[(Y3).heap.size]? = some (.cells #[.slice none 0 0] 29 (0, 0)) := by rw [← hG7]; exact heap_alloc_new _ _
          clear hG7
          have hB7 := (hB3).trans (hb7.mono (hB3).size)
          have HR7 : Hid (HRow Y7 g2 h cs2 gs2) := (HR3.out).under hb7
          refine hK.out _ _ (HSW2.out _ hB7) (fun hHeld7 => ?_)
          clear hK K
          (try simp only [Act.put, List.setIfInBounds_toArray, List.set_cons_zero, List.set_cons_succ])
          refine oneUp 6 rfl (by kernel_rfl) (by rfl) (fun K hK => ?_)
          go_simp
          refine (H3.out hz _ g2 cs2 gs2 HR7.out).mono ?_
          rintro e Y8 ⟨a8, c8, rfl, hb8, hon8⟩
          have HO8 : Hid (∃ cs, HOwn Y8 (Y7).heap.size (.slice a8 V.length c8) V V.length cs) := hon8
          clear hon8
          have hB8 := (hB7).trans (hb8.mono (hB7).size)
          have hX8 := (hb8.block (Y3).heap.size (Array.getElem?_eq_some_iff.1 hY7).1).trans hY7
          have HR8 : Hid (HRow Y8 g2 h cs2 gs2) := (HR7.out).under hb8
          refine hK.out _ _ (HSW2.out _ hB8) (fun hHeld8 => ?_)
          clear hK K
          (try simp only [Act.put, List.setIfInBounds_toArray, List.set_cons_zero, List.set_cons_succ])
          obtain ⟨z9, u9⟩ := one_of hX8
          refine oneUp 8 rfl (by kernel_rfl) (by rfl) (fun K hK => ?_)
          go_simp
          have hF9 : Below W2.heap.size W2 ((Y8).setCell ⟨(Y3).heap.size, 0, none⟩ (.slice a8 V.length c8)) := (hB8).setCell (p := ⟨(Y3).heap.size, 0, none⟩) ((hB3).size) _
          refine hK.out _ _ (HSW2.out _ hF9) (fun hHeld9 => ?_)
          clear hK K
          have HA9 : Hid (Ans ((Y8).setCell ⟨(Y3).heap.size, 0, none⟩ (.slice a8 V.length c8)) W2.heap.size (Y3).heap.size a8 c8 V) := by
            obtain ⟨cs, k⟩ := HO8.out
            exact ans_set k hX8 ((hB7).size) ((hB3).size)
          refine wpAnyH_done (by kernel_rfl) ?_ _
          go_wp2_with fail
          go_meet
          exact ⟨_, _, _, _, rfl, HA9.out, Nat.le_refl _, hF9⟩
      · go_simp
        generalize hG10 : World.alloc _ _ = Y10
        have hb10 : Below (Y2).heap.size (Y2) Y10 := by rw [← hG10]; exact (Below.refl _ _).alloc (Nat.le_refl _) _
        have hY10 : Y10.heap[(Y2).heap.size]? = some (.cells #[.slice none 0 0] 29 (0, 0)) := by rw [← hG10]; exact heap_alloc_new _ _
        clear hG10
        have hB10 := (hB2).trans (hb10.mono (hB2).size)
        have HR10 : Hid (HRow Y10 g2 h cs2 gs2) := (HR2.out).under hb10
        refine hK.out _ _ (HSW2.out _ hB10) (fun hHeld10 => ?_)
        clear hK K
        (try simp only [Act.put, List.setIfInBounds_toArray, List.set_cons_zero, List.set_cons_succ])
        refine oneUp 5 rfl (by kernel_rfl) (by rfl) (fun K hK => ?_)
        go_simp
        refine (H2v.out _).mono ?_
        rintro e Y11 ⟨rfl, hb11⟩
        have hB11 := (hB10).trans (hb11.mono (hB10).size)
        have hX11 := (hb11.block (Y2).heap.size (Array.getElem?_eq_some_iff.1 hY10).1).trans hY10
        have HR11 : Hid (HRow Y11 g2 h cs2 gs2) := (HR10.out).under hb11
        refine hK.out _ _ (HSW2.out _ hB11) (fun hHeld11 => ?_)
        clear hK K
        (try simp only [Act.put, List.setIfInBounds_toArray, List.set_cons_zero, List.set_cons_succ])
        refine oneUp 6 rfl (by kernel_rfl) (by rfl) (fun K hK => ?_)
        go_simp
        refine (H3.out hz _ g2 cs2 gs2 HR11.out).mono ?_
        rintro e Y12 ⟨a12, c12, rfl, hb12, hon12⟩
        have HO12 : Hid (∃ cs, HOwn Y12 (Y11).heap.size (.slice a12 V.length c12) V V.length cs) := hon12
        clear hon12
        have hB12 := (hB11).trans (hb12.mono (hB11).size)
        have hX12 := (hb12.block (Y2).heap.size (Array.getElem?_eq_some_iff.1 hX11).1).trans hX11
        have HR12 : Hid (HRow Y12 g2 h cs2 gs2) := (HR11.out).under hb12
        refine hK.out _ _ (HSW2.out _ hB12) (fun hHeld12 => ?_)
        clear hK K
        (try simp only [Act.put, List.setIfInBounds_toArray, List.set_cons_zero, List.set_cons_succ])
        obtain ⟨z13, u13⟩ := one_of hX12
        refine oneUp 8 rfl (by kernel_rfl) (by rfl) (fun K hK => ?_)
        go_simp
        have hF13 : Below W2.heap.size W2 ((Y12).setCell ⟨(Y2).heap.size, 0, none⟩ (.slice a12 V.length c12)) := (hB12).setCell (p := ⟨(Y2).heap.size, 0, none⟩) ((hB2).size) _
        refine hK.out _ _ (HSW2.out _ hF13) (fun hHeld13 => ?_)
        clear hK K
        have HA13 : Hid (Ans ((Y12).setCell ⟨(Y2).heap.size, 0, none⟩ (.slice a12 V.length c12)) W2.heap.size (Y2).heap.size a12 c12 V) := by
          obtain ⟨cs, k⟩ := HO12.out
          exact ans_set k hX12 ((hB11).size) ((hB2).size)
        refine wpAnyH_done (by kernel_rfl) ?_ _
        go_wp2_with fail
        go_meet
        exact ⟨_, _, _, _, rfl, HA13.out, Nat.le_refl _, hF13⟩
    · go_simp
      generalize hG14 : World.alloc _ _ = Y14
      have hb14 : Below (Y1).heap.size (Y1) Y14 := by rw [← hG14]; exact (Below.refl _ _).alloc (Nat.le_refl _) _
      have hY14 : Y14.heap[(Y1).heap.size]? = some (.cells #[.slice none 0 0] 29 (0, 0)) := by rw [← hG14]; exact heap_alloc_new _ _
      clear hG14
      have hB14 := (hB1).trans (hb14.mono (hB1).size)
      refine hK.out _ _ (HSW2.out _ hB14) (fun hHeld14 => ?_)
      clear hK K
      (try simp only [Act.put, List.setIfInBounds_toArray, List.set_cons_zero, List.set_cons_succ])
      refine oneUp 1 rfl (by kernel_rfl) (by rfl) (fun K hK => ?_)
      go_simp
      refine (H2.out hz _ ((HX2.out.1).trans ((hB14).mono (HX2.out.1).size))).mono ?_
      rintro e Y15 ⟨g15, cs15, gs15, rfl, hb15, -, hr15⟩
      have HR15 : Hid (HRow Y15 g15 h cs15 gs15) := hr15
      clear hr15
      have hB15 := (hB14).trans (hb15.mono (hB14).size)
      have hX15 := (hb15.block (Y1).heap.size (Array.getElem?_eq_some_iff.1 hY14).1).trans hY14
      refine hK.out _ _ (HSW2.out _ hB15) (fun hHeld15 => ?_)
      clear hK K
      (try simp only [Act.put, List.setIfInBounds_toArray, List.set_cons_zero, List.set_cons_succ])
      refine oneUp 5 rfl (by kernel_rfl) (by rfl) (fun K hK => ?_)
      go_simp
      refine (H2v.out _).mono ?_
      rintro e Y16 ⟨rfl, hb16⟩
      have hB16 := (hB15).trans (hb16.mono (hB15).size)
      have hX16 := (hb16.block (Y1).heap.size (Array.getElem?_eq_some_iff.1 hX15).1).trans hX15
      have HR16 : Hid (HRow Y16 g15 h cs15 gs15) := (HR15.out).under hb16
      refine hK.out _ _ (HSW2.out _ hB16) (fun hHeld16 => ?_)
      clear hK K
      (try simp only [Act.put, List.setIfInBounds_toArray, List.set_cons_zero, List.set_cons_succ])
      refine oneUp 6 rfl (by kernel_rfl) (by rfl) (fun K hK => ?_)
      go_simp
      refine (H3.out hz _ g15 cs15 gs15 HR16.out).mono ?_
      rintro e Y17 ⟨a17, c17, rfl, hb17, hon17⟩
      have HO17 : Hid (∃ cs, HOwn Y17 (Y16).heap.size (.slice a17 V.length c17) V V.length cs) := hon17
      clear hon17
      have hB17 := (hB16).trans (hb17.mono (hB16).size)
      have hX17 := (hb17.block (Y1).heap.size (Array.getElem?_eq_some_iff.1 hX16).1).trans hX16
      have HR17 : Hid (HRow Y17 g15 h cs15 gs15) := (HR16.out).under hb17
      refine hK.out _ _ (HSW2.out _ hB17) (fun hHeld17 => ?_)
      clear hK K
      (try simp only [Act.put, List.setIfInBounds_toArray, List.set_cons_zero, List.set_cons_succ])
      obtain ⟨z18, u18⟩ := one_of hX17
      refine oneUp 8 rfl (by kernel_rfl) (by rfl) (fun K hK => ?_)
      go_simp
      have hF18 : Below W2.heap.size W2 ((Y17).setCell ⟨(Y1).heap.size, 0, none⟩ (.slice a17 V.length c17)) := (hB17).setCell (p := ⟨(Y1).heap.size, 0, none⟩) ((hB1).size) _
      refine hK.out _ _ (HSW2.out _ hF18) (fun hHeld18 => ?_)
      clear hK K
      have HA18 : Hid (Ans ((Y17).setCell ⟨(Y1).heap.size, 0, none⟩ (.slice a17 V.length c17)) W2.heap.size (Y1).heap.size a17 c17 V) := by
        obtain ⟨cs, k⟩ := HO17.out
        exact ans_set k hX17 ((hB16).size) ((hB1).size)
      refine wpAnyH_done (by kernel_rfl) ?_ _
      go_wp2_with fail
      go_meet
      exact ⟨_, _, _, _, rfl, HA18.out, Nat.le_refl _, hF18⟩
  case rest =>
  obtain ⟨X10, lo10, a10, c10, rfl, hcut⟩ := hcut
  obtain ⟨U0, rfl⟩ : ∃ x, x = wc := ⟨_, rfl⟩
  have HXa : Hid (BoxF w U0 (.slice a h.length cap) (.int .i64 vk) (.int .i64 vn) (.string vt)) := HX2.out.under hcut.out.2.2
  have HA10 : Hid (Ans U0 lo10 X10 a10 c10 V ∧ w.heap.size + 1 < lo10) := ⟨hcut.out.1, by have := HX2.out.2.1; have := hcut.out.2.1; omega⟩
  clear hcut HX2 HSW2
  obtain ⟨p0, -⟩ := HXa.out.cells
  have hS := HXa.out.2.1
  have hS' : w.heap.size < U0.heap.size := by omega
  go_wp2_with fail
  refine (H2.out hz U0 HXa.out.1).mono ?_
  rintro e U1 ⟨g2, cs2, gs2, rfl, hb, hg2, hr2⟩
  have HXb : Hid (BoxF w U1 (.slice a h.length cap) (.int .i64 vk) (.int .i64 vn) (.string vt)) := HXa.out.under hb
  have HK10 : Hid (Kept lo10 U0 U1) := (Kept.refl _ _).under hb
  have HBL : Hid (∀ q, Blks g2 h gs2 q → U0.heap.size ≤ q ∧ q < U1.heap.size) := fun q hq => by have := hr2.blks hq; omega
  have HR1 : Hid (HRow U1 g2 h cs2 gs2) := hr2
  have hU01 := hb.size
  clear hb hg2 hr2 HXa p0 hS hS'
  go_wp2_with fail
  generalize hG : U1.alloc _ = U2
  have hb : Below U1.heap.size U1 U2 := by rw [← hG]; exact (Below.refl _ _).alloc (Nat.le_refl _) _
  have hX11 : U2.heap[U1.heap.size]? = some (.cells #[.slice (some ⟨g2, 0, none⟩) h.length h.length] 29 (0, 0)) := by rw [← hG]; exact heap_alloc_new _ _
  have hU12 : U1.heap.size < U2.heap.size := by rw [← hG]; simp
  clear hG
  have HXc : Hid (BoxF w U2 (.slice a h.length cap) (.int .i64 vk) (.int .i64 vn) (.string vt)) := HXb.out.under hb
  have HK10b : Hid (Kept lo10 U0 U2) := HK10.out.under hb
  have HR2 : Hid (HRow U2 g2 h cs2 gs2) := HR1.out.under hb
  clear hb HXb HK10 HR1
  generalize hXe : U1.heap.size = X11 at *
  clear hXe
  have HSW12 : Hid (∀ W' : World, Below U2.heap.size U2 W' → W'.cell? ⟨X11, 0, none⟩ = some (.slice (some ⟨g2, 0, none⟩) h.length h.length) ∧ W'.cell? ⟨w.heap.size + 1, 0, none⟩ = some (.int .i64 vk) ∧ W'.cell? ⟨w.heap.size + 1, 1, none⟩ = some (.int .i64 vn) ∧ W'.cell? ⟨w.heap.size + 1, 2, none⟩ = some (.string vt)) := fun W' hW => ⟨(one_of ((hW.block _ hU12).trans hX11)).1, (HXc.out.under hW).cells.2⟩
  go_cut [12] from 12 to 94 (fun vp W => ∃ X lo a1 c1, vp = .pointer (some ⟨X, 0, none⟩) ∧ Hid (Ans W lo X a1 c1 V ∧ U2.heap.size ≤ lo ∧ Below U2.heap.size U2 W))
  case first =>
    refine wp_region_held_drew (S := fun W' => W'.cell? ⟨X11, 0, none⟩ = some (.slice (some ⟨g2, 0, none⟩) h.length h.length) ∧ W'.cell? ⟨w.heap.size + 1, 0, none⟩ = some (.int .i64 vk) ∧ W'.cell? ⟨w.heap.size + 1, 1, none⟩ = some (.int .i64 vn) ∧ W'.cell? ⟨w.heap.size + 1, 2, none⟩ = some (.string vt)) (by kernel_rfl) (HSW12.out _ (Below.refl U2.heap.size U2).drew) (fun hHeld => ?_)
    have hB19 : Below U2.heap.size U2 U2.drew := (Below.refl U2.heap.size U2).drew
    have HR19 : Hid (HRow U2.drew g2 h cs2 gs2) := (HR2.out).under hB19
    generalize hD19 : U2.drew = Y19 at hHeld hB19 HR19 ⊢
    clear hD19
    refine takeIn 0 (v := ?vr19x0) rfl (by kernel_rfl) (by kernel_rfl) (by kernel_rfl) (fun _ _ _ h => h) ?wr19x0 (by assumption) ?yr19x0 ?rr19x0
    case wr19x0 => rfl
    case yr19x0 => (intro w hSw; (try dsimp only at hSw); go_simp; first | done | with_reducible rfl)
    simp only [Act.put, List.setIfInBounds_toArray, List.set_cons_zero, List.set_cons_succ]
    refine takeIn 1 (v := ?vr19x1) rfl (by kernel_rfl) (by kernel_rfl) (by kernel_rfl) (fun _ _ _ h => h) ?wr19x1 (by assumption) ?yr19x1 ?rr19x1
    case wr19x1 => rfl
    case yr19x1 => (intro w hSw; (try dsimp only at hSw); go_simp; first | done | with_reducible rfl)
    simp only [Act.put, List.setIfInBounds_toArray, List.set_cons_zero, List.set_cons_succ]
    refine takeIn 2 (v := ?vr19x2) rfl (by kernel_rfl) (by kernel_rfl) (by kernel_rfl) (fun _ _ _ h => h) ?wr19x2 (by assumption) ?yr19x2 ?rr19x2
    case wr19x2 => rfl
    case yr19x2 => (intro w hSw; (try dsimp only at hSw); go_simp; first | done | with_reducible rfl)
    simp only [Act.put, List.setIfInBounds_toArray, List.set_cons_zero, List.set_cons_succ]
    refine takeIn 3 (v := ?vr19x3) rfl (by kernel_rfl) (by kernel_rfl) (by kernel_rfl) (fun _ _ _ h => h) ?wr19x3 (by assumption) ?yr19x3 ?rr19x3
    case wr19x3 => rfl
    case yr19x3 => (intro w hSw; (try dsimp only at hSw); go_simp; first | done | with_reducible rfl)
    simp only [Act.put, List.setIfInBounds_toArray, List.set_cons_zero, List.set_cons_succ]
    refine twoUp 4 6 rfl rfl (by kernel_rfl) (by rfl) (by rfl) (fun K hK => ?_) (fun K hK => ?_)
    · go_simp
      refine (H2v.out _).mono ?_
      rintro e Y20 ⟨rfl, hb20⟩
      have hB20 := (hB19).trans (hb20.mono (hB19).size)
      have HR20 : Hid (HRow Y20 g2 h cs2 gs2) := (HR19.out).under hb20
      refine hK.out _ _ (HSW12.out _ hB20) (fun hHeld20 => ?_)
      clear hK K
      (try simp only [Act.put, List.setIfInBounds_toArray, List.set_cons_zero, List.set_cons_succ])
      refine twoUp 5 6 rfl rfl (by kernel_rfl) (by rfl) (by rfl) (fun K hK => ?_) (fun K hK => ?_)
      · go_simp
        refine (H4.out hz _ g2 cs2 gs2 HR20.out).mono ?_
        rintro e Y21 ⟨a21, c21, rfl, hb21, hon21⟩
        have HO21 : Hid (∃ cs, HOwn Y21 (Y20).heap.size (.slice a21 V.length c21) V V.length cs) := hon21
        clear hon21
        have hB21 := (hB20).trans (hb21.mono (hB20).size)
        have HR21 : Hid (HRow Y21 g2 h cs2 gs2) := (HR20.out).under hb21
        refine hK.out _ _ (HSW12.out _ hB21) (fun hHeld21 => ?_)
        clear hK K
        (try simp only [Act.put, List.setIfInBounds_toArray, List.set_cons_zero, List.set_cons_succ])
        refine oneUp 6 rfl (by kernel_rfl) (by rfl) (fun K hK => ?_)
        go_simp
        generalize hG22 : World.alloc _ _ = Y22
        have hb22 : Below (Y21).heap.size (Y21) Y22 := by rw [← hG22]; exact (Below.refl _ _).alloc (Nat.le_refl _) _
        have hY22 : Y22.heap[(Y21).heap.size]? = some (.cells #[.slice none 0 0] 29 (0, 0)) := by rw [← hG22]; exact heap_alloc_new _ _
        clear hG22
        have hB22 := (hB21).trans (hb22.mono (hB21).size)
        have HR22 : Hid (HRow Y22 g2 h cs2 gs2) := (HR21.out).under hb22
        have HO22 : Hid (∃ cs, HOwn Y22 (Y20).heap.size (.slice a21 V.length c21) V V.length cs) := by
          obtain ⟨cs, k⟩ := HO21.out
          exact ⟨cs, k.under hb22⟩
        refine hK.out _ _ (HSW12.out _ hB22) (fun hHeld22 => ?_)
        clear hK K
        (try simp only [Act.put, List.setIfInBounds_toArray, List.set_cons_zero, List.set_cons_succ])
        obtain ⟨z23, u23⟩ := one_of hY22
        refine oneUp 7 rfl (by kernel_rfl) (by rfl) (fun K hK => ?_)
        go_simp
        have hF23 : Below U2.heap.size U2 ((Y22).setCell ⟨(Y21).heap.size, 0, none⟩ (.slice a21 V.length c21)) := (hB22).setCell (p := ⟨(Y21).heap.size, 0, none⟩) ((hB21).size) _
        refine hK.out _ _ (HSW12.out _ hF23) (fun hHeld23 => ?_)
        clear hK K
        have HA23 : Hid (Ans ((Y22).setCell ⟨(Y21).heap.size, 0, none⟩ (.slice a21 V.length c21)) U2.heap.size (Y21).heap.size a21 c21 V) := by
          obtain ⟨cs, k⟩ := HO22.out
          exact ans_set k hY22 ((hB20).size) ((hB21).size)
        refine wpAnyH_done (by kernel_rfl) ?_ _
        go_wp2_with fail
        go_meet
        exact ⟨_, _, _, _, rfl, HA23.out, Nat.le_refl _, hF23⟩
      · go_simp
        generalize hG24 : World.alloc _ _ = Y24
        have hb24 : Below (Y20).heap.size (Y20) Y24 := by rw [← hG24]; exact (Below.refl _ _).alloc (Nat.le_refl _) _
        have hY24 : Y24.heap[(Y20).heap.size]? = some (.cells #[.slice none 0 0] 29 (0, 0)) := by rw [← hG24]; exact heap_alloc_new _ _
        clear hG24
        have hB24 := (hB20).trans (hb24.mono (hB20).size)
        have HR24 : Hid (HRow Y24 g2 h cs2 gs2) := (HR20.out).under hb24
        refine hK.out _ _ (HSW12.out _ hB24) (fun hHeld24 => ?_)
        clear hK K
        (try simp only [Act.put, List.setIfInBounds_toArray, List.set_cons_zero, List.set_cons_succ])
        refine oneUp 5 rfl (by kernel_rfl) (by rfl) (fun K hK => ?_)
        go_simp
        refine (H4.out hz _ g2 cs2 gs2 HR24.out).mono ?_
        rintro e Y25 ⟨a25, c25, rfl, hb25, hon25⟩
        have HO25 : Hid (∃ cs, HOwn Y25 (Y24).heap.size (.slice a25 V.length c25) V V.length cs) := hon25
        clear hon25
        have hB25 := (hB24).trans (hb25.mono (hB24).size)
        have hX25 := (hb25.block (Y20).heap.size (Array.getElem?_eq_some_iff.1 hY24).1).trans hY24
        have HR25 : Hid (HRow Y25 g2 h cs2 gs2) := (HR24.out).under hb25
        refine hK.out _ _ (HSW12.out _ hB25) (fun hHeld25 => ?_)
        clear hK K
        (try simp only [Act.put, List.setIfInBounds_toArray, List.set_cons_zero, List.set_cons_succ])
        obtain ⟨z26, u26⟩ := one_of hX25
        refine oneUp 7 rfl (by kernel_rfl) (by rfl) (fun K hK => ?_)
        go_simp
        have hF26 : Below U2.heap.size U2 ((Y25).setCell ⟨(Y20).heap.size, 0, none⟩ (.slice a25 V.length c25)) := (hB25).setCell (p := ⟨(Y20).heap.size, 0, none⟩) ((hB20).size) _
        refine hK.out _ _ (HSW12.out _ hF26) (fun hHeld26 => ?_)
        clear hK K
        have HA26 : Hid (Ans ((Y25).setCell ⟨(Y20).heap.size, 0, none⟩ (.slice a25 V.length c25)) U2.heap.size (Y20).heap.size a25 c25 V) := by
          obtain ⟨cs, k⟩ := HO25.out
          exact ans_set k hX25 ((hB24).size) ((hB20).size)
        refine wpAnyH_done (by kernel_rfl) ?_ _
        go_wp2_with fail
        go_meet
        exact ⟨_, _, _, _, rfl, HA26.out, Nat.le_refl _, hF26⟩
    · go_simp
      generalize hG27 : World.alloc _ _ = Y27
      have hb27 : Below (Y19).heap.size (Y19) Y27 := by rw [← hG27]; exact (Below.refl _ _).alloc (Nat.le_refl _) _
      have hY27 : Y27.heap[(Y19).heap.size]? = some (.cells #[.slice none 0 0] 29 (0, 0)) := by rw [← hG27]; exact heap_alloc_new _ _
      clear hG27
      have hB27 := (hB19).trans (hb27.mono (hB19).size)
      have HR27 : Hid (HRow Y27 g2 h cs2 gs2) := (HR19.out).under hb27
      refine hK.out _ _ (HSW12.out _ hB27) (fun hHeld27 => ?_)
      clear hK K
      (try simp only [Act.put, List.setIfInBounds_toArray, List.set_cons_zero, List.set_cons_succ])
      refine oneUp 4 rfl (by kernel_rfl) (by rfl) (fun K hK => ?_)
      go_simp
      refine (H2v.out _).mono ?_
      rintro e Y28 ⟨rfl, hb28⟩
      have hB28 := (hB27).trans (hb28.mono (hB27).size)
      have hX28 := (hb28.block (Y19).heap.size (Array.getElem?_eq_some_iff.1 hY27).1).trans hY27
      have HR28 : Hid (HRow Y28 g2 h cs2 gs2) := (HR27.out).under hb28
      refine hK.out _ _ (HSW12.out _ hB28) (fun hHeld28 => ?_)
      clear hK K
      (try simp only [Act.put, List.setIfInBounds_toArray, List.set_cons_zero, List.set_cons_succ])
      refine oneUp 5 rfl (by kernel_rfl) (by rfl) (fun K hK => ?_)
      go_simp
      refine (H4.out hz _ g2 cs2 gs2 HR28.out).mono ?_
      rintro e Y29 ⟨a29, c29, rfl, hb29, hon29⟩
      have HO29 : Hid (∃ cs, HOwn Y29 (Y28).heap.size (.slice a29 V.length c29) V V.length cs) := hon29
      clear hon29
      have hB29 := (hB28).trans (hb29.mono (hB28).size)
      have hX29 := (hb29.block (Y19).heap.size (Array.getElem?_eq_some_iff.1 hX28).1).trans hX28
      have HR29 : Hid (HRow Y29 g2 h cs2 gs2) := (HR28.out).under hb29
      refine hK.out _ _ (HSW12.out _ hB29) (fun hHeld29 => ?_)
      clear hK K
      (try simp only [Act.put, List.setIfInBounds_toArray, List.set_cons_zero, List.set_cons_succ])
      obtain ⟨z30, u30⟩ := one_of hX29
      refine oneUp 7 rfl (by kernel_rfl) (by rfl) (fun K hK => ?_)
      go_simp
      have hF30 : Below U2.heap.size U2 ((Y29).setCell ⟨(Y19).heap.size, 0, none⟩ (.slice a29 V.length c29)) := (hB29).setCell (p := ⟨(Y19).heap.size, 0, none⟩) ((hB19).size) _
      refine hK.out _ _ (HSW12.out _ hF30) (fun hHeld30 => ?_)
      clear hK K
      have HA30 : Hid (Ans ((Y29).setCell ⟨(Y19).heap.size, 0, none⟩ (.slice a29 V.length c29)) U2.heap.size (Y19).heap.size a29 c29 V) := by
        obtain ⟨cs, k⟩ := HO29.out
        exact ans_set k hX29 ((hB28).size) ((hB19).size)
      refine wpAnyH_done (by kernel_rfl) ?_ _
      go_wp2_with fail
      go_meet
      exact ⟨_, _, _, _, rfl, HA30.out, Nat.le_refl _, hF30⟩
  case rest =>
  obtain ⟨X12, lo12, a12, c12, rfl, hcut⟩ := hcut
  obtain ⟨U3, rfl⟩ : ∃ x, x = wc := ⟨_, rfl⟩
  have HXd : Hid (BoxF w U3 (.slice a h.length cap) (.int .i64 vk) (.int .i64 vn) (.string vt)) := HXc.out.under hcut.out.2.2
  have HK10c : Hid (Kept lo10 U0 U3) := HK10b.out.under hcut.out.2.2
  have HR3 : Hid (HRow U3 g2 h cs2 gs2) := HR2.out.under hcut.out.2.2
  have HA12 : Hid (Ans U3 lo12 X12 a12 c12 V ∧ X11 < lo12 ∧ w.heap.size + 1 < lo12) := ⟨hcut.out.1, by have := hcut.out.2.1; omega, by have := HXc.out.2.1; have := hcut.out.2.1; omega⟩
  have hX11c := (hcut.out.2.2.block _ hU12).trans hX11
  clear hcut HXc HK10b HR2 HSW12 hX11 hU12
  have y12 := HA12.out.1.cell
  have y10 := (HA10.out.1.kept HK10c.out).cell
  go_wp2_with fail
  refine (HE.out hzV U3 lo12 X12 a12 c12 lo10 X10 a10 c10 HA12.out.1 (HA10.out.1.kept HK10c.out)).mono ?_
  rintro e U4 ⟨rfl, hb⟩
  have HXe : Hid (BoxF w U4 (.slice a h.length cap) (.int .i64 vk) (.int .i64 vn) (.string vt)) := HXd.out.under hb
  have HK10d : Hid (Kept lo10 U0 U4) := HK10c.out.under hb
  have HK12d : Hid (Kept lo12 U3 U4) := (Kept.refl _ _).under hb
  have HR4 : Hid (HRow U4 g2 h cs2 gs2) := HR3.out.under hb
  have hX11d := (hb.block X11 (Array.getElem?_eq_some_iff.1 hX11c).1).trans hX11c
  clear hb HXd HK10c HR3 hX11c y12 y10
  have x11 := (one_of hX11d).1
  obtain ⟨p0, -⟩ := HXe.out.cells
  have hSP := HXe.out.2.1
  have hSX : X11 < U4.heap.size := (Array.getElem?_eq_some_iff.1 hX11d).1
  go_wp2_with fail
  go_cut [53] from 13 to 94 (fun v W => v = .bool false ∧ Below U4.heap.size U4 W)
  case first =>
    go_region_with (first
      | (go_at_call 11; refine (H2.out hz _ HXe.out.1.drew).mono ?_; rintro e WA ⟨g3, cs3, gs3, rfl, hA, hgA, hrA⟩; have hA2 : Below U4.heap.size U4 WA := (Below.refl U4.heap.size U4).drew.trans hA; have pA := (one_of ((hA2.block _ (by omega)).trans HXe.out.2.2.1)).1; have xA := (one_of ((hA2.block _ hSX).trans hX11d)).1; have HRA : Hid (HRow WA g3 h cs3 gs3) := hrA; clear hrA)
      | (go_at_call 13; refine (H5.out _ g2 g3 cs2 cs3 gs2 gs3 (HR4.out.under hA2) HRA.out).mono ?_; rintro e WB ⟨rfl, hBB⟩; have hB2 : Below U4.heap.size U4 WB := hA2.trans (hBB.mono hA2.size)))
    all_goals
      go_wp2_with fail
      go_meet
      exact ⟨rfl, hB2⟩
  case rest =>
  obtain ⟨rfl, hcut⟩ := hcut
  obtain ⟨U5, rfl⟩ : ∃ x, x = wc := ⟨_, rfl⟩
  have HXf : Hid (BoxF w U5 (.slice a h.length cap) (.int .i64 vk) (.int .i64 vn) (.string vt)) := HXe.out.under hcut
  have HK10e : Hid (Kept lo10 U0 U5) := HK10d.out.under hcut
  have HK12e : Hid (Kept lo12 U3 U5) := HK12d.out.under hcut
  have HR5 : Hid (HRow U5 g2 h cs2 gs2) := HR4.out.under hcut
  have x11b := (one_of ((hcut.block _ hSX).trans hX11d)).1
  clear hcut HXe HK10d HK12d HR4 hX11d x11 p0 hSP hSX
  go_wp2_with fail
  refine (H6.out hz U5 g2 cs2 gs2 HR5.out).mono ?_
  rintro e U6 ⟨rfl, -, hm⟩
  have HXg : Hid (BoxF w U6 (.slice a h.length cap) (.int .i64 vk) (.int .i64 vn) (.string vt)) := HXf.out.marks hm (fun q hq => by have := (HBL.out q hq).1; have := HA10.out.2; have := HA10.out.1.lt; have := HA10.out.1.1; omega)
  have HK10f : Hid (Kept lo10 U0 U6) := HK10e.out.marks hm (fun q _ h2 e => by have := (HBL.out q e).1; omega)
  have HK12f : Hid (Kept lo12 U3 U6) := HK12e.out.marks hm (fun q h1 _ e => by have := (HBL.out q e).2; have := HA12.out.2.1; omega)
  clear hm HXf HK10e HK12e HR5 x11b
  generalize (1 + mkK h h.length) = M
  have hM0 : ¬ ((M : Nat) : Int) < 0 := by omega
  have y12 := (HA12.out.1.kept HK12f.out).cell
  have y10 := (HA10.out.1.kept HK10f.out).cell
  go_wp2_with fail
  refine (HE.out hzV U6 lo12 X12 a12 c12 lo10 X10 a10 c10 (HA12.out.1.kept HK12f.out) (HA10.out.1.kept HK10f.out)).mono ?_
  rintro e U7 ⟨rfl, hb⟩
  have HXh : Hid (BoxF w U7 (.slice a h.length cap) (.int .i64 vk) (.int .i64 vn) (.string vt)) := HXg.out.under hb
  have HK10g : Hid (Kept lo10 U0 U7) := HK10f.out.under hb
  have HA12g : Hid (Ans U7 lo12 X12 a12 c12 V) := (HA12.out.1.kept HK12f.out).kept ((Kept.refl _ _).under hb)
  clear hb HXg HK10f HK12f y12 y10
  have y12 := HA12g.out.cell
  go_wp2_with fail
  refine (HM.out hzV U7 lo12 X12 a12 c12 HA12g.out).mono ?_
  rintro e U8 ⟨rfl, hmk, hbox, Q, hm, hQ⟩
  have HXi : Hid (BoxF w U8 (.slice a h.length cap) (.int .i64 vk) (.int .i64 vn) (.string vt)) := HXh.out.marks hm (fun q hq => by have := hQ q hq; have := HA12.out.2.2; omega)
  have HK10h : Hid (Kept lo10 U0 U8) := HK10g.out.marks hm (fun q _ h2 e => by have := hQ q e; have := HA12.out.2.1; omega)
  have HMK : Hid (Marked U8 a12 V ∧ U8.heap[X12]? = some (.cells #[.slice a12 V.length c12] 29 (0, 0))) := ⟨hmk, hbox⟩
  clear hm hmk hbox hQ HXh HK10g HA12g y12
  have hn0 : ¬ ((MV : Nat) : Int) < 0 := by omega
  have hn1 : ((((MV : Nat) : Int)) != ((MV : Nat) : Int)) = false := by simp
  have y12 := (one_of HMK.out.2).1
  go_wp2_with fail
  refine (HD.out hzV U8 a12 c12 HMK.out.1).mono ?_
  rintro e U9 ⟨rfl, hb⟩
  have HXj : Hid (BoxF w U9 (.slice a h.length cap) (.int .i64 vk) (.int .i64 vn) (.string vt)) := HXi.out.under hb
  have HK10i : Hid (Kept lo10 U0 U9) := HK10h.out.under hb
  have HMK9 : Hid (Marked U9 a12 V ∧ U9.heap[X12]? = some (.cells #[.slice a12 V.length c12] 29 (0, 0))) := ⟨HMK.out.1.under hb, (hb.block X12 (Array.getElem?_eq_some_iff.1 HMK.out.2).1).trans HMK.out.2⟩
  clear hb HXi HK10h HMK y12
  have HSW29 : Hid (∀ W' : World, Below U9.heap.size U9 W' → W'.cell? ⟨w.heap.size, 0, none⟩ = some (.slice a h.length cap) ∧ W'.cell? ⟨w.heap.size + 1, 0, none⟩ = some (.int .i64 vk) ∧ W'.cell? ⟨w.heap.size + 1, 1, none⟩ = some (.int .i64 vn) ∧ W'.cell? ⟨w.heap.size + 1, 2, none⟩ = some (.string vt)) := fun W' hW => (HXj.out.under hW).cells
  go_wp2_with fail
  go_cut [16] from 16 to 94 (fun vp W => ∃ X lo a1 c1, vp = .pointer (some ⟨X, 0, none⟩) ∧ Hid (Ans W lo X a1 c1 V ∧ U9.heap.size ≤ lo ∧ Below U9.heap.size U9 W))
  case first =>
    refine wp_region_held_drew (S := fun W' => W'.cell? ⟨w.heap.size, 0, none⟩ = some (.slice a h.length cap) ∧ W'.cell? ⟨w.heap.size + 1, 0, none⟩ = some (.int .i64 vk) ∧ W'.cell? ⟨w.heap.size + 1, 1, none⟩ = some (.int .i64 vn) ∧ W'.cell? ⟨w.heap.size + 1, 2, none⟩ = some (.string vt)) (by kernel_rfl) (HSW29.out _ (Below.refl U9.heap.size U9).drew) (fun hHeld => ?_)
    have hB31 : Below U9.heap.size U9 U9.drew := (Below.refl U9.heap.size U9).drew
    generalize hD31 : U9.drew = Y31 at hHeld hB31 ⊢
    clear hD31
    refine takeIn 0 (v := ?vr31x0) rfl (by kernel_rfl) (by kernel_rfl) (by kernel_rfl) (fun _ _ _ h => h) ?wr31x0 (by assumption) ?yr31x0 ?rr31x0
    case wr31x0 => rfl
    case yr31x0 => (intro w hSw; (try dsimp only at hSw); go_simp; first | done | with_reducible rfl)
    simp only [Act.put, List.setIfInBounds_toArray, List.set_cons_zero, List.set_cons_succ]
    refine takeIn 2 (v := ?vr31x2) rfl (by kernel_rfl) (by kernel_rfl) (by kernel_rfl) (fun _ _ _ h => h) ?wr31x2 (by assumption) ?yr31x2 ?rr31x2
    case wr31x2 => rfl
    case yr31x2 => (intro w hSw; (try dsimp only at hSw); go_simp; first | done | with_reducible rfl)
    simp only [Act.put, List.setIfInBounds_toArray, List.set_cons_zero, List.set_cons_succ]
    refine takeIn 3 (v := ?vr31x3) rfl (by kernel_rfl) (by kernel_rfl) (by kernel_rfl) (fun _ _ _ h => h) ?wr31x3 (by assumption) ?yr31x3 ?rr31x3
    case wr31x3 => rfl
    case yr31x3 => (intro w hSw; (try dsimp only at hSw); go_simp; first | done | with_reducible rfl)
    simp only [Act.put, List.setIfInBounds_toArray, List.set_cons_zero, List.set_cons_succ]
    refine takeIn 4 (v := ?vr31x4) rfl (by kernel_rfl) (by kernel_rfl) (by kernel_rfl) (fun _ _ _ h => h) ?wr31x4 (by assumption) ?yr31x4 ?rr31x4
    case wr31x4 => rfl
    case yr31x4 => (intro w hSw; (try dsimp only at hSw); go_simp; first | done | with_reducible rfl)
    simp only [Act.put, List.setIfInBounds_toArray, List.set_cons_zero, List.set_cons_succ]
    refine twoUp 1 7 rfl rfl (by kernel_rfl) (by rfl) (by rfl) (fun K hK => ?_) (fun K hK => ?_)
    · go_simp
      refine (H2.out hz _ ((HXj.out.1).trans ((hB31).mono (HXj.out.1).size))).mono ?_
      rintro e Y32 ⟨g32, cs32, gs32, rfl, hb32, -, hr32⟩
      have HR32 : Hid (HRow Y32 g32 h cs32 gs32) := hr32
      clear hr32
      have hB32 := (hB31).trans (hb32.mono (hB31).size)
      refine hK.out _ _ (HSW29.out _ hB32) (fun hHeld32 => ?_)
      clear hK K
      (try simp only [Act.put, List.setIfInBounds_toArray, List.set_cons_zero, List.set_cons_succ])
      refine twoUp 5 7 rfl rfl (by kernel_rfl) (by rfl) (by rfl) (fun K hK => ?_) (fun K hK => ?_)
      · go_simp
        refine (H2v.out _).mono ?_
        rintro e Y33 ⟨rfl, hb33⟩
        have hB33 := (hB32).trans (hb33.mono (hB32).size)
        have HR33 : Hid (HRow Y33 g32 h cs32 gs32) := (HR32.out).under hb33
        refine hK.out _ _ (HSW29.out _ hB33) (fun hHeld33 => ?_)
        clear hK K
        (try simp only [Act.put, List.setIfInBounds_toArray, List.set_cons_zero, List.set_cons_succ])
        refine twoUp 6 7 rfl rfl (by kernel_rfl) (by rfl) (by rfl) (fun K hK => ?_) (fun K hK => ?_)
        · go_simp
          refine (H4.out hz _ g32 cs32 gs32 HR33.out).mono ?_
          rintro e Y34 ⟨a34, c34, rfl, hb34, hon34⟩
          have HO34 : Hid (∃ cs, HOwn Y34 (Y33).heap.size (.slice a34 V.length c34) V V.length cs) := hon34
          clear hon34
          have hB34 := (hB33).trans (hb34.mono (hB33).size)
          have HR34 : Hid (HRow Y34 g32 h cs32 gs32) := (HR33.out).under hb34
          refine hK.out _ _ (HSW29.out _ hB34) (fun hHeld34 => ?_)
          clear hK K
          (try simp only [Act.put, List.setIfInBounds_toArray, List.set_cons_zero, List.set_cons_succ])
          refine oneUp 7 rfl (by kernel_rfl) (by rfl) (fun K hK => ?_)
          go_simp
          generalize hG35 : World.alloc _ _ = Y35
          have hb35 : Below (Y34).heap.size (Y34) Y35 := by rw [← hG35]; exact (Below.refl _ _).alloc (Nat.le_refl _) _
          have hY35 : Y35.heap[(Y34).heap.size]? = some (.cells #[.slice none 0 0] 29 (0, 0)) := by rw [← hG35]; exact heap_alloc_new _ _
          clear hG35
          have hB35 := (hB34).trans (hb35.mono (hB34).size)
          have HR35 : Hid (HRow Y35 g32 h cs32 gs32) := (HR34.out).under hb35
          have HO35 : Hid (∃ cs, HOwn Y35 (Y33).heap.size (.slice a34 V.length c34) V V.length cs) := by
            obtain ⟨cs, k⟩ := HO34.out
            exact ⟨cs, k.under hb35⟩
          refine hK.out _ _ (HSW29.out _ hB35) (fun hHeld35 => ?_)
          clear hK K
          (try simp only [Act.put, List.setIfInBounds_toArray, List.set_cons_zero, List.set_cons_succ])
          obtain ⟨z36, u36⟩ := one_of hY35
          refine oneUp 8 rfl (by kernel_rfl) (by rfl) (fun K hK => ?_)
          go_simp
          have hF36 : Below U9.heap.size U9 ((Y35).setCell ⟨(Y34).heap.size, 0, none⟩ (.slice a34 V.length c34)) := (hB35).setCell (p := ⟨(Y34).heap.size, 0, none⟩) ((hB34).size) _
          refine hK.out _ _ (HSW29.out _ hF36) (fun hHeld36 => ?_)
          clear hK K
          have HA36 : Hid (Ans ((Y35).setCell ⟨(Y34).heap.size, 0, none⟩ (.slice a34 V.length c34)) U9.heap.size (Y34).heap.size a34 c34 V) := by
            obtain ⟨cs, k⟩ := HO35.out
            exact ans_set k hY35 ((hB33).size) ((hB34).size)
          refine wpAnyH_done (by kernel_rfl) ?_ _
          go_wp2_with fail
          go_meet
          exact ⟨_, _, _, _, rfl, HA36.out, Nat.le_refl _, hF36⟩
        · go_simp
          generalize hG37 : World.alloc _ _ = Y37
          have hb37 : Below (Y33).heap.size (Y33) Y37 := by rw [← hG37]; exact (Below.refl _ _).alloc (Nat.le_refl _) _
          have hY37 : Y37.heap[(Y33).heap.size]? = some (.cells #[.slice none 0 0] 29 (0, 0)) := by rw [← hG37]; exact heap_alloc_new _ _
          clear hG37
          have hB37 := (hB33).trans (hb37.mono (hB33).size)
          have HR37 : Hid (HRow Y37 g32 h cs32 gs32) := (HR33.out).under hb37
          refine hK.out _ _ (HSW29.out _ hB37) (fun hHeld37 => ?_)
          clear hK K
          (try simp only [Act.put, List.setIfInBounds_toArray, List.set_cons_zero, List.set_cons_succ])
          refine oneUp 6 rfl (by kernel_rfl) (by rfl) (fun K hK => ?_)
          go_simp
          refine (H4.out hz _ g32 cs32 gs32 HR37.out).mono ?_
          rintro e Y38 ⟨a38, c38, rfl, hb38, hon38⟩
          have HO38 : Hid (∃ cs, HOwn Y38 (Y37).heap.size (.slice a38 V.length c38) V V.length cs) := hon38
          clear hon38
          have hB38 := (hB37).trans (hb38.mono (hB37).size)
          have hX38 := (hb38.block (Y33).heap.size (Array.getElem?_eq_some_iff.1 hY37).1).trans hY37
          have HR38 : Hid (HRow Y38 g32 h cs32 gs32) := (HR37.out).under hb38
          refine hK.out _ _ (HSW29.out _ hB38) (fun hHeld38 => ?_)
          clear hK K
          (try simp only [Act.put, List.setIfInBounds_toArray, List.set_cons_zero, List.set_cons_succ])
          obtain ⟨z39, u39⟩ := one_of hX38
          refine oneUp 8 rfl (by kernel_rfl) (by rfl) (fun K hK => ?_)
          go_simp
          have hF39 : Below U9.heap.size U9 ((Y38).setCell ⟨(Y33).heap.size, 0, none⟩ (.slice a38 V.length c38)) := (hB38).setCell (p := ⟨(Y33).heap.size, 0, none⟩) ((hB33).size) _
          refine hK.out _ _ (HSW29.out _ hF39) (fun hHeld39 => ?_)
          clear hK K
          have HA39 : Hid (Ans ((Y38).setCell ⟨(Y33).heap.size, 0, none⟩ (.slice a38 V.length c38)) U9.heap.size (Y33).heap.size a38 c38 V) := by
            obtain ⟨cs, k⟩ := HO38.out
            exact ans_set k hX38 ((hB37).size) ((hB33).size)
          refine wpAnyH_done (by kernel_rfl) ?_ _
          go_wp2_with fail
          go_meet
          exact ⟨_, _, _, _, rfl, HA39.out, Nat.le_refl _, hF39⟩
      · go_simp
        generalize hG40 : World.alloc _ _ = Y40
        have hb40 : Below (Y32).heap.size (Y32) Y40 := by rw [← hG40]; exact (Below.refl _ _).alloc (Nat.le_refl _) _
        have hY40 : Y40.heap[(Y32).heap.size]? = some (.cells #[.slice none 0 0] 29 (0, 0)) := by rw [← hG40]; exact heap_alloc_new _ _
        clear hG40
        have hB40 := (hB32).trans (hb40.mono (hB32).size)
        have HR40 : Hid (HRow Y40 g32 h cs32 gs32) := (HR32.out).under hb40
        refine hK.out _ _ (HSW29.out _ hB40) (fun hHeld40 => ?_)
        clear hK K
        (try simp only [Act.put, List.setIfInBounds_toArray, List.set_cons_zero, List.set_cons_succ])
        refine oneUp 5 rfl (by kernel_rfl) (by rfl) (fun K hK => ?_)
        go_simp
        refine (H2v.out _).mono ?_
        rintro e Y41 ⟨rfl, hb41⟩
        have hB41 := (hB40).trans (hb41.mono (hB40).size)
        have hX41 := (hb41.block (Y32).heap.size (Array.getElem?_eq_some_iff.1 hY40).1).trans hY40
        have HR41 : Hid (HRow Y41 g32 h cs32 gs32) := (HR40.out).under hb41
        refine hK.out _ _ (HSW29.out _ hB41) (fun hHeld41 => ?_)
        clear hK K
        (try simp only [Act.put, List.setIfInBounds_toArray, List.set_cons_zero, List.set_cons_succ])
        refine oneUp 6 rfl (by kernel_rfl) (by rfl) (fun K hK => ?_)
        go_simp
        refine (H4.out hz _ g32 cs32 gs32 HR41.out).mono ?_
        rintro e Y42 ⟨a42, c42, rfl, hb42, hon42⟩
        have HO42 : Hid (∃ cs, HOwn Y42 (Y41).heap.size (.slice a42 V.length c42) V V.length cs) := hon42
        clear hon42
        have hB42 := (hB41).trans (hb42.mono (hB41).size)
        have hX42 := (hb42.block (Y32).heap.size (Array.getElem?_eq_some_iff.1 hX41).1).trans hX41
        have HR42 : Hid (HRow Y42 g32 h cs32 gs32) := (HR41.out).under hb42
        refine hK.out _ _ (HSW29.out _ hB42) (fun hHeld42 => ?_)
        clear hK K
        (try simp only [Act.put, List.setIfInBounds_toArray, List.set_cons_zero, List.set_cons_succ])
        obtain ⟨z43, u43⟩ := one_of hX42
        refine oneUp 8 rfl (by kernel_rfl) (by rfl) (fun K hK => ?_)
        go_simp
        have hF43 : Below U9.heap.size U9 ((Y42).setCell ⟨(Y32).heap.size, 0, none⟩ (.slice a42 V.length c42)) := (hB42).setCell (p := ⟨(Y32).heap.size, 0, none⟩) ((hB32).size) _
        refine hK.out _ _ (HSW29.out _ hF43) (fun hHeld43 => ?_)
        clear hK K
        have HA43 : Hid (Ans ((Y42).setCell ⟨(Y32).heap.size, 0, none⟩ (.slice a42 V.length c42)) U9.heap.size (Y32).heap.size a42 c42 V) := by
          obtain ⟨cs, k⟩ := HO42.out
          exact ans_set k hX42 ((hB41).size) ((hB32).size)
        refine wpAnyH_done (by kernel_rfl) ?_ _
        go_wp2_with fail
        go_meet
        exact ⟨_, _, _, _, rfl, HA43.out, Nat.le_refl _, hF43⟩
    · go_simp
      generalize hG44 : World.alloc _ _ = Y44
      have hb44 : Below (Y31).heap.size (Y31) Y44 := by rw [← hG44]; exact (Below.refl _ _).alloc (Nat.le_refl _) _
      have hY44 : Y44.heap[(Y31).heap.size]? = some (.cells #[.slice none 0 0] 29 (0, 0)) := by rw [← hG44]; exact heap_alloc_new _ _
      clear hG44
      have hB44 := (hB31).trans (hb44.mono (hB31).size)
      refine hK.out _ _ (HSW29.out _ hB44) (fun hHeld44 => ?_)
      clear hK K
      (try simp only [Act.put, List.setIfInBounds_toArray, List.set_cons_zero, List.set_cons_succ])
      refine oneUp 1 rfl (by kernel_rfl) (by rfl) (fun K hK => ?_)
      go_simp
      refine (H2.out hz _ ((HXj.out.1).trans ((hB44).mono (HXj.out.1).size))).mono ?_
      rintro e Y45 ⟨g45, cs45, gs45, rfl, hb45, -, hr45⟩
      have HR45 : Hid (HRow Y45 g45 h cs45 gs45) := hr45
      clear hr45
      have hB45 := (hB44).trans (hb45.mono (hB44).size)
      have hX45 := (hb45.block (Y31).heap.size (Array.getElem?_eq_some_iff.1 hY44).1).trans hY44
      refine hK.out _ _ (HSW29.out _ hB45) (fun hHeld45 => ?_)
      clear hK K
      (try simp only [Act.put, List.setIfInBounds_toArray, List.set_cons_zero, List.set_cons_succ])
      refine oneUp 5 rfl (by kernel_rfl) (by rfl) (fun K hK => ?_)
      go_simp
      refine (H2v.out _).mono ?_
      rintro e Y46 ⟨rfl, hb46⟩
      have hB46 := (hB45).trans (hb46.mono (hB45).size)
      have hX46 := (hb46.block (Y31).heap.size (Array.getElem?_eq_some_iff.1 hX45).1).trans hX45
      have HR46 : Hid (HRow Y46 g45 h cs45 gs45) := (HR45.out).under hb46
      refine hK.out _ _ (HSW29.out _ hB46) (fun hHeld46 => ?_)
      clear hK K
      (try simp only [Act.put, List.setIfInBounds_toArray, List.set_cons_zero, List.set_cons_succ])
      refine oneUp 6 rfl (by kernel_rfl) (by rfl) (fun K hK => ?_)
      go_simp
      refine (H4.out hz _ g45 cs45 gs45 HR46.out).mono ?_
      rintro e Y47 ⟨a47, c47, rfl, hb47, hon47⟩
      have HO47 : Hid (∃ cs, HOwn Y47 (Y46).heap.size (.slice a47 V.length c47) V V.length cs) := hon47
      clear hon47
      have hB47 := (hB46).trans (hb47.mono (hB46).size)
      have hX47 := (hb47.block (Y31).heap.size (Array.getElem?_eq_some_iff.1 hX46).1).trans hX46
      have HR47 : Hid (HRow Y47 g45 h cs45 gs45) := (HR46.out).under hb47
      refine hK.out _ _ (HSW29.out _ hB47) (fun hHeld47 => ?_)
      clear hK K
      (try simp only [Act.put, List.setIfInBounds_toArray, List.set_cons_zero, List.set_cons_succ])
      obtain ⟨z48, u48⟩ := one_of hX47
      refine oneUp 8 rfl (by kernel_rfl) (by rfl) (fun K hK => ?_)
      go_simp
      have hF48 : Below U9.heap.size U9 ((Y47).setCell ⟨(Y31).heap.size, 0, none⟩ (.slice a47 V.length c47)) := (hB47).setCell (p := ⟨(Y31).heap.size, 0, none⟩) ((hB31).size) _
      refine hK.out _ _ (HSW29.out _ hF48) (fun hHeld48 => ?_)
      clear hK K
      have HA48 : Hid (Ans ((Y47).setCell ⟨(Y31).heap.size, 0, none⟩ (.slice a47 V.length c47)) U9.heap.size (Y31).heap.size a47 c47 V) := by
        obtain ⟨cs, k⟩ := HO47.out
        exact ans_set k hX47 ((hB46).size) ((hB31).size)
      refine wpAnyH_done (by kernel_rfl) ?_ _
      go_wp2_with fail
      go_meet
      exact ⟨_, _, _, _, rfl, HA48.out, Nat.le_refl _, hF48⟩
  case rest =>
  obtain ⟨X16, lo16, a16, c16, rfl, hcut⟩ := hcut
  obtain ⟨UA, rfl⟩ : ∃ x, x = wc := ⟨_, rfl⟩
  have HXk : Hid (Below w.heap.size w UA) := HXj.out.1.trans (hcut.out.2.2.mono HXj.out.1.size)
  have HK10j : Hid (Kept lo10 U0 UA) := HK10i.out.under hcut.out.2.2
  have HMKA : Hid (Marked UA a12 V ∧ UA.heap[X12]? = some (.cells #[.slice a12 V.length c12] 29 (0, 0))) := ⟨HMK9.out.1.under hcut.out.2.2, (hcut.out.2.2.block X12 (Array.getElem?_eq_some_iff.1 HMK9.out.2).1).trans HMK9.out.2⟩
  have HA16 : Hid (Ans UA lo16 X16 a16 c16 V) := hcut.out.1
  clear hcut HXj HK10i HMK9 HSW29
  have y16 := HA16.out.cell
  have y10 := (HA10.out.1.kept HK10j.out).cell
  go_wp2_with fail
  refine (HE.out hzV UA lo16 X16 a16 c16 lo10 X10 a10 c10 HA16.out (HA10.out.1.kept HK10j.out)).mono ?_
  rintro e UB ⟨rfl, hb⟩
  have HXl : Hid (Below w.heap.size w UB) := HXk.out.trans (hb.mono HXk.out.size)
  have HMKB : Hid (Marked UB a12 V ∧ UB.heap[X12]? = some (.cells #[.slice a12 V.length c12] 29 (0, 0))) := ⟨HMKA.out.1.under hb, (hb.block X12 (Array.getElem?_eq_some_iff.1 HMKA.out.2).1).trans HMKA.out.2⟩
  clear hb HXk HMKA HA16 y16 y10 HK10j
  have y12 := (one_of HMKB.out.2).1
  go_wp2_with fail
  refine (HD.out hzV UB a12 c12 HMKB.out.1).mono ?_
  rintro e UC ⟨rfl, hb⟩
  have HXm : Hid (Below w.heap.size w UC) := HXl.out.trans (hb.mono HXl.out.size)
  clear hb
  go_wp2_with fail
  go_ret
  exact ⟨rfl, HXm.out⟩

end Go.Proofs.Ythagnflhelndjac

/-
  The walks of the specification's l05Keys and HeapKeys.
-/
import Derived.Test.YtlmlmdmechhalaaHpSG
import Derived.Test.YtlmlmdmechhalaaHpQ
namespace Go.Proofs.Ytlmlmdmechhalaa
open Go.RowKit
open Hp (PP OO propC)

theorem row_empty (w : World) (t : TypeId) (B : Nat) (hB : B ≤ w.heap.size) : (w.alloc (.cells #[] t)).ownsRow B t 1 (.slice (some ⟨w.heap.size, 0, none⟩) 0 0) 0 [] :=
  ⟨rfl, .inr ⟨w.heap.size, 0, #[], rfl, hB, heap_alloc_new w _, Nat.le_refl _, Nat.zero_le _, rfl, rfl⟩⟩

set_option maxHeartbeats 4000000 in
set_option maxRecDepth 100000 in
theorem sKeys (a : Option Addr) (cap B : Nat) (h : List OO) (cs : Nat → OC) (i : Nat) (hi : i < h.length) (w : World) (hl4 : h.length ≤ 400) (hpl : h[i].ps.length ≤ 1048576) (hcap : h[i].ps.length ≤ (cs i).pc) (hh : HIn w B a h cs) :
    Calls Try.prog 56 #[.agg #[.slice a h.length cap], .int .i64 i] w fun e w' => ∃ v, e = .returned v ∧ Below w.heap.size w w' ∧ SRow w' w.heap.size v (Hp.keysPs h[i].ps) := by
  obtain ⟨hos, hps⟩ := hh
  rcases hos with rfl | ⟨b, o, rfl, hB, hc⟩
  · simp at hi
  have q1 := hc i hi
  have HPS : Hid (PsIn w B (cs i).pa h[i].ps) := hps i hi
  have hi' : (i : Int) < (h.length : Int) := by omega
  have HN : Hid (∀ o1 o2, _) := two_new w
  clear hc hps
  generalize h[i] = x at *
  generalize cs i = c at *
  obtain ⟨cls, pro, ps⟩ := x
  obtain ⟨pa, pc⟩ := c
  unfold OAt at q1
  dsimp only at q1 HPS hpl hcap ⊢
  obtain ⟨q10, q11, q12⟩ := q1
  have hbl := World.block_lt_of_cell? w _ q10
  go_enter Try.func56, Try.ntmps56
  go_wp2_with fail
  generalize hW0 : World.alloc (World.alloc (World.alloc w _) _) _ = W0
  have hX : W0.heap[w.heap.size + 1 + 1]? = some (.cells #[.int .i64 cls, .int .i64 pro, .slice pa ps.length pc] 76 (0, 0)) := by
    rw [← hW0]
    have := heap_alloc_new ((w.alloc (.cells #[.slice (some ⟨b, o, none⟩) h.length cap] 25)).alloc (.cells #[] 9)) (.cells #[.int .i64 cls, .int .i64 pro, .slice pa ps.length pc] 76)
    simpa using this
  have hBW : Below w.heap.size w W0 := by rw [← hW0]; exact (((Below.refl _ _).alloc (Nat.le_refl _) _).alloc (by simp) _).alloc (by simp; omega) _
  have hR0 : W0.ownsRow w.heap.size 9 1 (.slice (some ⟨w.heap.size + 1, 0, none⟩) 0 0) 0 [] := by
    rw [← hW0]
    have := row_empty (w.alloc (.cells #[.slice (some ⟨b, o, none⟩) h.length cap] 25)) 9 w.heap.size (by simp)
    rw [World.size_alloc] at this
    exact World.ownsRow.alloc this _
  have hSz : W0.heap.size = w.heap.size + 1 + 1 + 1 := by rw [← hW0]; simp
  clear hW0
  have HR0 : Hid _ := hR0
  have hXne : ∀ q, some q = (some (w.heap.size + 1 + 1)) → q = w.heap.size + 1 + 1 := fun q e => by simpa using e
  clear hR0 q10 q11 q12
  go_loopw [5, 7] (fun vk vi wr => ∃ j : Nat, j ≤ ps.length ∧ vi = .int .i64 j ∧ Hid (Below w.heap.size w wr ∧ wr.heap[w.heap.size + 1 + 1]? = some (.cells #[.int .i64 cls, .int .i64 pro, .slice pa ps.length pc] 76 (0, 0)) ∧ SRow wr w.heap.size vk (Hp.keysPs (ps.take j)))) (fun _ vi _ => ps.length - (intOf vi).toNat)
  case atStart => exact ⟨0, Nat.zero_le _, rfl, hBW, hX, HR0.out⟩
  case round =>
    obtain ⟨j, hj, rfl, HE⟩ := hrel
    obtain ⟨av, acap, rfl⟩ := own_shape HE.out.2.2
    obtain ⟨x0, x1, x2⟩ := three_of' HE.out.2.1
    have hXl : w.heap.size + 1 + 1 < wr.heap.size := (Array.getElem?_eq_some_iff.1 HE.out.2.1).1
    by_cases hlt : j < ps.length
    case neg =>
      have hlt' : ¬ (j : Int) < (ps.length : Int) := by omega
      have HFF : Hid (SRow wr w.heap.size (.slice av (Hp.keysPs (ps.take j)).length acap) (Hp.keysPs ps)) := by
        have := HE.out.2.2
        rw [List.take_of_length_le (by omega)] at this ⊢
        exact this
      go_wp2_with fail
      go_ret
      first | exact ⟨_, rfl, HE.out.1, HFF.out⟩ | exact ⟨⟨_, rfl⟩, HE.out.1, HFF.out⟩
    have hlt' : (j : Int) < (ps.length : Int) := by omega
    obtain ⟨b', o', hpa, hB', hc'⟩ := HPS.out.resolve_left (fun e => by rw [e] at hlt; simp at hlt)
    have q2 := (hc' j hlt).keep hB' (.of_below HE.out.1 B)
    have htk := keysPs_take ps j hlt
    have HLE : Hid ((Hp.keysPs (ps.take j)).length ≤ 1048576) := Nat.le_trans (keysPs_le _) (by simp; omega)
    have hwz := HE.out.1.size
    unfold PAt at q2
    subst hpa
    clear hc'
    generalize ps[j] = p at *
    obtain ⟨pk, ⟨p1, p2, p3⟩, p4, p5⟩ := p
    dsimp only at q2 htk
    obtain ⟨r0, r1, r2, r3, r4, r5⟩ := q2
    cases p4
    · have HTK : Hid _ := htk
      clear htk
      have hne : (Value.slice av (Hp.keysPs (ps.take j)).length acap).ownBlock ≠ some (w.heap.size + 1 + 1) := fun e => by
        obtain ⟨_, c, hcc⟩ := own_apart HE.out.2.2 e
        rw [HE.out.2.1] at hcc
        injection hcc with hcc
        injection hcc with _ ht _
        exact absurd ht (by decide)
      go_wp2_with (refine app_strL rfl (.tmp 28) (.tmp 35) rfl w.heap.size _ _ _ (by rfl) (World.ownsRow.alloc HE.out.2.2 _) ⟨wr.heap.size, 0, none⟩ pk (by rfl) (cell_one_new wr _ 9) (by have := HLE.out; omega) (by simp; omega) ?_; intro v' w' hown' hgrow'; have hsh := own_shape hown'; obtain ⟨a2, cap2, rfl⟩ := hsh)
      have hfin : SRow w' w.heap.size (.slice a2 ((Hp.keysPs (ps.take j)).length + 1) cap2) (Hp.keysPs (ps.take (j + 1))) := by
        rw [HTK.out]
        unfold SRow
        simp only [Bool.false_eq_true, if_false, List.length_append, List.length_singleton, List.map_append, List.map_cons, List.map_nil]
        exact hown'
      have hX' := (hgrow'.block (w.heap.size + 1 + 1) (by simp; omega) (fun e => hne e.symm)).trans ((Below.heap_alloc wr _ _ hXl).trans HE.out.2.1)
      exact ⟨⟨j + 1, by omega, by go_num, (HE.out.1.alloc HE.out.1.size _).grown hgrow' (by simp; omega) (fun q hq => (World.ownsRow.lt HE.out.2.2 q hq).1), hX', hfin⟩, by simp [intOf]; omega⟩
    · have HS : Hid (SRow wr w.heap.size (.slice av (Hp.keysPs (ps.take j)).length acap) (Hp.keysPs (ps.take (j + 1)))) := by
        have : Hp.keysPs (ps.take (j + 1)) = Hp.keysPs (ps.take j) := by rw [htk]; simp
        rw [this]; exact HE.out.2.2
      clear htk
      go_wp2_with fail
      exact ⟨⟨j + 1, by omega, by go_num, HE.out.1, HE.out.2.1, HS.out⟩, by simp [intOf]; omega⟩

set_option maxHeartbeats 4000000 in
theorem sHeapKeys (a : Option Addr) (cap B : Nat) (h : List OO) (cs : Nat → OC) (ref : Int) (w : World) (hz : szH h ≤ 1048576) (hok : OkH h) (hcap : ∀ i (hi : i < h.length), h[i].ps.length ≤ (cs i).pc) (hh : HIn w B a h cs) :
    Calls Try.prog 23 #[.agg #[.slice a h.length cap], .int .i64 ref] w fun e w' => ∃ v, e = .returned v ∧ Below w.heap.size w w' ∧ SRow w' w.heap.size v (Hp.keysV h ref) := by
  have C1 := fun (W : World) (hW : Below w.heap.size w W) => sRef a cap B h cs ref W hok hcap (hh.under hW)
  have C2 := fun (W : World) (hW : Below w.heap.size w W) (i : Nat) (hi : i < h.length) (hl4 : h.length ≤ 400) (hpl : h[i].ps.length ≤ 1048576) => sKeys a cap B h cs i hi W hl4 hpl (hcap i hi) (hh.under hW)
  have HB0 : Hid (∀ o, Below w.heap.size w (w.alloc o)) := fun o => (Below.refl _ _).alloc (Nat.le_refl _) o
  have HV2 : Hid (Hp.refB h ref = false → Hp.keysV h ref = []) := fun k => Hp.keysV_no k
  have HV3 : Hid (Hp.refB h ref = true → ∃ i : Nat, ref = i ∧ ∃ hi : i < h.length, Hp.keysV h ref = Hp.keysPs h[i].ps ∧ h[i].ps.length ≤ 1048576 ∧ h.length ≤ 400) := fun k => by
    obtain ⟨hr, h0, h1⟩ := Hp.refB_iff.1 k
    obtain ⟨i, rfl⟩ : ∃ i : Nat, ref = i := ⟨ref.toNat, by omega⟩
    have hi : i < h.length := by omega
    refine ⟨i, rfl, hi, Hp.keysV_yes k hi, ?_, hr.1⟩
    have h1 : szPs h[i].ps ≤ (h.map fun o => szPs o.ps).sum := sum_mem (fun o : OO => szPs o.ps) h i hi
    have h2 : h[i].ps.length ≤ szPs h[i].ps := by unfold szPs; omega
    unfold szH at hz
    omega
  generalize Hp.keysV h ref = V at *
  generalize Hp.refB h ref = RB at *
  have H1 : Hid _ := C1
  have H2 : Hid _ := C2
  clear C1 C2 hok hh hz hcap
  go_enter Try.func23, Try.ntmps23
  go_wp2_with fail
  refine (H1.out _ (HB0.out _)).mono ?_
  rintro e w1 ⟨rfl, hb1⟩
  have x1 := (one_of' ((hb1.block w.heap.size (by simp)).trans (heap_alloc_new _ _)))
  have hbf := (HB0.out (.cells #[.slice a h.length cap] 25)).trans (hb1.mono (HB0.out _).size)
  have HF : Hid _ := hbf
  clear hbf hb1
  cases RB
  · have hV := HV2.out rfl
    subst hV
    have HR : Hid (Below w.heap.size w (w1.alloc (.cells #[] 9)) ∧ SRow (w1.alloc (.cells #[] 9)) w.heap.size (.slice (some ⟨w1.heap.size, 0, none⟩) 0 0) []) := ⟨HF.out.alloc HF.out.size _, row_empty w1 _ _ HF.out.size⟩
    go_wp2_with fail
    go_ret
    first | exact ⟨_, rfl, HR.out.1, HR.out.2⟩ | exact ⟨⟨_, rfl⟩, HR.out.1, HR.out.2⟩
  · obtain ⟨i, rfl, hi, rfl, hpl, hl4⟩ := HV3.out rfl
    have hw1 := HF.out.size
    go_wp2_with fail
    refine (H2.out _ HF.out i hi hl4 hpl).mono ?_
    rintro e w2 ⟨v2, rfl, hb2, hs2⟩
    have HF2 : Hid (_ ∧ _) := ⟨HF.out.trans (hb2.mono hw1), (World.ownsRow.mono hs2 hw1 : SRow w2 w.heap.size v2 (Hp.keysPs h[i].ps))⟩
    clear hb2 hs2
    go_wp2_with fail
    go_ret
    first | exact HF2.out | exact ⟨v2, rfl, HF2.out.1, HF2.out.2⟩ | exact ⟨_, rfl, HF2.out.1, HF2.out.2⟩

end Go.Proofs.Ytlmlmdmechhalaa

/-
  Marks that are still there: the walks of the law's heldPropS, heldObjectS, heldHeap.
-/
import Derived.Test.YtlmlmdmechhalaaMkP
import Derived.Deep.QuietTactic
import Derived.BigQuiet
import Derived.BigRegion
import Derived.Deep.RegionHeld3
namespace Go.Proofs.Ytlmlmdmechhalaa
open Go.RowKit
open Hp (PP OO propC)

set_option maxHeartbeats 4000000 in
set_option maxRecDepth 100000 in
theorem lHeldPropS (g cap N k0 n : Nat) (w : World) (hn : n ≤ 1100000) (hk1 : 1 ≤ k0) (hk2 : k0 ≤ 50000000) (h : PRowN w g N (mkPs k0 n)) :
    Calls Try.prog 81 #[.slice (some ⟨g, 0, none⟩) n cap, .int .i64 k0] w fun e w' => e = .returned (.int .i64 ((k0 + 6 * n : Nat) : Int)) ∧ Below w.heap.size w w' := by
  have CM : Hid (∀ (K : Nat) (W : World), 1 ≤ K → K ≤ 100000000 → Calls Try.prog 63 #[.int .i64 K] W fun e w' => e = .returned (.string (mT K)) ∧ Below W.heap.size W w') := fun K W h1 h2 => lMarkText K W h1 h2
  have hgl := h.lt
  have HC : Hid (∀ i, i < n → PAt w g (i * 6) (mkP (k0 + 6 * i))) := fun i hi => by
    obtain ⟨hN, f, hr, hp⟩ := h
    rw [mkPs_len] at hN
    obtain ⟨a0, a1, a2, a3, a4, a5⟩ := hp i (by rw [mkPs_len]; exact hi)
    rw [mkPs_at] at a0 a1 a2 a3 a4 a5
    have hc := fun p (hp : p < 6) => hr.cell (i := i * 6 + p) (by omega)
    exact ⟨(hc 0 (by omega)).trans (congrArg some a0), (hc 1 (by omega)).trans (congrArg some a1), (hc 2 (by omega)).trans (congrArg some a2), (hc 3 (by omega)).trans (congrArg some a3), (hc 4 (by omega)).trans (congrArg some a4), (hc 5 (by omega)).trans (congrArg some a5)⟩
  clear h
  go_enter Try.func81, Try.ntmps81
  go_wp2_with fail
  go_loopw [1, 5] (fun vk vi wr => ∃ i : Nat, i ≤ n ∧ vi = .int .i64 i ∧ vk = .int .i64 ((k0 + 6 * i : Nat) : Int) ∧ Below w.heap.size w wr) (fun _ vi _ => n - (intOf vi).toNat)
  case atStart => exact ⟨0, Nat.zero_le _, rfl, rfl, Below.refl _ _⟩
  case round =>
    obtain ⟨i, hi, rfl, rfl, hb⟩ := hrel
    by_cases hlt : i < n
    case neg =>
      have hlt' : ¬ (i : Int) < (n : Int) := by omega
      obtain rfl : i = n := by omega
      go_wp2_with fail
      go_ret
      exact ⟨rfl, hb⟩
    have hlt' : (i : Int) < (n : Int) := by omega
    obtain ⟨K, hK⟩ : ∃ K, k0 + 6 * i = K := ⟨_, rfl⟩
    have hKb : K ≤ 60000000 := by omega
    have hK1 : 1 ≤ K := by omega
    have HCK : Hid (∀ W, Below w.heap.size w W → W.cell? ⟨g, i * 6, none⟩ = some (.string (mT K)) ∧ W.cell? ⟨g, i * 6 + 1, none⟩ = some (.int .i64 ((K : Int) + 1)) ∧ W.cell? ⟨g, i * 6 + 1 + 1, none⟩ = some (.int .i64 ((K : Int) + 1 + 1)) ∧ W.cell? ⟨g, i * 6 + 1 + 2, none⟩ = some (.string (mT (K + 3))) ∧ W.cell? ⟨g, i * 6 + 4, none⟩ = some (.bool (((K : Int) + 3 + 1) % 3 == 0)) ∧ W.cell? ⟨g, i * 6 + 5, none⟩ = some (.bool (((K : Int) + 3 + 1 + 1) % 3 == 0))) := fun W hW => by
      obtain ⟨a0, a1, a2, a3, a4, a5⟩ := HC.out i hlt
      rw [hK] at a0 a1 a2 a3 a4 a5
      have b4 : (((K : Int) + 3 + 1) % 3 == 0) = b3 (K + 4) := by unfold b3; congr 2
      have b5 : (((K : Int) + 3 + 1 + 1) % 3 == 0) = b3 (K + 5) := by unfold b3; congr 2
      have k1 : ((K : Int) + 1) = ((K + 1 : Nat) : Int) := by omega
      have k2 : (((K + 1 : Nat) : Int) + 1) = ((K + 2 : Nat) : Int) := by omega
      rw [b4, b5, k1, k2]
      have hk : ∀ o, W.cell? ⟨g, o, none⟩ = w.cell? ⟨g, o, none⟩ := fun o => hW.cell (p := ⟨g, o, none⟩) hgl
      exact ⟨(hk _).trans a0, (hk _).trans a1, (hk _).trans a2, (hk _).trans a3, (hk _).trans a4, (hk _).trans a5⟩
    rw [hK]
    obtain ⟨c0, -⟩ := HCK.out wr hb
    have HB : Hid (Below w.heap.size w wr) := hb
    clear hb
    go_wp2_with fail
    go_region_held3 (fun w' => w'.cell? ⟨g, i * 6, none⟩ = some (.string (mT K))) (go_keep)
      (first | (go_at_call 63; refine (CM.out K _ (by omega) (by omega)).mono ?_; rintro e w1 ⟨rfl, hb1⟩; have hb2 : Below w.heap.size w w1 := HB.out.drew.trans (hb1.mono HB.out.size); have d1 := (HCK.out w1 hb2).1))
    obtain ⟨-, c1, c2, c3, -, -⟩ := HCK.out w1 hb2
    have HB1 : Hid (Below w.heap.size w w1) := hb2
    clear c0 d1 hb1 hb2
    go_wp2_with fail
    go_region_held3 (fun w' => w'.cell? ⟨g, i * 6 + 1 + 2, none⟩ = some (.string (mT (K + 3)))) (go_keep)
      (first | (go_at_call 63; have e3 : ((K : Int) + 1 + 1 + 1) = ((K + 3 : Nat) : Int) := (by omega); rw [e3]; refine (CM.out (K + 3) _ (by omega) (by omega)).mono ?_; rintro e w2 ⟨rfl, hb3⟩; have hb4 : Below w.heap.size w w2 := HB1.out.drew.trans (hb3.mono HB1.out.size); have d1 := (HCK.out w2 hb4).2.2.2.1))
    obtain ⟨-, -, -, -, c4, c5⟩ := HCK.out w2 hb4
    clear c1 c2 c3 d1 hb3
    go_wp2_with fail
    exact ⟨⟨i + 1, by omega, by go_num, congrArg (Value.int .i64) (by omega), hb4⟩, by simp [intOf]; omega⟩

theorem lHeldPropS0 (a : Option Addr) (cap k0 : Nat) (w : World) (_ : k0 ≤ 50000000) :
    Calls Try.prog 81 #[.slice a 0 cap, .int .i64 k0] w fun e w' => e = .returned (.int .i64 (k0 : Int)) ∧ w' = w := by
  go_enter Try.func81, Try.ntmps81
  go_wp2_with fail
  go_loopw [1, 5] (fun vk vi wr => vi = .int .i64 0 ∧ vk = .int .i64 k0 ∧ wr = w) (fun _ _ _ => 0)
  case atStart => exact ⟨rfl, rfl, rfl⟩
  case round =>
    obtain ⟨rfl, rfl, rfl⟩ := hrel
    go_wp2_with fail
    go_ret
    exact ⟨rfl, rfl⟩

theorem GH.under {w w' : World} {g N : Nat} {h : List OO} {cs : Nat → OC} {gs Ns : Nat → Nat} (H : GH w g N h cs gs Ns) (hb : Below w.heap.size w w') : GH w' g N h cs gs Ns := by
  refine ⟨H.len, ?_, fun j hj => ?_, H.apart, H.apart2⟩
  · obtain ⟨f, h1, h2⟩ := H.row
    exact ⟨f, Below.rowIs h1 hb, h2⟩
  · rcases H.props j hj with e | ⟨e1, e2⟩
    · exact .inl e
    · exact .inr ⟨e1, e2.of_block (hb.block _ e2.lt)⟩

set_option maxHeartbeats 4000000 in
set_option maxRecDepth 100000 in
theorem lHeldObjectS (g cap N k0 : Nat) (h : List OO) (cs : Nat → OC) (gs Ns : Nat → Nat) (w : World) (hz : szH h ≤ 1100000) (hk1 : 1 ≤ k0) (hk2 : k0 ≤ 1000) (H : GH w g N (mkH k0 h) cs gs Ns) :
    Calls Try.prog 62 #[.slice (some ⟨g, 0, none⟩) h.length cap, .int .i64 k0] w fun e w' => e = .returned (.int .i64 ((k0 + mkK h h.length : Nat) : Int)) ∧ Below w.heap.size w w' := by
  have hlen : h.length ≤ 1100000 := by unfold szH at hz; omega
  have HKL : Hid (∀ j, mkK h j ≤ 6 * 1100000) := fun j => Nat.le_trans (mkK_le h j) (by omega)
  have HPL : Hid (∀ j (hj : j < h.length), h[j].ps.length ≤ 1100000) := fun j hj => by
    have h1 : szPs h[j].ps ≤ (h.map fun o => szPs o.ps).sum := sum_mem (fun o : OO => szPs o.ps) h j hj
    have h2 : h[j].ps.length ≤ szPs h[j].ps := by unfold szPs; omega
    unfold szH at hz
    omega
  have HC : Hid (∀ i (hi : i < h.length), OAt w g (i * 3) (mkO (k0 + mkK h i) h[i].ps.length) (cs i) ∧ (h[i].ps.length = 0 ∨ ((cs i).pa = some ⟨gs i, 0, none⟩ ∧ PRowN w (gs i) (Ns i) (mkPs (k0 + mkK h i + 2) h[i].ps.length)))) := fun i hi => by
    have hi' : i < (mkH k0 h).length := by rw [mkH_len]; exact hi
    have hN := H.len
    rw [mkH_len] at hN
    obtain ⟨f, hr, ho⟩ := H.row
    obtain ⟨a0, a1, a2⟩ := ho i hi'
    have hp := H.props i hi'
    rw [mkH_at k0 h i hi hi'] at a0 a1 a2 hp
    have hc := fun p (hp : p < 3) => hr.cell (i := i * 3 + p) (by omega)
    refine ⟨⟨(hc 0 (by omega)).trans (congrArg some a0), (hc 1 (by omega)).trans (congrArg some a1), (hc 2 (by omega)).trans (congrArg some a2)⟩, ?_⟩
    rcases hp with e | e
    · left
      have := congrArg List.length e
      simpa [mkO, mkPs_len] using this
    · exact .inr e
  clear H
  go_enter Try.func62, Try.ntmps62
  go_wp2_with fail
  go_loopw [1, 5] (fun vk vi wr => ∃ i : Nat, i ≤ h.length ∧ vi = .int .i64 i ∧ vk = .int .i64 ((k0 + mkK h i : Nat) : Int) ∧ Below w.heap.size w wr) (fun _ vi _ => h.length - (intOf vi).toNat)
  case atStart => exact ⟨0, Nat.zero_le _, rfl, by simp [mkK], Below.refl _ _⟩
  case round =>
    obtain ⟨i, hi, rfl, rfl, hb⟩ := hrel
    by_cases hlt : i < h.length
    case neg =>
      have hlt' : ¬ (i : Int) < (h.length : Int) := by omega
      have hil : i = h.length := by omega
      subst hil
      go_wp2_with fail
      go_ret
      exact ⟨rfl, hb⟩
    have hlt' : (i : Int) < (h.length : Int) := by omega
    obtain ⟨K, hK⟩ : ∃ K, k0 + mkK h i = K := ⟨_, rfl⟩
    have hKb : K ≤ 7000000 := by have := HKL.out i; omega
    have hpl := HPL.out i hlt
    have hKs : k0 + mkK h (i + 1) = K + 2 + 6 * h[i].ps.length := by rw [mkK_succ h i hlt]; omega
    obtain ⟨hO, hP⟩ := HC.out i hlt
    have hO := hO.keep (B := 0) (Nat.zero_le _) (.of_below hb 0)
    rw [hK] at hO hP ⊢
    obtain ⟨c0, c1, c2⟩ := hO
    unfold mkO at c0 c1 c2
    dsimp only at c0 c1 c2
    rw [mkPs_len] at c2
    have k1 : ((K + 1 : Nat) : Int) = (K : Int) + 1 := by omega
    rw [k1] at c1
    have HB : Hid (Below w.heap.size w wr) := hb
    have HP : Hid _ := hP
    clear hb hP
    go_wp2_with fail
    have e2 : ((K : Int) + 1 + 1) = ((K + 2 : Nat) : Int) := by omega
    rw [e2]
    have hn0 : ¬ (((K + 2 + 6 * h[i].ps.length : Nat) : Int)) < 0 := by omega
    have hn1 : ¬ (((K + 2 : Nat) : Int)) < 0 := by omega
    rcases HP.out with hl0 | ⟨hpa, hp⟩
    · rw [hl0] at hKs ⊢
      refine (lHeldPropS0 _ _ (K + 2) wr (by omega)).mono ?_
      rintro e w2 ⟨rfl, rfl⟩
      go_wp2_with fail
      exact ⟨⟨i + 1, by omega, by go_num, congrArg (Value.int .i64) (by omega), HB.out⟩, by simp [intOf]; omega⟩
    · rw [hpa]
      refine (lHeldPropS (gs i) _ (Ns i) (K + 2) h[i].ps.length wr hpl (by omega) (by omega) (hp.of_block (HB.out.block _ hp.lt))).mono ?_
      rintro e w2 ⟨rfl, hb2⟩
      have HB2 : Hid (Below w.heap.size w w2) := HB.out.trans (hb2.mono HB.out.size)
      clear hb2 hp
      go_wp2_with fail
      exact ⟨⟨i + 1, by omega, by go_num, congrArg (Value.int .i64) (by omega), HB2.out⟩, by simp [intOf]; omega⟩

set_option maxHeartbeats 4000000 in
theorem lHeldHeap (g cap N k0 : Nat) (h : List OO) (cs : Nat → OC) (gs Ns : Nat → Nat) (w : World) (hz : szH h ≤ 1100000) (hk1 : 1 ≤ k0) (hk2 : k0 ≤ 1000) (H : GH w g N (mkH k0 h) cs gs Ns) :
    Calls Try.prog 32 #[.agg #[.slice (some ⟨g, 0, none⟩) h.length cap], .int .i64 k0] w fun e w' => e = .returned (.int .i64 ((k0 + mkK h h.length : Nat) : Int)) ∧ Below w.heap.size w w' := by
  have HG : Hid (∀ o, GH (w.alloc o) g N (mkH k0 h) cs gs Ns ∧ Below w.heap.size w (w.alloc o)) := fun o => ⟨H.under ((Below.refl _ _).alloc (Nat.le_refl _) o), (Below.refl _ _).alloc (Nat.le_refl _) o⟩
  have C1 := fun W (k : GH W g N (mkH k0 h) cs gs Ns) => lHeldObjectS g cap N k0 h cs gs Ns W hz hk1 hk2 k
  generalize (k0 + mkK h h.length) = M at *
  have H1 : Hid _ := C1
  clear H C1
  have hM0 : ¬ ((M : Nat) : Int) < 0 := by omega
  go_enter Try.func32, Try.ntmps32
  go_wp2_with fail
  refine (H1.out _ (HG.out _).1).mono ?_
  rintro e w2 ⟨rfl, hb2⟩
  have HS : Hid (Below w.heap.size w w2) := (HG.out _).2.trans (hb2.mono (HG.out _).2.size)
  clear hb2
  go_wp2_with fail
  go_ret
  exact ⟨rfl, HS.out⟩

end Go.Proofs.Ytlmlmdmechhalaa

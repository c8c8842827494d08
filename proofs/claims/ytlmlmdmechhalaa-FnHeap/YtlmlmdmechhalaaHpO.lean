/-
  The walks of the program's isNumber, holdersWith, HeapHas.
-/
import Derived.Test.YtlmlmdmechhalaaHpN
namespace Go.Proofs.Ytlmlmdmechhalaa
open Go.RowKit
open Hp (PP OO propC rP kl encP putAll)

theorem iIsNumber (w : World) (v : Option Addr) (n cap : Nat) (ref : Int) (_ : n ≤ 400) :
    Calls Try.prog 71 #[.slice v n cap, .int .i64 ref] w fun e w' => e = .returned (.bool (decide (0 ≤ ref ∧ ref < n))) ∧ w' = w := by
  by_cases h0 : 0 ≤ ref
  · have h0d : decide (0 ≤ ref) = true := decide_eq_true h0
    by_cases h1 : ref < n
    · go_enter Try.func71, Try.ntmps71
      go_wp2_with fail
      go_ret
      exact ⟨by simp [h0, h1], rfl⟩
    · go_enter Try.func71, Try.ntmps71
      go_wp2_with fail
      go_ret
      exact ⟨by simp [h1], rfl⟩
  · have h0d : decide (0 ≤ ref) = false := decide_eq_false h0
    go_enter Try.func71, Try.ntmps71
    go_wp2_with fail
    go_ret
    exact ⟨by simp, rfl⟩

theorem right_len {h : List OO} (hR : rightB h = true) : h.length ≤ 400 := by
  have hr : Hp.RightH h := by unfold rightB at hR; simpa using hR
  exact hr.1
theorem refB_eq {h : List OO} {ref : Int} (hR : rightB h = true) : decide (0 ≤ ref ∧ ref < h.length) = Hp.refB h ref := by
  have hr : Hp.RightH h := by unfold rightB at hR; simpa using hR
  by_cases k : 0 ≤ ref ∧ ref < h.length
  · rw [decide_eq_true k, Hp.refB_t ⟨hr, k.1, k.2⟩]
  · rw [decide_eq_false k, Hp.refB_f fun x => k x.2]

set_option maxHeartbeats 4000000 in
theorem iHoldersWith (a : Option Addr) (cap B : Nat) (h : List OO) (cs : Nat → OC) (ref : Int) (w : World) (hz : szH h ≤ 1048576) (hok : OkH h) (hh : HIn w B a h cs) :
    Calls Try.prog 41 #[.agg #[.slice a h.length cap], .int .i64 ref] w fun e w' => ∃ v, e = .returned (.tuple #[v, .bool (Hp.refB h ref)]) ∧ Below w.heap.size w w' ∧ (Hp.refB h ref = true → ∃ ds, AllAt w' w.heap.size v h h.length ds) := by
  have C1 := fun (W : World) (hW : Below w.heap.size w W) => iHoldersOf a cap B h cs W hz hok (hh.under hW)
  have HRR : Hid (Hp.refB h ref = true → rightB h = true) := fun k => rightB_t (Hp.refB_iff.1 k).1
  have HNR : Hid (rightB h = false → Hp.refB h ref = false) := fun k => Hp.refB_f fun x => by rw [rightB_t x.1] at k; cases k
  have HL : Hid (rightB h = true → h.length ≤ 400 ∧ decide (0 ≤ ref ∧ ref < h.length) = Hp.refB h ref) := fun k => ⟨right_len k, refB_eq k⟩
  have HB0 : Hid (∀ o, Below w.heap.size w (w.alloc o)) := fun o => (Below.refl _ _).alloc (Nat.le_refl _) o
  have HAS : Hid (∀ W W' v ds, Below w.heap.size w W → AllAt W' W.heap.size v h h.length ds → AllAt W' w.heap.size v h h.length ds) := fun W W' v ds hb k => k.low hb.size
  have HSH : Hid (∀ W lo v ds, AllAt W lo v h h.length ds → ∃ av acap, v = .slice av h.length acap) := fun W lo v ds k => own_shape k.1
  generalize rightB h = R at *
  generalize Hp.refB h ref = RB at *
  have H1 : Hid _ := C1
  clear C1 hok hh hz
  go_enter Try.func41, Try.ntmps41
  go_wp2_with fail
  refine (H1.out _ (HB0.out _)).mono ?_
  rintro e w1 ⟨v, rfl, hb1, hall⟩
  have hbf := (HB0.out (.cells #[.slice a h.length cap] 25)).trans (hb1.mono (HB0.out _).size)
  have HF : Hid (_ ∧ _) := ⟨hbf, hall⟩
  clear hbf hall hb1
  cases R
  · have hRB := HNR.out rfl
    subst hRB
    go_wp2_with fail
    refine bodyPost_ret (v := .tuple #[v, .bool false]) (by simp [results, Try.results41, go_sem]) rfl ⟨v, rfl, HF.out.1, fun e => by cases e⟩
  · obtain ⟨ds, hds⟩ := HF.out.2 rfl
    obtain ⟨av, acap, rfl⟩ := HSH.out _ _ _ _ hds
    have HD : Hid (_ ∧ _) := ⟨hds, HF.out.1⟩
    obtain ⟨hl4, hdec⟩ := HL.out rfl
    have C2 := fun (W : World) => iIsNumber W av h.length acap ref hl4
    rw [hdec] at C2
    have H2 : Hid _ := C2
    clear hds C2 hdec
    go_wp2_with (go_at_call 71; refine (H2.out _).mono ?_; rintro e w2 ⟨rfl, rfl⟩)
    exact bodyPost_ret (v := .tuple #[.slice av h.length acap, .bool RB]) (by simp [results, Try.results41, go_sem]) rfl ⟨_, rfl, HD.out.2, fun _ => ⟨ds, HAS.out _ _ _ _ (HB0.out _) HD.out.1⟩⟩

set_option maxHeartbeats 4000000 in
theorem iHeapHas (a : Option Addr) (cap B : Nat) (h : List OO) (cs : Nat → OC) (ref : Int) (key : ByteArray) (w : World) (hk : key.size ≤ 9223372036854775807) (hz : szH h ≤ 1048576) (hok : OkH h) (hh : HIn w B a h cs) :
    Calls Try.prog 19 #[.agg #[.slice a h.length cap], .int .i64 ref, .string key] w fun e w' => e = .returned (.bool (Hp.hasV h ref key)) ∧ Below w.heap.size w w' := by
  have C1 := fun (W : World) (hW : Below w.heap.size w W) => iHoldersWith a cap B h cs ref W hz hok (hh.under hW)
  have C2 := fun (W : World) (lo : Nat) (v : Value) (ds : Nat → HC) (hr : Hp.refB h ref = true) (k : AllAt W lo v h h.length ds) => iFind W lo v h ds key ref (Hp.skOf h key ref) hk k (Hp.refB_iff.1 hr).1 (Hp.refB_iff.1 hr).2.1 (Hp.refB_iff.1 hr).2.2 (Hp.skOf_sk (Hp.refB_iff.1 hr).1 key (Hp.refB_iff.1 hr).2.2)
  have HV1 : Hid (4000 < key.size → Hp.hasV h ref key = false) := fun k => Hp.hasV_long k
  have HV2 : Hid (Hp.refB h ref = false → Hp.hasV h ref key = false) := fun k => Hp.hasV_no k
  have HV3 : Hid (¬ 4000 < key.size → Hp.refB h ref = true → Hp.hasV h ref key = (Hp.skOf h key ref).isSome) := fun k1 k => Hp.hasV_yes k1 k
  have HB0 : Hid (∀ o, Below w.heap.size w (w.alloc o)) := fun o => (Below.refl _ _).alloc (Nat.le_refl _) o
  generalize Hp.hasV h ref key = V at *
  generalize Hp.refB h ref = RB at *
  generalize Hp.skOf h key ref = sk at *
  generalize Hp.propOf h sk = p at *
  generalize sk.isSome = sb at *
  have H1 : Hid _ := C1
  obtain ⟨pk, ⟨p1, p2, p3⟩, p4, p5⟩ := p
  unfold propC at C2
  dsimp only at C2
  have H2 : Hid _ := C2
  clear C1 C2 hok hh hz
  go_enter Try.func19, Try.ntmps19
  by_cases hlk : 4000 < key.size
  · have hlk' : (4000 : Int) < (key.size : Int) := by omega
    have hV := HV1.out hlk
    subst hV
    go_wp2_with fail
    go_ret
    exact ⟨rfl, HB0.out _⟩
  have hlk' : ¬ (4000 : Int) < (key.size : Int) := by omega
  go_wp2_with fail
  refine (H1.out _ (HB0.out _)).mono ?_
  rintro e w1 ⟨v, rfl, hb1, hall⟩
  have hbf := (HB0.out (.cells #[.slice a h.length cap] 25)).trans (hb1.mono (HB0.out _).size)
  have HF : Hid (_ ∧ _) := ⟨hbf, hall⟩
  clear hbf hall hb1
  cases RB
  · have hV := HV2.out rfl
    subst hV
    go_wp2_with fail
    go_ret
    exact ⟨rfl, HF.out.1⟩
  · have hV := HV3.out hlk rfl
    subst hV
    obtain ⟨ds, hds⟩ := HF.out.2 rfl
    have HD : Hid _ := hds
    clear hds
    go_wp2_with fail
    refine (H2.out _ _ _ ds trivial HD.out).mono ?_
    rintro e w2 ⟨rfl, hb2⟩
    have hbf2 := HF.out.1.trans (hb2.mono HF.out.1.size)
    have hbf3 : ∀ o, Below w.heap.size w (w2.alloc o) := fun o => hbf2.alloc hbf2.size o
    have HF3 : Hid (∀ o, Below w.heap.size w (w2.alloc o)) := hbf3
    clear hbf2 hbf3 hb2
    go_wp2_with fail
    go_ret
    exact ⟨rfl, HF3.out _⟩

end Go.Proofs.Ytlmlmdmechhalaa

/-
  The walk of the program's isRightObject.
-/
import Derived.Test.YtlmlmdmechhalaaHpI
namespace Go.Proofs.Ytlmlmdmechhalaa
open Go.RowKit
open Hp (PP OO propC)

theorem six_of' {W : World} {b : Nat} {t : TypeId} {v0 v1 v2 v3 v4 v5 : Value} (h : W.heap[b]? = some (.cells #[v0, v1, v2, v3, v4, v5] t (0, 0))) :
    (W.cell? ⟨b, 0, none⟩ = some v0 ∧ W.cell? ⟨b, 1, none⟩ = some v1 ∧ W.cell? ⟨b, 2, none⟩ = some v2 ∧ W.cell? ⟨b, 3, none⟩ = some v3 ∧ W.cell? ⟨b, 4, none⟩ = some v4 ∧ W.cell? ⟨b, 5, none⟩ = some v5) := by
  simp [World.cell?, h]

def objB (n i : Nat) (o : OO) : Bool := decide (0 ≤ o.cls) && decide (o.cls ≤ 2) && decide (-1 ≤ o.pro) && decide (o.pro < i) && o.ps.all (prB n)
theorem objB_iff (n i : Nat) (o : OO) : objB n i o = true ↔ (0 ≤ o.cls ∧ o.cls ≤ 2 ∧ -1 ≤ o.pro ∧ o.pro < i ∧ ∀ p ∈ o.ps, Hp.RightP n p) := by
  unfold objB
  simp only [Bool.and_eq_true, decide_eq_true_eq, List.all_eq_true, prB_iff]
  constructor
  · rintro ⟨⟨⟨⟨h1, h2⟩, h3⟩, h4⟩, h5⟩; exact ⟨h1, h2, h3, h4, h5⟩
  · rintro ⟨h1, h2, h3, h4, h5⟩; exact ⟨⟨⟨⟨h1, h2⟩, h3⟩, h4⟩, h5⟩

set_option maxHeartbeats 4000000 in
theorem iRightObject (x : OO) (c : OC) (i n B : Nat) (w : World) (hn : x.ps.length ≤ 9223372036854775807) (h : PsIn w B c.pa x.ps) :
    Calls Try.prog 74 #[.agg (objC x c), .int .i64 i, .int .i64 n] w fun e w' => e = .returned (.bool (objB n i x)) ∧ Below w.heap.size w w' := by
  have HF : Hid (¬ (0 ≤ x.cls ∧ x.cls ≤ 2 ∧ -1 ≤ x.pro ∧ x.pro < i ∧ ∀ p ∈ x.ps, Hp.RightP n p) → objB n i x = false) := fun h => by
    cases e : objB n i x
    · rfl
    · exact absurd ((objB_iff n i x).1 e) h
  have HT : Hid ((0 ≤ x.cls ∧ x.cls ≤ 2 ∧ -1 ≤ x.pro ∧ x.pro < i ∧ ∀ p ∈ x.ps, Hp.RightP n p) → objB n i x = true) := (objB_iff n i x).2
  generalize objB n i x = R at *
  obtain ⟨cls, pro, ps⟩ := x
  unfold objC
  dsimp only at *
  have HP : Hid (PsIn w B c.pa ps) := h
  have HB0 : Hid (∀ o, Below w.heap.size w (w.alloc o)) := fun o => (Below.refl _ _).alloc (Nat.le_refl _) o
  clear h
  generalize c.pa = pa at *
  generalize c.pc = pc at *
  go_enter Try.func74, Try.ntmps74
  by_cases c1 : cls < 0
  · have hR : Hid (R = false) := HF.out fun h => by omega
    go_wp2_with fail
    go_ret
    exact ⟨vretB hR.out.symm, HB0.out _⟩
  by_cases c2 : 2 < cls
  · have hR : Hid (R = false) := HF.out fun h => by omega
    go_wp2_with fail
    go_ret
    exact ⟨vretB hR.out.symm, HB0.out _⟩
  by_cases c3 : pro < -1
  · have hR : Hid (R = false) := HF.out fun h => by omega
    go_wp2_with fail
    go_ret
    exact ⟨vretB hR.out.symm, HB0.out _⟩
  by_cases c4 : (i : Int) ≤ pro
  · have hR : Hid (R = false) := HF.out fun h => by omega
    go_wp2_with fail
    go_ret
    exact ⟨vretB hR.out.symm, HB0.out _⟩
  have HT2 : Hid ((∀ p ∈ ps, Hp.RightP n p) → R = true) := fun h => HT.out ⟨by omega, by omega, by omega, by omega, h⟩
  have HF2 : Hid (¬ (∀ p ∈ ps, Hp.RightP n p) → R = false) := fun h => HF.out fun k => h k.2.2.2.2
  go_wp2_with fail
  generalize hW0 : w.alloc _ = W0
  have hBW : Below w.heap.size w W0 := by rw [← hW0]; exact HB0.out _
  clear hW0 c1 c2 c3 c4 HT HF HB0
  go_loopw [29] (fun vk wr => ∃ k : Nat, k ≤ ps.length ∧ vk = .int .i64 k ∧ Below w.heap.size w wr ∧ Hid (∀ j (h : j < ps.length), j < k → Hp.RightP n ps[j])) (fun vk _ => ps.length - (intOf vk).toNat)
  case atStart => exact ⟨0, Nat.zero_le _, rfl, hBW, fun j _ h => by omega⟩
  case round =>
    obtain ⟨k, hk, rfl, hb, HE⟩ := hrel
    by_cases hlt : k < ps.length
    · rcases HP.out with rfl | ⟨b, o, rfl, hB, hc⟩
      · simp at hlt
      have h6 := (hc k hlt).keep hB (.of_below hb B)
      have hcall := fun (W : World) => iRightProp ps[k] n W
      have hlt' : (k : Int) < (ps.length : Int) := by omega
      have HX : Hid (prB n ps[k] = true ↔ Hp.RightP n ps[k]) := prB_iff n ps[k]
      have HX2 : Hid (prB n ps[k] = true → ∀ j (h : j < ps.length), j < k + 1 → Hp.RightP n ps[j]) := fun h j hj hji => by
        by_cases e : j = k
        · subst e; exact HX.out.1 h
        · exact HE.out j hj (by omega)
      have HX3 : Hid (prB n ps[k] = false → R = false) := fun h => HF2.out fun hall => by
        have := HX.out.2 (hall _ (List.getElem_mem hlt))
        rw [h] at this; cases this
      have hbA : ∀ o, Below w.heap.size w (wr.alloc o) := fun o => hb.alloc hb.size o
      have HBA : Hid (∀ o, Below w.heap.size w (wr.alloc o)) := hbA
      clear hbA hc HX HE
      generalize prB n ps[k] = r at *
      generalize ps[k] = x at *
      obtain ⟨key, ⟨vk, vn, vt⟩, hd, fx⟩ := x
      obtain ⟨h60, h61, h62, h63, h64, h65⟩ := h6
      dsimp only at h60 h61 h62 h63 h64 h65
      have HCALL : Hid (∀ W, Calls Try.prog 73 #[.agg #[.string key, .int .i64 vk, .int .i64 vn, .string vt, .bool hd, .bool fx], .int .i64 n] W fun e w' => e = .returned (.bool r) ∧ Below W.heap.size W w') := hcall
      clear hcall
      go_wp2_with fail
      refine (HCALL.out _).mono ?_
      rintro e w1 ⟨rfl, hb1⟩
      have hb2 : Below w.heap.size w w1 := (HBA.out _).trans (hb1.mono (HBA.out _).size)
      cases r
      · go_wp2_with fail
        go_ret
        exact ⟨vretB (HX3.out trivial).symm, hb2⟩
      · go_wp2_with fail
        exact ⟨⟨k + 1, by omega, by go_num, hb2, HX2.out trivial⟩, by simp [intOf]; omega⟩
    · have hR : Hid (R = true) := HT2.out fun p hp => by
        obtain ⟨j, hj, rfl⟩ := List.getElem_of_mem hp
        exact HE.out j hj (by omega)
      have hlt' : ¬ (k : Int) < (ps.length : Int) := by omega
      go_wp2_with fail
      go_ret
      exact ⟨vretB hR.out.symm, hb⟩

end Go.Proofs.Ytlmlmdmechhalaa

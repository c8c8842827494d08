/-
  The walks of the specification's l05Own and HeapRight.
-/
import Derived.Test.YtlmlmdmechhalaaHpL
import Derived.Deep.QuietTactic
import Derived.BigQuiet
import Derived.BigRegion
import Derived.Deep.RegionWith
namespace Go.Proofs.Ytlmlmdmechhalaa
open Go.RowKit
open Hp (PP OO propC)

noncomputable def rightB (h : List OO) : Bool := @decide (Hp.RightH h) (Classical.propDecidable _)
theorem rightB_t {h : List OO} (k : Hp.RightH h) : rightB h = true := by unfold rightB; simp [k]
theorem rightB_f {h : List OO} (k : ¬ Hp.RightH h) : rightB h = false := by unfold rightB; simp [k]
theorem text_inj {a b : ByteArray} (h : a.toList = b.toList) : a = b := by
  rw [ByteArray.toList_eq, ByteArray.toList_eq] at h
  cases a; cases b; simpa using h
theorem text_ne {a b : ByteArray} (h : ¬ a = b) : (a.toList != b.toList) = true ∧ (a.toList == b.toList) = false ∧ ¬ a.toList = b.toList := by
  have : ¬ a.toList = b.toList := fun e => h (text_inj e)
  simp [this]

theorem own_at {ps : List PP} {key : ByteArray} {i : Nat} (hi : i < ps.length) (h : ps[i].key = key) (hb : ∀ j (hj : j < i), ps[j].key ≠ key) : Hp.ownI ps key = (i : Int) := by
  unfold Hp.ownI
  rw [Hp.fi_first hi h hb, if_pos hi]
theorem own_no {ps : List PP} {key : ByteArray} (h : ∀ q ∈ ps, q.key ≠ key) : Hp.ownI ps key = -1 := by
  unfold Hp.ownI
  rw [Hp.fi_none h, if_neg (by omega)]

set_option maxHeartbeats 2000000 in
theorem sOwn (cls pro : Int) (a : Option Addr) (cap B : Nat) (ps : List PP) (key : ByteArray) (w : World) (hn : ps.length ≤ 9223372036854775807) (h : PsIn w B a ps) :
    Calls Try.prog 48 #[.agg #[.int .i64 cls, .int .i64 pro, .slice a ps.length cap], .string key] w fun e w' => e = .returned (.int .i64 (Hp.ownI ps key)) ∧ Below w.heap.size w w' := by
  have HB0 : Hid (∀ o, Below w.heap.size w (w.alloc o)) := fun o => (Below.refl _ _).alloc (Nat.le_refl _) o
  have HO1 : Hid (∀ i (hi : i < ps.length), ps[i].key = key → (∀ j (hj : j < i), ps[j].key ≠ key) → Hp.ownI ps key = (i : Int)) := fun i hi h hb => own_at hi h hb
  have HO2 : Hid ((∀ q ∈ ps, q.key ≠ key) → Hp.ownI ps key = -1) := fun h => own_no h
  have HP : Hid (PsIn w B a ps) := h
  generalize Hp.ownI ps key = R at *
  clear h
  go_enter Try.func48, Try.ntmps48
  go_wp2
  go_loopw [5] (fun vi wr => ∃ i : Nat, i ≤ ps.length ∧ vi = .int .i64 i ∧ wr = w.alloc (.cells #[.int .i64 cls, .int .i64 pro, .slice a ps.length cap] 76) ∧ Hid (∀ j (h : j < ps.length), j < i → ps[j].key ≠ key)) (fun vi _ => ps.length - (intOf vi).toNat)
  case atStart => exact ⟨0, Nat.zero_le _, rfl, rfl, fun j _ h => by omega⟩
  case round =>
    obtain ⟨i, hi, rfl, rfl, HE⟩ := hrel
    by_cases hlt : i < ps.length
    · rcases HP.out with rfl | ⟨b, o, rfl, hB, hc⟩
      · simp at hlt
      have h6 := ((hc i hlt).keep hB (.of_below (HB0.out (.cells #[.int .i64 cls, .int .i64 pro, .slice (some ⟨b, o, none⟩) ps.length cap] 76)) B)).1
      have hlt' : (i : Int) < (ps.length : Int) := by omega
      have hblk := World.block_lt_of_cell? _ _ h6
      by_cases hx : ps[i].key = key
      · have hR : Hid (R = (i : Int)) := HO1.out i hlt hx (fun j hj => HE.out j (by omega) hj)
        rw [hx] at h6
        clear hc hx HE
        go_wp2_with fail
        go_ret
        exact ⟨retT hR.out.symm, HB0.out _⟩
      · have HE2 : Hid (∀ j (h : j < ps.length), j < i + 1 → ps[j].key ≠ key) := fun j hj hji => by
          by_cases e : j = i
          · subst e; exact hx
          · exact HE.out j hj (by omega)
        obtain ⟨y1, y2, y3⟩ := text_ne hx
        generalize ps[i].key = x at *
        clear hc hx HE
        go_wp2_with fail
        exact ⟨⟨i + 1, by omega, by go_num, trivial, HE2⟩, by simp [intOf]; omega⟩
    · have hR : Hid (R = -1) := HO2.out fun q hq => by
        obtain ⟨j, hj, rfl⟩ := List.getElem_of_mem hq
        exact HE.out j hj (by omega)
      have hlt' : ¬ (i : Int) < (ps.length : Int) := by omega
      go_wp2_with fail
      go_ret
      exact ⟨retT hR.out.symm, HB0.out _⟩

end Go.Proofs.Ytlmlmdmechhalaa

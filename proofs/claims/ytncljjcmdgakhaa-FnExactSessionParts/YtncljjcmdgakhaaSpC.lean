/-
  The walks of strings.Cut and strings.TrimSuffix at a line feed, and of strings.Clone.
-/
import Derived.Test.YtncljjcmdgakhaaSpQ
import Derived.Test.YtncljjcmdgakhaaShelfD
namespace Go.Proofs.Ytncljjcmdgakhaa
open Go.RowKit

set_option maxHeartbeats 2000000 in
set_option maxRecDepth 100000 in
theorem iCut0 (t : ByteArray) (w : World) (ht : t.size ≤ 4000) :
    Calls Try.prog 20 #[.string t, .string ⟨#[10]⟩] w fun e w' => ∃ x y n, e = .returned (.tuple #[.string (t.extract 0 (len1 t)), x, y]) ∧ w' = w.drewN n := by
  have HI : Hid (∀ W, Calls Try.prog 22 #[.string t, .string ⟨#[10]⟩] W fun e w' => e = .returned (.int .i64 (Lib.indexByte t.data.toList 10)) ∧ w' = W) := fun W => Try.stringslite_Index_one t 10 W
  have hle := len1_le t
  by_cases h : Lib.indexByte t.data.toList 10 = -1
  · have e1 : t.extract 0 (len1 t) = t := by unfold len1; rw [if_pos h]; exact ByteArray.extract_zero_size
    rw [e1]
    rw [h] at HI
    clear h hle e1
    go_enter Try.func20, Try.ntmps20
    go_wp2_with (go_at_call 22; refine (HI.out _).mono ?_; rintro e w' ⟨rfl, rfl⟩)
    go_ret3
    exact ⟨_, _, 0, rfl, rfl⟩
  · have hge := Lib.indexByte_ge t.data.toList 10
    obtain ⟨i, hi⟩ : ∃ i : Nat, Lib.indexByte t.data.toList 10 = i := ⟨(Lib.indexByte t.data.toList 10).toNat, by omega⟩
    have e1 : len1 t = i := by unfold len1; rw [if_neg h, hi]; rfl
    have hlt : i < t.size := by
      obtain ⟨h1, _⟩ := Lib.indexByte_some hi
      have := (List.getElem?_eq_some_iff.1 h1).1
      rw [Array.length_toList] at this
      exact this
    rw [e1]
    rw [hi] at HI
    clear h hge e1 hle hi
    have c1 : (0 : Int) ≤ (i : Int) := by omega
    have c2 : (i : Int) ≤ (t.size : Int) := by omega
    have c3 : (0 : Int) ≤ (i : Int) + 1 := by omega
    have c4 : (i : Int) + 1 ≤ (t.size : Int) := by omega
    go_enter Try.func20, Try.ntmps20
    go_wp2_with (go_at_call 22; refine (HI.out _).mono ?_; rintro e w' ⟨rfl, rfl⟩)
    go_region
    go_wp2
    go_ret3
    exact ⟨_, _, 1, rfl, rfl⟩

set_option maxHeartbeats 2000000 in
theorem iCut (t : ByteArray) (w : World) (ht : t.size ≤ 4000) :
    Calls Try.prog 17 #[.string t, .string ⟨#[10]⟩] w fun e w' => ∃ x y n, e = .returned (.tuple #[.string (t.extract 0 (len1 t)), x, y]) ∧ w' = w.drewN n := by
  have HI : Hid (∀ W, Calls Try.prog 20 #[.string t, .string ⟨#[10]⟩] W fun e w' => ∃ x y n, e = .returned (.tuple #[.string (t.extract 0 (len1 t)), x, y]) ∧ w' = W.drewN n) := fun W => iCut0 t W ht
  generalize t.extract 0 (len1 t) = L at *
  clear ht
  go_enter Try.func17, Try.ntmps17
  go_wp2_with (go_at_call 20; refine (HI.out _).mono ?_; rintro e w' ⟨x, y, n, rfl, rfl⟩)
  go_ret3
  exact ⟨_, _, n, rfl, rfl⟩

theorem trim_cut (t : ByteArray) : (⟨(Lib.trimSuffix t.data.toList (⟨#[10]⟩ : ByteArray).data.toList).toArray⟩ : ByteArray) = cutT t := by
  rcases Nat.eq_zero_or_pos t.size with h0 | h0
  · rw [cutT_nil (by omega)]
    exact Lib.trimSuffix_miss t ⟨#[10]⟩ (by show (decide (1 ≤ t.size) && _) = false; rw [decide_eq_false (by omega)]; rfl)
  · obtain ⟨m, hm⟩ : ∃ m, t.size = m + 1 := ⟨t.size - 1, by omega⟩
    have hlt : m < t.data.size := by show m < t.size; omega
    have e1 : (t.extract (t.size - (⟨#[10]⟩ : ByteArray).size) t.size).toList = [t[m]'(by omega)] := by
      rw [ByteArray.toList_eq, ext_data]
      have key : ∀ k, k = m + 1 → (t.data.extract (k - 1) k).toList = [t.data[m]] := fun k hk => by
        subst hk
        apply List.ext_getElem
        · have : t.data.size = m + 1 := hm
          simp [this]
        · intro i h1 h2
          have : i = 0 := by simp at h2; exact h2
          subst this
          simp
      exact key t.size hm
    have e2 : (⟨#[10]⟩ : ByteArray).toList = [10] := by simp [ByteArray.toList_eq]
    by_cases h10 : (t[m]'(by omega)).toNat = 10
    · rw [cutT_yes hm h10]
      have h10' : (t[m]'(by omega)) = 10 := by apply UInt8.toNat_inj.1; rw [h10]; rfl
      have := Lib.trimSuffix_hit t ⟨#[10]⟩ (by show 1 ≤ t.size; omega) (by rw [e1, e2, h10']; rfl)
      rw [this]
      congr 1
      show t.size - 1 = m
      omega
    · rw [cutT_no hm h10]
      refine Lib.trimSuffix_miss t ⟨#[10]⟩ ?_
      rw [e1, e2]
      have : ([t[m]'(by omega)] == [(10 : UInt8)]) = false := by
        rw [beq_eq_false_iff_ne]
        intro e
        injection e with e
        exact h10 (by rw [e]; rfl)
      rw [this]; simp

theorem iTrim (t : ByteArray) (w : World) (ht : t.size ≤ 4000) :
    Calls Try.prog 18 #[.string t, .string ⟨#[10]⟩] w fun e w' => e = .returned (.string (cutT t)) ∧ w' = w := by
  have := Try.strings_TrimSuffix t ⟨#[10]⟩ w (by omega)
  rwa [trim_cut] at this

set_option maxHeartbeats 2000000 in
theorem iClone (t : ByteArray) (w : World) (ht : t.size ≤ 4000) :
    Calls Try.prog 15 #[.string t] w fun e w' => e = .returned (.string t) ∧ Below w.heap.size w w' := by
  have HI : Hid (∀ W, Calls Try.prog 19 #[.string t] W fun e w' => e = .returned (.string t) ∧ Below W.heap.size W w') := fun W => Try.stringslite_Clone t W (by omega)
  clear ht
  go_enter Try.func15, Try.ntmps15
  go_wp2_with (go_at_call 19; refine (HI.out _).mono ?_; rintro e w' ⟨rfl, hb⟩)
  go_ret
  exact ⟨rfl, hb⟩

end Go.Proofs.Ytncljjcmdgakhaa

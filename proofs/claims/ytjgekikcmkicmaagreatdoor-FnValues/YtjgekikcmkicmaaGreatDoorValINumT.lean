/-
  The walks of the program's textNumber and numberOf.
-/
import Derived.Test.YtjgekikcmkicmaaGreatDoorValINum
namespace Go.Proofs.YtjgekikcmkicmaaGreatDoor
open Go.RowKit Go.Shelf

theorem size_data (x : ByteArray) : x.data.toList.length = x.size := by simp

set_option maxHeartbeats 4000000 in
theorem iTextNumber (x : ByteArray) (w : World) (hx : x.size ≤ 1000000) :
    Calls Tryz.prog 99 #[.string x] w fun e w' => NumRes w w' (Val.readL x.data.toList) e := by
  have NN : Hid _ := fun (W : World) => iNotNumber W
  by_cases h0 : x.size = 0
  · obtain rfl : x = ⟨#[]⟩ := ByteArray.ext (Array.eq_empty_of_size_eq_zero h0)
    clear hx h0 NN
    go_enter Tryz.func99, Tryz.ntmps99
    go_wp2_with fail
    refine bodyPost_ret (v := .tuple #[.int .i64 0, .nilIface]) (by simp [results, Tryz.results99, go_sem]) rfl ?_
    exact NumRes.num 0 (Below.refl _ _)
  obtain ⟨R, hR⟩ : ∃ R, R = Val.readL x.data.toList := ⟨_, rfl⟩
  rw [← hR]
  have hne : x.data.toList ≠ [] := fun h => h0 (by rw [← size_data x, h]; rfl)
  obtain ⟨D, hD⟩ : ∃ D : ByteArray, D = ⟨(Val.cutL x.data.toList).toArray⟩ := ⟨_, rfl⟩
  obtain ⟨S, hS⟩ : ∃ S, S = Val.below x.data.toList := ⟨_, rfl⟩
  have hDl : D.data.toList = Val.cutL x.data.toList := by rw [hD]
  have hDs : D.size ≤ 1000000 := by
    rw [← size_data D, hDl]
    unfold Val.cutL Lib.trimPrefix
    split
    · rw [List.length_drop, size_data]; omega
    · rw [size_data]; exact hx
  have HR : Hid (R = if 1 ≤ D.size ∧ D.size ≤ 15 ∧ D.data.toList.all Val.digOk = true then some (if S then -(Val.numD D.data.toList) else Val.numD D.data.toList) else none) := by
    show _ = _
    rw [hR, Val.readL_cut _ hne, ← size_data D, hDl, hS]
  have CP : Hid (∀ W : World, Calls Tryz.prog 138 #[.string x, .string ⟨#[45]⟩] W fun e w' => e = .returned (.tuple #[.string D, .bool S]) ∧ W = w') := by
    show ∀ W : World, _
    intro W
    rw [hD, hS]
    exact (Tryz.strings_CutPrefix x ⟨#[45]⟩ W).mono fun e w' h => ⟨h.1, h.2.symm⟩
  have CF : Hid (∀ W : World, Calls Tryz.prog 139 #[.string D, .func (.func 140) #[] #[]] W fun e w' => e = .returned (.bool (!(D.data.toList.all Val.digOk))) ∧ Below W.heap.size W w') := by
    show ∀ W : World, _
    intro W
    rw [← Val.idx_eq]
    exact Tryz.strings_ContainsFunc 140 #[] (enters_of Tryz.func140 (by kernel_rfl) rfl) Val.noDig D W (isNoDigit_pays W)
  have hxe : x.toList.isEmpty = false := by
    rw [Lib.toList_data]
    cases hh : x.data.toList with
    | nil => exact absurd hh hne
    | cons a l => rfl
  clear hR hne hD hS hDl hx h0
  go_enter Tryz.func99, Tryz.ntmps99
  go_wp2_with fail
  refine (CP.out _).mono ?_
  rintro e w1 ⟨rfl, rfl⟩
  clear CP hxe
  by_cases hd0 : D.size = 0
  · have HE : Hid (R = none) := by show _ = _; rw [HR.out, if_neg (by omega)]
    obtain rfl : D = ⟨#[]⟩ := ByteArray.ext (Array.eq_empty_of_size_eq_zero hd0)
    clear HR CF hDs hd0
    go_wp2_with fail
    refine (NN.out _).mono ?_
    rintro e w1 ⟨rfl, hl, hb⟩
    go_wp2_with fail
    refine bodyPost_ret (v := .tuple #[.int .i64 0, .iface 61 (.pointer (some ⟨w.heap.size, 0, none⟩))]) (by simp [results, Tryz.results99, go_sem]) rfl ?_
    rw [HE.out]
    exact NumRes.none _ (Nat.le_refl _) hl hb
  have hde : D.toList.isEmpty = false := by
    rw [Lib.toList_data]
    cases hh : D.data.toList with
    | nil => exact absurd (by rw [← size_data D, hh]; rfl) hd0
    | cons a l => rfl
  by_cases hd15 : 15 < D.size
  · have HE : Hid (R = none) := by show _ = _; rw [HR.out, if_neg (by omega)]
    have h15 : (15 : Int) < (D.size : Int) := by omega
    clear HR CF hd15
    go_wp2_with fail
    refine (NN.out _).mono ?_
    rintro e w1 ⟨rfl, hl, hb⟩
    go_wp2_with fail
    refine bodyPost_ret (v := .tuple #[.int .i64 0, .iface 61 (.pointer (some ⟨w.heap.size, 0, none⟩))]) (by simp [results, Tryz.results99, go_sem]) rfl ?_
    rw [HE.out]
    exact NumRes.none _ (Nat.le_refl _) hl hb
  have h15 : ¬ (15 : Int) < (D.size : Int) := by omega
  go_wp2_with fail
  refine (CF.out _).mono ?_
  rintro e w1 ⟨rfl, hb1⟩
  rcases hall : D.data.toList.all Val.digOk with _ | _
  · have HE : Hid (R = none) := by show _ = _; rw [HR.out, if_neg (by rw [hall]; simp)]
    clear HR CF hall
    go_wp2_with fail
    refine (NN.out _).mono ?_
    rintro e w2 ⟨rfl, hl, hb⟩
    have hbf := hb1.trans (hb.mono hb1.size)
    have h1s := hb1.size
    go_wp2_with fail
    refine bodyPost_ret (v := .tuple #[.int .i64 0, .iface 61 (.pointer (some ⟨w1.heap.size, 0, none⟩))]) (by simp [results, Tryz.results99, go_sem]) rfl ?_
    rw [HE.out]
    exact NumRes.none _ h1s hl hbf
  · have HE : Hid (R = some (if S then -(Val.numD D.data.toList) else Val.numD D.data.toList)) := by
      show _ = _; rw [HR.out, if_pos ⟨by omega, by omega, hall⟩]
    have VD : Hid _ := fun (W : World) => vDigits D W (by omega) hall
    have hbd := Val.numD_bd15 D.data.toList hall (by rw [size_data]; omega)
    obtain ⟨n, hn⟩ : ∃ n, Val.numD D.data.toList = n := ⟨_, rfl⟩
    rw [hn] at HE VD hbd
    clear HR CF hall hn
    cases S
    · go_wp2_with fail
      refine (VD.out _).mono ?_
      rintro e w2 ⟨rfl, rfl⟩
      go_wp2_with fail
      refine bodyPost_ret (v := .tuple #[.int .i64 n, .nilIface]) (by simp [results, Tryz.results99, go_sem]) rfl ?_
      rw [HE.out]
      exact NumRes.num n hb1
    · go_wp2_with fail
      refine (VD.out _).mono ?_
      rintro e w2 ⟨rfl, rfl⟩
      go_wp2_with fail
      refine bodyPost_ret (v := .tuple #[.int .i64 (-n), .nilIface]) (by simp [results, Tryz.results99, go_sem]) rfl ?_
      rw [HE.out]
      exact NumRes.num (-n) hb1

end Go.Proofs.YtjgekikcmkicmaaGreatDoor

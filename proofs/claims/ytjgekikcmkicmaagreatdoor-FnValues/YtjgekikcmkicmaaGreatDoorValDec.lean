/-
  The walk of the specification's l01Dec: a number's digits.
-/
import Derived.Test.YtjgekikcmkicmaaGreatDoorValB
namespace Go.Proofs.YtjgekikcmkicmaaGreatDoor
namespace Val
def digD (m : Nat) : UInt8 := UInt8.ofNat (48 + m % 10)
/-- The digits of m ahead of what is there. -/
def decL (m : Nat) (out : List UInt8) : List UInt8 := if _h : m = 0 then out else decL (m / 10) (digD m :: out)
termination_by m
decreasing_by omega
theorem decL_zero (out : List UInt8) : decL 0 out = out := by rw [decL, dif_pos rfl]
theorem decL_pos (m : Nat) (out : List UInt8) (h : m ≠ 0) : decL m out = decL (m / 10) (digD m :: out) := by rw [decL, dif_neg h]
def decT (n : Int) : ByteArray := if n = 0 then ⟨#[48]⟩ else if n < 0 then ⟨(45 :: decL n.natAbs []).toArray⟩ else ⟨(decL n.natAbs []).toArray⟩
end Val
open Go.RowKit

theorem Tryz.infoB8 : (Tryz.prog.info? 5).map (fun i => (i.zero, i.size, i.bytes)) = some (some (.int .u8 0), 1, 1) := by kernel_rfl
theorem ba_consD (b : UInt8) (out : List UInt8) : (⟨#[b]⟩ : ByteArray) ++ ⟨out.toArray⟩ = ⟨(b :: out).toArray⟩ := by
  apply ByteArray.ext
  simp
/-- 'string([]byte{b})'. -/
theorem conv_one (w : World) (b : UInt8) (z : Int) (hz : z = (b.toNat : Int)) : (convert 22 9 (.slice (some ⟨w.heap.size, 0, none⟩) 1 1)).run Tryz.prog (w.alloc (.cells #[.int .u8 z] 5)) = .ok (.string ⟨#[b]⟩) (w.alloc (.cells #[.int .u8 z] 5)) := by
  subst hz
  refine run_convert_bytes_back (w.alloc (.cells #[.int .u8 (b.toNat : Int)] 5)) 22 9 5 ⟨w.heap.size, 0, none⟩ 1 [b] Tryz.underlying22 Tryz.underlying5 Tryz.underlying9 fun j hj => ?_
  have hj0 : j = 0 := by simpa using hj
  subst hj0
  have : ((⟨w.heap.size, 0, none⟩ : Addr).add 0) = ⟨w.heap.size, 0, none⟩ := by simp [Addr.add]
  rw [this, World.cell?_alloc_new]
  simp

set_option maxHeartbeats 2000000 in
theorem sDecPos (m : Nat) (w : World) (hm : 0 < m) (hm2 : m ≤ 4611686018427387904) : Calls Tryz.prog 98 #[.int .i64 (m : Int)] w fun e w' => e = .returned (.string ⟨(Val.decL m []).toArray⟩) ∧ Below w.heap.size w w' := by
  have h0 : ((m : Int) == 0) = false := beq_eq_false_iff_ne.2 (by omega)
  have h1 : decide ((m : Int) < 0) = false := decide_eq_false (by omega)
  obtain ⟨K, hK⟩ : ∃ K, K = Val.decL m [] := ⟨_, rfl⟩
  have HK : Hid (K = Val.decL m []) := hK
  rw [← hK]
  clear hK
  go_enter Tryz.func98, Tryz.ntmps98
  go_wp2_with fail
  go_loopw [0, 4] (fun vn vt wr => ∃ (k : Nat) (out : List UInt8), k + out.length ≤ m ∧ vn = .int .i64 k ∧ vt = .string ⟨out.toArray⟩ ∧ Below w.heap.size w wr ∧ Hid (Val.decL k out = K)) (fun vn _ _ => (intOf vn).toNat)
  case atStart => exact ⟨m, [], by simp, rfl, rfl, Below.refl _ _, HK.out.symm⟩
  case round =>
    obtain ⟨k, out, hk, rfl, rfl, hb, HM⟩ := hrel
    by_cases hk0 : k = 0
    · subst hk0
      have HV : Hid (out = K) := by show _ = _; rw [← HM.out, Val.decL_zero]
      go_wp2_with fail
      go_ret
      exact ⟨congrArg (fun x : List UInt8 => Ending.returned (.string ⟨x.toArray⟩)) HV.out, hb⟩
    · have hk0' : ((k : Int) == 0) = false := beq_eq_false_iff_ne.2 (by omega)
      have hkn : ((k : Int) != 0) = true := by simp [hk0]
      have hd : ¬ (k : Int) % 10 < 0 := by omega
      have HN : Hid (Val.decL (k / 10) (Val.digD k :: out) = K) := by show _ = _; rw [← Val.decL_pos k out hk0]; exact HM.out
      have hcv := conv_one wr (Val.digD k) (48 + (k : Int) % 10) (by unfold Val.digD; rw [UInt8.toNat_ofNat']; omega)
      go_wp2_with fail
      exact ⟨⟨k / 10, Val.digD k :: out, by simp; omega, congrArg (Value.int .i64) (by omega), congrArg Value.string (ba_consD _ out), hb.alloc hb.size _, HN⟩, by simp [intOf]; omega⟩

set_option maxHeartbeats 2000000 in
theorem sDecNeg (m : Nat) (w : World) (hm : 0 < m) (hm2 : m ≤ 4611686018427387904) : Calls Tryz.prog 98 #[.int .i64 (-(m : Int))] w fun e w' => e = .returned (.string ⟨(45 :: Val.decL m []).toArray⟩) ∧ Below w.heap.size w w' := by
  have h0 : (-(m : Int) == 0) = false := beq_eq_false_iff_ne.2 (by omega)
  have h1 : decide (-(m : Int) < 0) = true := decide_eq_true (by omega)
  have h1' : -(m : Int) < 0 := by omega
  obtain ⟨K, hK⟩ : ∃ K, K = Val.decL m [] := ⟨_, rfl⟩
  have HK : Hid (K = Val.decL m []) := hK
  rw [← hK]
  clear hK
  obtain ⟨z, hz⟩ : ∃ z : Int, z = -(m : Int) := ⟨_, rfl⟩
  rw [← hz] at h0 h1 h1' ⊢
  have HZ : Hid (z = -(m : Int)) := hz
  clear hz
  go_enter Tryz.func98, Tryz.ntmps98
  go_wp2_with fail
  go_loopw [0, 4] (fun vn vt wr => ∃ (k : Nat) (y : Int) (out : List UInt8), k + out.length ≤ m ∧ vn = .int .i64 y ∧ Hid (y = -(k : Int)) ∧ vt = .string ⟨out.toArray⟩ ∧ Below w.heap.size w wr ∧ Hid (Val.decL k out = K)) (fun vn _ _ => (intOf vn).natAbs)
  case atStart => exact ⟨m, z, [], by simp, rfl, HZ.out, rfl, Below.refl _ _, HK.out.symm⟩
  case round =>
    obtain ⟨k, y, out, hk, rfl, EY, rfl, hb, HM⟩ := hrel
    by_cases hk0 : k = 0
    · subst hk0
      have ey0 : y = 0 := by have := EY.out; omega
      subst ey0
      clear EY
      have HV : Hid (out = K) := by show _ = _; rw [← HM.out, Val.decL_zero]
      have hol : out.length ≤ m := by omega
      go_wp2_with fail
      go_ret
      refine ⟨?_, hb⟩
      have e : (⟨#[45]⟩ : ByteArray) ++ ⟨out.toArray⟩ = ⟨(45 :: K).toArray⟩ := by rw [← HV.out]; exact ba_consD 45 out
      exact congrArg (fun x => Ending.returned (.string x)) e
    · have ey := EY.out
      have hy0 : (y == 0) = false := beq_eq_false_iff_ne.2 (by omega)
      have hyn : (y != 0) = true := by simp; omega
      have hys : y ≤ 0 := by omega
      have hys2 : -4611686018427387904 ≤ y := by omega
      have ht : y.tmod 10 = -((k % 10 : Nat) : Int) := by rw [ey, Int.neg_tmod]; rfl
      have hq : y.tdiv 10 = -((k / 10 : Nat) : Int) := by rw [ey, Int.neg_tdiv]; rfl
      have HN : Hid (Val.decL (k / 10) (Val.digD k :: out) = K) := by show _ = _; rw [← Val.decL_pos k out hk0]; exact HM.out
      have hdig : ((Val.digD k).toNat : Int) = 48 + ((k % 10 : Nat) : Int) := by unfold Val.digD; rw [UInt8.toNat_ofNat']; omega
      have HQ : Hid (y.tdiv 10 = -((k / 10 : Nat) : Int)) := hq
      clear hq
      by_cases hd0 : k % 10 = 0
      · rw [hd0] at ht hdig
        have ht0 : y.tmod 10 = 0 := by omega
        have hcv := conv_one wr (Val.digD k) 48 (by omega)
        clear ht hdig ey
        go_wp2_with fail
        exact ⟨⟨k / 10, _, Val.digD k :: out, by simp; omega, rfl, HQ.out, congrArg Value.string (ba_consD _ out), hb.alloc hb.size _, HN⟩, by have h1 := HQ.out; have h2 := EY.out; simp only [intOf]; rw [h1, h2]; omega⟩
      · obtain ⟨D, hD⟩ : ∃ D, y.tmod 10 = D := ⟨_, rfl⟩
        have hD2 : D < 0 := by omega
        have hD3 : -10 < D := by omega
        have hcv := conv_one wr (Val.digD k) (48 + -D) (by omega)
        clear ht hdig ey
        go_wp2_with fail
        exact ⟨⟨k / 10, _, Val.digD k :: out, by simp; omega, rfl, HQ.out, congrArg Value.string (ba_consD _ out), hb.alloc hb.size _, HN⟩, by have h1 := HQ.out; have h2 := EY.out; simp only [intOf]; rw [h1, h2]; omega⟩

set_option maxHeartbeats 1000000 in
theorem sDec (n : Int) (w : World) (h1 : -4611686018427387904 ≤ n) (h2 : n ≤ 4611686018427387904) : Calls Tryz.prog 98 #[.int .i64 n] w fun e w' => e = .returned (.string (Val.decT n)) ∧ Below w.heap.size w w' := by
  by_cases h0 : n = 0
  · subst h0
    go_enter Tryz.func98, Tryz.ntmps98
    go_wp2_with fail
    go_ret
    exact ⟨rfl, Below.refl _ _⟩
  · by_cases hn : n < 0
    · have e : Val.decT n = ⟨(45 :: Val.decL n.natAbs []).toArray⟩ := by unfold Val.decT; rw [if_neg h0, if_pos hn]
      rw [e]
      have := sDecNeg n.natAbs w (by omega) (by omega)
      rw [show -((n.natAbs : Nat) : Int) = n from by omega] at this
      exact this
    · have e : Val.decT n = ⟨(Val.decL n.natAbs []).toArray⟩ := by unfold Val.decT; rw [if_neg h0, if_neg hn]
      rw [e]
      have := sDecPos n.natAbs w (by omega) (by omega)
      rw [show ((n.natAbs : Nat) : Int) = n from by omega] at this
      exact this

end Go.Proofs.YtjgekikcmkicmaaGreatDoor

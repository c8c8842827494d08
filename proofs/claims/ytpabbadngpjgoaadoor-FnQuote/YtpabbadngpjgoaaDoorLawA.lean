/-
  The walks of the law's own functions on tokens: eqToken, markText.
-/
import Derived.Test.YtpabbadngpjgoaaDoorOutR
import Derived.Deep.QuietTactic
import Derived.BigQuiet
import Derived.BigRegion
namespace Go.Proofs.YtpabbadngpjgoaaDoor
open Go.RowKit

set_option maxHeartbeats 1000000 in
theorem lEqToken (k : Int) (t : ByteArray) (n : Int) (l : Bool) (a : Int) (w : World) :
    Calls Tryd.prog 47 #[.agg #[.int .i64 k, .string t, .int .i64 n, .bool l, .int .i64 a], .agg #[.int .i64 k, .string t, .int .i64 n, .bool l, .int .i64 a]] w fun e w' =>
      e = .returned (.bool true) ∧ w' = (w.alloc (.cells #[.int .i64 k, .string t, .int .i64 n, .bool l, .int .i64 a] 30)).alloc (.cells #[.int .i64 k, .string t, .int .i64 n, .bool l, .int .i64 a] 30) := by
  go_enter Tryd.func47, Tryd.ntmps47
  go_wp2
  go_ret
  exact ⟨rfl, rfl⟩

def digU (m : Nat) : UInt8 := UInt8.ofNat (48 + m % 10)
/-- The digits of k ahead of what is there. -/
def mtL (k : Nat) (out : List UInt8) : List UInt8 := if _h : k = 0 then out else mtL (k / 10) (digU k :: out)
termination_by k
decreasing_by omega
theorem mtL_zero (out : List UInt8) : mtL 0 out = out := by rw [mtL, dif_pos rfl]
theorem mtL_pos (k : Nat) (out : List UInt8) (h : k ≠ 0) : mtL k out = mtL (k / 10) (digU k :: out) := by rw [mtL, dif_neg h]
theorem ba_cons (b : UInt8) (out : List UInt8) : (⟨#[b]⟩ : ByteArray) ++ ⟨out.toArray⟩ = ⟨(b :: out).toArray⟩ := by
  apply ByteArray.ext
  simp
theorem dig_val (m : Nat) : (#[Value.int .u8 (48 + (m : Int) % 10)]).toList = [digU m].map BV := by
  have e : (48 + (m : Int) % 10) = ((digU m).toNat : Int) := by unfold digU; rw [UInt8.toNat_ofNat']; omega
  rw [e]; rfl
def mT (k : Nat) : ByteArray := ⟨(109 :: mtL k []).toArray⟩

set_option maxHeartbeats 2000000 in
theorem lMarkText (k : Nat) (w : World) (hk : 1 ≤ k) (hk2 : k ≤ 100000) :
    Calls Tryd.prog 48 #[.int .i64 k] w fun e w' => e = .returned (.string (mT k)) ∧ Below w.heap.size w w' := by
  have hk' : ¬ (k : Int) ≤ 0 := by omega
  have hkd : decide ((k : Int) ≤ 0) = false := by simp; omega
  obtain ⟨K, hK⟩ : ∃ K, K = mtL k [] := ⟨_, rfl⟩
  have HK : Hid (K = mtL k []) := hK
  clear hK
  go_enter Tryd.func48, Tryd.ntmps48
  go_wp2
  go_loopw [0, 3] (fun vk vo wr => ∃ (m : Nat) (out : List UInt8), m + out.length ≤ k ∧ vk = .int .i64 m ∧ vo = .string ⟨out.toArray⟩ ∧ Below w.heap.size w wr ∧ Hid (mtL m out = K)) (fun vk _ _ => (intOf vk).toNat)
  case atStart => exact ⟨k, [], by simp, rfl, rfl, Below.refl _ _, HK.out.symm⟩
  case round =>
    obtain ⟨m, out, hm, rfl, rfl, hb, HM⟩ := hrel
    by_cases h0 : m = 0
    · subst h0
      have HV : Hid (out = K) := by show _ = _; rw [← HM.out, mtL_zero]
      go_wp2
      go_ret
      refine ⟨?_, hb⟩
      have e : (⟨#[109]⟩ : ByteArray) ++ ⟨out.toArray⟩ = mT k := by
        unfold mT; rw [← HK.out, ← HV.out]; exact ba_cons 109 out
      exact congrArg (fun x => Ending.returned (.string x)) e
    · have h0' : (0 : Int) < (m : Int) := by omega
      have hcv := conv_own (OwnB.new wr wr.heap.size (Nat.le_refl _) [digU m] (by simp) #[.int .u8 (48 + (m : Int) % 10)] (dig_val m) 1 rfl)
      have HN : Hid (mtL (m / 10) (digU m :: out) = K) := by show _ = _; rw [← mtL_pos m out h0]; exact HM.out
      have hsz := hb.size
      go_wp2_with fail
      refine ⟨⟨m / 10, digU m :: out, by simp; omega, congrArg (Value.int .i64) (by omega), ?_, hb.alloc hsz _, HN⟩, by simp [intOf]; omega⟩
      exact congrArg Value.string (ba_cons _ out)

end Go.Proofs.YtpabbadngpjgoaaDoor

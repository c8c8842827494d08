/-
  FnModes: the law's own small functions.
-/
import Derived.Test.YtednkkcmboahgaaGreatDoorRows
import Derived.WalkKit
import Derived.WalkSpells
import Derived.WalkLawsBesides
import Derived.Below
import Derived.Deep.Light
import Derived.ProofKit
namespace Go.Proofs.YtednkkcmboahgaaGreatDoor
open Go.RowKit

/-- A row of bytes that came in. -/
def BytesIn (w : World) (a : Option Addr) (cs : List UInt8) : Prop :=
  cs = [] ∨ ∃ b o, a = some ⟨b, o, none⟩ ∧ ∀ i (h : i < cs.length), w.cell? ⟨b, o + i, none⟩ = some (.int .u8 (cs[i].toNat : Int))

set_option maxHeartbeats 1000000 in
theorem lLwAt (k m : Nat) (a : Option Addr) (len cap : Nat) (cs : List UInt8) (w : World) (hm : 2 ≤ m) (hm' : m ≤ 100) (hl : cs.length = len) (hlb : len ≤ 1048576) (hB : BytesIn w a cs) :
    Calls Tryz.prog 4 #[.slice a len cap, .int .i64 k, .int .i64 m] w fun e w' => ∃ r : Nat, r < m ∧ e = .returned (.int .i64 r) ∧ w' = w := by
  have hm1 : ¬ (m : Int) ≤ 1 := by omega
  by_cases h0 : len = 0
  · subst h0
    go_enter Tryz.func4, Tryz.ntmps4
    go_wp2_with fail
    go_ret
    exact ⟨0, by omega, rfl, rfl⟩
  · obtain ⟨b, o, rfl, hc⟩ := hB.resolve_left (fun e => by simp [e] at hl; omega)
    have hkl : k % len < len := Nat.mod_lt _ (by omega)
    have hc0 := hc (k % len) (by omega)
    have h0' : ((len : Int) == 0) = false := beq_eq_false_iff_ne.2 (by omega)
    have hlen : (0 : Int) < (len : Int) := by omega
    have hch : (cs[k % len]'(by omega)).toNat < 256 := UInt8.toNat_lt _
    generalize (cs[k % len]'(by omega)).toNat = ch at *
    have hmod : Int.tmod (k : Int) (len : Int) = ((k % len : Nat) : Int) := rfl
    generalize hj : k % len = j at *
    clear hc hB
    go_enter Tryz.func4, Tryz.ntmps4
    go_wp2_with fail
    go_ret
    exact ⟨ch % m, Nat.mod_lt _ (by omega), congrArg (fun x => Ending.returned (.int .i64 x)) (by omega), rfl⟩

theorem BytesIn.under {w w' : World} {a : Option Addr} {cs : List UInt8} (h : BytesIn w a cs) (hb : Below w.heap.size w w') : BytesIn w' a cs := by
  rcases h with h | ⟨b, o, e, hc⟩
  · exact .inl h
  · exact .inr ⟨b, o, e, fun i hi => by rw [hb.cell (World.block_lt_of_cell? w _ (hc i hi))]; exact hc i hi⟩

/-- A number's digits. -/
def decL (n : Nat) : List Nat := if n < 10 then [48 + n] else if n < 100 then [48 + n / 10, 48 + n % 10] else [48 + n / 100, 48 + n / 10 % 10, 48 + n % 10]
def decB (n : Nat) : ByteArray := ⟨((decL n).map UInt8.ofNat).toArray⟩
theorem decB_size (n : Nat) : (decB n).size ≤ 3 := by
  have h : (decL n).length ≤ 3 := by
    unfold decL
    by_cases h1 : n < 10
    · rw [if_pos h1]; simp
    · rw [if_neg h1]
      by_cases h2 : n < 100
      · rw [if_pos h2]; simp
      · rw [if_neg h2]; simp
  show ((decL n).map UInt8.ofNat).toArray.size ≤ 3
  simpa using h

end Go.Proofs.YtednkkcmboahgaaGreatDoor

/-
  The law FnQuote: what its walk keeps, and its first part.
-/
import Derived.Test.YtpabbadngpjgoaaDoorDrawB
import Derived.Test.YtpabbadngpjgoaaDoorImplH
import Derived.Test.YtpabbadngpjgoaaDoorSpecU
import Derived.Test.YtpabbadngpjgoaaDoorQuote
import Derived.Test.YtpabbadngpjgoaaDoorLawB
import Derived.Deep.CutRange
namespace Go.Proofs.YtpabbadngpjgoaaDoor
open Go.RowKit

set_option maxHeartbeats 1000000 in
theorem lLwAt (a : Option Addr) (len cap : Nat) (cs : List UInt8) (w : World) (hl : cs.length = len) (hlb : len ≤ 1048576) (hB : BytesIn w a cs) :
    Calls Tryd.prog 11 #[.slice a len cap, .int .i64 0, .int .i64 4] w fun e w' => ∃ r : Nat, r < 4 ∧ e = .returned (.int .i64 r) ∧ w' = w := by
  by_cases h0 : len = 0
  · subst h0
    go_enter Tryd.func11, Tryd.ntmps11
    go_wp2_with fail
    go_ret
    exact ⟨0, by omega, rfl, rfl⟩
  · obtain ⟨b, o, rfl, hc⟩ := hB.resolve_left (fun e => by simp [e] at hl; omega)
    have hc0 := hc 0 (by omega)
    have h0' : ((len : Int) == 0) = false := beq_eq_false_iff_ne.2 (by omega)
    have hlen : (0 : Int) < (len : Int) := by omega
    have hch : (cs[0]'(by omega)).toNat < 256 := UInt8.toNat_lt _
    generalize (cs[0]'(by omega)).toNat = ch at *
    rw [Nat.add_zero] at hc0
    clear hc hB
    go_enter Tryd.func11, Tryd.ntmps11
    go_wp2_with fail
    go_ret
    exact ⟨ch % 4, by omega, congrArg (fun x => Ending.returned (.int .i64 x)) (by omega), rfl⟩

theorem BytesIn.under {w w' : World} {a : Option Addr} {cs : List UInt8} (h : BytesIn w a cs) (hb : Below w.heap.size w w') : BytesIn w' a cs := by
  rcases h with h | ⟨b, o, e, hc⟩
  · exact .inl h
  · exact .inr ⟨b, o, e, fun i hi => by rw [hb.cell (World.block_lt_of_cell? w _ (hc i hi))]; exact hc i hi⟩

end Go.Proofs.YtpabbadngpjgoaaDoor

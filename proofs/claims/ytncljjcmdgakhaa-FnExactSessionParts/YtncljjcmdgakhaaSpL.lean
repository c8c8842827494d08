/-
  The walk of the law FnExactSessionParts, given what the program's SessionParts does.
-/
import Derived.Test.YtncljjcmdgakhaaSpP
namespace Go.Proofs.Ytncljjcmdgakhaa
open Go.RowKit

theorem SRow.marks {Q : Nat → Prop} {w w' : World} {B : Nat} {v : Value} {l : List ByteArray} (h : SRow w B v l) (hm : Marks Q w w') (hq : ∀ q, v.ownBlock = some q → ¬ Q q) : SRow w' B v l :=
  row_same h fun q e => hm.block q (World.ownsRow.lt h q e).2 (hq q e)

set_option maxHeartbeats 8000000 in
set_option maxRecDepth 100000 in
theorem session_walk (hI : ∀ (s : ByteArray) (W : World), s.size ≤ 1048576 → Calls Try.prog 5 #[.string s] W fun e w' => ∃ v, e = .returned v ∧ Below W.heap.size W w' ∧ SRow w' W.heap.size v (sessionV s))
    (s : ByteArray) (w : World) (hs : s.size ≤ 9223372036854775807) :
    Calls Try.prog 3 #[.string s] w fun e w' => e = .returned (.bool true) ∧ Below w.heap.size w w' := by
  by_cases hz : 1048576 < s.size
  · have hz' : (1048576 : Int) < (s.size : Int) := by omega
    clear hI
    go_enter Try.func3, Try.ntmps3
    go_wp2_with fail
    go_ret
    exact ⟨rfl, Below.refl _ _⟩
  have hz' : ¬ (1048576 : Int) < (s.size : Int) := by omega
  have H3 : Hid (∀ W, Calls Try.prog 4 #[.string s] W fun e w' => ∃ v, e = .returned v ∧ Below W.heap.size W w' ∧ SRow w' W.heap.size v (sessionV s)) := fun W => sSession s W (by omega)
  have H4 : Hid (∀ W, Calls Try.prog 5 #[.string s] W fun e w' => ∃ v, e = .returned v ∧ Below W.heap.size W w' ∧ SRow w' W.heap.size v (sessionV s)) := fun W => hI s W (by omega)
  have hvl : (sessionV s).length ≤ 1048576 := by have := sessionV_len s; omega
  clear hI
  generalize sessionV s = V at *
  have HE : Hid (∀ (a1 a2 : Option Addr) (cap1 cap2 B1 B2 : Nat) (W : World), V.length ≤ 1048576 → SRow W B1 (.slice a1 V.length cap1) V → SRow W B2 (.slice a2 V.length cap2) V → Calls Try.prog 6 #[.slice a1 V.length cap1, .slice a2 V.length cap2] W fun e w' => e = .returned (.bool true) ∧ Below W.heap.size W w') := fun a1 a2 c1 c2 B1 B2 W hv h1 h2 => lEqStr a1 a2 c1 c2 B1 B2 V W hv h1 h2
  have HM : Hid (∀ (a : Option Addr) (cap B : Nat) (W : World), V.length ≤ 1048576 → SRow W B (.slice a V.length cap) V → Calls Try.prog 7 #[.slice a V.length cap, .int .i64 1] W fun e w' => e = .returned (.int .i64 ((1 + V.length : Nat) : Int)) ∧ SRow w' B (.slice a V.length cap) (mkSs 1 V.length) ∧ Marks (fun q => (Value.slice a V.length cap).ownBlock = some q) W w') := fun a cap B W hv h1 => lMarkStr a cap 1 B V W hv (Nat.le_refl 1) (by omega) h1
  have HD : Hid (∀ (a : Option Addr) (cap B : Nat) (W : World), V.length ≤ 1048576 → SRow W B (.slice a V.length cap) (mkSs 1 V.length) → Calls Try.prog 8 #[.slice a V.length cap, .int .i64 1] W fun e w' => e = .returned (.int .i64 ((1 + V.length : Nat) : Int)) ∧ Below W.heap.size W w') := fun a cap B W hv h1 => lHeldStr a cap 1 B V.length W hv (Nat.le_refl 1) (by omega) h1
  go_enter Try.func3, Try.ntmps3
  go_wp2_with fail
  refine (H3.out w).mono ?_
  rintro e W1 ⟨v6, rfl, hb1, hs6⟩
  obtain ⟨a6, c6, rfl⟩ := hs6.shape
  have HQ6 : Hid (∀ q, (Value.slice a6 V.length c6).ownBlock = some q → q < W1.heap.size) := fun q hq => (World.ownsRow.lt hs6 q hq).2
  have HS1 : Hid (SRow W1 w.heap.size (.slice a6 V.length c6) V) := hs6
  have hw1 := hb1.size
  clear hs6
  go_wp2_with fail
  refine (H4.out W1).mono ?_
  rintro e W2 ⟨v8, rfl, hb2, hs8⟩
  obtain ⟨a8, c8, rfl⟩ := hs8.shape
  have hw2 := hb2.size
  have HQ8 : Hid (∀ q, (Value.slice a8 V.length c8).ownBlock = some q → W1.heap.size ≤ q) := fun q hq => (World.ownsRow.lt hs8 q hq).1
  have HS2 : Hid (SRow W2 w.heap.size (.slice a6 V.length c6) V ∧ SRow W2 W1.heap.size (.slice a8 V.length c8) V) := ⟨HS1.out.under hb2, hs8⟩
  have HH2 : Hid (Below w.heap.size w W2) := hb1.trans (hb2.mono hw1)
  clear hb1 hb2 hs8 HS1
  go_wp2_with fail
  refine (HE.out a8 a6 c8 c6 _ _ W2 hvl HS2.out.2 HS2.out.1).mono ?_
  rintro e W3 ⟨rfl, hb3⟩
  have hw3 := hb3.size
  have HS3 : Hid (SRow W3 w.heap.size (.slice a6 V.length c6) V ∧ SRow W3 W1.heap.size (.slice a8 V.length c8) V) := ⟨HS2.out.1.under hb3, HS2.out.2.under hb3⟩
  have HH3 : Hid (Below w.heap.size w W3) := HH2.out.trans (hb3.mono HH2.out.size)
  clear hb3 HS2 HH2
  go_wp2_with fail
  refine (HM.out a8 c8 _ W3 hvl HS3.out.2).mono ?_
  rintro e W4 ⟨rfl, hs4, hm4⟩
  have hw4 := hm4.size
  have HS4 : Hid (SRow W4 w.heap.size (.slice a6 V.length c6) V ∧ SRow W4 W1.heap.size (.slice a8 V.length c8) (mkSs 1 V.length)) := ⟨HS3.out.1.marks hm4 (fun q hq e => by have := HQ6.out q hq; have := HQ8.out q e; omega), hs4⟩
  have HH4 : Hid (Below w.heap.size w W4) := Marks.below HH3.out hm4 (fun q hq => by have := HQ8.out q hq; omega) (by omega)
  clear hs4 hm4 HS3 HH3
  have hn0 : ¬ (((1 + V.length : Nat) : Int)) < 0 := by omega
  have hn1 : ((((1 + V.length : Nat) : Int)) != (((1 + V.length : Nat) : Int))) = false := by simp
  go_wp2_with fail
  refine (HD.out a8 c8 _ W4 hvl HS4.out.2).mono ?_
  rintro e W5 ⟨rfl, hb5⟩
  have HS5 : Hid (SRow W5 w.heap.size (.slice a6 V.length c6) V ∧ SRow W5 W1.heap.size (.slice a8 V.length c8) (mkSs 1 V.length)) := ⟨HS4.out.1.under hb5, HS4.out.2.under hb5⟩
  have HH5 : Hid (Below w.heap.size w W5) := HH4.out.trans (hb5.mono HH4.out.size)
  clear hb5 HS4 HH4
  go_wp2_with fail
  refine (H4.out W5).mono ?_
  rintro e W6 ⟨v12, rfl, hb6, hs12⟩
  obtain ⟨a12, c12, rfl⟩ := hs12.shape
  have HS6 : Hid (SRow W6 w.heap.size (.slice a6 V.length c6) V ∧ SRow W6 W1.heap.size (.slice a8 V.length c8) (mkSs 1 V.length) ∧ SRow W6 W5.heap.size (.slice a12 V.length c12) V) := ⟨HS5.out.1.under hb6, HS5.out.2.under hb6, hs12⟩
  have HH6 : Hid (Below w.heap.size w W6) := HH5.out.trans (hb6.mono HH5.out.size)
  clear hb6 hs12 HS5 HH5
  go_wp2_with fail
  refine (HE.out a12 a6 c12 c6 _ _ W6 hvl HS6.out.2.2 HS6.out.1).mono ?_
  rintro e W7 ⟨rfl, hb7⟩
  have HS7 : Hid (SRow W7 W1.heap.size (.slice a8 V.length c8) (mkSs 1 V.length)) := HS6.out.2.1.under hb7
  have HH7 : Hid (Below w.heap.size w W7) := HH6.out.trans (hb7.mono HH6.out.size)
  clear hb7 HS6 HH6
  go_wp2_with fail
  refine (HD.out a8 c8 _ W7 hvl HS7.out).mono ?_
  rintro e W8 ⟨rfl, hb8⟩
  have HH8 : Hid (Below w.heap.size w W8) := HH7.out.trans (hb8.mono HH7.out.size)
  clear hb8
  go_wp2_with fail
  go_ret
  exact ⟨rfl, HH8.out⟩

end Go.Proofs.Ytncljjcmdgakhaa

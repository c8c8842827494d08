/-
  The walk of heldTokenS; the functions on TokensOut.
-/
import Derived.Test.YtgdiohnpaldeiaaDoorLawC
namespace Go.Proofs.YtgdiohnpaldeiaaDoor
open Go.RowKit

set_option maxHeartbeats 4000000 in
set_option maxRecDepth 100000 in
theorem lHeldS (g cap k0 B n : Nat) (w : World) (hl : n ≤ 1000) (hk1 : 1 ≤ k0) (hk2 : k0 ≤ 1000) (hg : g < w.heap.size) (h : OwnT w B (.slice (some ⟨g, 0, none⟩) n cap) (mkToks k0 n)) :
    Calls Tryd.prog 29 #[.slice (some ⟨g, 0, none⟩) n cap, .int .i64 k0] w fun e w' => e = .returned (.int .i64 ((k0 + 5 * n : Nat) : Int)) ∧ Below w.heap.size w w' := by
  have H : Hid (OwnT w B (.slice (some ⟨g, 0, none⟩) n cap) (mkToks k0 n)) := h
  clear h
  go_enter Tryd.func29, Tryd.ntmps29
  go_wp2_with fail
  go_loopw [1, 5] (fun vk vi wr => ∃ i : Nat, i ≤ n ∧ vi = .int .i64 i ∧ vk = .int .i64 ((k0 + 5 * i : Nat) : Int) ∧ Below w.heap.size w wr) (fun _ vi _ => n - (intOf vi).toNat)
  case atStart => exact ⟨0, Nat.zero_le _, rfl, rfl, Below.refl _ _⟩
  case round =>
    obtain ⟨i, hi, rfl, rfl, hb⟩ := hrel
    by_cases hlt : i < n
    · have hlt' : (i : Int) < (n : Int) := by omega
      have hsz := hb.size
      have hg' : g < wr.heap.size := by omega
      have hfive := (H.out.keep hb).five i (by rw [mkToks_len]; exact hlt)
      rw [mkToks_at k0 n i hlt] at hfive
      generalize hK : k0 + 5 * i = K at *
      have hKb : K ≤ 10000 := by omega
      have hK1 : 1 ≤ K := by omega
      have HKK : Hid (k0 + 5 * i = K) := hK
      clear hK
      obtain ⟨p0, p1, p2, p3, p4⟩ := hfive
      have p0' : wr.cell? ⟨g, i * 5, none⟩ = some (.int .i64 (K : Int)) := p0
      have p1' : wr.cell? ⟨g, i * 5 + 1, none⟩ = some (.string (mT (K + 1))) := p1
      have p2' : wr.cell? ⟨g, i * 5 + 2, none⟩ = some (.int .i64 ((K : Int) + 1 + 1)) := p2
      have p3' : wr.cell? ⟨g, i * 5 + 3, none⟩ = some (.bool (((K : Int) + 1 + 1 + 1) % 3 == 0)) := p3
      have p4' : wr.cell? ⟨g, i * 5 + 4, none⟩ = some (.int .i64 ((K : Int) + 1 + 1 + 1 + 1)) := p4
      clear p0 p1 p2 p3 p4
      go_wp2_with fail
      go_region_with (go_at_call 48; rw [show ((K : Int) + 1) = ((K + 1 : Nat) : Int) from by omega]; refine (lMarkText (K + 1) _ (by omega) (by omega)).mono ?_; rintro e w1 ⟨rfl, hb1⟩; have pp : w1.cell? ⟨g, i * 5 + 1, none⟩ = some (.string (mT (K + 1))) := (hb1.cell (p := ⟨g, i * 5 + 1, none⟩) hg').trans p1')
      · have m2 : w1.cell? ⟨g, i * 5 + 2, none⟩ = some (.int .i64 ((K : Int) + 1 + 1)) := (hb1.cell (p := ⟨g, i * 5 + 2, none⟩) hg').trans p2'
        have m3 : w1.cell? ⟨g, i * 5 + 3, none⟩ = some (.bool (((K : Int) + 1 + 1 + 1) % 3 == 0)) := (hb1.cell (p := ⟨g, i * 5 + 3, none⟩) hg').trans p3'
        have m4 : w1.cell? ⟨g, i * 5 + 4, none⟩ = some (.int .i64 ((K : Int) + 1 + 1 + 1 + 1)) := (hb1.cell (p := ⟨g, i * 5 + 4, none⟩) hg').trans p4'
        have hb2 : Below w.heap.size w w1 := hb.drew.trans (hb1.mono hsz)
        clear p0' p1' p2' p3' p4' hb1 pp
        go_wp2_with fail
        exact ⟨⟨i + 1, by omega, by go_num, congrArg (Value.int .i64) (by have := HKK.out; omega), hb2⟩, by simp [intOf]; omega⟩
      · have m2 : w1.cell? ⟨g, i * 5 + 2, none⟩ = some (.int .i64 ((K : Int) + 1 + 1)) := (hb1.cell (p := ⟨g, i * 5 + 2, none⟩) hg').trans p2'
        have m3 : w1.cell? ⟨g, i * 5 + 3, none⟩ = some (.bool (((K : Int) + 1 + 1 + 1) % 3 == 0)) := (hb1.cell (p := ⟨g, i * 5 + 3, none⟩) hg').trans p3'
        have m4 : w1.cell? ⟨g, i * 5 + 4, none⟩ = some (.int .i64 ((K : Int) + 1 + 1 + 1 + 1)) := (hb1.cell (p := ⟨g, i * 5 + 4, none⟩) hg').trans p4'
        have hb2 : Below w.heap.size w w1 := hb.drew.trans (hb1.mono hsz)
        clear p0' p1' p2' p3' p4' hb1 pp
        go_wp2_with fail
        exact ⟨⟨i + 1, by omega, by go_num, congrArg (Value.int .i64) (by have := HKK.out; omega), hb2⟩, by simp [intOf]; omega⟩
    · go_wp2_with fail
      go_ret
      have hil : i = n := by omega
      subst hil
      exact ⟨rfl, hb⟩

end Go.Proofs.YtgdiohnpaldeiaaDoor

/-
  The walk of the law FnExactCallsEval.
-/
import Derived.Test.YtbkloddaooblfacEvC
import Derived.Deep.CutRange
namespace Go.Proofs.Ytbkloddaooblfac
open Go.RowKit

set_option maxHeartbeats 4000000 in
set_option maxRecDepth 100000 in
theorem callsEval_walk (t : PT) (c : NC) (fp : List Nat) (w : World) (hok : OkT t) (hin : NIn w 0 t c fp) :
    Calls Try.prog 8 #[.agg (t.cells c)] w fun e w' => e = .returned (.bool true) ∧ Below w.heap.size w w' := by
  have HB0 : Hid (∀ o1, Below w.heap.size w (w.alloc o1)) := fun o1 => (Below.refl _ _).alloc (Nat.le_refl _) o1
  have C1 := fun W (h : Below w.heap.size w W) => lSz t 1048576 0 c fp W (Nat.le_refl _) hok (hin.under h)
  have C3 : szT t ≤ 1048576 → ∀ W, Below w.heap.size w W → Calls Try.prog 32 #[.agg (t.cells c)] W fun e w' => ∃ c' fp', e = .returned (.agg (t.cells c')) ∧ NIn w' W.heap.size t c' fp' ∧ Below W.heap.size W w' ∧ fp'.Nodup ∧ (∀ x ∈ fp', W.heap.size ≤ x ∧ Plain w' x) := fun hz W h => lTo t 0 c fp W hz (hin.under h)
  have C5 := fun (hz : szT t ≤ 1048576) W (d : NC) (B : Nat) (g : List Nat) (h : NIn W B t d g) => sCallsEval t B d g W hz h
  have C6 := fun (hz : szT t ≤ 1048576) W (d : NC) (g : List Nat) (h : NIn W 0 t d g) (h2 : g.Nodup) (h3 : ∀ x ∈ g, Plain W x) => iCallsEval t d g W h hz h2 h3
  have C7 := fun (hz : szT t ≤ 1048576) W (d1 d2 : NC) (B1 B2 : Nat) (g1 g2 : List Nat) (h1 : NIn W B1 t d1 g1) (h2 : NIn W B2 t d2 g2) => lEq t B1 B2 d1 d2 g1 g2 W hz h1 h2
  have HNT : Hid (∃ k x n ns s ks, t = .node k x n ns s ks) := by cases t; exact ⟨_, _, _, _, _, _, rfl⟩
  obtain ⟨k, x, n, ns, s, ks, e1⟩ := HNT.out
  have q1 : ∀ c, t.cells c = #[.int .i64 k, .string x, .int .i64 n, .slice c.na ns.length c.nc, .bool s, .slice c.ka ks.length c.kc] := fun c => by rw [e1]; rfl
  simp only [q1] at C1 C3 C5 C6 C7 ⊢
  clear hok hin e1 HNT q1
  obtain ⟨z, ez⟩ : ∃ z, szT t = z := ⟨_, rfl⟩
  have HZ : Hid (szT t = z) := ez
  rw [ez] at C1 C3 C5 C6 C7
  clear ez
  generalize specC t = R at *
  have H1 : Hid _ := C1
  have H3 : Hid _ := C3
  have H5 : Hid _ := C5
  have H6 : Hid _ := C6
  have H7 : Hid _ := C7
  clear C1 C3 C5 C6 C7
  go_enter Try.func8, Try.ntmps8
  go_wp2_with fail
  have hP : (w.alloc (.cells #[.int .i64 k, .string x, .int .i64 n, .slice c.na ns.length c.nc, .bool s, .slice c.ka ks.length c.kc] 51)).heap[w.heap.size]? = some (.cells #[.int .i64 k, .string x, .int .i64 n, .slice c.na ns.length c.nc, .bool s, .slice c.ka ks.length c.kc] 51 (0, 0)) := heap_alloc_new _ _
  have hBW := HB0.out (.cells #[.int .i64 k, .string x, .int .i64 n, .slice c.na ns.length c.nc, .bool s, .slice c.ka ks.length c.kc] 51)
  have hS0 : (w.alloc (.cells #[.int .i64 k, .string x, .int .i64 n, .slice c.na ns.length c.nc, .bool s, .slice c.ka ks.length c.kc] 51)).heap.size = w.heap.size + 1 := by simp
  generalize w.alloc (.cells #[.int .i64 k, .string x, .int .i64 n, .slice c.na ns.length c.nc, .bool s, .slice c.ka ks.length c.kc] 51) = W0 at *
  clear HB0
  refine (H1.out W0 hBW).mono ?_
  rintro e W1 ⟨rfl, hb1⟩
  have hb1w : Below w.heap.size w W1 := hBW.trans (hb1.mono (by omega))
  by_cases hz : z ≤ 1048576
  case neg =>
    rw [subR_gt (by omega)]
    go_wp2_with fail
    go_ret
    exact ⟨rfl, hb1w⟩
  rw [subR_le hz]
  have hz' : ¬ (((1048576 - z : Nat) : Int)) < 0 := by omega
  have hP1 := (hb1.block _ (by omega)).trans hP
  have hS1 : w.heap.size + 1 ≤ W1.heap.size := by have := hb1.size; omega
  clear hP hBW hS0 hb1
  obtain ⟨⟨p0, p1, p2, p3, p4, p5⟩, -⟩ := six_of hP1
  go_wp2_with fail
  refine (H3.out hz W1 hb1w).mono ?_
  rintro e W2 ⟨cA, fA, rfl, hA, hb2, _, _⟩
  have hb2w : Below w.heap.size w W2 := hb1w.trans (hb2.mono (by omega))
  have hP2 := (hb2.block _ (by omega)).trans hP1
  have hS2 : w.heap.size + 1 ≤ W2.heap.size := by have := hb2.size; omega
  clear hP1 hb1w hb2 hS1 p0 p1 p2 p3 p4 p5
  go_wp2_with fail
  refine (H5.out hz W2 cA _ _ hA).mono ?_
  rintro e W3 ⟨rfl, hb3⟩
  have hb3w : Below w.heap.size w W3 := hb2w.trans (hb3.mono (by omega))
  have hP3 := (hb3.block _ (by omega)).trans hP2
  have hS3 : w.heap.size + 1 ≤ W3.heap.size := by have := hb3.size; omega
  clear hP2 hb2w hb3 hS2 hA
  obtain ⟨⟨p0, p1, p2, p3, p4, p5⟩, -⟩ := six_of hP3
  go_wp2_with fail
  refine (H3.out hz W3 hb3w).mono ?_
  rintro e W4 ⟨cB, fB, rfl, hB, hb4, hnB, hpB⟩
  have hb4w : Below w.heap.size w W4 := hb3w.trans (hb4.mono (by omega))
  have hP4 := (hb4.block _ (by omega)).trans hP3
  have hS4 : w.heap.size + 1 ≤ W4.heap.size := by have := hb4.size; omega
  clear hP3 hb3w hS3 p0 p1 p2 p3 p4 p5
  have HB : Hid (NIn W4 W3.heap.size t cB fB ∧ fB.Nodup ∧ ∀ x ∈ fB, Plain W4 x) := ⟨hB, hnB, fun x hx => (hpB x hx).2⟩
  clear hB hnB hpB hb4
  go_wp2_with fail
  have hb5 : Below W4.heap.size W4 (W4.alloc (.cells #[.int .i64 k, .string x, .int .i64 n, .slice cB.na ns.length cB.nc, .bool s, .slice cB.ka ks.length cB.kc] 56)) := (Below.refl _ _).alloc (Nat.le_refl _) _
  have hX5 : (W4.alloc (.cells #[.int .i64 k, .string x, .int .i64 n, .slice cB.na ns.length cB.nc, .bool s, .slice cB.ka ks.length cB.kc] 56)).heap[W4.heap.size]? = some (.cells #[.int .i64 k, .string x, .int .i64 n, .slice cB.na ns.length cB.nc, .bool s, .slice cB.ka ks.length cB.kc] 56 (0, 0)) := heap_alloc_new _ _
  have hS5 : (W4.alloc (.cells #[.int .i64 k, .string x, .int .i64 n, .slice cB.na ns.length cB.nc, .bool s, .slice cB.ka ks.length cB.kc] 56)).heap.size = W4.heap.size + 1 := by simp
  generalize W4.alloc (.cells #[.int .i64 k, .string x, .int .i64 n, .slice cB.na ns.length cB.nc, .bool s, .slice cB.ka ks.length cB.kc] 56) = W5 at *
  have hP5 := (hb5.block _ (by omega)).trans hP4
  have hb5w : Below w.heap.size w W5 := hb4w.trans (hb5.mono (by omega))
  have HB5 : Hid (NIn W5 0 t cB fB ∧ fB.Nodup ∧ ∀ x ∈ fB, Plain W5 x) := ⟨(HB.out.1.under hb5).base (Nat.zero_le _), HB.out.2.1, fun x hx => (HB.out.2.2 x hx).under hb5⟩
  clear hP4 hb4w HB hb5
  refine (H6.out hz W5 cB fB HB5.out.1 HB5.out.2.1 HB5.out.2.2).mono ?_
  rintro e W6 ⟨rfl, hb6⟩
  have hb6w : Below w.heap.size w W6 := hb5w.trans (hb6.mono (by omega))
  have hP6 := (hb6.block _ (by omega)).trans hP5
  have hX6 := (hb6.block _ (by omega)).trans hX5
  have hS6 : W4.heap.size + 1 ≤ W6.heap.size := by have := hb6.size; omega
  have HB6 : Hid (NIn W6 0 t cB fB) := HB5.out.1.under hb6
  clear hP5 hX5 hb5w hb6 HB5 hS5
  generalize W4.heap.size = X at *
  obtain ⟨⟨p0, p1, p2, p3, p4, p5⟩, -⟩ := six_of hP6
  obtain ⟨⟨r0, r1, r2, r3, r4, r5⟩, -⟩ := six_of hX6
  have hne : (R != R) = false := by simp
  go_wp2_with fail
  go_cut [26] from 22 to 26 (fun v wx => v = .bool false ∧ Below W6.heap.size W6 wx)
  case first =>
    go_region_with (first
      | (go_at_call 32; refine (H3.out hz _ ?_).mono ?_; exact hb6w.drew; rintro e WA ⟨cC, fC, rfl, hC, hbC, hnC, hpC⟩; have hbC2 : Below W6.heap.size W6 WA := (Below.refl W6.heap.size W6).drew.trans hbC; obtain ⟨⟨a0, a1, a2, a3, a4, a5⟩, -⟩ := six_of ((hbC2.block X (by omega)).trans hX6))
      | (go_at_call 34; refine (H7.out hz WA cB cC _ _ _ _ (HB6.out.under hbC2) hC).mono ?_; rintro e WC ⟨rfl, hbD⟩))
    all_goals
      go_wp2_with fail
      go_meet
      exact ⟨rfl, hbC2.trans (hbD.mono hbC2.size)⟩
  case rest =>
    obtain ⟨rfl, hb7⟩ := hcut
    have hbf : Below w.heap.size w _ := hb6w.trans (hb7.mono (by omega))
    clear p0 p1 p2 p3 p4 p5 r0 r1 r2 r3 r4 r5
    go_wp2_with fail
    go_ret
    exact ⟨rfl, hbf⟩

end Go.Proofs.Ytbkloddaooblfac

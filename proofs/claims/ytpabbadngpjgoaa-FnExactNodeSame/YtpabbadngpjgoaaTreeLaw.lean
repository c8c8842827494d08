/-
  The walk of the law FnExactNodeSame.
-/
import Derived.Test.YtpabbadngpjgoaaTreeImplW
namespace Go.Proofs.Ytpabbadngpjgoaa
open Go.RowKit

theorem six_al {W : World} {b : Nat} {t : TypeId} {v0 v1 v2 v3 v4 v5 : Value} (h : W.heap[b]? = some (.cells #[v0, v1, v2, v3, v4, v5] t (0, 0))) :
    (∀ o, (W.alloc o).cell? ⟨b, 0, none⟩ = some v0) ∧ (∀ o, (W.alloc o).cell? ⟨b, 1, none⟩ = some v1) ∧ (∀ o, (W.alloc o).cell? ⟨b, 2, none⟩ = some v2) ∧ (∀ o, (W.alloc o).cell? ⟨b, 3, none⟩ = some v3) ∧ (∀ o, (W.alloc o).cell? ⟨b, 4, none⟩ = some v4) ∧ (∀ o, (W.alloc o).cell? ⟨b, 5, none⟩ = some v5) := by
  have h1 : ∀ o, (W.alloc o).heap[b]? = some (.cells #[v0, v1, v2, v3, v4, v5] t (0, 0)) := fun o => (Below.heap_alloc W o b (Array.getElem?_eq_some_iff.1 h).1).trans h
  exact ⟨fun o => (six_of (h1 o)).1.1, fun o => (six_of (h1 o)).1.2.1, fun o => (six_of (h1 o)).1.2.2.1, fun o => (six_of (h1 o)).1.2.2.2.1, fun o => (six_of (h1 o)).1.2.2.2.2.1, fun o => (six_of (h1 o)).1.2.2.2.2.2⟩

set_option maxHeartbeats 4000000 in
set_option maxRecDepth 100000 in
theorem nodeSame_walk (t1 t2 : PT) (c1 c2 : NC) (fp1 fp2 : List Nat) (w : World) (hok1 : OkT t1) (hok2 : OkT t2) (hin1 : NIn w 0 t1 c1 fp1) (hin2 : NIn w 0 t2 c2 fp2) :
    Calls Try.prog 5 #[.agg (t1.cells c1), .agg (t2.cells c2)] w fun e w' => e = .returned (.bool true) ∧ Below w.heap.size w w' := by
  have hb0 : ∀ o1 o2, Below w.heap.size w ((w.alloc o1).alloc o2) := fun o1 o2 => ((Below.refl _ _).alloc (Nat.le_refl _) o1).alloc (by simp) o2
  have HB0 : Hid (∀ o1 o2, Below w.heap.size w ((w.alloc o1).alloc o2)) := hb0
  clear hb0
  have C1 := fun W (h : Below w.heap.size w W) => lSz t1 1048576 0 c1 fp1 W (Nat.le_refl _) hok1 (hin1.under h)
  have C2 := fun W (h : Below w.heap.size w W) (l : Nat) (hl : l ≤ 1048576) => lSz t2 l 0 c2 fp2 W hl hok2 (hin2.under h)
  have C3 := fun (hz : szT t1 ≤ 1048576) W (h : Below w.heap.size w W) => lTo t1 0 c1 fp1 W hz (hin1.under h)
  have C4 := fun (hz : szT t2 ≤ 1048576) W (h : Below w.heap.size w W) => lTo t2 0 c2 fp2 W hz (hin2.under h)
  have C5 := fun (hz1 : szT t1 ≤ 1048576) (hz2 : szT t2 ≤ 1048576) W (d1 d2 : NC) (B1 B2 : Nat) (g1 g2 : List Nat) (h1 : NIn W B1 t1 d1 g1) (h2 : NIn W B2 t2 d2 g2) => sSame t1 t2 B1 B2 d1 d2 g1 g2 W hz1 hz2 h1 h2
  have C6 := fun W (d1 d2 : NC) (g1 g2 : List Nat) (C : Nat) (hG : Good W C [⟨t1, t2, d1, d2, g1, g2⟩] []) => iSame t1 t2 d1 d2 g1 g2 C W hG
  have C7 := fun (hz1 : szT t1 ≤ 1048576) W (d1 d2 : NC) (B1 B2 : Nat) (g1 g2 : List Nat) (h1 : NIn W B1 t1 d1 g1) (h2 : NIn W B2 t1 d2 g2) => lEq t1 B1 B2 d1 d2 g1 g2 W hz1 h1 h2
  have C8 := fun (hz1 : szT t2 ≤ 1048576) W (d1 d2 : NC) (B1 B2 : Nat) (g1 g2 : List Nat) (h1 : NIn W B1 t2 d1 g1) (h2 : NIn W B2 t2 d2 g2) => lEq t2 B1 B2 d1 d2 g1 g2 W hz1 h1 h2
  have HNT : Hid (∃ k t n ns s ks, t1 = .node k t n ns s ks) := by cases t1; exact ⟨_, _, _, _, _, _, rfl⟩
  obtain ⟨k1, x1, n1, ns1, s1, ks1, e1⟩ := HNT.out
  have HNT2 : Hid (∃ k t n ns s ks, t2 = .node k t n ns s ks) := by cases t2; exact ⟨_, _, _, _, _, _, rfl⟩
  obtain ⟨k2, x2, n2, ns2, s2, ks2, e2⟩ := HNT2.out
  have q1 : ∀ c, t1.cells c = #[.int .i64 k1, .string x1, .int .i64 n1, .slice c.na ns1.length c.nc, .bool s1, .slice c.ka ks1.length c.kc] := fun c => by rw [e1]; rfl
  have q2 : ∀ c, t2.cells c = #[.int .i64 k2, .string x2, .int .i64 n2, .slice c.na ns2.length c.nc, .bool s2, .slice c.ka ks2.length c.kc] := fun c => by rw [e2]; rfl
  have C3' : szT t1 ≤ 1048576 → ∀ W, Below w.heap.size w W → Calls Try.prog 12 #[.agg (t1.cells c1)] W fun e w' => ∃ c' fp', e = .returned (.agg (t1.cells c')) ∧ NIn w' W.heap.size t1 c' fp' ∧ Below W.heap.size W w' ∧ fp'.Nodup ∧ (∀ x ∈ fp', W.heap.size ≤ x ∧ Plain w' x) := C3
  have C4' : szT t2 ≤ 1048576 → ∀ W, Below w.heap.size w W → Calls Try.prog 12 #[.agg (t2.cells c2)] W fun e w' => ∃ c' fp', e = .returned (.agg (t2.cells c')) ∧ NIn w' W.heap.size t2 c' fp' ∧ Below W.heap.size W w' ∧ fp'.Nodup ∧ (∀ x ∈ fp', W.heap.size ≤ x ∧ Plain w' x) := C4
  simp only [q1, q2] at C1 C2 C3' C4' C5 C6 C7 C8 ⊢
  clear hok1 hok2 hin1 hin2 e1 e2 HNT HNT2 q1 q2 C3 C4
  have HSZ : Hid (∀ z, szT t1 = z → z ≤ 1048576 → szT t1 ≤ 1048576) := fun z e h => by omega
  obtain ⟨z1, ez1⟩ : ∃ z, szT t1 = z := ⟨_, rfl⟩
  obtain ⟨z2, ez2⟩ : ∃ z, szT t2 = z := ⟨_, rfl⟩
  have HZ : Hid (szT t1 = z1 ∧ szT t2 = z2) := ⟨ez1, ez2⟩
  rw [ez1] at C1 C3' C5 C7
  rw [ez2] at C2 C4' C5 C8
  clear ez1 ez2 HSZ
  generalize same t1 t2 = R at *
  have H1 : Hid _ := C1
  have H2 : Hid _ := C2
  have H3 : Hid _ := C3'
  have H4 : Hid _ := C4'
  have H5 : Hid _ := C5
  have H6 : Hid _ := C6
  have H7 : Hid _ := C7
  have H8 : Hid _ := C8
  clear C1 C2 C3' C4' C5 C6 C7 C8
  go_enter Try.func5, Try.ntmps5
  go_wp2_with fail
  generalize hW0 : (w.alloc _).alloc _ = W0
  have hP : W0.heap[w.heap.size]? = some (.cells #[.int .i64 k1, .string x1, .int .i64 n1, .slice c1.na ns1.length c1.nc, .bool s1, .slice c1.ka ks1.length c1.kc] 27 (0, 0)) := by
    rw [← hW0, Below.heap_alloc _ _ _ (by simp)]; exact heap_alloc_new _ _
  have hQ : W0.heap[w.heap.size + 1]? = some (.cells #[.int .i64 k2, .string x2, .int .i64 n2, .slice c2.na ns2.length c2.nc, .bool s2, .slice c2.ka ks2.length c2.kc] 27 (0, 0)) := by
    rw [← hW0, ← World.size_alloc w]; exact heap_alloc_new _ _
  have hBW : Below w.heap.size w W0 := by rw [← hW0]; exact HB0.out _ _
  have hS0 : W0.heap.size = w.heap.size + 1 + 1 := by rw [← hW0]; simp
  clear hW0 HB0
  refine (H1.out W0 hBW).mono ?_
  rintro e W1 ⟨rfl, hb1⟩
  have hb1w : Below w.heap.size w W1 := hBW.trans (hb1.mono (by omega))
  by_cases hz1 : z1 ≤ 1048576
  case neg =>
    rw [subR_gt (by omega)]
    go_wp2_with fail
    go_ret
    exact ⟨rfl, hb1w⟩
  rw [subR_le hz1]
  have hz1' : ¬ (((1048576 - z1 : Nat) : Int)) < 0 := by omega
  have hP1 := (hb1.block _ (by omega)).trans hP
  have hQ1 := (hb1.block _ (by omega)).trans hQ
  have hS1 : w.heap.size + 1 + 1 ≤ W1.heap.size := by have := hb1.size; omega
  clear hP hQ hBW hS0 hb1
  obtain ⟨⟨p0, p1, p2, p3, p4, p5⟩, -⟩ := six_of hP1
  obtain ⟨⟨q0, q1, q2, q3, q4, q5⟩, -⟩ := six_of hQ1
  go_wp2_with fail
  refine (H2.out W1 hb1w (1048576 - z1) (by omega)).mono ?_
  rintro e W2 ⟨rfl, hb2⟩
  have hb2w : Below w.heap.size w W2 := hb1w.trans (hb2.mono (by omega))
  by_cases hz2 : z2 ≤ 1048576 - z1
  case neg =>
    rw [subR_gt (by omega)]
    go_wp2_with fail
    go_ret
    exact ⟨rfl, hb2w⟩
  rw [subR_le hz2]
  have hz2' : ¬ (((1048576 - z1 - z2 : Nat) : Int)) < 0 := by omega
  replace hP1 := (hb2.block _ (by omega)).trans hP1
  replace hQ1 := (hb2.block _ (by omega)).trans hQ1
  have hS2 : w.heap.size + 1 + 1 ≤ W2.heap.size := by have := hb2.size; omega
  clear hb1w hb2 hS1 p0 p1 p2 p3 p4 p5 q0 q1 q2 q3 q4 q5
  obtain ⟨⟨p0, p1, p2, p3, p4, p5⟩, -⟩ := six_of hP1
  obtain ⟨⟨q0, q1, q2, q3, q4, q5⟩, -⟩ := six_of hQ1
  go_wp2_with fail
  have hz2s : z2 ≤ 1048576 := by omega
  have hbd : ∀ nn, Below W2.heap.size W2 (W2.drewN nn) := fun nn => drewN_below (Below.refl _ _) nn
  have HBD : Hid (∀ nn, Below W2.heap.size W2 (W2.drewN nn)) := hbd
  clear hbd
  go_cut [6] from 10 to 44 (fun v wx => v = .bool R ∧ Below W2.heap.size W2 wx)
  case first =>
    go_region_with (first
      | (go_at_call_of 12 k1; refine (H3.out hz1 _ ?_).mono ?_; exact hb2w.drew; rintro e WA ⟨cA, fA, rfl, hA, hbA, hnA, hpA⟩; have hbA2 : Below W2.heap.size W2 WA := (Below.refl W2.heap.size W2).drew.trans hbA; obtain ⟨⟨r0, r1, r2, r3, r4, r5⟩, -⟩ := six_of ((hbA2.block (w.heap.size + 1) (by omega)).trans hQ1))
      | (go_at_call_of 12 k2; refine (H4.out hz2s _ ?_).mono ?_; exact (hb2w.trans (hbA2.mono (by omega))); rintro e WB ⟨cB, fB, rfl, hB, hbB, hnB, hpB⟩)
      | (go_at_call 11; refine (H5.out hz1 hz2s WB cA cB _ _ _ _ (hA.under hbB) hB).mono ?_; rintro e WC ⟨rfl, hbC⟩))
    all_goals
      go_wp2_with fail
      go_meet
      have hbB2 : Below W2.heap.size W2 WB := hbA2.trans (hbB.mono hbA2.size)
      exact ⟨rfl, hbB2.trans (hbC.mono hbB2.size)⟩
  case rest =>
    obtain ⟨rfl, hb3⟩ := hcut
    replace hP1 := (hb3.block _ (by omega)).trans hP1
    replace hQ1 := (hb3.block _ (by omega)).trans hQ1
    have hb3w : Below w.heap.size w wc := hb2w.trans (hb3.mono (by omega))
    have hS3 : w.heap.size + 1 + 1 ≤ wc.heap.size := by have := hb3.size; omega
    clear HBD hb3 hb2w hS2 p0 p1 p2 p3 p4 p5 q0 q1 q2 q3 q4 q5
    obtain ⟨⟨p0, p1, p2, p3, p4, p5⟩, -⟩ := six_of hP1
    go_wp2_with fail
    refine (H3.out hz1 wc hb3w).mono ?_
    rintro e W4 ⟨cA, fA, rfl, hA, hb4, hnA, hpA⟩
    replace hP1 := (hb4.block _ (by omega)).trans hP1
    replace hQ1 := (hb4.block _ (by omega)).trans hQ1
    have hb4w : Below w.heap.size w W4 := hb3w.trans (hb4.mono (by omega))
    have hS4 : w.heap.size + 1 + 1 ≤ W4.heap.size := by have := hb4.size; omega
    have HA : Hid (NIn W4 wc.heap.size t1 cA fA ∧ fA.Nodup ∧ ∀ x ∈ fA, wc.heap.size ≤ x ∧ Plain W4 x) := ⟨hA, hnA, hpA⟩
    obtain ⟨q0, q1, q2, q3, q4, q5⟩ := six_al hQ1
    clear hA hnA hpA p0 p1 p2 p3 p4 p5 hb4 hb3w hS3
    go_wp2_with fail
    have hb5 : Below W4.heap.size W4 (W4.alloc (.cells #[.int .i64 k1, .string x1, .int .i64 n1, .slice cA.na ns1.length cA.nc, .bool s1, .slice cA.ka ks1.length cA.kc] 32)) := (Below.refl _ _).alloc (Nat.le_refl _) _
    have hX5 : (W4.alloc (.cells #[.int .i64 k1, .string x1, .int .i64 n1, .slice cA.na ns1.length cA.nc, .bool s1, .slice cA.ka ks1.length cA.kc] 32)).heap[W4.heap.size]? = some (.cells #[.int .i64 k1, .string x1, .int .i64 n1, .slice cA.na ns1.length cA.nc, .bool s1, .slice cA.ka ks1.length cA.kc] 32 (0, 0)) := heap_alloc_new _ _
    have hs5 : (W4.alloc (.cells #[.int .i64 k1, .string x1, .int .i64 n1, .slice cA.na ns1.length cA.nc, .bool s1, .slice cA.ka ks1.length cA.kc] 32)).heap.size = W4.heap.size + 1 := World.size_alloc _ _
    generalize W4.alloc (.cells #[.int .i64 k1, .string x1, .int .i64 n1, .slice cA.na ns1.length cA.nc, .bool s1, .slice cA.ka ks1.length cA.kc] 32) = W5 at *
    replace hP1 := (hb5.block _ (by omega)).trans hP1
    replace hQ1 := (hb5.block _ (by omega)).trans hQ1
    have hb5w : Below w.heap.size w W5 := hb4w.trans (hb5.mono (by omega))
    clear q0 q1 q2 q3 q4 q5
    refine (H4.out hz2s W5 hb5w).mono ?_
    rintro e W6 ⟨cB, fB, rfl, hB, hb6, hnB, hpB⟩
    replace hP1 := (hb6.block _ (by omega)).trans hP1
    replace hQ1 := (hb6.block _ (by omega)).trans hQ1
    replace hX5 := (hb6.block _ (by omega)).trans hX5
    have hb6w : Below w.heap.size w W6 := hb5w.trans (hb6.mono (by omega))
    have hS6 : W4.heap.size + 1 ≤ W6.heap.size := by have := hb6.size; omega
    have HAB : Hid (NIn W6 0 t1 cA fA ∧ NIn W6 0 t2 cB fB ∧ Good W6 W5.heap.size [⟨t1, t2, cA, cB, fA, fB⟩] []) := by
      obtain ⟨a1, a2, a3⟩ := HA.out
      have i1 := ((a1.under hb5).under hb6).base (Nat.zero_le _)
      have i2 := hB.base (Nat.zero_le _)
      obtain ⟨e1, e2⟩ := HZ.out
      refine ⟨i1, i2, ⟨fun x hx => ?_, fun x hx => ?_, fun x hx => ?_, fun x hx => ?_, ?_, fun x hx => ?_, fun x hx => ?_⟩⟩
      · obtain rfl := List.mem_singleton.1 hx; exact i1
      · obtain rfl := List.mem_singleton.1 hx; exact i2
      · obtain rfl := List.mem_singleton.1 hx; show szT t1 ≤ _; omega
      · obtain rfl := List.mem_singleton.1 hx; show szT t2 ≤ _; omega
      · simpa using a2
      · have hx' : x ∈ fA := by simpa using hx
        exact ⟨((a3 x hx').2.under hb5).under hb6, by have := (a3 x hx').2.lt; omega⟩
      · have hx' : x ∈ fB := by simpa using hx
        exact ⟨(hpB x hx').2, (hpB x hx').1⟩
    clear hB hnB hpB HA hb5 hb6 hb5w hb4w hs5
    generalize W5.heap.size = CC at *
    generalize W4.heap.size = X0 at *
    obtain ⟨p0, p1, p2, p3, p4, p5⟩ := six_al hX5
    go_wp2_with fail
    have hb7 : Below W6.heap.size W6 (W6.alloc (.cells #[.int .i64 k2, .string x2, .int .i64 n2, .slice cB.na ns2.length cB.nc, .bool s2, .slice cB.ka ks2.length cB.kc] 32)) := (Below.refl _ _).alloc (Nat.le_refl _) _
    have hY7 : (W6.alloc (.cells #[.int .i64 k2, .string x2, .int .i64 n2, .slice cB.na ns2.length cB.nc, .bool s2, .slice cB.ka ks2.length cB.kc] 32)).heap[W6.heap.size]? = some (.cells #[.int .i64 k2, .string x2, .int .i64 n2, .slice cB.na ns2.length cB.nc, .bool s2, .slice cB.ka ks2.length cB.kc] 32 (0, 0)) := heap_alloc_new _ _
    have hs7 : (W6.alloc (.cells #[.int .i64 k2, .string x2, .int .i64 n2, .slice cB.na ns2.length cB.nc, .bool s2, .slice cB.ka ks2.length cB.kc] 32)).heap.size = W6.heap.size + 1 := World.size_alloc _ _
    generalize W6.alloc (.cells #[.int .i64 k2, .string x2, .int .i64 n2, .slice cB.na ns2.length cB.nc, .bool s2, .slice cB.ka ks2.length cB.kc] 32) = W7 at *
    clear p0 p1 p2 p3 p4 p5
    have hG7 : Good W7 CC [⟨t1, t2, cA, cB, fA, fB⟩] [] := by
      obtain ⟨_, _, g⟩ := HAB.out
      exact ⟨fun x hx => (g.in1 x hx).under hb7, fun x hx => (g.in2 x hx).under hb7, g.sz1, g.sz2, g.nodup, fun x hx => ⟨(g.pl1 x hx).1.under hb7, (g.pl1 x hx).2⟩, fun x hx => ⟨(g.pl2 x hx).1.under hb7, (g.pl2 x hx).2⟩⟩
    refine (H6.out W7 cA cB fA fB CC hG7).mono ?_
    rintro e W8 ⟨rfl, hb8⟩
    have hb78 : Below W6.heap.size W6 W8 := hb7.trans (hb8.mono hb7.size)
    replace hP1 := (hb78.block _ (by omega)).trans hP1
    replace hQ1 := (hb78.block _ (by omega)).trans hQ1
    replace hX5 := (hb78.block _ (by omega)).trans hX5
    replace hY7 := (hb8.block _ (by omega)).trans hY7
    have hb8w : Below w.heap.size w W8 := hb6w.trans (hb78.mono (by omega))
    have hS8 : W6.heap.size + 1 ≤ W8.heap.size := by have := hb8.size; omega
    have HAB8 : Hid (NIn W8 0 t1 cA fA ∧ NIn W8 0 t2 cB fB) := ⟨HAB.out.1.under hb78, HAB.out.2.1.under hb78⟩
    clear hG7 HAB hb7 hb8 hb78 hb6w hs7
    generalize W6.heap.size = X1 at *
    obtain ⟨⟨p0, p1, p2, p3, p4, p5⟩, -⟩ := six_of hP1
    obtain ⟨⟨r0, r1, r2, r3, r4, r5⟩, -⟩ := six_of hX5
    go_wp2_with fail
    go_cut [39] from 10 to 44 (fun v wx => v = .bool false ∧ Below W8.heap.size W8 wx)
    case first =>
      go_region_with (first
        | (go_at_call 12; refine (H3.out hz1 _ ?_).mono ?_; exact hb8w.drew; rintro e WA ⟨cC, fC, rfl, hC, hbC, hnC, hpC⟩; have hbC2 : Below W8.heap.size W8 WA := (Below.refl W8.heap.size W8).drew.trans hbC; obtain ⟨⟨a0, a1, a2, a3, a4, a5⟩, -⟩ := six_of ((hbC2.block X0 (by omega)).trans hX5))
        | (go_at_call 14; refine (H7.out hz1 WA cA cC _ _ _ _ (HAB8.out.1.under hbC2) hC).mono ?_; rintro e WC ⟨rfl, hbD⟩))
      all_goals
        go_wp2_with fail
        go_meet
        exact ⟨rfl, hbC2.trans (hbD.mono hbC2.size)⟩
    case rest =>
      obtain ⟨rfl, hb9⟩ := hcut
      replace hQ1 := (hb9.block _ (by omega)).trans hQ1
      replace hY7 := (hb9.block _ (by omega)).trans hY7
      have hb9w : Below w.heap.size w wc := hb8w.trans (hb9.mono (by omega))
      have hS9 : X1 + 1 ≤ wc.heap.size := by have := hb9.size; omega
      have HB9 : Hid (NIn wc 0 t2 cB fB) := HAB8.out.2.under hb9
      clear hP1 hX5 HAB8 hb9 hb8w hS8 p0 p1 p2 p3 p4 p5 r0 r1 r2 r3 r4 r5
      obtain ⟨⟨p0, p1, p2, p3, p4, p5⟩, -⟩ := six_of hQ1
      obtain ⟨⟨r0, r1, r2, r3, r4, r5⟩, -⟩ := six_of hY7
      go_wp2_with fail
      go_cut [44] from 10 to 44 (fun v wx => v = .bool false ∧ Below wc.heap.size wc wx)
      case first =>
        go_region_with (first
          | (go_at_call 12; refine (H4.out hz2s _ ?_).mono ?_; exact hb9w.drew; rintro e WA ⟨cC, fC, rfl, hC, hbC, hnC, hpC⟩; have hbC2 : Below wc.heap.size wc WA := (Below.refl wc.heap.size wc).drew.trans hbC; obtain ⟨⟨a0, a1, a2, a3, a4, a5⟩, -⟩ := six_of ((hbC2.block X1 (by omega)).trans hY7))
          | (go_at_call 14; refine (H8.out hz2s WA cB cC _ _ _ _ (HB9.out.under hbC2) hC).mono ?_; rintro e WC ⟨rfl, hbD⟩))
        all_goals
          go_wp2_with fail
          go_meet
          exact ⟨rfl, hbC2.trans (hbD.mono hbC2.size)⟩
      case rest =>
        obtain ⟨rfl, hb10⟩ := hcut
        have hbf : Below w.heap.size w _ := hb9w.trans (hb10.mono (by omega))
        clear p0 p1 p2 p3 p4 p5 r0 r1 r2 r3 r4 r5
        go_wp2_with fail
        go_ret
        exact ⟨rfl, hbf⟩

end Go.Proofs.Ytpabbadngpjgoaa

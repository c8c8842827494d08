/-
  The walks of slices.Equal and impl's fieldsSame.
-/
import Derived.Test.YtpabbadngpjgoaaTreeSpec
namespace Go.Proofs.Ytpabbadngpjgoaa
open Go.RowKit

theorem drewN_below {B : Nat} {w wr : World} (h : Below B w wr) (n : Nat) : Below B w (wr.drewN n) := ⟨h.os, h.tape, h.output, h.size, h.block⟩

set_option maxHeartbeats 1000000 in
theorem iEqual (a1 a2 : Option Addr) (cap1 cap2 B1 B2 : Nat) (ns ns' : List ByteArray) (w : World) (hn : ns.length ≤ 1048576) (h1 : StrsIn w B1 a1 ns) (h2 : StrsIn w B2 a2 ns') :
    Calls Try.prog 31 #[.slice a1 ns.length cap1, .slice a2 ns'.length cap2] w fun e w' => e = .returned (.bool (decide (ns = ns'))) ∧ Below w.heap.size w w' := by
  by_cases hl : ns.length = ns'.length
  · have HL : Hid (ns.length = ns'.length) := hl
    obtain ⟨R, hR⟩ : ∃ R, R = decide (ns = ns') := ⟨_, rfl⟩
    have HR : Hid (R = decide (ns = ns')) := hR
    rw [← hR]
    clear hR
    rw [← hl]
    clear hl
    by_cases hnil : ns.length = 0
    · have hRt : Hid (R = true) := by
        show _ = _
        rw [HR.out]
        obtain rfl := List.length_eq_zero_iff.1 hnil
        have := HL.out
        obtain rfl := List.length_eq_zero_iff.1 (this.symm)
        simp
      rw [hnil]
      clear h1 h2 hn HR
      go_enter Try.func31, Try.ntmps31
      go_wp2
      refine wp_loop_rounds 1 ?_
      rw [rounds_succ]
      go_wp2
      go_ret
      exact ⟨retB hRt.out.symm, Below.refl _ _⟩
    obtain ⟨b1, o1, rfl, _, hc1⟩ := h1.resolve_left (fun e => by simp [e] at hnil)
    obtain ⟨b2, o2, rfl, _, hc2⟩ := h2.resolve_left (fun e => by have := HL.out; simp [e] at this; simp [this] at hnil)
    have HC : Hid ((∀ i (h : i < ns.length), w.cell? ⟨b1, o1 + i, none⟩ = some (.string ns[i])) ∧ (∀ i (h : i < ns'.length), w.cell? ⟨b2, o2 + i, none⟩ = some (.string ns'[i]))) := ⟨hc1, hc2⟩
    clear hc1 hc2 h1 h2 hnil
    go_enter Try.func31, Try.ntmps31
    go_wp2
    go_loopw [13] (fun vi wr => ∃ i : Nat, i ≤ ns.length ∧ vi = .int .i64 i ∧ Below w.heap.size w wr ∧ Hid (∀ j (h : j < ns.length) (h' : j < ns'.length), j < i → ns[j] = ns'[j])) (fun vi _ => ns.length - (intOf vi).toNat)
    case atStart => exact ⟨0, Nat.zero_le _, rfl, Below.refl _ _, fun j _ _ h => by omega⟩
    case round =>
      obtain ⟨i, hi, rfl, hb, HE⟩ := hrel
      by_cases hlt : i < ns.length
      · have hlt2 : i < ns'.length := by have := HL.out; omega
        have c1 := HC.out.1 i hlt
        have c2 := HC.out.2 i hlt2
        replace c1 := (hb.cell (World.block_lt_of_cell? w _ c1)).trans c1
        replace c2 := (hb.cell (World.block_lt_of_cell? w _ c2)).trans c2
        have hlt' : (i : Int) < (ns.length : Int) := by omega
        by_cases hx : ns[i] = ns'[i]
        · have HE2 : Hid (∀ j (h : j < ns.length) (h' : j < ns'.length), j < i + 1 → ns[j] = ns'[j]) := by
            intro j h h' hj
            by_cases e : j = i
            · subst e; exact hx
            · exact HE.out j h h' (by omega)
          rw [← hx] at c2
          generalize ns[i] = x at *
          clear hx HE
          go_wp2_with fail
          go_quiet (fail)
          have hb' := drewN_below hb nq
          generalize wr.drewN nq = W1 at *
          go_wp2_with fail
          exact ⟨⟨i + 1, by omega, by go_num, hb', HE2⟩, by simp [intOf]; omega⟩
        · have hRf : Hid (R = false) := by
            show _ = _
            rw [HR.out, decide_eq_false (strs_ne i hlt hlt2 hx)]
          obtain ⟨y1, y2, y3⟩ := text_ne hx
          generalize ns[i] = x at *
          generalize ns'[i] = y at *
          clear hx HE
          go_wp2_with fail
          go_quiet (fail)
          have hb' := drewN_below hb nq
          generalize wr.drewN nq = W1 at *
          go_wp2_with fail
          go_ret
          exact ⟨retB hRf.out.symm, hb'⟩
      · have hRt : Hid (R = true) := by
          show _ = _
          rw [HR.out]
          exact decide_eq_true (List.ext_getElem HL.out fun j h h' => HE.out j h h' (by omega))
        have hlt' : ¬ (i : Int) < (ns.length : Int) := by omega
        go_wp2_with fail
        go_ret
        exact ⟨retB hRt.out.symm, hb⟩
  · have e : decide (ns = ns') = false := decide_eq_false fun e => hl (by rw [e])
    rw [e]
    have h6 : ((ns.length : Int) != (ns'.length : Int)) = true := by simp; omega
    have h6' : ((ns.length : Int) == (ns'.length : Int)) = false := by simp; omega
    clear h1 h2 hl e
    go_enter Try.func31, Try.ntmps31
    go_wp2
    go_ret
    exact ⟨rfl, Below.refl _ _⟩

def headB : PT → PT → Bool
  | .node k t n ns s ks, .node k' t' n' ns' s' ks' => decide (k = k') && decide (t = t') && decide (n = n') && decide (s = s') && decide (ns = ns') && decide (ks.length = ks'.length)

set_option maxHeartbeats 2000000 in
theorem iHead (t1 t2 : PT) (B1 B2 : Nat) (c1 c2 : NC) (fp1 fp2 : List Nat) (w : World) (hz : szT t1 ≤ 1048576) (hin1 : NIn w B1 t1 c1 fp1) (hin2 : NIn w B2 t2 c2 fp2) :
    Calls Try.prog 28 #[.agg (t1.cells c1), .agg (t2.cells c2)] w fun e w' => e = .returned (.bool (headB t1 t2)) ∧ Below w.heap.size w w' := by
  cases hin1 with
  | mk k t n ns s ks _ b1 o1 cs1 fs1 hns1 _ _ _ =>
  cases hin2 with
  | mk k' t' n' ns' s' ks' _ b2 o2 cs2 fs2 hns2 _ _ _ =>
  rw [szT] at hz
  have C1 := fun W (h : Below w.heap.size w W) => iEqual c1.na c2.na c1.nc c2.nc B1 B2 ns ns' W (by omega) (hns1.keep (.of_below h B1)) (hns2.keep (.of_below h B2))
  have H1 : Hid (∀ W, Below w.heap.size w W → Calls Try.prog 31 #[.slice c1.na ns.length c1.nc, .slice c2.na ns'.length c2.nc] W fun e w' => e = .returned (.bool (decide (ns = ns'))) ∧ Below W.heap.size W w') := C1
  clear C1 hns1 hns2 hz
  have hb0 : ∀ o1 o2, Below w.heap.size w ((w.alloc o1).alloc o2) := fun o1 o2 => ((Below.refl _ _).alloc (Nat.le_refl _) o1).alloc (by simp) o2
  have HB0 : Hid (∀ o1 o2, Below w.heap.size w ((w.alloc o1).alloc o2)) := hb0
  clear hb0
  unfold headB PT.cells nodeC
  dsimp only
  generalize c1.na = na1 at *
  generalize c2.na = na2 at *
  generalize c1.ka = ka1 at *
  generalize c2.ka = ka2 at *
  generalize c1.nc = nc1 at *
  generalize c2.nc = nc2 at *
  generalize c1.kc = kc1 at *
  generalize c2.kc = kc2 at *
  generalize decide (ns = ns') = nsB at *
  by_cases h1 : k = k'
  · subst h1
    by_cases h2 : t = t'
    · subst h2
      by_cases h3 : n = n'
      · subst h3
        by_cases h4 : s = s'
        · subst h4
          simp only [decide_true, Bool.true_and]
          go_enter Try.func28, Try.ntmps28
          go_wp2_with fail
          refine (H1.out _ (HB0.out _ _)).mono ?_
          rintro e w1 ⟨rfl, hb1⟩
          obtain ⟨hcc, hff⟩ := oldC hb1
          have hz1 : w.heap.size + 1 < w1.heap.size := by have := hb1.size; simp at this; omega
          have hbw : Below w.heap.size w w1 := (HB0.out _ _).trans (hb1.mono (HB0.out _ _).size)
          cases nsB with
          | false =>
            go_wp2_with fail
            go_ret
            exact ⟨rfl, hbw⟩
          | true =>
            by_cases hk : ks.length = ks'.length
            · have e : (true && decide (ks.length = ks'.length)) = true := by simp [hk]
              have h6 : ((ks.length : Int) == (ks'.length : Int)) = true := by simp [hk]
              have HE : Hid ((true && decide (ks.length = ks'.length)) = true) := e
              clear e
              go_wp2_with fail
              go_ret
              exact ⟨retB (by simp [hk]), hbw⟩
            · have h6 : ((ks.length : Int) == (ks'.length : Int)) = false := by simp; omega
              have HK : Hid (¬ ks.length = ks'.length) := hk
              clear hk
              go_wp2_with fail
              go_ret
              exact ⟨retB (by have := HK.out; simp [this]), hbw⟩
        · have h6 : (s == s') = false := by simp [h4]
          have e : (decide (k = k) && decide (t = t) && decide (n = n) && decide (s = s') && nsB && decide (ks.length = ks'.length)) = false := by simp [h4]
          rw [e]
          clear e
          go_enter Try.func28, Try.ntmps28
          go_wp2_with fail
          go_ret
          exact ⟨rfl, HB0.out _ _⟩
      · have h6' : (n == n') = false := by simp [h3]
        have e : (decide (k = k) && decide (t = t) && decide (n = n') && decide (s = s') && nsB && decide (ks.length = ks'.length)) = false := by simp [h3]
        rw [e]
        clear e
        go_enter Try.func28, Try.ntmps28
        go_wp2_with fail
        go_ret
        exact ⟨rfl, HB0.out _ _⟩
    · obtain ⟨h6, h6', h6''⟩ := text_ne h2
      have e : (decide (k = k) && decide (t = t') && decide (n = n') && decide (s = s') && nsB && decide (ks.length = ks'.length)) = false := by simp [h2]
      rw [e]
      clear e
      go_enter Try.func28, Try.ntmps28
      go_wp2_with fail
      go_ret
      exact ⟨rfl, HB0.out _ _⟩
  · have h6' : (k == k') = false := by simp [h1]
    have e : (decide (k = k') && decide (t = t') && decide (n = n') && decide (s = s') && nsB && decide (ks.length = ks'.length)) = false := by simp [h1]
    rw [e]
    clear e
    go_enter Try.func28, Try.ntmps28
    go_wp2_with fail
    go_ret
    exact ⟨rfl, HB0.out _ _⟩

end Go.Proofs.Ytpabbadngpjgoaa

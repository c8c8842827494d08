/-
  The walks of the law's functions that hold a tree against its copy: eqStringS, eqNodeS, eqNode.
-/
import Derived.Test.YtbkloddaooblfacTreeToN
import Derived.Deep.QuietTactic
import Derived.BigQuiet
import Derived.BigRegion
import Derived.Deep.RegionWith
namespace Go.Proofs.Ytbkloddaooblfac
open Go.RowKit

set_option maxHeartbeats 1000000 in
theorem lEqStr (a1 a2 : Option Addr) (cap1 cap2 B1 B2 : Nat) (ns : List ByteArray) (w : World) (hn : ns.length ≤ 1048576) (h1 : StrsIn w B1 a1 ns) (h2 : StrsIn w B2 a2 ns) :
    Calls Try.prog 27 #[.slice a1 ns.length cap1, .slice a2 ns.length cap2] w fun e w' => e = .returned (.bool true) ∧ Below w.heap.size w w' := by
  rcases h1 with rfl | ⟨b1, o1, rfl, _, hc1⟩
  · clear h2 hn
    simp only [List.length_nil]
    go_enter Try.func27, Try.ntmps27
    go_wp2
    refine wp_loop_rounds 1 ?_
    rw [rounds_succ]
    go_wp2
    go_ret
    exact ⟨rfl, Below.refl _ _⟩
  rcases h2 with rfl | ⟨b2, o2, rfl, _, hc2⟩
  · clear hc1 hn
    simp only [List.length_nil]
    go_enter Try.func27, Try.ntmps27
    go_wp2
    refine wp_loop_rounds 1 ?_
    rw [rounds_succ]
    go_wp2
    go_ret
    exact ⟨rfl, Below.refl _ _⟩
  have HC : Hid ((∀ i (h : i < ns.length), w.cell? ⟨b1, o1 + i, none⟩ = some (.string ns[i])) ∧ (∀ i (h : i < ns.length), w.cell? ⟨b2, o2 + i, none⟩ = some (.string ns[i]))) := ⟨hc1, hc2⟩
  clear hc1 hc2
  go_enter Try.func27, Try.ntmps27
  go_wp2
  go_loopw [5] (fun vi wr => ∃ i : Nat, i ≤ ns.length ∧ vi = .int .i64 i ∧ Below w.heap.size w wr) (fun vi _ => ns.length - (intOf vi).toNat)
  case atStart => exact ⟨0, Nat.zero_le _, rfl, Below.refl _ _⟩
  case round =>
    obtain ⟨i, hi, rfl, hb⟩ := hrel
    by_cases hlt : i < ns.length
    · have c1 := HC.out.1 i hlt
      have c2 := HC.out.2 i hlt
      replace c1 := (hb.cell (World.block_lt_of_cell? w _ c1)).trans c1
      replace c2 := (hb.cell (World.block_lt_of_cell? w _ c2)).trans c2
      have hlt' : (i : Int) < (ns.length : Int) := by omega
      go_wp2_with fail
      go_quiet (fail)
      have hb' : Below w.heap.size w (wr.drewN nq) := by exact ⟨hb.os, hb.tape, hb.output, hb.size, hb.block⟩
      generalize wr.drewN nq = W1 at *
      go_wp2_with fail
      exact ⟨⟨i + 1, by omega, by go_num, hb'⟩, by simp [intOf]; omega⟩
    · go_wp2_with fail
      go_ret
      exact ⟨rfl, hb⟩

def EqOK (t : PT) : Prop := ∀ (B1 B2 : Nat) (c1 c2 : NC) (fp1 fp2 : List Nat) (w : World), szT t ≤ 1048576 → NIn w B1 t c1 fp1 → NIn w B2 t c2 fp2 →
  Calls Try.prog 34 #[.agg (t.cells c1), .agg (t.cells c2)] w fun e w' => e = .returned (.bool true) ∧ Below w.heap.size w w'

set_option maxHeartbeats 2000000 in
theorem lEqS (a1 a2 : Option Addr) (cap1 cap2 B1 B2 b1 b2 o1 o2 : Nat) (ks : List PT) (cs1 cs2 : Nat → NC) (fs1 fs2 : Nat → List Nat) (w : World) (hn : ks.length ≤ 1048576) (hz : ∀ x ∈ ks, szT x ≤ 1048576)
    (ha1 : ks = [] ∨ (a1 = some ⟨b1, o1, none⟩ ∧ B1 ≤ b1)) (hc1 : ∀ i (h : i < ks.length), SixAt w b1 (o1 + i * 6) ks[i] (cs1 i)) (hk1 : ∀ i (h : i < ks.length), NIn w B1 ks[i] (cs1 i) (fs1 i))
    (ha2 : ks = [] ∨ (a2 = some ⟨b2, o2, none⟩ ∧ B2 ≤ b2)) (hc2 : ∀ i (h : i < ks.length), SixAt w b2 (o2 + i * 6) ks[i] (cs2 i)) (hk2 : ∀ i (h : i < ks.length), NIn w B2 ks[i] (cs2 i) (fs2 i)) (ih : ∀ x ∈ ks, EqOK x) :
    Calls Try.prog 63 #[.slice a1 ks.length cap1, .slice a2 ks.length cap2] w fun e w' => e = .returned (.bool true) ∧ Below w.heap.size w w' := by
  by_cases hnil : ks = []
  · subst hnil
    clear hn hz ha1 hc1 hk1 ha2 hc2 hk2 ih
    simp only [List.length_nil]
    go_enter Try.func63, Try.ntmps63
    go_wp2
    refine wp_loop_rounds 1 ?_
    rw [rounds_succ]
    go_wp2
    go_ret
    exact ⟨rfl, Below.refl _ _⟩
  obtain ⟨rfl, hB1⟩ := ha1.resolve_left hnil
  obtain ⟨rfl, hB2⟩ := ha2.resolve_left hnil
  have HC : Hid (((∀ i (h : i < ks.length), SixAt w b1 (o1 + i * 6) ks[i] (cs1 i)) ∧ (∀ i (h : i < ks.length), NIn w B1 ks[i] (cs1 i) (fs1 i))) ∧ ((∀ i (h : i < ks.length), SixAt w b2 (o2 + i * 6) ks[i] (cs2 i)) ∧ (∀ i (h : i < ks.length), NIn w B2 ks[i] (cs2 i) (fs2 i))) ∧ (∀ x ∈ ks, szT x ≤ 1048576) ∧ (∀ x ∈ ks, EqOK x)) := ⟨⟨hc1, hk1⟩, ⟨hc2, hk2⟩, hz, ih⟩
  clear hc1 hk1 hc2 hk2 hz ih ha1 ha2 hnil
  go_enter Try.func63, Try.ntmps63
  go_wp2
  go_loopw [5] (fun vi wr => ∃ i : Nat, i ≤ ks.length ∧ vi = .int .i64 i ∧ Below w.heap.size w wr) (fun vi _ => ks.length - (intOf vi).toNat)
  case atStart => exact ⟨0, Nat.zero_le _, rfl, Below.refl _ _⟩
  case round =>
    obtain ⟨i, hi, rfl, hb⟩ := hrel
    by_cases hlt : i < ks.length
    · obtain ⟨⟨HC1, HC2⟩, ⟨HC3, HC4⟩, HC5, HC6⟩ := HC.out
      have h6 := (HC1 i hlt).keep hB1 (.of_below hb B1)
      have g6 := (HC3 i hlt).keep hB2 (.of_below hb B2)
      have hcall : ∀ nn, Calls Try.prog 34 #[.agg (ks[i].cells (cs1 i)), .agg (ks[i].cells (cs2 i))] (wr.drewN nn) fun e w' => e = .returned (.bool true) ∧ Below (wr.drewN nn).heap.size (wr.drewN nn) w' := fun nn =>
        have hb' : Below w.heap.size w (wr.drewN nn) := ⟨hb.os, hb.tape, hb.output, hb.size, hb.block⟩
        HC6 ks[i] (List.getElem_mem hlt) B1 B2 (cs1 i) (cs2 i) (fs1 i) (fs2 i) _ (HC5 _ (List.getElem_mem hlt)) ((HC2 i hlt).under hb') ((HC4 i hlt).under hb')
      have hlt' : (i : Int) < (ks.length : Int) := by omega
      clear HC1 HC2 HC3 HC4 HC5 HC6
      generalize cs1 i = c1 at *
      generalize cs2 i = c2 at *
      generalize ks[i] = x at *
      cases x with
      | node k t n ns s ks' =>
      obtain ⟨h60, h61, h62, h63, h64, h65⟩ := h6
      obtain ⟨g60, g61, g62, g63, g64, g65⟩ := g6
      have HCALL : Hid (∀ nn, Calls Try.prog 34 #[.agg #[.int .i64 k, .string t, .int .i64 n, .slice c1.na ns.length c1.nc, .bool s, .slice c1.ka ks'.length c1.kc], .agg #[.int .i64 k, .string t, .int .i64 n, .slice c2.na ns.length c2.nc, .bool s, .slice c2.ka ks'.length c2.kc]] (wr.drewN nn) fun e w' => e = .returned (.bool true) ∧ Below (wr.drewN nn).heap.size (wr.drewN nn) w') := hcall
      clear hcall
      have hsz := hb.size
      go_wp2_with fail
      go_region_with (go_at_call 34; refine (HCALL.out 1).mono ?_; rintro e w' ⟨rfl, hb'⟩)
      all_goals
        go_wp2_with fail
      all_goals
        exact ⟨⟨i + 1, by omega, by go_num, Below.trans (show Below w.heap.size w (wr.drewN 1) from ⟨hb.os, hb.tape, hb.output, hb.size, hb.block⟩) (hb'.mono hsz)⟩, by simp [intOf]; omega⟩
    · go_wp2_with fail
      go_ret
      exact ⟨rfl, hb⟩

set_option maxHeartbeats 2000000 in
theorem lEq (t : PT) : EqOK t := by
  induction t using PT.ind with
  | h k t n ns s ks ih =>
  intro B1 B2 c1 c2 fp1 fp2 w hz hin1 hin2
  rw [szT] at hz
  have hmem : ∀ x ∈ ks, szT x ≤ 1048576 := fun x hx => by
    obtain ⟨i, hi, rfl⟩ := List.getElem_of_mem hx
    have := szT_mem ks i hi; omega
  cases hin1 with
  | mk _ _ _ _ _ _ _ b1 o1 cs1 fs1 hns1 ha1 hc1 hk1 =>
  cases hin2 with
  | mk _ _ _ _ _ _ _ b2 o2 cs2 fs2 hns2 ha2 hc2 hk2 =>
  have C1 := fun W (h : Below w.heap.size w W) => lEqStr c1.na c2.na c1.nc c2.nc B1 B2 ns W (by omega) (hns1.keep (.of_below h B1)) (hns2.keep (.of_below h B2))
  have C2 := fun W (h : Below w.heap.size w W) => lEqS c1.ka c2.ka c1.kc c2.kc B1 B2 b1 b2 o1 o2 ks cs1 cs2 fs1 fs2 W (by omega) hmem
    ha1 (fun i hi => by
      rcases ha1 with rfl | ⟨_, hB⟩
      · simp at hi
      · exact (hc1 i hi).keep hB (.of_below h B1)) (fun i hi => (hk1 i hi).under h)
    ha2 (fun i hi => by
      rcases ha2 with rfl | ⟨_, hB⟩
      · simp at hi
      · exact (hc2 i hi).keep hB (.of_below h B2)) (fun i hi => (hk2 i hi).under h) ih
  have H1 : Hid (∀ W, Below w.heap.size w W → Calls Try.prog 27 #[.slice c1.na ns.length c1.nc, .slice c2.na ns.length c2.nc] W fun e w' => e = .returned (.bool true) ∧ Below W.heap.size W w') := C1
  have H2 : Hid (∀ W, Below w.heap.size w W → Calls Try.prog 63 #[.slice c1.ka ks.length c1.kc, .slice c2.ka ks.length c2.kc] W fun e w' => e = .returned (.bool true) ∧ Below W.heap.size W w') := C2
  clear C1 C2 hns1 ha1 hc1 hk1 hns2 ha2 hc2 hk2 ih hmem hz cs1 fs1 cs2 fs2
  unfold PT.cells nodeC
  dsimp only
  generalize c1.na = na1 at *
  generalize c1.nc = nc1 at *
  generalize c1.ka = ka1 at *
  generalize c1.kc = kc1 at *
  generalize c2.na = na2 at *
  generalize c2.nc = nc2 at *
  generalize c2.ka = ka2 at *
  generalize c2.kc = kc2 at *
  have hb0 : ∀ o1 o2, Below w.heap.size w ((w.alloc o1).alloc o2) := fun o1 o2 => ((Below.refl _ _).alloc (Nat.le_refl _) o1).alloc (by simp) o2
  have HB0 : Hid (∀ o1 o2, Below w.heap.size w ((w.alloc o1).alloc o2)) := hb0
  clear hb0
  go_enter Try.func34, Try.ntmps34
  go_wp2_with fail
  refine (H1.out _ (HB0.out _ _)).mono ?_
  rintro e w1 ⟨rfl, hb1⟩
  obtain ⟨hcc, hff⟩ := oldC hb1
  have hz1 : w.heap.size + 1 < w1.heap.size := by have := hb1.size; simp at this; omega
  have hbw : Below w.heap.size w w1 := (HB0.out _ _).trans (hb1.mono (HB0.out _ _).size)
  have HBW : Hid (Below w.heap.size w w1) := hbw
  clear hbw
  go_wp2_with fail
  refine (H2.out _ HBW.out).mono ?_
  rintro e w2 ⟨rfl, hb2⟩
  have hbf := HBW.out.trans (hb2.mono HBW.out.size)
  go_wp2_with fail
  go_ret
  exact ⟨rfl, hbf⟩

end Go.Proofs.Ytbkloddaooblfac

/-
  The walks of the law's functions that hold a heap against another one of the same: eqProp, eqPropS, eqObject, eqObjectS, eqHeap.
-/
import Derived.Test.YtlmlmdmechhalaaHpL
import Derived.Test.YtlmlmdmechhalaaValEq
import Derived.Deep.QuietTactic
import Derived.BigQuiet
import Derived.BigRegion
import Derived.Deep.RegionWith
namespace Go.Proofs.Ytlmlmdmechhalaa
open Go.RowKit
open Hp (PP OO propC)

set_option maxHeartbeats 2000000 in
theorem lEqProp (p : PP) (w : World) : Calls Try.prog 92 #[.agg (propC p), .agg (propC p)] w fun e w' => e = .returned (.bool true) ∧ Below w.heap.size w w' := by
  obtain ⟨key, ⟨k, n, t⟩, hd, fx⟩ := p
  have C1 := fun (W : World) => lEqValue ⟨k, n, t⟩ W
  have H1 : Hid (∀ W, Calls Try.prog 28 #[.agg #[.int .i64 k, .int .i64 n, .string t], .agg #[.int .i64 k, .int .i64 n, .string t]] W fun e w' => e = .returned (.bool true) ∧ Below W.heap.size W w') := C1
  clear C1
  unfold propC
  dsimp only
  have HB0 : Hid (∀ o1 o2, Below w.heap.size w ((w.alloc o1).alloc o2)) := fun o1 o2 => ((Below.refl _ _).alloc (Nat.le_refl _) o1).alloc (by simp) o2
  go_enter Try.func92, Try.ntmps92
  go_wp2_with fail
  refine (H1.out _).mono ?_
  rintro e w1 ⟨rfl, hb1⟩
  have hbw : Below w.heap.size w w1 := (HB0.out _ _).trans (hb1.mono (HB0.out _ _).size)
  obtain ⟨hcc, hff⟩ := oldC hb1
  have hz1 : w.heap.size + 1 < w1.heap.size := by have := hb1.size; simp at this; omega
  have HBW : Hid (Below w.heap.size w w1) := hbw
  clear hbw
  go_wp2_with fail
  go_ret
  exact ⟨rfl, HBW.out⟩

set_option maxHeartbeats 2000000 in
theorem lEqPropS (a1 a2 : Option Addr) (cap1 cap2 B1 B2 : Nat) (ps : List PP) (w : World) (hn : ps.length ≤ 9223372036854775807) (h1 : PsIn w B1 a1 ps) (h2 : PsIn w B2 a2 ps) :
    Calls Try.prog 87 #[.slice a1 ps.length cap1, .slice a2 ps.length cap2] w fun e w' => e = .returned (.bool true) ∧ Below w.heap.size w w' := by
  by_cases hnil : ps = []
  · subst hnil
    clear h1 h2 hn
    simp only [List.length_nil]
    go_enter Try.func87, Try.ntmps87
    go_wp2
    refine wp_loop_rounds 1 ?_
    rw [rounds_succ]
    go_wp2
    go_ret
    exact ⟨rfl, Below.refl _ _⟩
  obtain ⟨b1, o1, rfl, hB1, hc1⟩ := h1.resolve_left hnil
  obtain ⟨b2, o2, rfl, hB2, hc2⟩ := h2.resolve_left hnil
  have HC : Hid ((∀ i (h : i < ps.length), PAt w b1 (o1 + i * 6) ps[i]) ∧ (∀ i (h : i < ps.length), PAt w b2 (o2 + i * 6) ps[i])) := ⟨hc1, hc2⟩
  clear hc1 hc2 hnil h1 h2
  go_enter Try.func87, Try.ntmps87
  go_wp2
  go_loopw [5] (fun vi wr => ∃ i : Nat, i ≤ ps.length ∧ vi = .int .i64 i ∧ Below w.heap.size w wr) (fun vi _ => ps.length - (intOf vi).toNat)
  case atStart => exact ⟨0, Nat.zero_le _, rfl, Below.refl _ _⟩
  case round =>
    obtain ⟨i, hi, rfl, hb⟩ := hrel
    by_cases hlt : i < ps.length
    · have h6 := (HC.out.1 i hlt).keep hB1 (.of_below hb B1)
      have g6 := (HC.out.2 i hlt).keep hB2 (.of_below hb B2)
      have hcall : ∀ nn, Calls Try.prog 92 #[.agg (propC ps[i]), .agg (propC ps[i])] (wr.drewN nn) fun e w' => e = .returned (.bool true) ∧ Below (wr.drewN nn).heap.size (wr.drewN nn) w' := fun nn => lEqProp ps[i] _
      have hlt' : (i : Int) < (ps.length : Int) := by omega
      generalize ps[i] = x at *
      obtain ⟨key, ⟨k, n, t⟩, hd, fx⟩ := x
      obtain ⟨h60, h61, h62, h63, h64, h65⟩ := h6
      obtain ⟨g60, g61, g62, g63, g64, g65⟩ := g6
      dsimp only at h60 h61 h62 h63 h64 h65 g60 g61 g62 g63 g64 g65
      have HCALL : Hid (∀ nn, Calls Try.prog 92 #[.agg #[.string key, .int .i64 k, .int .i64 n, .string t, .bool hd, .bool fx], .agg #[.string key, .int .i64 k, .int .i64 n, .string t, .bool hd, .bool fx]] (wr.drewN nn) fun e w' => e = .returned (.bool true) ∧ Below (wr.drewN nn).heap.size (wr.drewN nn) w') := hcall
      clear hcall
      have hsz := hb.size
      go_wp2_with fail
      go_region_with (go_at_call 92; refine (HCALL.out 1).mono ?_; rintro e w' ⟨rfl, hb'⟩)
      all_goals
        go_wp2_with fail
      all_goals
        exact ⟨⟨i + 1, by omega, by go_num, Below.trans (show Below w.heap.size w (wr.drewN 1) from ⟨hb.os, hb.tape, hb.output, hb.size, hb.block⟩) (hb'.mono hsz)⟩, by simp [intOf]; omega⟩
    · go_wp2_with fail
      go_ret
      exact ⟨rfl, hb⟩

set_option maxHeartbeats 2000000 in
theorem lEqObject (x : OO) (c1 c2 : OC) (B1 B2 : Nat) (w : World) (hn : x.ps.length ≤ 9223372036854775807) (h1 : PsIn w B1 c1.pa x.ps) (h2 : PsIn w B2 c2.pa x.ps) :
    Calls Try.prog 79 #[.agg (objC x c1), .agg (objC x c2)] w fun e w' => e = .returned (.bool true) ∧ Below w.heap.size w w' := by
  have C1 := fun (W : World) (hW : Below w.heap.size w W) => lEqPropS c1.pa c2.pa c1.pc c2.pc B1 B2 x.ps W hn (h1.under hW) (h2.under hW)
  obtain ⟨cls, pro, ps⟩ := x
  unfold objC
  dsimp only at C1 ⊢
  generalize c1.pa = pa1 at *
  generalize c1.pc = pc1 at *
  generalize c2.pa = pa2 at *
  generalize c2.pc = pc2 at *
  have H1 : Hid (∀ W, Below w.heap.size w W → Calls Try.prog 87 #[.slice pa1 ps.length pc1, .slice pa2 ps.length pc2] W fun e w' => e = .returned (.bool true) ∧ Below W.heap.size W w') := C1
  have HB0 : Hid (∀ o1 o2, Below w.heap.size w ((w.alloc o1).alloc o2)) := fun o1 o2 => ((Below.refl _ _).alloc (Nat.le_refl _) o1).alloc (by simp) o2
  clear C1 h1 h2 hn
  go_enter Try.func79, Try.ntmps79
  go_wp2_with fail
  refine (H1.out _ (HB0.out _ _)).mono ?_
  rintro e w1 ⟨rfl, hb1⟩
  have hbw : Below w.heap.size w w1 := (HB0.out _ _).trans (hb1.mono (HB0.out _ _).size)
  go_wp2_with fail
  go_ret
  exact ⟨rfl, hbw⟩

set_option maxHeartbeats 2000000 in
theorem lEqObjectS (a1 a2 : Option Addr) (cap1 cap2 B1 B2 : Nat) (h : List OO) (cs1 cs2 : Nat → OC) (w : World) (hok : OkH h) (h1 : HIn w B1 a1 h cs1) (h2 : HIn w B2 a2 h cs2) :
    Calls Try.prog 60 #[.slice a1 h.length cap1, .slice a2 h.length cap2] w fun e w' => e = .returned (.bool true) ∧ Below w.heap.size w w' := by
  obtain ⟨hn, hok⟩ := hok
  by_cases hnil : h = []
  · subst hnil
    clear h1 h2 hn hok
    simp only [List.length_nil]
    go_enter Try.func60, Try.ntmps60
    go_wp2
    refine wp_loop_rounds 1 ?_
    rw [rounds_succ]
    go_wp2
    go_ret
    exact ⟨rfl, Below.refl _ _⟩
  obtain ⟨k1, p1⟩ := h1
  obtain ⟨k2, p2⟩ := h2
  obtain ⟨b1, o1, rfl, hB1, hc1⟩ := k1.resolve_left hnil
  obtain ⟨b2, o2, rfl, hB2, hc2⟩ := k2.resolve_left hnil
  have HC : Hid (((∀ i (hi : i < h.length), OAt w b1 (o1 + i * 3) h[i] (cs1 i)) ∧ (∀ i (hi : i < h.length), PsIn w B1 (cs1 i).pa h[i].ps)) ∧ ((∀ i (hi : i < h.length), OAt w b2 (o2 + i * 3) h[i] (cs2 i)) ∧ (∀ i (hi : i < h.length), PsIn w B2 (cs2 i).pa h[i].ps)) ∧ (∀ o ∈ h, OkO o)) := ⟨⟨hc1, p1⟩, ⟨hc2, p2⟩, hok⟩
  clear hc1 hc2 hnil k1 k2 p1 p2 hok
  go_enter Try.func60, Try.ntmps60
  go_wp2
  go_loopw [5] (fun vi wr => ∃ i : Nat, i ≤ h.length ∧ vi = .int .i64 i ∧ Below w.heap.size w wr) (fun vi _ => h.length - (intOf vi).toNat)
  case atStart => exact ⟨0, Nat.zero_le _, rfl, Below.refl _ _⟩
  case round =>
    obtain ⟨i, hi, rfl, hb⟩ := hrel
    by_cases hlt : i < h.length
    · obtain ⟨⟨HC1, HC2⟩, ⟨HC3, HC4⟩, HC5⟩ := HC.out
      have h6 := (HC1 i hlt).keep hB1 (.of_below hb B1)
      have g6 := (HC3 i hlt).keep hB2 (.of_below hb B2)
      have hcall : ∀ nn, Calls Try.prog 79 #[.agg (objC h[i] (cs1 i)), .agg (objC h[i] (cs2 i))] (wr.drewN nn) fun e w' => e = .returned (.bool true) ∧ Below (wr.drewN nn).heap.size (wr.drewN nn) w' := fun nn =>
        have hb' : Below w.heap.size w (wr.drewN nn) := ⟨hb.os, hb.tape, hb.output, hb.size, hb.block⟩
        lEqObject h[i] (cs1 i) (cs2 i) B1 B2 _ (HC5 _ (List.getElem_mem hlt)).1 ((HC2 i hlt).under hb') ((HC4 i hlt).under hb')
      have hlt' : (i : Int) < (h.length : Int) := by omega
      clear HC1 HC2 HC3 HC4 HC5
      generalize cs1 i = c1 at *
      generalize cs2 i = c2 at *
      generalize h[i] = x at *
      obtain ⟨cls, pro, ps⟩ := x
      obtain ⟨h60, h61, h62⟩ := h6
      obtain ⟨g60, g61, g62⟩ := g6
      dsimp only at h60 h61 h62 g60 g61 g62
      have HCALL : Hid (∀ nn, Calls Try.prog 79 #[.agg #[.int .i64 cls, .int .i64 pro, .slice c1.pa ps.length c1.pc], .agg #[.int .i64 cls, .int .i64 pro, .slice c2.pa ps.length c2.pc]] (wr.drewN nn) fun e w' => e = .returned (.bool true) ∧ Below (wr.drewN nn).heap.size (wr.drewN nn) w') := hcall
      clear hcall
      have hsz := hb.size
      go_wp2_with fail
      go_region_with (go_at_call 79; refine (HCALL.out 1).mono ?_; rintro e w' ⟨rfl, hb'⟩)
      all_goals
        go_wp2_with fail
      all_goals
        exact ⟨⟨i + 1, by omega, by go_num, Below.trans (show Below w.heap.size w (wr.drewN 1) from ⟨hb.os, hb.tape, hb.output, hb.size, hb.block⟩) (hb'.mono hsz)⟩, by simp [intOf]; omega⟩
    · go_wp2_with fail
      go_ret
      exact ⟨rfl, hb⟩

set_option maxHeartbeats 2000000 in
theorem lEqHeap (a1 a2 : Option Addr) (cap1 cap2 B1 B2 : Nat) (h : List OO) (cs1 cs2 : Nat → OC) (w : World) (hok : OkH h) (h1 : HIn w B1 a1 h cs1) (h2 : HIn w B2 a2 h cs2) :
    Calls Try.prog 27 #[.agg #[.slice a1 h.length cap1], .agg #[.slice a2 h.length cap2]] w fun e w' => e = .returned (.bool true) ∧ Below w.heap.size w w' := by
  have C1 := fun (W : World) (hW : Below w.heap.size w W) => lEqObjectS a1 a2 cap1 cap2 B1 B2 h cs1 cs2 W hok (h1.under hW) (h2.under hW)
  have H1 : Hid (∀ W, Below w.heap.size w W → Calls Try.prog 60 #[.slice a1 h.length cap1, .slice a2 h.length cap2] W fun e w' => e = .returned (.bool true) ∧ Below W.heap.size W w') := C1
  have HB0 : Hid (∀ o1 o2, Below w.heap.size w ((w.alloc o1).alloc o2)) := fun o1 o2 => ((Below.refl _ _).alloc (Nat.le_refl _) o1).alloc (by simp) o2
  clear C1 h1 h2 hok
  generalize h.length = len at *
  go_enter Try.func27, Try.ntmps27
  go_wp2_with fail
  refine (H1.out _ (HB0.out _ _)).mono ?_
  rintro e w1 ⟨rfl, hb1⟩
  have hbw : Below w.heap.size w w1 := (HB0.out _ _).trans (hb1.mono (HB0.out _ _).size)
  go_wp2_with fail
  go_ret
  exact ⟨rfl, hbw⟩

end Go.Proofs.Ytlmlmdmechhalaa

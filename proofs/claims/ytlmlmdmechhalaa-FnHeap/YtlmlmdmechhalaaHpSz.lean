/-
  The walks of the law's functions that measure a heap: szProp, szPropS, szObject, szObjectS, szHeap.
-/
import Derived.Test.YtlmlmdmechhalaaHpL
import Derived.Test.YtlmlmdmechhalaaValLaw
namespace Go.Proofs.Ytlmlmdmechhalaa
open Go.RowKit
open Hp (PP OO propC)

set_option maxHeartbeats 1000000 in
theorem lSzProp (p : PP) (l : Nat) (w : World) (hl : l ≤ 1048576) (hp : OkP p) :
    Calls Try.prog 90 #[.agg (propC p), .int .i64 l] w fun e w' => e = .returned (.int .i64 (subR l (szP p))) ∧ Below w.heap.size w w' := by
  obtain ⟨key, ⟨k, n, t⟩, hd, fx⟩ := p
  obtain ⟨hk, ht⟩ := hp
  dsimp only at hk ht
  have C1 := fun (W : World) (m : Nat) (hm : m ≤ 1048576) => lSzValue ⟨k, n, t⟩ m W hm ht
  have H1 : Hid (∀ (W : World) (m : Nat), m ≤ 1048576 → Calls Try.prog 29 #[.agg #[.int .i64 k, .int .i64 n, .string t], .int .i64 m] W fun e w' => e = .returned (.int .i64 (subR m t.size)) ∧ Below W.heap.size W w') := C1
  clear C1
  unfold propC szP
  dsimp only
  have HB0 : Hid (∀ o, Below w.heap.size w (w.alloc o)) := fun o => (Below.refl _ _).alloc (Nat.le_refl _) o
  by_cases h1 : l < key.size
  · have h1' : ((l : Int) - (key.size : Int)) < 0 := by omega
    go_enter Try.func90, Try.ntmps90
    go_wp2_with fail
    go_ret
    exact ⟨retT (subR_gt (by omega)).symm, HB0.out _⟩
  have h1' : ¬ ((l : Int) - (key.size : Int)) < 0 := by omega
  have e1 : ((l : Int) - (key.size : Int)) = ((l - key.size : Nat) : Int) := by omega
  go_enter Try.func90, Try.ntmps90
  go_wp2_with fail
  refine (H1.out _ _ (by omega)).mono ?_
  rintro e w1 ⟨rfl, hb1⟩
  have hbf := (HB0.out _).trans (hb1.mono (HB0.out _).size)
  by_cases h2 : l - key.size < t.size
  · rw [subR_gt h2]
    go_wp2_with fail
    go_ret
    exact ⟨retT (subR_gt (by omega)).symm, hbf⟩
  rw [subR_le (by omega)]
  have h2' : ¬ (((l - key.size - t.size : Nat) : Int)) < 0 := by omega
  go_wp2_with fail
  go_ret
  exact ⟨retT (by rw [subR_le (by omega)]; omega), hbf⟩

set_option maxHeartbeats 1000000 in
theorem lSzPropS (a : Option Addr) (cap l B : Nat) (ps : List PP) (w : World) (hl : l ≤ 1048576) (hok : ps.length ≤ 9223372036854775807 ∧ ∀ p ∈ ps, OkP p) (h : PsIn w B a ps) :
    Calls Try.prog 85 #[.slice a ps.length cap, .int .i64 l] w fun e w' => e = .returned (.int .i64 (subR l (szPs ps))) ∧ Below w.heap.size w w' := by
  obtain ⟨hn, hok⟩ := hok
  unfold szPs
  by_cases hbig : l < ps.length
  · rw [subR_gt (by omega)]
    have h1 : ((l : Int) - (ps.length : Int)) < 0 := by omega
    clear h hok
    go_enter Try.func85, Try.ntmps85
    go_wp2
    go_ret
    exact ⟨rfl, Below.refl _ _⟩
  have h1 : ¬ ((l : Int) - (ps.length : Int)) < 0 := by omega
  rcases h with rfl | ⟨b, o, rfl, hB, hc⟩
  · clear hok hn hbig
    rw [subR_le (by simp)]
    simp only [List.length_nil] at h1 ⊢
    have e : ((l - (0 + (List.map szP []).sum) : Nat) : Int) = (l : Int) := by simp
    rw [e]
    go_enter Try.func85, Try.ntmps85
    go_wp2
    refine wp_loop_rounds 1 ?_
    rw [rounds_succ]
    go_wp2
    go_ret
    exact ⟨rfl, Below.refl _ _⟩
  · have HC : Hid ((∀ i (h : i < ps.length), PAt w b (o + i * 6) ps[i]) ∧ (∀ p ∈ ps, OkP p)) := ⟨hc, hok⟩
    clear hc hok
    go_enter Try.func85, Try.ntmps85
    go_wp2
    go_loopw [1, 5] (fun vl vi wr => ∃ i m : Nat, i ≤ ps.length ∧ vi = .int .i64 i ∧ vl = .int .i64 m ∧ m ≤ l ∧ Below w.heap.size w wr ∧ Hid (m + ps.length + ((ps.take i).map szP).sum = l)) (fun _ vi _ => ps.length - (intOf vi).toNat)
    case atStart => exact ⟨0, l - ps.length, Nat.zero_le _, rfl, congrArg (Value.int .i64) (by omega), by omega, Below.refl _ _, by show _ = _; simp; omega⟩
    case round =>
      obtain ⟨i, m, hi, rfl, rfl, hm, hb, HM⟩ := hrel
      by_cases hlt : i < ps.length
      · obtain ⟨HC1, HC2⟩ := HC.out
        have h6 := (HC1 i hlt).keep hB (.of_below hb B)
        have hcall := lSzProp ps[i] m wr (by omega) (HC2 _ (List.getElem_mem hlt))
        have HX : Hid (((ps.take (i + 1)).map szP).sum = ((ps.take i).map szP).sum + szP ps[i] ∧ ((ps.take (i + 1)).map szP).sum ≤ (ps.map szP).sum) := ⟨sum_take szP ps i hlt, sum_le szP ps (i + 1)⟩
        have hlt' : (i : Int) < (ps.length : Int) := by omega
        generalize szP ps[i] = z at *
        generalize ps[i] = x at *
        obtain ⟨key, ⟨k, n, t⟩, hd, fx⟩ := x
        obtain ⟨h60, h61, h62, h63, h64, h65⟩ := h6
        dsimp only at h60 h61 h62 h63 h64 h65
        have HCALL : Hid (Calls Try.prog 90 #[.agg #[.string key, .int .i64 k, .int .i64 n, .string t, .bool hd, .bool fx], .int .i64 m] wr fun e w' => e = .returned (.int .i64 (subR m z)) ∧ Below wr.heap.size wr w') := hcall
        clear hcall HC1 HC2
        go_wp2_with fail
        refine HCALL.out.mono ?_
        rintro e w1 ⟨rfl, hb1⟩
        have hb2 := hb.trans (hb1.mono hb.size)
        by_cases hz : z ≤ m
        · rw [subR_le hz]
          have h2 : ¬ (((m - z : Nat) : Int)) < 0 := by omega
          go_wp2_with fail
          refine ⟨⟨i + 1, m - z, by omega, by go_num, rfl, by omega, hb2, ?_⟩, by simp [intOf]; omega⟩
          have := HM.out; have := HX.out.1
          show _ = _; omega
        · rw [subR_gt (by omega)]
          go_wp2_with fail
          go_ret
          exact ⟨retT (subR_gt (by have := HM.out; have := HX.out; omega)).symm, hb2⟩
      · have hil : i = ps.length := by omega
        subst hil
        have HM2 := HM.out
        rw [List.take_length] at HM2
        have e : Hid ((m : Int) = subR l (ps.length + (ps.map szP).sum)) := by show _ = _; rw [subR_le (by omega)]; omega
        clear HM HM2
        go_wp2_with fail
        go_ret
        exact ⟨retT e.out, hb⟩

set_option maxHeartbeats 1000000 in
theorem lSzObject (x : OO) (c : OC) (l B : Nat) (w : World) (hl : l ≤ 1048576) (hok : OkO x) (h : PsIn w B c.pa x.ps) :
    Calls Try.prog 77 #[.agg (objC x c), .int .i64 l] w fun e w' => e = .returned (.int .i64 (subR l (szPs x.ps))) ∧ Below w.heap.size w w' := by
  have C1 := fun (W : World) (hW : Below w.heap.size w W) => lSzPropS c.pa c.pc l B x.ps W hl hok (h.under hW)
  obtain ⟨cls, pro, ps⟩ := x
  unfold objC
  dsimp only at C1 ⊢
  generalize c.pa = pa at *
  generalize c.pc = pc at *
  generalize szPs ps = z at *
  have H1 : Hid (∀ (W : World), Below w.heap.size w W → Calls Try.prog 85 #[.slice pa ps.length pc, .int .i64 l] W fun e w' => e = .returned (.int .i64 (subR l z)) ∧ Below W.heap.size W w') := C1
  have HB0 : Hid (∀ o, Below w.heap.size w (w.alloc o)) := fun o => (Below.refl _ _).alloc (Nat.le_refl _) o
  clear C1 h hok
  go_enter Try.func77, Try.ntmps77
  go_wp2_with fail
  refine (H1.out _ (HB0.out _)).mono ?_
  rintro e w1 ⟨rfl, hb1⟩
  have hbf := (HB0.out _).trans (hb1.mono (HB0.out _).size)
  by_cases h2 : l < z
  · rw [subR_gt h2]
    go_wp2_with fail
    go_ret
    exact ⟨retT (subR_gt h2).symm, hbf⟩
  rw [subR_le (by omega)]
  have h2' : ¬ (((l - z : Nat) : Int)) < 0 := by omega
  go_wp2_with fail
  go_ret
  exact ⟨retT (subR_le (by omega)).symm, hbf⟩

set_option maxHeartbeats 1000000 in
theorem lSzObjectS (a : Option Addr) (cap l B : Nat) (h : List OO) (cs : Nat → OC) (w : World) (hl : l ≤ 1048576) (hok : OkH h) (hh : HIn w B a h cs) :
    Calls Try.prog 58 #[.slice a h.length cap, .int .i64 l] w fun e w' => e = .returned (.int .i64 (subR l (szH h))) ∧ Below w.heap.size w w' := by
  obtain ⟨hn, hok⟩ := hok
  obtain ⟨hos, hps⟩ := hh
  unfold szH
  by_cases hbig : l < h.length
  · rw [subR_gt (by omega)]
    have h1 : ((l : Int) - (h.length : Int)) < 0 := by omega
    clear hos hps hok
    go_enter Try.func58, Try.ntmps58
    go_wp2
    go_ret
    exact ⟨rfl, Below.refl _ _⟩
  have h1 : ¬ ((l : Int) - (h.length : Int)) < 0 := by omega
  rcases hos with rfl | ⟨b, o, rfl, hB, hc⟩
  · clear hok hn hbig hps
    rw [subR_le (by simp)]
    simp only [List.length_nil] at h1 ⊢
    have e : ((l - (0 + (List.map (fun o : OO => szPs o.ps) []).sum) : Nat) : Int) = (l : Int) := by simp
    rw [e]
    go_enter Try.func58, Try.ntmps58
    go_wp2
    refine wp_loop_rounds 1 ?_
    rw [rounds_succ]
    go_wp2
    go_ret
    exact ⟨rfl, Below.refl _ _⟩
  · have HC : Hid ((∀ i (hi : i < h.length), OAt w b (o + i * 3) h[i] (cs i)) ∧ (∀ i (hi : i < h.length), PsIn w B (cs i).pa h[i].ps) ∧ (∀ x ∈ h, OkO x)) := ⟨hc, hps, hok⟩
    clear hc hps hok
    go_enter Try.func58, Try.ntmps58
    go_wp2
    go_loopw [1, 5] (fun vl vi wr => ∃ i m : Nat, i ≤ h.length ∧ vi = .int .i64 i ∧ vl = .int .i64 m ∧ m ≤ l ∧ Below w.heap.size w wr ∧ Hid (m + h.length + ((h.take i).map fun o => szPs o.ps).sum = l)) (fun _ vi _ => h.length - (intOf vi).toNat)
    case atStart => exact ⟨0, l - h.length, Nat.zero_le _, rfl, congrArg (Value.int .i64) (by omega), by omega, Below.refl _ _, by show _ = _; simp; omega⟩
    case round =>
      obtain ⟨i, m, hi, rfl, rfl, hm, hb, HM⟩ := hrel
      by_cases hlt : i < h.length
      · obtain ⟨HC1, HC2, HC3⟩ := HC.out
        have h3 := (HC1 i hlt).keep hB (.of_below hb B)
        have hcall := lSzObject h[i] (cs i) m B wr (by omega) (HC3 _ (List.getElem_mem hlt)) ((HC2 i hlt).under hb)
        have HX : Hid (((h.take (i + 1)).map fun o => szPs o.ps).sum = ((h.take i).map fun o => szPs o.ps).sum + szPs h[i].ps ∧ ((h.take (i + 1)).map fun o => szPs o.ps).sum ≤ (h.map fun o => szPs o.ps).sum) := ⟨sum_take (fun o : OO => szPs o.ps) h i hlt, sum_le (fun o : OO => szPs o.ps) h (i + 1)⟩
        have hlt' : (i : Int) < (h.length : Int) := by omega
        generalize szPs h[i].ps = z at *
        generalize h[i] = x at *
        generalize cs i = c at *
        obtain ⟨cls, pro, ps⟩ := x
        obtain ⟨h60, h61, h62⟩ := h3
        dsimp only at h60 h61 h62
        have HCALL : Hid (Calls Try.prog 77 #[.agg #[.int .i64 cls, .int .i64 pro, .slice c.pa ps.length c.pc], .int .i64 m] wr fun e w' => e = .returned (.int .i64 (subR m z)) ∧ Below wr.heap.size wr w') := hcall
        clear hcall HC1 HC2 HC3
        go_wp2_with fail
        refine HCALL.out.mono ?_
        rintro e w1 ⟨rfl, hb1⟩
        have hb2 := hb.trans (hb1.mono hb.size)
        by_cases hz : z ≤ m
        · rw [subR_le hz]
          have h2 : ¬ (((m - z : Nat) : Int)) < 0 := by omega
          go_wp2_with fail
          refine ⟨⟨i + 1, m - z, by omega, by go_num, rfl, by omega, hb2, ?_⟩, by simp [intOf]; omega⟩
          have := HM.out; have := HX.out.1
          show _ = _; omega
        · rw [subR_gt (by omega)]
          go_wp2_with fail
          go_ret
          exact ⟨retT (subR_gt (by have := HM.out; have := HX.out; omega)).symm, hb2⟩
      · have hil : i = h.length := by omega
        subst hil
        have HM2 := HM.out
        rw [List.take_length] at HM2
        have e : Hid ((m : Int) = subR l (h.length + (h.map fun o => szPs o.ps).sum)) := by show _ = _; rw [subR_le (by omega)]; omega
        clear HM HM2
        go_wp2_with fail
        go_ret
        exact ⟨retT e.out, hb⟩

set_option maxHeartbeats 1000000 in
theorem lSzHeap (a : Option Addr) (cap l B : Nat) (h : List OO) (cs : Nat → OC) (w : World) (hl : l ≤ 1048576) (hok : OkH h) (hh : HIn w B a h cs) :
    Calls Try.prog 25 #[.agg #[.slice a h.length cap], .int .i64 l] w fun e w' => e = .returned (.int .i64 (subR l (szH h))) ∧ Below w.heap.size w w' := by
  have C1 := fun (W : World) (hW : Below w.heap.size w W) => lSzObjectS a cap l B h cs W hl hok (hh.under hW)
  generalize szH h = z at *
  have H1 : Hid (∀ (W : World), Below w.heap.size w W → Calls Try.prog 58 #[.slice a h.length cap, .int .i64 l] W fun e w' => e = .returned (.int .i64 (subR l z)) ∧ Below W.heap.size W w') := C1
  have HB0 : Hid (∀ o, Below w.heap.size w (w.alloc o)) := fun o => (Below.refl _ _).alloc (Nat.le_refl _) o
  clear C1 hh hok
  generalize h.length = len at *
  go_enter Try.func25, Try.ntmps25
  go_wp2_with fail
  refine (H1.out _ (HB0.out _)).mono ?_
  rintro e w1 ⟨rfl, hb1⟩
  have hbf := (HB0.out _).trans (hb1.mono (HB0.out _).size)
  by_cases h2 : l < z
  · rw [subR_gt h2]
    go_wp2_with fail
    go_ret
    exact ⟨retT (subR_gt h2).symm, hbf⟩
  rw [subR_le (by omega)]
  have h2' : ¬ (((l - z : Nat) : Int)) < 0 := by omega
  go_wp2_with fail
  go_ret
  exact ⟨retT (subR_le (by omega)).symm, hbf⟩

end Go.Proofs.Ytlmlmdmechhalaa

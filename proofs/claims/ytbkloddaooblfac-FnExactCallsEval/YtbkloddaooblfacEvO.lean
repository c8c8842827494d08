/-
  The walks of impl's ownNodes and of what it hands back.
-/
import Derived.Test.YtbkloddaooblfacEvS
import Derived.Test.YtbkloddaooblfacEvT2
namespace Go.Proofs.Ytbkloddaooblfac
open Go.RowKit Go.Shelf

attribute [local go_sem] Oper.semAt_some

set_option maxHeartbeats 1000000 in
theorem iOwn (t : PT) (c : NC) (w : World) :
    Calls Try.prog 61 #[.agg (t.cells c)] w fun e w' => e = .returned (.func (.func 76) #[] #[.pointer (some ⟨w.heap.size, 0, none⟩)]) ∧ w' = w.alloc (.cells (t.cells c) 56) := by
  cases t with
  | node k x n ns s ks =>
  unfold PT.cells nodeC
  dsimp only
  go_enter Try.func61, Try.ntmps61
  go_wp2_with fail
  go_ret
  exact ⟨rfl, rfl⟩

theorem specC_kids {k : Int} (x : ByteArray) (n : Int) (ns : List ByteArray) (s : Bool) (ks : List PT) (h : (fnK k || decide (k = 40)) = true) : specC (.node k x n ns s ks) = callsL ks := by
  unfold specC PT.kind
  rw [h, callsT]
  have h9 : k ≠ 9 := fun e => by subst e; cases h
  rw [evalH_ne h9]; rfl
theorem specC_not {k : Int} (x : ByteArray) (n : Int) (ns : List ByteArray) (s : Bool) (ks : List PT) (h : (fnK k || decide (k = 40)) = false) : specC (.node k x n ns s ks) = false := by
  unfold specC PT.kind
  rw [h]; rfl
theorem range_flat {n i : Nat} (h : i < n) (fs : Nat → List Nat) (hn : ((List.range n).flatMap fs).Nodup) : ((List.range i).flatMap fs ++ fs i).Nodup := by
  obtain ⟨k, rfl⟩ : ∃ k, n = i + 1 + k := ⟨n - (i + 1), by omega⟩
  rw [List.range_add, List.flatMap_append, List.nodup_append] at hn
  have h1 := hn.1
  rwa [List.range_succ, List.flatMap_append, List.flatMap_singleton] at h1

set_option maxHeartbeats 4000000 in
set_option maxRecDepth 100000 in
theorem iOwn1 (l B : Nat) (R Rx : World → Prop) (hY : YOK l B R Rx) (t : PT) (c : NC) (fp : List Nat) (w : World) (Bn : Nat) (hBn : w.heap[Bn]? = some (.cells (t.cells c) 56 (0, 0))) (hR : R w) (hin : NIn w 0 t c fp) (hz : szT t ≤ 1048576) (hnd : fp.Nodup) (hpl : ∀ x ∈ fp, Plain w x) (hB : B ≤ w.heap.size) :
    Calls Try.prog 76 #[.func (.yield l) #[] #[], .pointer (some ⟨Bn, 0, none⟩)] w fun e w' => (∃ v, e = .returned v) ∧ ((specC t = false ∧ R w') ∨ (specC t = true ∧ Rx w')) := by
  have HY : Hid (YOK l B R Rx) := hY
  cases hin with
  | mk k x n ns s ks c b o cs fs hns ha hc hk =>
  rw [szT] at hz
  have hkl : ks.length ≤ 1048576 := by omega
  have HZ : Hid (∀ x ∈ ks, szT x ≤ 1048576) := fun x hx => by
    obtain ⟨i, hi, rfl⟩ := List.getElem_of_mem hx
    have := szT_mem ks i hi; omega
  have HKA : Hid (ks = [] ∨ c.ka = some ⟨b, o, none⟩) := ha.imp id fun h => h.1
  have HKC : Hid ((∀ i (h : i < ks.length), SixAt w b (o + i * 6) ks[i] (cs i)) ∧ (∀ i (h : i < ks.length), NIn w 0 ks[i] (cs i) (fs i))) := ⟨hc, hk⟩
  have HFP : Hid (∀ i, i < ks.length → ((List.range i).flatMap fs ++ fs i).Nodup ∧ ∀ x ∈ (List.range i).flatMap fs ++ fs i, Plain w x) := fun i hi => by
    unfold fpOf at hnd hpl
    rw [if_neg (by omega)] at hnd hpl
    refine ⟨range_flat hi fs (List.nodup_cons.1 hnd).2, fun x hx => hpl x (List.mem_cons_of_mem _ ?_)⟩
    rw [List.mem_flatMap]
    rcases List.mem_append.1 hx with hx | hx
    · obtain ⟨j, hj, hx⟩ := List.mem_flatMap.1 hx
      exact ⟨j, by simp at hj ⊢; omega, hx⟩
    · exact ⟨i, by simp; exact hi, hx⟩
  have HR : Hid (R w) := hR
  obtain ⟨R0, hR0⟩ : ∃ R0, R0 = specC (.node k x n ns s ks) := ⟨_, rfl⟩
  rw [← hR0]
  have HS : Hid (R0 = specC (.node k x n ns s ks)) := hR0
  clear hns ha hc hk hz hnd hpl hY hR hR0
  have HF : Hid (∀ W, Calls Try.prog 77 #[.agg #[.int .i64 k, .string x, .int .i64 n, .slice c.na ns.length c.nc, .bool s, .slice c.ka ks.length c.kc]] W fun e w' => e = .returned (.bool (fnK k)) ∧ Below W.heap.size W w') := fun W => iFn (.node k x n ns s ks) c W
  unfold PT.cells nodeC at hBn
  dsimp only at hBn
  obtain ⟨⟨p0, p1, p2, p3, p4, p5⟩, -⟩ := six_of hBn
  have hmm := @run_makeMap Try.prog
  go_enter Try.func76, Try.ntmps76
  go_upto_region 0 with fail
  go_cut [13] from 6 to 13 (fun v wx => v = .bool (!(fnK k || decide (k = 40))) ∧ Below w.heap.size w wx)
  case first =>
    cases hf : fnK k with
    | true =>
      rw [hf] at HF
      go_wp2_with (go_at_call 77; refine (HF.out _).mono ?_; rintro e w2 ⟨rfl, hb2⟩)
      go_meet
      exact ⟨by rw [hf]; rfl, hb2⟩
    | false =>
      rw [hf] at HF
      by_cases h40 : k = 40
      · subst h40
        go_wp2_with (go_at_call 77; refine (HF.out _).mono ?_; rintro e w2 ⟨rfl, hb2⟩; have p0' := (hb2.cell (World.block_lt_of_cell? w _ p0)).trans p0)
        go_meet
        exact ⟨by rw [hf]; rfl, hb2⟩
      · have e40 : (k != 40) = true := by simp [h40]
        have e40' : (k == 40) = false := by simp [h40]
        go_wp2_with (go_at_call 77; refine (HF.out _).mono ?_; rintro e w2 ⟨rfl, hb2⟩; have p0' := (hb2.cell (World.block_lt_of_cell? w _ p0)).trans p0)
        go_meet
        exact ⟨by rw [hf]; simp [h40], hb2⟩
  case rest =>
    obtain ⟨rfl, hbc⟩ := hcut
    have hR1 := HY.out.keep _ _ HR.out (hbc.mono hB)
    cases ho : (fnK k || decide (k = 40)) with
    | false =>
      have hS0 : Hid (R0 = false) := by show _ = _; rw [HS.out]; exact specC_not x n ns s ks ho
      have HR1 : Hid (R wc) := hR1
      clear hR1
      go_wp2_with fail
      refine bodyPost_ret (results_none rfl _ _ _) rfl ?_
      exact ⟨⟨_, rfl⟩, .inl ⟨hS0.out, HR1.out⟩⟩
    | true =>
      have hS0 : Hid (R0 = callsL ks) := by show _ = _; rw [HS.out]; exact specC_kids x n ns s ks ho
      have hbn := (hbc.block Bn (Array.getElem?_eq_some_iff.1 hBn).1).trans hBn
      have hwc := hbc.size
      clear p0 p1 p2 p3 p4 p5 HS HF
      obtain ⟨⟨p0, p1, p2, p3, p4, p5⟩, -⟩ := six_of hbn
      have hbnl := (Array.getElem?_eq_some_iff.1 hbn).1
      have p5' : ∀ o1 o2, ((wc.alloc o1).alloc o2).cell? ⟨Bn, 5, none⟩ = some (.slice c.ka ks.length c.kc) := fun o1 o2 => ((((Below.refl wc.heap.size wc).alloc (Nat.le_refl _) o1).alloc (by simp) o2).cell hbnl).trans p5
      have HB2 : Hid (∀ o1 o2, Below wc.heap.size wc ((wc.alloc o1).alloc o2)) := fun o1 o2 => ((Below.refl wc.heap.size wc).alloc (Nat.le_refl _) o1).alloc (by simp) o2
      have HR1 : Hid (R wc) := hR1
      clear hR1
      rcases HKA.out with rfl | eka
      · have hS1 : Hid (R0 = false) := by show _ = _; rw [hS0.out]; rfl
        simp only [List.length_nil] at p5 p5'
        go_wp2_with fail
        refine wp_loop_rounds 1 ?_
        rw [rounds_succ]
        go_wp2_with fail
        go_end0
        exact ⟨⟨_, rfl⟩, .inl ⟨hS1.out, HY.out.keep _ _ HR1.out ((HB2.out _ _).mono (by omega))⟩⟩
      rw [eka] at p5 p5'
      clear eka HKA
      go_wp2_with fail
      have hW0 := HB2.out (.map #[] 0) (.cells #[.map (some wc.heap.size)] 119)
      have hM0 : ((wc.alloc (.map #[] 0)).alloc (.cells #[.map (some wc.heap.size)] 119)).heap[wc.heap.size]? = some (.map #[] 0) := by
        rw [Below.heap_alloc _ _ _ (by simp)]; exact World.alloc_heap_new wc _
      have hY0 : ((wc.alloc (.map #[] 0)).alloc (.cells #[.map (some wc.heap.size)] 119)).heap[wc.heap.size + 1]? = some (.cells #[.map (some wc.heap.size)] 119 (0, 0)) := by
        rw [← World.size_alloc wc (.map #[] 0)]; exact World.alloc_heap_new _ _
      have hz0 : ((wc.alloc (.map #[] 0)).alloc (.cells #[.map (some wc.heap.size)] 119)).heap.size = wc.heap.size + 1 + 1 := by simp
      generalize (wc.alloc (.map #[] 0)).alloc (.cells #[.map (some wc.heap.size)] 119) = W0 at *
      have HM0 : Hid (W0.heap[wc.heap.size]? = some (.map #[] 0)) := hM0
      have HW : Hid (Below w.heap.size w W0 ∧ R W0) := ⟨hbc.trans (hW0.mono hwc), HY.out.keep _ _ HR1.out (hW0.mono (by omega))⟩
      have hMB : B ≤ wc.heap.size := by omega
      clear hW0 hM0 HR1 HR p0 p1 p2 p3 p4 p5 p5' HB2 hbn hbnl hBn
      generalize wc.heap.size = M at *
      clear hbc
      go_loopw [19] (fun vi wr => ∃ i : Nat, i ≤ ks.length ∧ vi = .int .i64 i ∧ wr.heap[M + 1]? = some (.cells #[.map (some M)] 119 (0, 0)) ∧ Hid (R wr ∧ KX M W0 wr ∧ (∃ es clock met, wr.heap[M]? = some (.map es clock) ∧ KeysIn es clock met ∧ met.Nodup ∧ ∀ x ∈ met, x ∈ (List.range i).flatMap fs) ∧ ∀ j (h : j < ks.length), j < i → subC ks[j] = false)) (fun vi _ => ks.length - (intOf vi).toNat)
      case atStart => exact ⟨0, Nat.zero_le _, rfl, hY0, HW.out.2, KX.refl _ _, ⟨#[], 0, [], HM0.out, fun x hx => by simp at hx, by simp, by simp⟩, fun j _ h => by omega⟩
      case round =>
        obtain ⟨i, hi, rfl, hway, HI⟩ := hrel
        by_cases hlt : i < ks.length
        · have hlt' : (i : Int) < (ks.length : Int) := by omega
          have hkeep : Keeps 0 w wr := (Keeps.of_below HW.out.1 0).trans (HI.out.2.1.cells HM0.out)
          have h6 := (HKC.out.1 i hlt).keep (Nat.zero_le _) hkeep
          have HNI : Hid (NIn wr 0 ks[i] (cs i) (fs i) ∧ szT ks[i] ≤ 1048576) := ⟨(HKC.out.2 i hlt).keep hkeep, HZ.out _ (List.getElem_mem hlt)⟩
          have HE1 : Hid (subC ks[i] = false → ∀ j (h : j < ks.length), j < i + 1 → subC ks[j] = false) := by
            intro hh j h hj
            by_cases e : j = i
            · subst e; exact hh
            · exact HI.out.2.2.2 j h (by omega)
          have HE2 : Hid (subC ks[i] = true → R0 = true) := fun hh => by
            rw [hS0.out]; exact callsL_at ks i hlt hh
          clear hkeep
          generalize hx : ks[i] = y at *
          clear hx
          generalize hd : cs i = d at *
          clear hd
          cases y with
          | node ky ty ny nsy sy ksy =>
          obtain ⟨h60, h61, h62, h63, h64, h65⟩ := h6
          go_upto_region 5 with fail
          have HI1 : Hid (R (wr.alloc (.cells #[.int .i64 ky, .string ty, .int .i64 ny, .slice d.na nsy.length d.nc, .bool sy, .slice d.ka ksy.length d.kc] 56)) ∧ KX M W0 (wr.alloc (.cells #[.int .i64 ky, .string ty, .int .i64 ny, .slice d.na nsy.length d.nc, .bool sy, .slice d.ka ksy.length d.kc] 56)) ∧ ∃ es clock met, (wr.alloc (.cells #[.int .i64 ky, .string ty, .int .i64 ny, .slice d.na nsy.length d.nc, .bool sy, .slice d.ka ksy.length d.kc] 56)).heap[M]? = some (.map es clock) ∧ KeysIn es clock met ∧ met.Nodup ∧ ∀ x ∈ met, x ∈ (List.range i).flatMap fs) := by
            obtain ⟨q1, q2, ⟨es, clock, met, q3, q4, q5, q6⟩, q7⟩ := HI.out
            have hsz := q2.size
            exact ⟨HY.out.keep _ _ q1 ((Below.refl B wr).alloc (by omega) _), q2.trans (KX.alloc wr _), es, clock, met, (Below.heap_alloc _ _ _ (Array.getElem?_eq_some_iff.1 q3).1).trans q3, q4, q5, q6⟩
          have hX1 : (wr.alloc (.cells #[.int .i64 ky, .string ty, .int .i64 ny, .slice d.na nsy.length d.nc, .bool sy, .slice d.ka ksy.length d.kc] 56)).heap[wr.heap.size]? = some (.cells #[.int .i64 ky, .string ty, .int .i64 ny, .slice d.na nsy.length d.nc, .bool sy, .slice d.ka ksy.length d.kc] 56 (0, 0)) := World.alloc_heap_new wr _
          have hway1 := (Below.heap_alloc wr (.cells #[.int .i64 ky, .string ty, .int .i64 ny, .slice d.na nsy.length d.nc, .bool sy, .slice d.ka ksy.length d.kc] 56) (M + 1) (Array.getElem?_eq_some_iff.1 hway).1).trans hway
          have HN1 : Hid (NIn (wr.alloc (.cells #[.int .i64 ky, .string ty, .int .i64 ny, .slice d.na nsy.length d.nc, .bool sy, .slice d.ka ksy.length d.kc] 56)) 0 (.node ky ty ny nsy sy ksy) d (fs i) ∧ szT (.node ky ty ny nsy sy ksy) ≤ 1048576) := ⟨HNI.out.1.under ((Below.refl _ _).alloc (Nat.le_refl _) _), HNI.out.2⟩
          clear HI HNI hway h60 h61 h62 h63 h64 h65
          generalize wr.alloc (.cells #[.int .i64 ky, .string ty, .int .i64 ny, .slice d.na nsy.length d.nc, .bool sy, .slice d.ka ksy.length d.kc] 56) = W1 at *
          generalize wr.heap.size = X at *
          obtain ⟨⟨p0, p1, p2, p3, p4, p5⟩, -⟩ := six_of hX1
          have hwy : W1.cell? ⟨M + 1, 0, none⟩ = some (.map (some M)) := by simp [World.cell?, hway1]
          by_cases h22 : ky = 22
          · subst h22
            go_upto_region 6 with fail
            obtain ⟨fn, tmps, assign, body, hy, hRd⟩ := HY.out.call 0 (.node 22 ty ny nsy sy ksy) d (fs i) W1 HI1.out.1 HN1.out.2 HN1.out.1
            unfold PT.cells nodeC at hy
            dsimp only at hy
            refine (wpIn_wide (n := 1)).1 ?_
            gi_wp2
            refine hRd.mono ?_
            clear hRd hy p0 p1 p2 p3 p4 p5
            rintro e W3 (⟨rfl, _, hR3, hk3⟩ | ⟨rfl, hev, _, _⟩)
            · have hway3 := hk3.block _ _ hway1 (fun r e => by cases e)
              have HI3 : Hid (R W3 ∧ KX M W0 W3 ∧ (∃ es clock met, W3.heap[M]? = some (.map es clock) ∧ KeysIn es clock met ∧ met.Nodup ∧ ∀ x ∈ met, x ∈ (List.range (i + 1)).flatMap fs) ∧ ∀ j (h : j < ks.length), j < i + 1 → subC ks[j] = false) := by
                obtain ⟨q1, q2, es, clock, met, q3, q4, q5, q6⟩ := HI1.out
                refine ⟨hR3, q2.trans hk3.kx, ⟨es, clock, met, hk3.block _ _ q3 (fun r e => by cases e), q4, q5, fun x hx => ?_⟩, HE1.out rfl⟩
                rw [List.range_succ, List.flatMap_append]
                exact List.mem_append_left _ (q6 x hx)
              gi_wp2
              go_wp2_with fail
              go_roundw
              case rel => (repeat apply Exists.intro); exact ⟨⟨i + 1, by omega, by go_num, hway3, HI3⟩, rfl⟩
              case measure => simp [intOf]; omega
            · exfalso
              have : evalH 22 ksy = true := hev
              rw [evalH_ne (by decide)] at this
              cases this
          · have e22 : (ky == 22) = false := by simp [h22]
            go_wp2_with fail
            obtain ⟨q1, q2, es, clock, met, q3, q4, q5, q6⟩ := HI1.out
            obtain ⟨hnd, hpl⟩ := HFP.out i hlt
            have hkx : Keeps 0 w W1 := (Keeps.of_below HW.out.1 0).trans (q2.cells HM0.out)
            have hpl1 : ∀ y, Plain w y → Plain W1 y := fun y hy => q2.plain HM0.out (hy.under HW.out.1)
            have hG : Good W1 [⟨.node ky ty ny nsy sy ksy, d, fs i⟩] met := by
              refine ⟨fun e he => ?_, fun e he => ?_, ?_, fun y hy => ?_⟩
              · rw [List.mem_singleton] at he; subst he; exact HN1.out.1
              · rw [List.mem_singleton] at he; subst he; exact HN1.out.2
              · rw [List.flatMap_singleton]
                rw [List.nodup_append] at hnd ⊢
                exact ⟨hnd.2.1, q5, fun a ha b' hb' e => hnd.2.2 b' (q6 b' hb') a ha e.symm⟩
              · rw [List.flatMap_singleton] at hy
                refine hpl1 y (hpl y ?_)
                rcases List.mem_append.1 hy with hy | hy
                · exact List.mem_append_right _ hy
                · exact List.mem_append_left _ (q6 y hy)
            refine (iThrough l B M R Rx HY.out (.node ky ty ny nsy sy ksy) d (fs i) W1 es clock met q1 q3 hMB (by have := q2.size; omega) hG q4).mono ?_
            clear hG hpl1 hkx hpl hnd p0 p1 p2 p3 p4 p5 hwy
            rintro e W3 (⟨rfl, hsf, hR3, hk3, es3, clock3, met3, hm3, hK3, hn3, hs3⟩ | ⟨rfl, hst, hR3⟩)
            · have hway3 := hk3.block _ _ hway1 (fun r e => by cases e) (by omega)
              have HI3 : Hid (R W3 ∧ KX M W0 W3 ∧ (∃ es clock met, W3.heap[M]? = some (.map es clock) ∧ KeysIn es clock met ∧ met.Nodup ∧ ∀ x ∈ met, x ∈ (List.range (i + 1)).flatMap fs) ∧ ∀ j (h : j < ks.length), j < i + 1 → subC ks[j] = false) := by
                refine ⟨hR3, q2.trans hk3, ⟨es3, clock3, met3, hm3, hK3, hn3, fun x hx => ?_⟩, HE1.out hsf⟩
                rw [List.range_succ, List.flatMap_append, List.flatMap_singleton]
                rcases List.mem_append.1 (hs3 x hx) with h | h
                · exact List.mem_append_right _ h
                · exact List.mem_append_left _ (q6 x h)
              clear q1 q2 q3 q4 q5 q6 hm3 hK3 hn3 hs3 hR3 hk3 hsf
              go_wp2_with fail
              go_roundw
              case rel => (repeat apply Exists.intro); exact ⟨⟨i + 1, by omega, by go_num, hway3, HI3⟩, rfl⟩
              case measure => simp [intOf]; omega
            · have hRt : Hid (R0 = true ∧ Rx W3) := ⟨HE2.out hst, hR3⟩
              clear q1 q2 q3 q4 q5 q6 hR3 hst
              go_wp2_with fail
              refine bodyPost_ret (results_none rfl _ _ _) rfl ?_
              exact ⟨⟨_, rfl⟩, .inr hRt.out⟩
        · have hlt' : ¬ (i : Int) < (ks.length : Int) := by omega
          have hRf : Hid (R0 = false) := by
            show _ = _
            rw [hS0.out]
            exact callsL_none ks fun j h => HI.out.2.2.2 j h (by omega)
          go_wp2_with fail
          go_end0
          exact ⟨⟨_, rfl⟩, .inl ⟨hRf.out, HI.out.1⟩⟩

end Go.Proofs.Ytbkloddaooblfac

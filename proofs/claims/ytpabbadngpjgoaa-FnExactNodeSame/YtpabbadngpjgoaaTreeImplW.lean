/-
  The walk of impl's NodeSame.
-/
import Derived.Test.YtpabbadngpjgoaaTreeImpl
import Derived.Deep.CutRange
namespace Go.Proofs.Ytpabbadngpjgoaa
open Go.RowKit

theorem OwnP.shape {w : World} {B : Nat} {v : Value} {l : List PE} (h : OwnP w B v l) : ∃ a cap, v = .slice a l.length cap := by
  rcases h.2 with ⟨rfl, h0⟩ | ⟨g, cap, _, rfl, _⟩
  · exact ⟨none, 0, by rw [h0]⟩
  · exact ⟨_, _, rfl⟩
/-- The stack's top: its place, its twelve cells, and what is left when it is taken off. -/
theorem OwnP.top {w : World} {B : Nat} {v : Value} {L : List PE} {e : PE} (h : OwnP w B v (L ++ [e])) :
    ∃ g cap, v = .slice (some ⟨g, 0, none⟩) (L.length + 1) cap ∧ B ≤ g ∧ g < w.heap.size ∧ L.length + 1 ≤ cap ∧ (∀ r u, (peC e)[r]? = some u → w.cell? ⟨g, L.length * 12 + r, none⟩ = some u) ∧ OwnP w B (.slice (some ⟨g, 0, none⟩) L.length cap) L := by
  obtain ⟨h1, h2⟩ := h
  rw [List.length_append, List.length_singleton] at h1 h2
  rcases h2 with ⟨_, h0⟩ | ⟨g, cap, cur, rfl, hb, hg, hc1, hc2, hc3, hc4⟩
  · omega
  rw [List.flatMap_append, List.flatMap_singleton] at hc4
  have hgs := (Array.getElem?_eq_some_iff.1 hg).1
  refine ⟨g, cap, rfl, hb, hgs, hc1, fun r u hu => ?_, ⟨by rw [flatP_len]; omega, .inr ⟨g, cap, cur, rfl, hb, hg, by omega, hc2, hc3, ?_⟩⟩⟩
  · have hr : r < 12 := by
      have := (List.getElem?_eq_some_iff.1 hu).1
      rw [peC_len] at this; exact this
    have e1 : (cur.toList.take ((L.length + 1) * 12))[L.length * 12 + r]? = some u := by
      rw [hc4, List.getElem?_append_right (by rw [flatP_len]; omega), flatP_len, show L.length * 12 + r - 12 * L.length = r by omega]; exact hu
    rw [List.getElem?_take, if_pos (by omega)] at e1
    have e2 : cur[L.length * 12 + r]? = some u := by simpa using e1
    simp [World.cell?, hg, e2]
  · have e1 := congrArg (List.take (L.length * 12)) hc4
    rw [List.take_take, Nat.min_eq_left (by omega), List.take_append_of_le_length (by rw [flatP_len]; omega)] at e1
    rw [e1, List.take_of_length_le (by rw [flatP_len]; omega)]
theorem cells12 {w : World} {g o : Nat} {e : PE} (h : ∀ r u, (peC e)[r]? = some u → w.cell? ⟨g, o + r, none⟩ = some u) : SixAt w g o e.t1 e.c1 ∧ SixAt w g (o + 6) e.t2 e.c2 := by
  obtain ⟨t1, t2, c1, c2, f1, f2⟩ := e
  cases t1; cases t2
  exact ⟨⟨h 0 _ rfl, h 1 _ rfl, h 2 _ rfl, h 3 _ rfl, h 4 _ rfl, h 5 _ rfl⟩, ⟨h 6 _ rfl, h 7 _ rfl, h 8 _ rfl, h 9 _ rfl, h 10 _ rfl, h 11 _ rfl⟩⟩
theorem OwnP.keep {w w' : World} {B : Nat} {v : Value} {l : List PE} (h : OwnP w B v l) (hb : Below w.heap.size w w') : OwnP w' B v l := by
  refine ⟨h.1, ?_⟩
  rcases h.2 with hv | ⟨g, cap, cur, hv, hb', hg, rest⟩
  · exact .inl hv
  · exact .inr ⟨g, cap, cur, hv, hb', (hb.block g (Array.getElem?_eq_some_iff.1 hg).1).trans hg, rest⟩

set_option maxHeartbeats 4000000 in
set_option maxRecDepth 100000 in
theorem iSame (t1 t2 : PT) (c1 c2 : NC) (f1 f2 : List Nat) (C : Nat) (w : World) (hG : Good w C [⟨t1, t2, c1, c2, f1, f2⟩] []) :
    Calls Try.prog 13 #[.agg (t1.cells c1), .agg (t2.cells c2)] w fun e w' => e = .returned (.bool (same t1 t2)) ∧ Below w.heap.size w w' := by
  have hcnt : cntT t1 ≤ 1048577 := by have := cnt_le t1; have h2 : szT t1 ≤ 1048576 := hG.sz1 ⟨t1, t2, c1, c2, f1, f2⟩ (by simp); omega
  obtain ⟨R, hR⟩ : ∃ R, R = same t1 t2 := ⟨_, rfl⟩
  have HG : Hid (Good w C [⟨t1, t2, c1, c2, f1, f2⟩] [] ∧ R = allS [⟨t1, t2, c1, c2, f1, f2⟩] ∧ cntS [⟨t1, t2, c1, c2, f1, f2⟩] = cntT t1) := ⟨hG, by simp [allS, hR], by simp [cntS]⟩
  rw [← hR]
  clear hG hR
  have hmm := @run_makeMap Try.prog
  have HP : Hid (peC ⟨t1, t2, c1, c2, f1, f2⟩ = (t1.cells c1).toList ++ (t2.cells c2).toList) := rfl
  cases t1 with
  | node k1 x1 n1 ns1 s1 ks1 =>
  cases t2 with
  | node k2 x2 n2 ns2 s2 ks2 =>
  unfold PT.cells nodeC at HP ⊢
  dsimp only at HP ⊢
  go_enter Try.func13, Try.ntmps13
  go_wp2_with fail
  generalize hW0 : (((w.alloc _).alloc _).alloc _).alloc _ = W0
  have hM : W0.heap[w.heap.size + 1 + 1]? = some (.map #[] 0) := by
    rw [← hW0, Below.heap_alloc _ _ _ (by simp)]
    have := heap_alloc_new ((w.alloc (.cells #[.int .i64 k1, .string x1, .int .i64 n1, .slice c1.na ns1.length c1.nc, .bool s1, .slice c1.ka ks1.length c1.kc] 32)).alloc (.cells #[.int .i64 k2, .string x2, .int .i64 n2, .slice c2.na ns2.length c2.nc, .bool s2, .slice c2.ka ks2.length c2.kc] 32)) (.map #[] 0)
    simpa only [World.size_alloc] using this
  have hO : OwnP W0 (w.heap.size + 1 + 1 + 1) (.slice (some ⟨w.heap.size + 1 + 1 + 1, 0, none⟩) 1 1) [⟨.node k1 x1 n1 ns1 s1 ks1, .node k2 x2 n2 ns2 s2 ks2, c1, c2, f1, f2⟩] := by
    refine ⟨rfl, .inr ⟨w.heap.size + 1 + 1 + 1, 1, #[.int .i64 k1, .string x1, .int .i64 n1, .slice c1.na ns1.length c1.nc, .bool s1, .slice c1.ka ks1.length c1.kc, .int .i64 k2, .string x2, .int .i64 n2, .slice c2.na ns2.length c2.nc, .bool s2, .slice c2.ka ks2.length c2.kc], rfl, Nat.le_refl _, ?_, Nat.le_refl _, by unfold maxLen; omega, rfl, rfl⟩⟩
    rw [← hW0]
    have := heap_alloc_new (((w.alloc (.cells #[.int .i64 k1, .string x1, .int .i64 n1, .slice c1.na ns1.length c1.nc, .bool s1, .slice c1.ka ks1.length c1.kc] 32)).alloc (.cells #[.int .i64 k2, .string x2, .int .i64 n2, .slice c2.na ns2.length c2.nc, .bool s2, .slice c2.ka ks2.length c2.kc] 32)).alloc (.map #[] 0)) (.cells #[.int .i64 k1, .string x1, .int .i64 n1, .slice c1.na ns1.length c1.nc, .bool s1, .slice c1.ka ks1.length c1.kc, .int .i64 k2, .string x2, .int .i64 n2, .slice c2.na ns2.length c2.nc, .bool s2, .slice c2.ka ks2.length c2.kc] 46)
    simpa only [World.size_alloc] using this
  have hB : Below w.heap.size w W0 := by
    rw [← hW0]
    exact ((((Below.refl _ _).alloc (Nat.le_refl _) _).alloc (by simp) _).alloc (by simp; omega) _).alloc (by simp; omega) _
  have hS : w.heap.size + 1 + 1 + 1 ≤ W0.heap.size := by rw [← hW0]; simp
  clear hW0 HP hmm
  go_loopg [6] (cntT (.node k1 x1 n1 ns1 s1 ks1)) (fun kk vo wr => ∃ (L : List PE) (met : List Nat) (es : Array MapEntry) (clock : Nat), OwnP wr (w.heap.size + 1 + 1 + 1) vo L ∧ wr.heap[w.heap.size + 1 + 1]? = some (.map es clock) ∧ Below w.heap.size w wr ∧ w.heap.size + 1 + 1 + 1 ≤ wr.heap.size ∧ Hid (Good w C L met ∧ KeysIn es met ∧ R = allS L ∧ cntS L ≤ kk ∧ kk ≤ 1048577))
  case atStart =>
    exact ⟨_, [], #[], 0, hO, hM, hB, hS, HG.out.1, fun x hx => by simp at hx, HG.out.2.1, Nat.le_of_eq HG.out.2.2, hcnt⟩
  case round =>
    clear hO hM hB hS HG hcnt
    obtain ⟨G, eG⟩ : ∃ G, G = gk := ⟨_, rfl⟩
    rw [← eG] at hrel
    have EG : Hid (G = gk) := eG
    clear eG
    obtain ⟨L, met, es, clock, hO, hM, hB, hS, HG⟩ := hrel
    rcases List.eq_nil_or_concat L with rfl | ⟨L', e, eL⟩
    · obtain ⟨a, cap, e⟩ := hO.shape
      rw [List.length_nil] at e
      subst e
      have hRt : Hid (R = true) := by show _ = _; rw [HG.out.2.2.1]; rfl
      clear HG hO
      go_wp2_with fail
      go_ret
      exact ⟨retB hRt.out.symm, hB⟩
    · rw [List.concat_eq_append] at eL
      subst eL
      obtain ⟨g, cap, ev, hg1, hg2, hcap, hcells, hO'⟩ := hO.top
      subst ev
      obtain ⟨h6, g6⟩ := cells12 hcells
      obtain ⟨t1', t2', d1, d2, fa, fb⟩ := e
      clear hO hcells
      have HO : Hid (OwnP wr (w.heap.size + 1 + 1 + 1) (.slice (some ⟨g, 0, none⟩) L'.length cap) L') := hO'
      clear hO'
      have hlen : L'.length ≤ 1048577 := by
        have h1 := HG.out.2.2.2
        have h2 := cntS_len (L' ++ [⟨t1', t2', d1, d2, fa, fb⟩])
        rw [List.length_append, List.length_singleton] at h2
        omega
      cases t1' with
      | node ka ta na nsa sa ksa =>
      cases t2' with
      | node kb tb nb nsb sb ksb =>
      obtain ⟨h60, h61, h62, h63, h64, h65⟩ := h6
      obtain ⟨g60, g61, g62, g63, g64, g65⟩ := g6
      generalize hn : L'.length = n at *
      have hn1 : ((n : Int) + 1 - 1) = (n : Int) := by omega
      have hn2 : (n : Int) < (n : Int) + 1 := by omega
      have hn3 : (0 : Int) < (n : Int) + 1 := by omega
      go_wp2_with fail
      clear hn1 hn2 hn3
      have hn1 : ((n : Int) + 1 - 1) = (n : Int) := by omega
      have hn2 : (n : Int) < (n : Int) + 1 := by omega
      go_cut [7, 8] from 16 to 89 (fun px py wx => ∃ X Y, px = .pointer (some ⟨X, 0, none⟩) ∧ py = .pointer (some ⟨Y, 0, none⟩) ∧ Below wr.heap.size wr wx ∧ wr.heap.size ≤ X ∧ wr.heap.size ≤ Y ∧
        wx.heap[X]? = some (.cells #[.int .i64 ka, .string ta, .int .i64 na, .slice d1.na nsa.length d1.nc, .bool sa, .slice d1.ka ksa.length d1.kc] 32 (0, 0)) ∧
        wx.heap[Y]? = some (.cells #[.int .i64 kb, .string tb, .int .i64 nb, .slice d2.na nsb.length d2.nc, .bool sb, .slice d2.ka ksb.length d2.kc] 32 (0, 0)))
      case first =>
        go_region
        · go_wp2_with fail
          go_meet
          exact ⟨wr.heap.size, wr.heap.size + 1, rfl, rfl, (((Below.refl _ _).alloc (Nat.le_refl _) _).alloc (by simp) _).drew, Nat.le_refl _, by omega, (Below.heap_alloc _ _ _ (by simp)).trans (heap_alloc_new _ _), by
            have := heap_alloc_new (wr.alloc (.cells #[.int .i64 ka, .string ta, .int .i64 na, .slice d1.na nsa.length d1.nc, .bool sa, .slice d1.ka ksa.length d1.kc] 32)) (.cells #[.int .i64 kb, .string tb, .int .i64 nb, .slice d2.na nsb.length d2.nc, .bool sb, .slice d2.ka ksb.length d2.kc] 32)
            rw [World.size_alloc] at this
            exact this⟩
        · go_wp2_with fail
          go_meet
          exact ⟨wr.heap.size + 1, wr.heap.size, rfl, rfl, (((Below.refl _ _).alloc (Nat.le_refl _) _).alloc (by simp) _).drew, by omega, Nat.le_refl _, by
            have := heap_alloc_new (wr.alloc (.cells #[.int .i64 kb, .string tb, .int .i64 nb, .slice d2.na nsb.length d2.nc, .bool sb, .slice d2.ka ksb.length d2.kc] 32)) (.cells #[.int .i64 ka, .string ta, .int .i64 na, .slice d1.na nsa.length d1.nc, .bool sa, .slice d1.ka ksa.length d1.kc] 32)
            rw [World.size_alloc] at this
            exact this, (Below.heap_alloc _ _ _ (by simp)).trans (heap_alloc_new _ _)⟩
      case rest =>
        clear h60 h61 h62 h63 h64 h65 g60 g61 g62 g63 g64 g65
        obtain ⟨X, Y, rfl, rfl, hbc, hX1, hY1, hX, hY⟩ := hcut
        have hO1 := HO.out.keep hbc
        have hM1 := (hbc.block _ (by omega)).trans hM
        have hBc : Below w.heap.size w wc := hB.trans (hbc.mono (by omega))
        have hsc : w.heap.size + 1 + 1 + 1 ≤ wc.heap.size := by have := hbc.size; omega
        obtain ⟨T1, T2, T3, T4⟩ := HG.out.1.top
        have hcall := iHead _ _ 0 0 d1 d2 fa fb wc T3 (T1.under hBc) (T2.under hBc)
        obtain ⟨hd, ehd⟩ : ∃ hd, headB (.node ka ta na nsa sa ksa) (.node kb tb nb nsb sb ksb) = hd := ⟨_, rfl⟩
        have EHD : Hid (headB (.node ka ta na nsa sa ksa) (.node kb tb nb nsb sb ksb) = hd) := ehd
        have HCALL : Hid (Calls Try.prog 28 #[.agg #[.int .i64 ka, .string ta, .int .i64 na, .slice d1.na nsa.length d1.nc, .bool sa, .slice d1.ka ksa.length d1.kc], .agg #[.int .i64 kb, .string tb, .int .i64 nb, .slice d2.na nsb.length d2.nc, .bool sb, .slice d2.ka ksb.length d2.kc]] wc fun e w' => e = .returned (.bool hd) ∧ Below wc.heap.size wc w') := by rw [← ehd]; exact hcall
        have HO1 : Hid (OwnP wc (w.heap.size + 1 + 1 + 1) (.slice (some ⟨g, 0, none⟩) n cap) L') := hO1
        have HT : Hid (NIn w 0 (.node ka ta na nsa sa ksa) d1 fa ∧ NIn w 0 (.node kb tb nb nsb sb ksb) d2 fb) := ⟨T1, T2⟩
        clear hO1 ehd hcall T1 T2 T3 T4 HO
        obtain ⟨⟨p0, p1, p2, p3, p4, p5⟩, -⟩ := six_of hX
        obtain ⟨⟨q0, q1, q2, q3, q4, q5⟩, -⟩ := six_of hY
        have hn1 : ((n : Int) + 1 - 1) = (n : Int) := by omega
        have hn2 : (n : Int) ≤ (cap : Int) := by omega
        have hn3 : (0 : Int) ≤ (n : Int) := by omega
        go_wp2_with fail
        refine HCALL.out.mono ?_
        rintro e w1 ⟨rfl, hb1⟩
        have hX' := (hb1.block X (by have := (Array.getElem?_eq_some_iff.1 hX).1; omega)).trans hX
        have hY' := (hb1.block Y (by have := (Array.getElem?_eq_some_iff.1 hY).1; omega)).trans hY
        have hM' := (hb1.block (w.heap.size + 1 + 1) (by omega)).trans hM1
        have hO' := HO1.out.keep hb1
        have hB' : Below w.heap.size w w1 := hBc.trans (hb1.mono (by omega))
        have hs' : w.heap.size + 1 + 1 + 1 ≤ w1.heap.size := by have := hb1.size; omega
        clear HCALL HO1 hX hY hM1 hM hbc hBc hsc hb1 p0 p1 p2 p3 p4 p5 q0 q1 q2 q3 q4 q5 hB hS hX1 hY1
        cases hd with
        | false =>
          have hRf : Hid (R = false) := by
            show _ = _
            rw [HG.out.2.2.1, allS_snoc, same_head _ _ EHD.out, Bool.and_false]
          go_wp2_with fail
          go_ret
          exact ⟨retB hRf.out.symm, hB'⟩
        | true =>
        have hst := same_tail _ _ _ _ _ _ _ _ _ _ _ _ EHD.out
        have hRs : Hid (R = (allS L' && sameL ksa ksb) ∧ ksa.length = ksb.length) := ⟨by rw [HG.out.2.2.1, allS_snoc]; exact congrArg _ hst.1, hst.2⟩
        have hcc : Hid (cntS L' + (1 + cntL ksa) ≤ G ∧ G ≤ 1048577) := by
          have h1 := HG.out.2.2.2.1
          rw [cntS_append] at h1
          refine ⟨?_, HG.out.2.2.2.2⟩
          have h2 : cntS [(⟨.node ka ta na nsa sa ksa, .node kb tb nb nsb sb ksb, d1, d2, fa, fb⟩ : PE)] = 1 + cntL ksa := by simp [cntS, cntT]
          omega
        clear hst
        obtain ⟨⟨p0, p1, p2, p3, p4, p5⟩, -⟩ := six_of hX'
        by_cases hk0 : ksa.length = 0
        · have hk0' : ((ksa.length : Int) == 0) = true := by simp [hk0]
          go_wp2_with fail
          have e1 : ksa = [] := List.length_eq_zero_iff.1 hk0
          have e2 : ksb = [] := List.length_eq_zero_iff.1 (hRs.out.2.symm.trans hk0)
          have hfin : Hid (Good w C L' met ∧ KeysIn es met ∧ R = allS L' ∧ cntS L' ≤ G - 1 ∧ G - 1 ≤ 1048577) :=
            ⟨HG.out.1.pop, HG.out.2.1, by rw [hRs.out.1, e1, e2, sameL, Bool.and_true], by have := hcc.out; omega, by have := hcc.out; omega⟩
          go_roundg (G - 1)
          case measure => have := hcc.out; have := EG.out; omega
          case rel => exact ⟨L', met, es, clock, hO', hM', hB', hs', hfin⟩
        · have hk0' : ((ksa.length : Int) == 0) = false := beq_eq_false_iff_ne.2 (by omega)
          go_wp2_with fail
          obtain ⟨T1, T2⟩ := HT.out
          clear HT
          cases T1 with
          | mk _ _ _ _ _ _ _ b1 o1 cs1 fs1 hn1' ha1 hc1 hkk1 =>
          cases T2 with
          | mk _ _ _ _ _ _ _ b2 o2 cs2 fs2 hn2' ha2 hc2 hkk2 =>
          have hlab := hRs.out.2
          obtain ⟨eka1, _⟩ := ha1.resolve_left (fun e => hk0 (by rw [e]; rfl))
          obtain ⟨eka2, _⟩ := ha2.resolve_left (fun e => hk0 (by rw [hlab, e]; rfl))
          obtain ⟨U3, U4⟩ := HG.out.1.top.2.2
          have hz1 : ∀ x ∈ ksa, szT x ≤ 1048576 := fun x hx => by
            obtain ⟨i, hi, rfl⟩ := List.getElem_of_mem hx
            have h1 := szT_mem ksa i hi
            simp only [szT] at U3; omega
          have hz2 : ∀ x ∈ ksb, szT x ≤ 1048576 := fun x hx => by
            obtain ⟨i, hi, rfl⟩ := List.getElem_of_mem hx
            have h1 := szT_mem ksb i hi
            simp only [szT] at U4; omega
          have hkl : ksa.length ≤ 1048576 := by simp only [szT] at U3; omega
          obtain ⟨GK, ⟨P1, P2, P3⟩, P4, P5⟩ := HG.out.1.kids (by omega) hlab hkk1 hkk2 hz1 hz2
          have HGK : Hid (Good w C (L' ++ kidsE ksa ksb cs1 cs2 fs1 fs2 ksa.length) (b1 :: met)) := GK
          have HKM : Hid (KeysIn es met ∧ (∀ x ∈ met, Plain w x)) := ⟨HG.out.2.1, fun x hx => (HG.out.1.pl1 x (by simp [hx])).1⟩
          have HSX : Hid ((∀ i (h : i < ksa.length), SixAt w b1 (o1 + i * 6) ksa[i] (cs1 i)) ∧ (∀ i (h : i < ksb.length), SixAt w b2 (o2 + i * 6) ksb[i] (cs2 i))) := ⟨hc1, hc2⟩
          have HPP : Hid ((Plain w b1 ∧ b1 < C ∧ b1 ∉ met) ∧ (Plain w b2 ∧ C ≤ b2)) := ⟨⟨P1, P2, P3⟩, P4, P5⟩
          have HLAB : Hid (ksa.length = ksb.length) := hlab
          rw [eka1] at hX'
          rw [eka2, ← hlab] at hY'
          clear GK P1 P2 P3 P4 P5 hc1 hc2 hkk1 hkk2 hz1 hz2 U3 U4 ha1 ha2 hn1' hn2' HG eka1 eka2 hlab p0 p1 p2 p3 p4 p5 EHD
          obtain ⟨⟨p0, p1, p2, p3, p4, p5⟩, -⟩ := six_of hX'
          obtain ⟨⟨q0, q1, q2, q3, q4, q5⟩, -⟩ := six_of hY'
          have hpos : (0 : Int) < (ksa.length : Int) := by omega
          have hXl := (Array.getElem?_eq_some_iff.1 hX').1
          have hYl := (Array.getElem?_eq_some_iff.1 hY').1
          have p5' : ∀ o, (w1.alloc o).cell? ⟨X, 5, none⟩ = some (.slice (some ⟨b1, o1, none⟩) ksa.length d1.kc) := fun o => (((Below.refl w1.heap.size w1).alloc (Nat.le_refl _) o).cell hXl).trans p5
          have q5' : ∀ o, (w1.alloc o).cell? ⟨Y, 5, none⟩ = some (.slice (some ⟨b2, o2, none⟩) ksa.length d2.kc) := fun o => (((Below.refl w1.heap.size w1).alloc (Nat.le_refl _) o).cell hYl).trans q5
          go_region
          have hb2 : Below w1.heap.size w1 ((w1.alloc (.cells #[.pointer (some ⟨b1, o1, none⟩), .pointer (some ⟨b2, o2, none⟩), .int .i64 (ksa.length : Int)] 50)).drew) := ((Below.refl _ _).alloc (Nat.le_refl _) _).drew
          have hZ2 : ((w1.alloc (.cells #[.pointer (some ⟨b1, o1, none⟩), .pointer (some ⟨b2, o2, none⟩), .int .i64 (ksa.length : Int)] 50)).drew).heap[w1.heap.size]? = some (.cells #[.pointer (some ⟨b1, o1, none⟩), .pointer (some ⟨b2, o2, none⟩), .int .i64 (ksa.length : Int)] 50 (0, 0)) := heap_alloc_new _ _
          generalize (w1.alloc (.cells #[.pointer (some ⟨b1, o1, none⟩), .pointer (some ⟨b2, o2, none⟩), .int .i64 (ksa.length : Int)] 50)).drew = W2 at *
          have hX2 := (hb2.block X hXl).trans hX'
          have hY2 := (hb2.block Y hYl).trans hY'
          have hM2 := (hb2.block (w.heap.size + 1 + 1) (by omega)).trans hM'
          have hO2 := hO'.keep hb2
          have hB2 : Below w.heap.size w W2 := hB'.trans (hb2.mono (by omega))
          have hs2 : w.heap.size + 1 + 1 + 1 ≤ W2.heap.size := by have := hb2.size; omega
          have hZw : w.heap.size + 1 + 1 + 1 ≤ w1.heap.size := hs'
          generalize w1.heap.size = Z at *
          clear hX' hY' hM' hO' hB' hs' hb2 p0 p1 p2 p3 p4 p5 q0 q1 q2 q3 q4 q5 p5' q5' hXl hYl
          obtain ⟨⟨P1, P2, P3⟩, P4, P5⟩ := HPP.out
          obtain ⟨j, hj, hjs⟩ := Try.infoNode'
          obtain ⟨ca1, ta1, ea1⟩ := P1.under hB2
          obtain ⟨ca2, ta2, ea2⟩ := P4.under hB2
          have heq := run_eql_ptr_other (P := Try.prog) W2 (a := ⟨b1, o1, none⟩) (b := ⟨b2, o2, none⟩) Try.underlying48 hj (by omega) (fun e => by simp only [Addr.mk.injEq] at e; omega) ea1 ea2
          have hlk := look_none hM2 HKM.out.1 (fun x hx => (HKM.out.2 x hx).under hB2) (o := o1) (P1.under hB2) P3 ⟨b2, o2, none⟩ (ksa.length : Int)
          obtain ⟨W3, es3, hput, hM3, hK3, hsz3, hoth3, ho1, ho2, ho3⟩ := put_new hM2 HKM.out.1 (fun x hx => (HKM.out.2 x hx).under hB2) (o := o1) (P1.under hB2) P3 ⟨b2, o2, none⟩ (ksa.length : Int)
          have hz0 : W2.cell? ⟨Z, 0, none⟩ = some (.pointer (some ⟨b1, o1, none⟩)) ∧ W2.cell? ⟨Z, 1, none⟩ = some (.pointer (some ⟨b2, o2, none⟩)) ∧ W2.cell? ⟨Z, 2, none⟩ = some (.int .i64 (ksa.length : Int)) := by simp [World.cell?, hZ2]
          obtain ⟨z0, z1, z2⟩ := hz0
          have HM3 : Hid (W3.heap[w.heap.size + 1 + 1]? = some (.map es3 (clock + 1)) ∧ KeysIn es3 (b1 :: met)) := ⟨hM3, hK3⟩
          have HO3 : Hid (∀ k, k ≠ w.heap.size + 1 + 1 → W3.heap[k]? = W2.heap[k]?) := hoth3
          have hB3 : Below w.heap.size w W3 := ⟨ho1.trans hB2.os, ho2.trans hB2.tape, ho3.trans hB2.output, by rw [hsz3]; exact hB2.size, fun k hk => (hoth3 k (by omega)).trans (hB2.block k hk)⟩
          have HB3 : Hid (Below w.heap.size w W3 ∧ W3.heap.size = W2.heap.size) := ⟨hB3, hsz3⟩
          clear hM3 hK3 hoth3 ho1 ho2 ho3 hB3 hsz3 ea1 ea2 P1 P2 P3 P4 P5 hj hjs
          have hX3 : W3.heap[X]? = _ := (HO3.out X (fun e => by rw [e, hM2] at hX2; cases hX2)).trans hX2
          have hY3 : W3.heap[Y]? = _ := (HO3.out Y (fun e => by rw [e, hM2] at hY2; cases hY2)).trans hY2
          obtain ⟨⟨p0, p1, p2, p3, p4, p5⟩, -⟩ := six_of hX3
          have hO3 : OwnP W3 (w.heap.size + 1 + 1 + 1) (.slice (some ⟨g, 0, none⟩) n cap) L' := by
            refine ⟨hO2.1, ?_⟩
            rcases hO2.2 with hv | ⟨g', cap', cur, hv, hb', hg, rest⟩
            · exact .inl hv
            · exact .inr ⟨g', cap', cur, hv, hb', (HO3.out g' (by omega)).trans hg, rest⟩
          have HOW : Hid (OwnP W3 (w.heap.size + 1 + 1 + 1) (.slice (some ⟨g, 0, none⟩) n cap) L') := hO3
          clear hO3 hO2
          go_wp2_with fail
          have hs3 : w.heap.size + 1 + 1 + 1 ≤ W3.heap.size := by rw [HB3.out.2]; exact hs2
          go_loopg [6, 72] ksa.length (fun kk vo vj wr => ∃ j : Nat, j ≤ ksa.length ∧ kk = ksa.length - j ∧ vj = .int .i64 j ∧ OwnP wr (w.heap.size + 1 + 1 + 1) vo (L' ++ kidsE ksa ksb cs1 cs2 fs1 fs2 j) ∧ wr.heap[w.heap.size + 1 + 1]? = some (.map es3 (clock + 1)) ∧ Below w.heap.size w wr ∧ w.heap.size + 1 + 1 + 1 ≤ wr.heap.size ∧
            wr.heap[X]? = some (.cells #[.int .i64 ka, .string ta, .int .i64 na, .slice d1.na nsa.length d1.nc, .bool sa, .slice (some ⟨b1, o1, none⟩) ksa.length d1.kc] 32 (0, 0)) ∧
            wr.heap[Y]? = some (.cells #[.int .i64 kb, .string tb, .int .i64 nb, .slice d2.na nsb.length d2.nc, .bool sb, .slice (some ⟨b2, o2, none⟩) ksa.length d2.kc] 32 (0, 0)))
          case atStart => exact ⟨0, Nat.zero_le _, rfl, rfl, by rw [show kidsE ksa ksb cs1 cs2 fs1 fs2 0 = [] from rfl, List.append_nil]; exact HOW.out, HM3.out.1, HB3.out.1, hs3, hX3, hY3⟩
          case round =>
            clear hX3 hY3 p0 p1 p2 p3 p4 p5 z0 z1 z2 heq hlk hput hs3 hs2 hB2 hM2 hX2 hY2 hZ2 HOW HB3 HO3 hpos
            obtain ⟨j, hj, ekk, rfl, hOj, hMj, hBj, hSj, hXj, hYj⟩ := hrel
            by_cases hlt : j < ksa.length
            · have hlt2 : j < ksb.length := by have := HLAB.out; omega
              have hlt' : (j : Int) < (ksa.length : Int) := by omega
              obtain ⟨S1, S2⟩ := HSX.out
              have h6 := (S1 j hlt).keep (Nat.zero_le _) (.of_below hBj 0)
              have g6 := (S2 j hlt2).keep (Nat.zero_le _) (.of_below hBj 0)
              have hlj : (L' ++ kidsE ksa ksb cs1 cs2 fs1 fs2 j).length ≤ 3000000 := by rw [List.length_append, kidsE_len]; omega
              obtain ⟨a0, cap0, ev⟩ := hOj.shape
              have hpe : Hid (peC (kidE ksa ksb cs1 cs2 fs1 fs2 j) = (ksa[j].cells (cs1 j)).toList ++ (ksb[j].cells (cs2 j)).toList) := by
                show _ = _
                unfold kidE peC
                rw [getD_at ksa j hlt, getD_at ksb j hlt2]
              have hsucc : Hid (L' ++ kidsE ksa ksb cs1 cs2 fs1 fs2 (j + 1) = (L' ++ kidsE ksa ksb cs1 cs2 fs1 fs2 j) ++ [kidE ksa ksb cs1 cs2 fs1 fs2 j]) := by
                show _ = _
                rw [kidsE_succ, List.append_assoc]
              clear S1 S2
              generalize cs1 j = dd1 at *
              generalize cs2 j = dd2 at *
              generalize ksa[j] = xa at *
              generalize ksb[j] = xb at *
              cases xa with
              | node kxa txa nxa nsxa sxa ksxa =>
              cases xb with
              | node kxb txb nxb nsxb sxb ksxb =>
              obtain ⟨h60, h61, h62, h63, h64, h65⟩ := h6
              obtain ⟨g60, g61, g62, g63, g64, g65⟩ := g6
              obtain ⟨⟨p0, p1, p2, p3, p4, p5⟩, -⟩ := six_of hXj
              obtain ⟨⟨q0, q1, q2, q3, q4, q5⟩, -⟩ := six_of hYj
              have hnews : ∀ jj u, (peC (kidE ksa ksb cs1 cs2 fs1 fs2 j))[jj]? = some u → (wr.alloc (.cells #[.int .i64 kxa, .string txa, .int .i64 nxa, .slice dd1.na nsxa.length dd1.nc, .bool sxa, .slice dd1.ka ksxa.length dd1.kc, .int .i64 kxb, .string txb, .int .i64 nxb, .slice dd2.na nsxb.length dd2.nc, .bool sxb, .slice dd2.ka ksxb.length dd2.kc] 46)).cell? ((⟨wr.heap.size, 0, none⟩ : Addr).add jj) = some u := by
                intro jj u hu
                rw [hpe.out] at hu
                rw [addr_add, World.cell?_alloc_new]
                exact (by simpa [PT.cells, nodeC] using hu)
              have HNW : Hid (∀ jj u, (peC (kidE ksa ksb cs1 cs2 fs1 fs2 j))[jj]? = some u → (wr.alloc (.cells #[.int .i64 kxa, .string txa, .int .i64 nxa, .slice dd1.na nsxa.length dd1.nc, .bool sxa, .slice dd1.ka ksxa.length dd1.kc, .int .i64 kxb, .string txb, .int .i64 nxb, .slice dd2.na nsxb.length dd2.nc, .bool sxb, .slice dd2.ka ksxb.length dd2.kc] 46)).cell? ((⟨wr.heap.size, 0, none⟩ : Addr).add jj) = some u) := hnews
              have HOJ : Hid (OwnP wr (w.heap.size + 1 + 1 + 1) (.slice a0 (L' ++ kidsE ksa ksb cs1 cs2 fs1 fs2 j).length cap0) (L' ++ kidsE ksa ksb cs1 cs2 fs1 fs2 j)) := by rw [← ev]; exact hOj
              subst ev
              clear hnews hOj
              generalize hll : (L' ++ kidsE ksa ksb cs1 cs2 fs1 fs2 j).length = ll at *
              go_wp2_with fail
              go_region_law (refine app_pair rfl (.tmp 75) (.tmp 87) rfl (w.heap.size + 1 + 1 + 1) (.slice a0 ll cap0) (L' ++ kidsE ksa ksb cs1 cs2 fs1 fs2 j) (by rfl) (World.ownsRow.alloc HOJ.out _) ⟨wr.heap.size, 0, none⟩ (kidE ksa ksb cs1 cs2 fs1 fs2 j) (by rfl) HNW.out (by omega) (by simp; omega) ?_; intro v' w' hown' hgrow')
              all_goals
                have HGR : Hid (OwnP w' (w.heap.size + 1 + 1 + 1) v' (L' ++ kidsE ksa ksb cs1 cs2 fs1 fs2 (j + 1)) ∧ w'.heap[w.heap.size + 1 + 1]? = some (.map es3 (clock + 1)) ∧ Below w.heap.size w w' ∧ w.heap.size + 1 + 1 + 1 ≤ w'.heap.size ∧
                  w'.heap[X]? = some (.cells #[.int .i64 ka, .string ta, .int .i64 na, .slice d1.na nsa.length d1.nc, .bool sa, .slice (some ⟨b1, o1, none⟩) ksa.length d1.kc] 32 (0, 0)) ∧
                  w'.heap[Y]? = some (.cells #[.int .i64 kb, .string tb, .int .i64 nb, .slice d2.na nsb.length d2.nc, .bool sb, .slice (some ⟨b2, o2, none⟩) ksa.length d2.kc] 32 (0, 0))) :=
                  ⟨hsucc.out ▸ hown', (HOJ.out.rest hgrow' (by omega) (.inl (by omega))).trans hMj, HOJ.out.restBelow hgrow' hBj (by omega), Nat.le_trans hSj (grown_size hgrow'),
                    (HOJ.out.rest hgrow' (Array.getElem?_eq_some_iff.1 hXj).1 (.inr ⟨_, hXj⟩)).trans hXj, (HOJ.out.rest hgrow' (Array.getElem?_eq_some_iff.1 hYj).1 (.inr ⟨_, hYj⟩)).trans hYj⟩
                clear hown' hgrow' p0 p1 p2 p3 p4 p5 q0 q1 q2 q3 q4 q5 h60 h61 h62 h63 h64 h65 g60 g61 g62 g63 g64 g65 hMj hBj hSj hXj hYj
                go_wp2_with fail
                go_roundg (ksa.length - (j + 1))
                case measure => omega
                case rel => exact ⟨j + 1, by omega, rfl, by go_num, HGR.out⟩
            · have hlt' : ¬ (j : Int) < (ksa.length : Int) := by omega
              have ej : j = ksa.length := by omega
              have hfin : Hid (Good w C (L' ++ kidsE ksa ksb cs1 cs2 fs1 fs2 ksa.length) (b1 :: met) ∧ KeysIn es3 (b1 :: met) ∧ R = allS (L' ++ kidsE ksa ksb cs1 cs2 fs1 fs2 ksa.length) ∧ cntS (L' ++ kidsE ksa ksb cs1 cs2 fs1 fs2 ksa.length) ≤ G - 1 ∧ G - 1 ≤ 1048577) :=
                ⟨HGK.out, HM3.out.2, by rw [hRs.out.1, allS_append, kidsE_all _ _ _ _ _ _ HLAB.out], by rw [cntS_append, kidsE_cnt]; have := hcc.out; omega, by have := hcc.out; omega⟩
              rw [ej] at hOj
              have HOJ : Hid (OwnP wr (w.heap.size + 1 + 1 + 1) u6 (L' ++ kidsE ksa ksb cs1 cs2 fs1 fs2 ksa.length)) := hOj
              clear hOj
              go_wp2_with fail
              go_roundg (G - 1)
              case measure => have := hcc.out; have := EG.out; omega
              case rel => exact ⟨_, b1 :: met, es3, clock + 1, HOJ.out, hMj, hBj, hSj, hfin⟩

end Go.Proofs.Ytpabbadngpjgoaa

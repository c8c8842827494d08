/-
  The walk of the law FnQuote.
-/
import Derived.Test.YtpabbadngpjgoaaDoorQLawA
namespace Go.Proofs.YtpabbadngpjgoaaDoor
open Go.RowKit

set_option maxHeartbeats 8000000 in
set_option maxRecDepth 100000 in
theorem quote_walk (a1 a2 : Option Addr) (len1 cap1 len2 cap2 : Nat) (cs1 cs2 : List UInt8) (w : World) (hl1 : cs1.length = len1) (hl2 : cs2.length = len2) (hM : MarksIn w) (hB1 : BytesIn w a1 cs1) (hB2 : BytesIn w a2 cs2) :
    Calls Tryd.prog 3 #[.slice a1 len1 cap1, .slice a2 len2 cap2] w fun e w' => e = .returned (.bool true) ∧ Below w.heap.size w w' := by
  by_cases hb1 : 1048576 < len1
  · have h1 : (1048576 : Int) < (len1 : Int) := by omega
    go_enter Tryd.func3, Tryd.ntmps3
    go_wp2_with fail
    go_ret
    exact ⟨rfl, Below.refl _ _⟩
  by_cases hb2 : 1048576 < len2
  · have h1 : decide ((1048576 : Int) < (len1 : Int)) = false := decide_eq_false (by omega)
    have h2 : (1048576 : Int) < (len2 : Int) := by omega
    go_enter Tryd.func3, Tryd.ntmps3
    go_wp2_with fail
    go_ret
    exact ⟨rfl, Below.refl _ _⟩
  have h1 : decide ((1048576 : Int) < (len1 : Int)) = false := decide_eq_false (by omega)
  have h2 : decide ((1048576 : Int) < (len2 : Int)) = false := decide_eq_false (by omega)
  have h1' : ¬ (1048576 : Int) < (len1 : Int) := by omega
  have h2' : ¬ (1048576 : Int) < (len2 : Int) := by omega
  have hw0 := marks_heap hM
  have HM : Hid (∀ W, Below w.heap.size w W → MarksIn W) := fun W hb => hM.below hb hw0
  have D1 : Hid _ := fun (_ : Unit) => sDrawQuote a1 len1 cap1 cs1 w hl1 (by omega) hB1
  have D2 : Hid _ := fun W (hb : Below w.heap.size w W) => sDrawTokens a2 len2 cap2 cs2 W hl2 (by omega) (hB2.under hb)
  have D3 : Hid _ := fun W (hb : Below w.heap.size w W) => lLwAt a1 len1 cap1 cs1 W hl1 (by omega) (hB1.under hb)
  clear hM hB1 hB2
  go_enter Tryd.func3, Tryd.ntmps3
  go_wp2_with fail
  refine (D1.out ()).mono ?_
  rintro e w1 ⟨t, htz, rfl, hb1w⟩
  have htm : t.size ≤ maxLen := by unfold maxLen; omega
  have Q1 : Hid _ := fun W => iQuote t W htm
  have Q2 : Hid _ := fun W => sQuote t W htm
  clear htm D1 h1 h2 h1' h2'
  go_wp2_with fail
  refine (Q1.out w1).mono ?_
  rintro e w2 ⟨rfl, hb2w⟩
  go_wp2_with fail
  refine (Q2.out w2).mono ?_
  rintro e w3 ⟨rfl, hb3w⟩
  have hbw : Below w.heap.size w w3 := (hb1w.trans (hb2w.mono hb1w.size)).trans (hb3w.mono (Nat.le_trans hb1w.size hb2w.size))
  clear hb1w hb2w hb3w Q1 Q2
  obtain ⟨q, hq⟩ : ∃ q, q = Lex.quoteB t := ⟨_, rfl⟩
  have HQ : Hid (q = Lex.quoteB t) := hq
  rw [← hq]
  clear hq
  go_upto_if 33 with fail
  go_cut [7] from 16 to 195 (fun _ wx => Below w.heap.size w wx)
  case first =>
    by_cases hqe : q = ⟨#[]⟩
    · have hql : q.toList.isEmpty = true := by rw [hqe, ByteArray.toList_eq]; rfl
      clear hqe
      rw [hql]
      clear hql
      go_wp2_with fail
      go_meet
      exact hbw
    · have hok : t.size ≤ 1000 ∧ Lex.oksQ t t.size = true := by
        by_cases h : t.size ≤ 1000 ∧ Lex.oksQ t t.size = true
        · exact h
        · exact absurd (HQ.out.trans (Lex.quoteB_no t h)) hqe
      have hqz : q.size ≤ 4000 := by
        rw [HQ.out, Lex.quoteB_yes t hok.1 hok.2]
        have h3 := Lex.accQ_len t t.size
        show (Lex.accQ t t.size ++ [34]).length ≤ 4000
        rw [List.length_append, List.length_singleton]; omega
      have hlex : Lex.lexOut q = ⟨[⟨4, t, 0, false, 0⟩, ⟨6, ⟨#[]⟩, 0, false, q.size⟩], 0, 0⟩ := by rw [HQ.out]; exact Lex.quote_lex t hok.1 hok.2
      have hql : ¬ q.toList = [] := fun e => hqe (by
        rw [ByteArray.toList_eq] at e
        apply ByteArray.ext
        exact Array.toList_inj.1 (by simpa using e))
      have hqi : q.toList.isEmpty = false := by
        cases h : q.toList with
        | nil => exact absurd h hql
        | cons _ _ => rfl
      clear hql
      have HT : Hid _ := fun (W : World) (hM : MarksIn W) => iTokens q W (by unfold maxLen; omega) hM
      rw [hlex] at HT
      clear hlex hok hqe
      rw [hqi]
      clear hqi
      go_wp2_with fail
      refine (HT.out w3 (HM.out w3 hbw)).mono ?_
      rintro e w4 ⟨v, rfl, ho4, hb4⟩
      obtain ⟨g, cap, ev, hg1, hg2⟩ := ho4.place (by simp)
      have ev' : v = .slice (some ⟨g, 0, none⟩) 2 cap := ev
      subst ev'
      have h5 := fun o => (ho4.alloc o).five 0 (by simp)
      simp only [Nat.zero_mul, Nat.zero_add] at h5
      have x0 := fun o => (h5 o).1
      have x1 := fun o => (h5 o).2.1
      have x2 := fun o => (h5 o).2.2.1
      have x3 := fun o => (h5 o).2.2.2.1
      have x4 := fun o => (h5 o).2.2.2.2
      simp only [List.getElem_cons_zero] at x0 x1 x2 x3 x4
      have hb4w : Below w.heap.size w w4 := hbw.trans (hb4.mono hbw.size)
      clear h5 ho4 hb4
      go_wp2_with fail
      go_meet
      exact hb4w.alloc hb4w.size _
  case rest =>
    clear hbw HQ htz
    have hbw : Below w.heap.size w wc := hcut
    clear hcut
    go_wp2_with fail
    refine (D2.out wc hbw).mono ?_
    rintro e w4 ⟨u, huz, rfl, hb4⟩
    have hb4w : Below w.heap.size w w4 := hbw.trans (hb4.mono hbw.size)
    have hum : u.size ≤ maxLen := by unfold maxLen; omega
    have T1 : Hid _ := fun (W : World) (s : ByteArray) (hs : s.size ≤ maxLen) (hM : MarksIn W) => iTokens s W hs hM
    have T2 : Hid _ := fun (W : World) => sTokens u W hum
    clear hb4 hbw D2
    obtain ⟨tk, pp, cc, hT⟩ : ∃ tk pp cc, Lex.lexOut u = ⟨tk, pp, cc⟩ := ⟨_, _, _, rfl⟩
    have HT : Hid (Lex.lexOut u = ⟨tk, pp, cc⟩) := hT
    have hfacts : tk.length ≤ 601 ∧ pp ≤ 3000 ∧ (∀ i (h : i + 1 < tk.length), tk[i].at' < tk[i + 1].at') ∧ (∀ x ∈ tk, x.at' ≤ 3000) := by
      rcases Lex.ahead_lex 0 (by omega) u (by show 1 + u.size ≤ 4000; omega) with ⟨toks, l, h1, _, h3, _, h5, h6⟩ | ⟨p, h1, _, h3⟩
      · rw [hT] at h1
        simp only [Lex.Out.mk.injEq] at h1
        obtain ⟨rfl, rfl, rfl⟩ := h1
        exact ⟨h5, by omega, h3.at, fun x hx => Nat.le_trans (h6 x hx) huz⟩
      · rw [hT] at h1
        simp only [Lex.Out.mk.injEq] at h1
        obtain ⟨rfl, rfl, rfl⟩ := h1
        exact ⟨by simp, by omega, fun i h => by simp at h, fun x hx => by simp at hx⟩
    obtain ⟨hlen, hpp, hinc, hats⟩ := hfacts
    have HI : Hid ((∀ i (h : i + 1 < tk.length), tk[i].at' < tk[i + 1].at') ∧ (∀ x ∈ tk, x.at' ≤ 3000)) := ⟨hinc, hats⟩
    clear hinc hats
    rw [hT] at T2
    go_wp2_with fail
    refine (T1.out w4 u hum (HM.out w4 hb4w)).mono ?_
    rw [hT]
    rintro e w5 ⟨v1, rfl, ho5, hb5⟩
    clear hT
    obtain ⟨a3, cp3, ev⟩ := ho5.shape
    subst ev
    have ev : ((⟨tk, pp, cc⟩ : Lex.Out).toks.length) = tk.length := rfl
    dsimp only at ho5 ⊢
    have hb5w : Below w.heap.size w w5 := hb4w.trans (hb5.mono hb4w.size)
    have ho5' := ho5.base hb4w.size
    clear hb5 ho5 ev
    go_wp2_with fail
    have hb6 : Below w5.heap.size w5 (w5.alloc (.cells #[.slice a3 tk.length cp3, .int .i64 pp, .int .i64 cc] 27)) := (Below.refl _ _).alloc (Nat.le_refl _) _
    have hY6 : (w5.alloc (.cells #[.slice a3 tk.length cp3, .int .i64 pp, .int .i64 cc] 27)).heap[w5.heap.size]? = some (.cells #[.slice a3 tk.length cp3, .int .i64 pp, .int .i64 cc] 27 (0, 0)) := heap_alloc_new _ _
    have hs6 : (w5.alloc (.cells #[.slice a3 tk.length cp3, .int .i64 pp, .int .i64 cc] 27)).heap.size = w5.heap.size + 1 := World.size_alloc _ _
    generalize w5.alloc (.cells #[.slice a3 tk.length cp3, .int .i64 pp, .int .i64 cc] 27) = w6 at *
    refine (T2.out w6).mono ?_
    rintro e w7 ⟨v2, rfl, ho7, hb7⟩
    obtain ⟨a4, cp4, ev⟩ := ho7.shape
    subst ev
    dsimp only at ho7 ⊢
    have hb6w : Below w.heap.size w w6 := hb5w.trans (hb6.mono hb5w.size)
    have hb7w : Below w.heap.size w w7 := hb6w.trans (hb7.mono hb6w.size)
    have hY7 := (hb7.block w5.heap.size (by omega)).trans hY6
    have hYl : w5.heap.size < w7.heap.size := by have := hb7.size; omega
    have oA := (ho5'.keep hb6).keep hb7
    have oB := ho7.base hb6w.size
    clear hb5w hb6w hb6 hb7 hY6 hs6 ho5' ho7 T2
    generalize w5.heap.size = Y at *
    obtain ⟨⟨y0, y1, y2⟩, -⟩ := cells3 hY7
    have z0 : ∀ o, (w7.alloc o).cell? ⟨Y, 0, none⟩ = some (.slice a3 tk.length cp3) := fun o => (((Below.refl w7.heap.size w7).alloc (Nat.le_refl _) o).cell hYl).trans y0
    have z1 : ∀ o, (w7.alloc o).cell? ⟨Y, 1, none⟩ = some (.int .i64 pp) := fun o => (((Below.refl w7.heap.size w7).alloc (Nat.le_refl _) o).cell hYl).trans y1
    have z2 : ∀ o, (w7.alloc o).cell? ⟨Y, 2, none⟩ = some (.int .i64 cc) := fun o => (((Below.refl w7.heap.size w7).alloc (Nat.le_refl _) o).cell hYl).trans y2
    clear y0 y1 y2
    go_wp2_with fail
    have hb8 : Below w7.heap.size w7 (w7.alloc (.cells #[.slice a4 tk.length cp4, .int .i64 pp, .int .i64 cc] 27)) := (Below.refl _ _).alloc (Nat.le_refl _) _
    have hZ8 : (w7.alloc (.cells #[.slice a4 tk.length cp4, .int .i64 pp, .int .i64 cc] 27)).heap[w7.heap.size]? = some (.cells #[.slice a4 tk.length cp4, .int .i64 pp, .int .i64 cc] 27 (0, 0)) := heap_alloc_new _ _
    have hs8 : (w7.alloc (.cells #[.slice a4 tk.length cp4, .int .i64 pp, .int .i64 cc] 27)).heap.size = w7.heap.size + 1 := World.size_alloc _ _
    generalize w7.alloc (.cells #[.slice a4 tk.length cp4, .int .i64 pp, .int .i64 cc] 27) = W8 at *
    have hY8 := (hb8.block Y hYl).trans hY7
    have hb8w : Below w.heap.size w W8 := hb7w.trans (hb8.mono hb7w.size)
    have oA8 := oA.keep hb8
    have oB8 := oB.keep hb8
    have hYl8 : Y < W8.heap.size := by omega
    have hZl8 : w7.heap.size < W8.heap.size := by omega
    clear oA oB hb8 hY7 hYl hb7w hs8 z0 z1 z2
    generalize w7.heap.size = Z at *
    have HO : Hid (OwnT W8 w.heap.size (.slice a3 tk.length cp3) tk ∧ OwnT W8 w.heap.size (.slice a4 tk.length cp4) tk) := ⟨oA8, oB8⟩
    clear oA8 oB8
    go_loopw [11] (fun vi wr => ∃ i : Nat, i ≤ tk.length ∧ vi = .int .i64 i ∧ Below W8.heap.size W8 wr) (fun vi _ => tk.length - (intOf vi).toNat)
    case atStart => exact ⟨0, Nat.zero_le _, rfl, Below.refl _ _⟩
    case round =>
      obtain ⟨i, hi, rfl, hb⟩ := hrel
      have hYr := (hb.block Y hYl8).trans hY8
      have hZr := (hb.block Z hZl8).trans hZ8
      obtain ⟨⟨y0, y1, y2⟩, -⟩ := cells3 hYr
      obtain ⟨⟨z0, z1, z2⟩, -⟩ := cells3 hZr
      by_cases hlt : i < tk.length
      · have hlt' : (i : Int) < (tk.length : Int) := by omega
        obtain ⟨oA, oB⟩ := HO.out
        have hne : tk ≠ [] := fun e => by simp [e] at hlt
        obtain ⟨g3, c3, e3, _, _⟩ := oA.place hne
        obtain ⟨g4, c4, e4, _, _⟩ := oB.place hne
        simp only [Value.slice.injEq, true_and] at e3 e4
        obtain ⟨e3, _⟩ := e3
        obtain ⟨e4, _⟩ := e4
        rw [e3] at oA y0
        rw [e4] at oB z0
        have oAr := oA.keep hb
        have oBr := oB.keep hb
        obtain ⟨p0, p1, p2, p3, p4⟩ := oAr.five i hlt
        obtain ⟨q0, q1, q2, q3, q4⟩ := oBr.five i hlt
        by_cases hi0 : i = 0
        · subst hi0
          simp only [Nat.zero_mul, Nat.zero_add] at p0 p1 p2 p3 p4 q0 q1 q2 q3 q4
          generalize tk[0] = X at *
          clear oA oB oAr oBr e3 e4 hYr hZr
          go_wp2_with fail
          go_quiet (fail)
          have hb' := (show Below W8.heap.size W8 (wr.drewN nq) from ⟨hb.os, hb.tape, hb.output, hb.size, hb.block⟩)
          generalize wr.drewN nq = W9 at *
          go_wp2_with fail
          exact ⟨⟨1, by omega, rfl, hb'⟩, by simp [intOf]; omega⟩
        · obtain ⟨m, rfl⟩ : ∃ m, i = m + 1 := ⟨i - 1, by omega⟩
          obtain ⟨_, _, _, _, r4⟩ := oAr.five m (by omega)
          have hcmp := HI.out.1 m hlt
          have hm1 : (((m + 1 : Nat) : Int) - 1) = (m : Int) := by omega
          have hm2 : (m : Int) < (tk.length : Int) := by omega
          have hm3 : (0 : Int) < ((m + 1 : Nat) : Int) := by omega
          have hd : decide (((tk[m + 1].at' : Nat) : Int) ≤ ((tk[m].at' : Nat) : Int)) = false := decide_eq_false (by omega)
          generalize tk[m + 1] = X at *
          generalize tk[m].at' = xm at *
          clear oA oB oAr oBr e3 e4 hYr hZr hi0
          go_wp2_with fail
          go_quiet (fail)
          have hb' := (show Below W8.heap.size W8 (wr.drewN nq) from ⟨hb.os, hb.tape, hb.output, hb.size, hb.block⟩)
          generalize wr.drewN nq = W9 at *
          go_wp2_with fail
          exact ⟨⟨m + 2, by omega, by go_num, hb'⟩, by simp [intOf]; omega⟩
      · have hlt' : ¬ (i : Int) < (tk.length : Int) := by omega
        have hbr : Below w.heap.size w wr := hb8w.trans (hb.mono hb8w.size)
        have oAr := HO.out.1.keep hb
        have HOA : Hid (OwnT wr w.heap.size (.slice a3 tk.length cp3) tk) := oAr
        clear HO oAr z0 z1 z2 hZr hZ8 hY8 hYl8 hZl8 hb8w hb
        go_wp2_with fail
        have hb9 : Below wr.heap.size wr (wr.alloc (.cells #[.string ⟨#[32]⟩, .string ⟨#[9, 32]⟩, .string ⟨#[47, 47, 120, 10]⟩, .string ⟨#[10]⟩] 9)) := (Below.refl _ _).alloc (Nat.le_refl _) _
        have hA9 : RowS (wr.alloc (.cells #[.string ⟨#[32]⟩, .string ⟨#[9, 32]⟩, .string ⟨#[47, 47, 120, 10]⟩, .string ⟨#[10]⟩] 9)) wr.heap.size Lex.aheads := heap_alloc_new _ _
        have hYl : Y < wr.heap.size := (Array.getElem?_eq_some_iff.1 hYr).1
        generalize wr.alloc (.cells #[.string ⟨#[32]⟩, .string ⟨#[9, 32]⟩, .string ⟨#[47, 47, 120, 10]⟩, .string ⟨#[10]⟩] 9) = W9 at *
        have hb9w : Below w.heap.size w W9 := hbr.trans (hb9.mono hbr.size)
        have hY9 := (hb9.block Y hYl).trans hYr
        have HOA9 : Hid (OwnT W9 w.heap.size (.slice a3 tk.length cp3) tk) := HOA.out.keep hb9
        clear hb9 hbr HOA hYr hYl y0 y1 y2
        generalize wr.heap.size = A at *
        refine (D3.out W9 hb9w).mono ?_
        rintro e W9' ⟨r, hr, rfl, eW⟩
        rw [eW]
        clear D3 eW W9'
        have hAr := hA9.at r hr
        have hr' : (r : Int) < 4 := by omega
        have hah : Lex.aheads.getD r ⟨#[]⟩ = Lex.aheads[r]'hr := by
          have hr4 : r < Lex.aheads.length := hr
          rw [List.getD_eq_getElem?_getD, List.getElem?_eq_getElem hr4]; rfl
        have hahz : (Lex.aheads[r]'hr).size ≤ 4 := by
          have : ∀ x ∈ Lex.aheads, x.size ≤ 4 := by decide
          exact this _ (List.getElem_mem hr)
        have hcase := Lex.ahead_lex r hr u (by rw [hah]; omega)
        rw [hah, HT.out] at hcase
        generalize (Lex.aheads[r]'hr) = ah at *
        clear hah hA9
        have HC : Hid _ := fun (_ : Unit) => hcase
        clear hcase
        have hsum : decide ((4000 : Int) < (u.size : Int) + (ah.size : Int)) = false := decide_eq_false (by omega)
        have hsum' : ¬ (4000 : Int) < (u.size : Int) + (ah.size : Int) := by omega
        have hum2 : (ah ++ u).size ≤ maxLen := by unfold maxLen; rw [ByteArray.size_append]; omega
        have T3 : Hid _ := fun (W : World) (hM : MarksIn W) => T1.out W (ah ++ u) hum2 hM
        clear T1 hum2
        rcases HC.out () with ⟨toks, l, h1, h2, _, hne, _, _⟩ | ⟨p, h1, h2, hp⟩
        · simp only [Lex.Out.mk.injEq] at h1
          obtain ⟨rfl, rfl, rfl⟩ := h1
          rw [h2] at T3
          clear h2 HC
          go_wp2_with fail
          refine (T3.out W9 (HM.out W9 hb9w)).mono ?_
          rintro e W10 ⟨v3, rfl, ho10, hb10⟩
          dsimp only at ho10 ⊢
          have hzl : (Lex.setLine l (tk.map (Lex.sh ah.size))).length = tk.length := by rw [Lex.setLine_len, List.length_map]
          obtain ⟨g5, c5, ev, _, _⟩ := ho10.place (fun e => by rw [e] at hzl; exact hne (List.length_eq_zero_iff.1 hzl.symm))
          rw [hzl] at ev
          subst ev
          obtain ⟨g3, c3, e3, _, _⟩ := HOA9.out.place hne
          simp only [Value.slice.injEq, true_and] at e3
          obtain ⟨e3, _⟩ := e3
          rw [e3] at hY9
          have oA := HOA9.out
          rw [e3] at oA
          have hYl : Y < W10.heap.size := by have := (Array.getElem?_eq_some_iff.1 hY9).1; have := hb10.size; omega
          have hb10w : Below w.heap.size w W10 := hb9w.trans (hb10.mono hb9w.size)
          have hY10 := (hb10.block Y (Array.getElem?_eq_some_iff.1 hY9).1).trans hY9
          have oA10 := oA.keep hb10
          clear oA e3 hb9w hb10 hY9 HOA9 T3
          obtain ⟨⟨y0, y1, y2⟩, -⟩ := cells3 hY10
          have z0 : ∀ o, (W10.alloc o).cell? ⟨Y, 0, none⟩ = some (.slice (some ⟨g3, 0, none⟩) tk.length cp3) := fun o => (((Below.refl W10.heap.size W10).alloc (Nat.le_refl _) o).cell hYl).trans y0
          have z1 : ∀ o, (W10.alloc o).cell? ⟨Y, 1, none⟩ = some (.int .i64 ((0 : Nat) : Int)) := fun o => (((Below.refl W10.heap.size W10).alloc (Nat.le_refl _) o).cell hYl).trans y1
          have z2 : ∀ o, (W10.alloc o).cell? ⟨Y, 2, none⟩ = some (.int .i64 0) := fun o => (((Below.refl W10.heap.size W10).alloc (Nat.le_refl _) o).cell hYl).trans y2
          clear y0 y1 y2
          have HO10 : Hid (OwnT W10 w.heap.size (.slice (some ⟨g3, 0, none⟩) tk.length cp3) tk ∧ OwnT W10 W9.heap.size (.slice (some ⟨g5, 0, none⟩) tk.length c5) (Lex.setLine l (tk.map (Lex.sh ah.size)))) := ⟨oA10, ho10⟩
          clear oA10 ho10
          go_wp2_with fail
          have hb11 : Below W10.heap.size W10 (W10.alloc (.cells #[.slice (some ⟨g5, 0, none⟩) tk.length c5, .int .i64 0, .int .i64 0] 27)) := (Below.refl _ _).alloc (Nat.le_refl _) _
          have hV11 : (W10.alloc (.cells #[.slice (some ⟨g5, 0, none⟩) tk.length c5, .int .i64 0, .int .i64 0] 27)).heap[W10.heap.size]? = some (.cells #[.slice (some ⟨g5, 0, none⟩) tk.length c5, .int .i64 0, .int .i64 0] 27 (0, 0)) := heap_alloc_new _ _
          have hs11 : (W10.alloc (.cells #[.slice (some ⟨g5, 0, none⟩) tk.length c5, .int .i64 0, .int .i64 0] 27)).heap.size = W10.heap.size + 1 := World.size_alloc _ _
          generalize W10.alloc (.cells #[.slice (some ⟨g5, 0, none⟩) tk.length c5, .int .i64 0, .int .i64 0] 27) = W11 at *
          have hY11 := (hb11.block Y hYl).trans hY10
          have hYl11 : Y < W11.heap.size := by omega
          have hVl11 : W10.heap.size < W11.heap.size := by omega
          have hb11w : Below w.heap.size w W11 := hb10w.trans (hb11.mono hb10w.size)
          have HO11 : Hid (OwnT W11 w.heap.size (.slice (some ⟨g3, 0, none⟩) tk.length cp3) tk ∧ OwnT W11 W9.heap.size (.slice (some ⟨g5, 0, none⟩) tk.length c5) (Lex.setLine l (tk.map (Lex.sh ah.size)))) := ⟨HO10.out.1.keep hb11, HO10.out.2.keep hb11⟩
          clear HO10 hb11 hY10 hYl hb10w hs11 z0 z1 z2
          generalize W10.heap.size = V at *
          go_loopw [14] (fun vi wr => ∃ i : Nat, i ≤ tk.length ∧ vi = .int .i64 i ∧ Below W11.heap.size W11 wr) (fun vi _ => tk.length - (intOf vi).toNat)
          case atStart => exact ⟨0, Nat.zero_le _, rfl, Below.refl _ _⟩
          case round =>
            obtain ⟨i, hi, rfl, hb⟩ := hrel
            have hYr := (hb.block Y hYl11).trans hY11
            have hVr := (hb.block V hVl11).trans hV11
            obtain ⟨⟨y0, y1, y2⟩, -⟩ := cells3 hYr
            obtain ⟨⟨v0, v1, v2⟩, -⟩ := cells3 hVr
            by_cases hlt : i < tk.length
            · have hlt' : (i : Int) < (tk.length : Int) := by omega
              have oAr := HO11.out.1.keep hb
              have oZr := HO11.out.2.keep hb
              obtain ⟨ln, ezi, hln⟩ := Lex.setLine_at l ah.size tk i hlt
              have p5 := fun o => (oAr.alloc o).five i hlt
              obtain ⟨q0, q1, q2, q3, q4⟩ := oZr.five i (by rw [Lex.setLine_len, List.length_map]; exact hlt)
              rw [ezi] at q0 q1 q2 q3 q4
              dsimp only at q0 q1 q2 q3 q4
              have p0 := fun o => (p5 o).1
              have p1 := fun o => (p5 o).2.1
              have p2 := fun o => (p5 o).2.2.1
              have p3 := fun o => (p5 o).2.2.2.1
              have p4 := fun o => (p5 o).2.2.2.2
              have hat := HI.out.2 tk[i] (List.getElem_mem hlt)
              have hYa : ∀ o, (wr.alloc o).cell? ⟨Y, 0, none⟩ = some (.slice (some ⟨g3, 0, none⟩) tk.length cp3) := fun o => (((Below.refl wr.heap.size wr).alloc (Nat.le_refl _) o).cell (Array.getElem?_eq_some_iff.1 hYr).1).trans y0
              have hsub : ((ah.size + tk[i].at' : Nat) : Int) - (ah.size : Int) = ((tk[i].at' : Nat) : Int) := by omega
              have hba : ∀ o, Below W11.heap.size W11 (wr.alloc o) := fun o => hb.alloc hb.size o
              have HBA : Hid (∀ o, Below W11.heap.size W11 (wr.alloc o)) := hba
              clear p5 oAr oZr ezi hba hYr hVr
              by_cases hi0 : i = 0
              · subst hi0
                clear hln
                simp only [Nat.zero_mul, Nat.zero_add] at p0 p1 p2 p3 p4 q0 q1 q2 q3 q4
                generalize tk[0] = X at *
                go_wp2_with fail
                rw [show ((ah.size : Int) + ((X.at' : Nat) : Int) - (ah.size : Int)) = ((X.at' : Nat) : Int) from by omega]
                have hv : ∀ W, W = wr.alloc (.cells #[.int .i64 X.kind, .string X.text, .int .i64 X.num, .bool X.line, .int .i64 ((X.at' : Nat) : Int)] 30) → W.cell? ⟨wr.heap.size, 0, none⟩ = some (.int .i64 X.kind) ∧ W.cell? ⟨wr.heap.size, 1, none⟩ = some (.string X.text) ∧ W.cell? ⟨wr.heap.size, 2, none⟩ = some (.int .i64 X.num) ∧ W.cell? ⟨wr.heap.size, 3, none⟩ = some (.bool X.line) ∧ W.cell? ⟨wr.heap.size, 4, none⟩ = some (.int .i64 ((X.at' : Nat) : Int)) := fun W e => by subst e; simp [World.cell?_alloc_new]
                generalize hW12 : wr.alloc (.cells #[.int .i64 X.kind, .string X.text, .int .i64 X.num, .bool X.line, .int .i64 ((X.at' : Nat) : Int)] 30) = W12
                obtain ⟨x0, x1, x2, x3, x4⟩ := hv W12 hW12.symm
                replace p0 := (congrArg (fun W => World.cell? W _) hW12.symm).trans (p0 _)
                replace p1 := (congrArg (fun W => World.cell? W _) hW12.symm).trans (p1 _)
                replace p2 := (congrArg (fun W => World.cell? W _) hW12.symm).trans (p2 _)
                replace p3 := (congrArg (fun W => World.cell? W _) hW12.symm).trans (p3 _)
                replace p4 := (congrArg (fun W => World.cell? W _) hW12.symm).trans (p4 _)
                replace hYa := (congrArg (fun W => World.cell? W _) hW12.symm).trans (hYa _)
                have hb12 : Below W11.heap.size W11 W12 := by rw [← hW12]; exact HBA.out _
                clear hv hW12 q0 q1 q2 q3 q4 v0 v1 v2 y0 y1 y2
                go_quiet (fail)
                have hb13 := (show Below W11.heap.size W11 (W12.drewN nq) from ⟨hb12.os, hb12.tape, hb12.output, hb12.size, hb12.block⟩)
                generalize W12.drewN nq = W13 at *
                go_wp2_with fail
                exact ⟨⟨1, by omega, by go_num, hb13⟩, by simp [intOf]; omega⟩
              · have eln := hln (by omega)
                subst eln
                have hi0' : ((i : Int) == 0) = false := beq_eq_false_iff_ne.2 (by omega)
                clear hln
                generalize tk[i] = X at *
                go_wp2_with fail
                rw [show ((ah.size : Int) + ((X.at' : Nat) : Int) - (ah.size : Int)) = ((X.at' : Nat) : Int) from by omega]
                have hv : ∀ W, W = wr.alloc (.cells #[.int .i64 X.kind, .string X.text, .int .i64 X.num, .bool X.line, .int .i64 ((X.at' : Nat) : Int)] 30) → W.cell? ⟨wr.heap.size, 0, none⟩ = some (.int .i64 X.kind) ∧ W.cell? ⟨wr.heap.size, 1, none⟩ = some (.string X.text) ∧ W.cell? ⟨wr.heap.size, 2, none⟩ = some (.int .i64 X.num) ∧ W.cell? ⟨wr.heap.size, 3, none⟩ = some (.bool X.line) ∧ W.cell? ⟨wr.heap.size, 4, none⟩ = some (.int .i64 ((X.at' : Nat) : Int)) := fun W e => by subst e; simp [World.cell?_alloc_new]
                generalize hW12 : wr.alloc (.cells #[.int .i64 X.kind, .string X.text, .int .i64 X.num, .bool X.line, .int .i64 ((X.at' : Nat) : Int)] 30) = W12
                obtain ⟨x0, x1, x2, x3, x4⟩ := hv W12 hW12.symm
                replace p0 := (congrArg (fun W => World.cell? W _) hW12.symm).trans (p0 _)
                replace p1 := (congrArg (fun W => World.cell? W _) hW12.symm).trans (p1 _)
                replace p2 := (congrArg (fun W => World.cell? W _) hW12.symm).trans (p2 _)
                replace p3 := (congrArg (fun W => World.cell? W _) hW12.symm).trans (p3 _)
                replace p4 := (congrArg (fun W => World.cell? W _) hW12.symm).trans (p4 _)
                replace hYa := (congrArg (fun W => World.cell? W _) hW12.symm).trans (hYa _)
                have hb12 : Below W11.heap.size W11 W12 := by rw [← hW12]; exact HBA.out _
                clear hv hW12 q0 q1 q2 q3 q4 v0 v1 v2 y0 y1 y2
                go_quiet (fail)
                have hb13 := (show Below W11.heap.size W11 (W12.drewN nq) from ⟨hb12.os, hb12.tape, hb12.output, hb12.size, hb12.block⟩)
                generalize W12.drewN nq = W13 at *
                go_wp2_with fail
                exact ⟨⟨i + 1, by omega, by go_num, hb13⟩, by simp [intOf]; omega⟩
            · have hlt' : ¬ (i : Int) < (tk.length : Int) := by omega
              go_wp2_with fail
              go_ret
              exact ⟨rfl, hb11w.trans (hb.mono hb11w.size)⟩
        · simp only [Lex.Out.mk.injEq] at h1
          obtain ⟨rfl, rfl, rfl⟩ := h1
          rw [h2] at T3
          clear h2 HC
          go_wp2_with fail
          refine (T3.out W9 (HM.out W9 hb9w)).mono ?_
          rintro e W10 ⟨v3, rfl, ho10, hb10⟩
          obtain ⟨a5, c5, ev⟩ := ho10.shape
          dsimp only [List.length_nil] at ev
          subst ev
          have hYl9 := (Array.getElem?_eq_some_iff.1 hY9).1
          have hYl : Y < W10.heap.size := by have := hb10.size; omega
          have hb10w : Below w.heap.size w W10 := hb9w.trans (hb10.mono hb9w.size)
          have hY10 := (hb10.block Y hYl9).trans hY9
          dsimp only [List.length_nil] at hY10
          clear hb9w hb10 hY9 HOA9 T3 ho10 hYl9
          obtain ⟨⟨y0, y1, y2⟩, -⟩ := cells3 hY10
          have z0 : ∀ o, (W10.alloc o).cell? ⟨Y, 0, none⟩ = some (.slice a3 0 cp3) := fun o => (((Below.refl W10.heap.size W10).alloc (Nat.le_refl _) o).cell hYl).trans y0
          have z1 : ∀ o, (W10.alloc o).cell? ⟨Y, 1, none⟩ = some (.int .i64 (pp : Int)) := fun o => (((Below.refl W10.heap.size W10).alloc (Nat.le_refl _) o).cell hYl).trans y1
          have z2 : ∀ o, (W10.alloc o).cell? ⟨Y, 2, none⟩ = some (.int .i64 3) := fun o => (((Below.refl W10.heap.size W10).alloc (Nat.le_refl _) o).cell hYl).trans y2
          have hadd : ((ah.size + pp : Nat) : Int) = (pp : Int) + (ah.size : Int) := by omega
          rw [hadd]
          have hbx : ∀ o, Below w.heap.size w (W10.alloc o) := fun o => hb10w.alloc hb10w.size o
          have HBX : Hid (∀ o, Below w.heap.size w (W10.alloc o)) := hbx
          clear y0 y1 y2 hadd hbx hb10w hY10
          go_wp2_with fail
          refine wp_loop_rounds 1 ?_
          rw [rounds_succ]
          go_wp2_with fail
          go_ret
          exact ⟨rfl, HBX.out _⟩

end Go.Proofs.YtpabbadngpjgoaaDoor

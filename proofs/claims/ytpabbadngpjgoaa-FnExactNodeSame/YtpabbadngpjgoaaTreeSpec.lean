/-
  The walk of the specification's NodeSame.
-/
import Derived.Test.YtpabbadngpjgoaaTreeEq
namespace Go.Proofs.Ytpabbadngpjgoaa
open Go.RowKit

mutual
def same : PT → PT → Bool
  | .node k t n ns s ks, .node k' t' n' ns' s' ks' => (decide (k = k') && decide (t = t') && decide (n = n') && decide (s = s') && decide (ns = ns') && decide (ks.length = ks'.length)) && sameL ks ks'
def sameL : List PT → List PT → Bool
  | [], [] => true
  | a :: r, b :: r' => same a b && sameL r r'
  | _, _ => false
end

theorem sameL_at : ∀ (a b : List PT) (i : Nat) (h : i < a.length) (h' : i < b.length), same a[i] b[i] = false → sameL a b = false
  | x :: a, y :: b, 0, _, _, e => by rw [sameL]; simp at e; simp [e]
  | x :: a, y :: b, i + 1, h, h', e => by
    rw [sameL, sameL_at a b i (by simpa using h) (by simpa using h') (by simpa using e)]; simp
theorem sameL_all : ∀ (a b : List PT), a.length = b.length → (∀ (i : Nat) (h : i < a.length) (h' : i < b.length), same a[i] b[i] = true) → sameL a b = true
  | [], [], _, _ => by rw [sameL]
  | x :: a, y :: b, hl, h => by
    have h0 := h 0 (by simp) (by simp)
    rw [sameL, sameL_all a b (by simpa using hl) (fun i hi hi' => by have := h (i + 1) (by simp; omega) (by simp; omega); simpa using this)]
    simpa using h0
  | [], y :: b, hl, _ => by simp at hl
  | x :: a, [], hl, _ => by simp at hl
theorem strs_ne {a b : List ByteArray} (i : Nat) (h : i < a.length) (h' : i < b.length) (e : a[i] ≠ b[i]) : a ≠ b := fun q => by subst q; exact e rfl

theorem text_inj {a b : ByteArray} (h : a.toList = b.toList) : a = b := by
  rw [ByteArray.toList_eq, ByteArray.toList_eq] at h
  cases a; cases b; simpa using h
theorem text_ne {a b : ByteArray} (h : ¬ a = b) : (a.toList != b.toList) = true ∧ (a.toList == b.toList) = false ∧ ¬ a.toList = b.toList := by
  have : ¬ a.toList = b.toList := fun e => h (text_inj e)
  simp [this]

def SpOK (t : PT) : Prop := ∀ (t' : PT) (B1 B2 : Nat) (c1 c2 : NC) (fp1 fp2 : List Nat) (w : World), szT t ≤ 1048576 → szT t' ≤ 1048576 → NIn w B1 t c1 fp1 → NIn w B2 t' c2 fp2 →
  Calls Try.prog 11 #[.agg (t.cells c1), .agg (t'.cells c2)] w fun e w' => e = .returned (.bool (same t t')) ∧ Below w.heap.size w w'

def nv (k : Int) (t : ByteArray) (n : Int) (na : Option Addr) (nl nc : Nat) (s : Bool) (ka : Option Addr) (kl kc : Nat) : Array Value := #[.int .i64 k, .string t, .int .i64 n, .slice na nl nc, .bool s, .slice ka kl kc]

set_option maxHeartbeats 1000000 in
/-- Where the heads part. -/
theorem sHeadF (k k' : Int) (t t' : ByteArray) (n n' : Int) (na na' : Option Addr) (nl nc nl' nc' : Nat) (s s' : Bool) (ka ka' : Option Addr) (kl kc kl' kc' : Nat) (w : World)
    (h : k ≠ k' ∨ t ≠ t' ∨ n ≠ n' ∨ s ≠ s' ∨ nl ≠ nl' ∨ kl ≠ kl') :
    Calls Try.prog 11 #[.agg (nv k t n na nl nc s ka kl kc), .agg (nv k' t' n' na' nl' nc' s' ka' kl' kc')] w fun e w' => e = .returned (.bool false) ∧ Below w.heap.size w w' := by
  unfold nv
  have hb0 : ∀ o1 o2, Below w.heap.size w ((w.alloc o1).alloc o2) := fun o1 o2 => ((Below.refl _ _).alloc (Nat.le_refl _) o1).alloc (by simp) o2
  have HB0 : Hid (∀ o1 o2, Below w.heap.size w ((w.alloc o1).alloc o2)) := hb0
  clear hb0
  by_cases h1 : k = k'
  · subst h1
    by_cases h2 : t = t'
    · subst h2
      by_cases h3 : n = n'
      · subst h3
        by_cases h4 : s = s'
        · subst h4
          by_cases h5 : nl = nl'
          · subst h5
            have h6 : ((kl : Int) != (kl' : Int)) = true := by simp at h ⊢; omega
            have h6' : ((kl : Int) == (kl' : Int)) = false := by simp at h ⊢; omega
            clear h
            go_enter Try.func11, Try.ntmps11
            go_wp2_with fail
            go_ret
            exact ⟨rfl, HB0.out _ _⟩
          · have h6 : ((nl : Int) != (nl' : Int)) = true := by simp; omega
            have h6' : ((nl : Int) == (nl' : Int)) = false := by simp; omega
            clear h
            go_enter Try.func11, Try.ntmps11
            go_wp2_with fail
            go_ret
            exact ⟨rfl, HB0.out _ _⟩
        · have h6 : (s != s') = true := by simp [h4]
          have h6' : (s == s') = false := by simp [h4]
          clear h
          go_enter Try.func11, Try.ntmps11
          go_wp2_with fail
          go_ret
          exact ⟨rfl, HB0.out _ _⟩
      · have h6 : (n != n') = true := by simp [h3]
        have h6' : (n == n') = false := by simp [h3]
        clear h
        go_enter Try.func11, Try.ntmps11
        go_wp2_with fail
        go_ret
        exact ⟨rfl, HB0.out _ _⟩
    · obtain ⟨h6, h6', h6''⟩ := text_ne h2
      clear h
      go_enter Try.func11, Try.ntmps11
      go_wp2_with fail
      go_ret
      exact ⟨rfl, HB0.out _ _⟩
  · have h6 : (k != k') = true := by simp [h1]
    have h6' : (k == k') = false := by simp [h1]
    clear h
    go_enter Try.func11, Try.ntmps11
    go_wp2_with fail
    go_ret
    exact ⟨rfl, HB0.out _ _⟩

set_option maxHeartbeats 4000000 in
set_option maxRecDepth 100000 in
theorem sSame (t : PT) : SpOK t := by
  induction t using PT.ind with
  | h k t n ns s ks ih =>
  intro t' B1 B2 c1 c2 fp1 fp2 w hz hz' hin1 hin2
  cases t' with
  | node k' t' n' ns' s' ks' =>
  by_cases hd : k ≠ k' ∨ t ≠ t' ∨ n ≠ n' ∨ s ≠ s' ∨ ns.length ≠ ns'.length ∨ ks.length ≠ ks'.length
  · have e : same (.node k t n ns s ks) (.node k' t' n' ns' s' ks') = false := by
      rw [same]
      have hnl : ns.length ≠ ns'.length → ¬ ns = ns' := fun h e => h (by rw [e])
      rcases hd with h | h | h | h | h | h <;> simp [h]
      intro _ _ _ _ e
      exact absurd e (hnl h)
    rw [e]
    exact sHeadF k k' t t' n n' _ _ _ _ _ _ s s' _ _ _ _ _ _ w hd
  have hd' : k = k' ∧ t = t' ∧ n = n' ∧ s = s' ∧ ns.length = ns'.length ∧ ks.length = ks'.length := by
    simpa only [not_or, Decidable.not_not] using hd
  clear hd
  obtain ⟨rfl, rfl, rfl, rfl, hnl, hkl⟩ := hd'
  rw [szT] at hz hz'
  have hmem : ∀ x ∈ ks, szT x ≤ 1048576 := fun x hx => by
    obtain ⟨i, hi, rfl⟩ := List.getElem_of_mem hx
    have := szT_mem ks i hi; omega
  have hmem' : ∀ x ∈ ks', szT x ≤ 1048576 := fun x hx => by
    obtain ⟨i, hi, rfl⟩ := List.getElem_of_mem hx
    have := szT_mem ks' i hi; omega
  cases hin1 with
  | mk _ _ _ _ _ _ _ b1 o1 cs1 fs1 hns1 ha1 hc1 hk1 =>
  cases hin2 with
  | mk _ _ _ _ _ _ _ b2 o2 cs2 fs2 hns2 ha2 hc2 hk2 =>
  have hnb : ns.length ≤ 1048576 := by omega
  have hkb : ks.length ≤ 1048576 := by omega
  have HNS : Hid (StrsIn w B1 c1.na ns ∧ StrsIn w B2 c2.na ns') := ⟨hns1, hns2⟩
  have HKA : Hid ((ks = [] ∨ (c1.ka = some ⟨b1, o1, none⟩ ∧ B1 ≤ b1)) ∧ (ks' = [] ∨ (c2.ka = some ⟨b2, o2, none⟩ ∧ B2 ≤ b2))) := ⟨ha1, ha2⟩
  have HKC : Hid (((∀ i (h : i < ks.length), SixAt w b1 (o1 + i * 6) ks[i] (cs1 i)) ∧ (∀ i (h : i < ks.length), NIn w B1 ks[i] (cs1 i) (fs1 i))) ∧ ((∀ i (h : i < ks'.length), SixAt w b2 (o2 + i * 6) ks'[i] (cs2 i)) ∧ (∀ i (h : i < ks'.length), NIn w B2 ks'[i] (cs2 i) (fs2 i)))) := ⟨⟨hc1, hk1⟩, hc2, hk2⟩
  have HIH : Hid ((∀ x ∈ ks, SpOK x) ∧ (∀ x ∈ ks, szT x ≤ 1048576) ∧ (∀ x ∈ ks', szT x ≤ 1048576)) := ⟨ih, hmem, hmem'⟩
  have HNL : Hid (ns.length = ns'.length ∧ ks.length = ks'.length) := ⟨hnl, hkl⟩
  obtain ⟨R, hR⟩ : ∃ R, R = same (.node k t n ns s ks) (.node k t n ns' s ks') := ⟨_, rfl⟩
  have HR : Hid (R = (decide (ns = ns') && sameL ks ks')) := by
    show _ = _
    rw [hR, same]; simp [hkl]
  rw [← hR]
  clear hR hns1 hns2 ha1 ha2 hc1 hc2 hk1 hk2 ih hmem hmem' hz hz'
  unfold PT.cells nodeC
  dsimp only
  rw [← hnl, ← hkl]
  clear hnl hkl
  generalize ena1 : c1.na = na1 at *
  generalize ena2 : c2.na = na2 at *
  generalize eka1 : c1.ka = ka1 at *
  generalize eka2 : c2.ka = ka2 at *
  clear ena1 ena2 eka1 eka2
  generalize c1.nc = nc1 at *
  generalize c2.nc = nc2 at *
  generalize c1.kc = kc1 at *
  generalize c2.kc = kc2 at *
  have hb0 : ∀ o1 o2, Below w.heap.size w ((w.alloc o1).alloc o2) := fun o1 o2 => ((Below.refl _ _).alloc (Nat.le_refl _) o1).alloc (by simp) o2
  have HB0 : Hid (∀ o1 o2, Below w.heap.size w ((w.alloc o1).alloc o2)) := hb0
  clear hb0
  go_enter Try.func11, Try.ntmps11
  go_wp2_with fail
  generalize hW0 : (w.alloc (.cells #[.int .i64 k, .string t, .int .i64 n, .slice na1 ns.length nc1, .bool s, .slice ka1 ks.length kc1] 32)).alloc (.cells #[.int .i64 k, .string t, .int .i64 n, .slice na2 ns.length nc2, .bool s, .slice ka2 ks.length kc2] 32) = W0
  have hP : W0.heap[w.heap.size]? = some (.cells #[.int .i64 k, .string t, .int .i64 n, .slice na1 ns.length nc1, .bool s, .slice ka1 ks.length kc1] 32 (0, 0)) := by
    rw [← hW0, Below.heap_alloc _ _ _ (by simp)]; exact heap_alloc_new _ _
  have hQ : W0.heap[w.heap.size + 1]? = some (.cells #[.int .i64 k, .string t, .int .i64 n, .slice na2 ns.length nc2, .bool s, .slice ka2 ks.length kc2] 32 (0, 0)) := by
    rw [← hW0, ← World.size_alloc w]; exact heap_alloc_new _ _
  have hBW : Below w.heap.size w W0 := by rw [← hW0]; exact HB0.out _ _
  have hS0 : W0.heap.size = w.heap.size + 1 + 1 := by rw [← hW0]; simp
  clear hW0 HB0
  go_loopw [5] (fun vi wr => ∃ i : Nat, i ≤ ns.length ∧ vi = .int .i64 i ∧ Below W0.heap.size W0 wr ∧ Hid (∀ j (h : j < ns.length) (h' : j < ns'.length), j < i → ns[j] = ns'[j])) (fun vi _ => ns.length - (intOf vi).toNat)
  case atStart => exact ⟨0, Nat.zero_le _, rfl, Below.refl _ _, fun j _ _ h => by omega⟩
  case round =>
    obtain ⟨i, hi, rfl, hb, HE⟩ := hrel
    have hP1 := (hb.block _ (by omega)).trans hP
    have hQ1 := (hb.block _ (by omega)).trans hQ
    have hbw : Below w.heap.size w wr := hBW.trans (hb.mono (by omega))
    obtain ⟨⟨p0, p1, p2, p3, p4, p5⟩, _⟩ := six_of hP1
    obtain ⟨⟨q0, q1, q2, q3, q4, q5⟩, _⟩ := six_of hQ1
    by_cases hlt : i < ns.length
    · have hlt2 : i < ns'.length := by have := HNL.out.1; omega
      have hlt' : (i : Int) < (ns.length : Int) := by omega
      obtain ⟨x1, x2⟩ := HNS.out
      obtain ⟨nb1, no1, e1, _, n1⟩ := x1.resolve_left (fun e => by simp [e] at hlt)
      obtain ⟨nb2, no2, e2, _, n2⟩ := x2.resolve_left (fun e => by simp [e] at hlt2)
      replace n1 := n1 i hlt
      replace n2 := n2 i hlt2
      replace n1 := (hbw.cell (World.block_lt_of_cell? w _ n1)).trans n1
      replace n2 := (hbw.cell (World.block_lt_of_cell? w _ n2)).trans n2
      rw [e1] at p3
      rw [e2] at q3
      by_cases hx : ns[i] = ns'[i]
      · have HE2 : Hid (∀ j (h : j < ns.length) (h' : j < ns'.length), j < i + 1 → ns[j] = ns'[j]) := by
          intro j h h' hj
          by_cases e : j = i
          · subst e; exact hx
          · exact HE.out j h h' (by omega)
        rw [← hx] at n2
        generalize ns[i] = x at *
        clear hx HE e1 e2 hP1 hQ1
        go_wp2_with fail
        go_quiet (fail)
        have hb' : Below W0.heap.size W0 (wr.drewN nq) := ⟨hb.os, hb.tape, hb.output, hb.size, hb.block⟩
        generalize wr.drewN nq = W1 at *
        go_wp2_with fail
        exact ⟨⟨i + 1, by omega, by go_num, hb', HE2⟩, by simp [intOf]; omega⟩
      · have hRf : Hid (R = false) := by
          show _ = _
          rw [HR.out, decide_eq_false (strs_ne i hlt hlt2 hx)]; rfl
        obtain ⟨y1, y2, y3⟩ := text_ne hx
        generalize ns[i] = x at *
        generalize ns'[i] = y at *
        clear hx HE e1 e2 hP1 hQ1
        go_wp2_with fail
        go_quiet (fail)
        have hb' : Below w.heap.size w (wr.drewN nq) := ⟨hbw.os, hbw.tape, hbw.output, hbw.size, hbw.block⟩
        generalize wr.drewN nq = W1 at *
        go_wp2_with fail
        go_ret
        exact ⟨retB hRf.out.symm, hb'⟩
    · have hnn : Hid (ns = ns') := by
        refine List.ext_getElem HNL.out.1 fun j h h' => HE.out j h h' (by omega)
      have hRs : Hid (R = sameL ks ks') := by
        show _ = _
        rw [HR.out, decide_eq_true hnn.out]; rfl
      have hlt' : ¬ (i : Int) < (ns.length : Int) := by omega
      clear HE HR
      go_wp2_with fail
      go_loopw [6] (fun vi wr => ∃ i : Nat, i ≤ ks.length ∧ vi = .int .i64 i ∧ Below W0.heap.size W0 wr ∧ Hid (∀ j (h : j < ks.length) (h' : j < ks'.length), j < i → same ks[j] ks'[j] = true)) (fun vi _ => ks.length - (intOf vi).toNat)
      case atStart => exact ⟨0, Nat.zero_le _, rfl, hb, fun j _ _ h => by omega⟩
      case round =>
        clear p0 p1 p2 p3 p4 p5 q0 q1 q2 q3 q4 q5 hP1 hQ1 hbw hb hlt hlt' hi hnn
        obtain ⟨j, hj, rfl, hb, HE⟩ := hrel
        have hP1 := (hb.block _ (by omega)).trans hP
        have hQ1 := (hb.block _ (by omega)).trans hQ
        have hbw : Below w.heap.size w wr := hBW.trans (hb.mono (by omega))
        obtain ⟨⟨p0, p1, p2, p3, p4, p5⟩, _⟩ := six_of hP1
        obtain ⟨⟨q0, q1, q2, q3, q4, q5⟩, _⟩ := six_of hQ1
        by_cases hlt : j < ks.length
        · have hlt2 : j < ks'.length := by have := HNL.out.2; omega
          have hlt' : (j : Int) < (ks.length : Int) := by omega
          obtain ⟨x1, x2⟩ := HKA.out
          obtain ⟨e1, hB1⟩ := x1.resolve_left (fun e => by simp [e] at hlt)
          obtain ⟨e2, hB2⟩ := x2.resolve_left (fun e => by simp [e] at hlt2)
          rw [e1] at p5
          rw [e2] at q5
          obtain ⟨⟨HC1, HC2⟩, HC3, HC4⟩ := HKC.out
          have h6 := (HC1 j hlt).keep hB1 (.of_below hbw B1)
          have g6 := (HC3 j hlt2).keep hB2 (.of_below hbw B2)
          have hcall : Calls Try.prog 11 #[.agg (ks[j].cells (cs1 j)), .agg (ks'[j].cells (cs2 j))] (wr.drewN 1) fun e w' => e = .returned (.bool (same ks[j] ks'[j])) ∧ Below (wr.drewN 1).heap.size (wr.drewN 1) w' :=
            have hb' : Below w.heap.size w (wr.drewN 1) := ⟨hbw.os, hbw.tape, hbw.output, hbw.size, hbw.block⟩
            HIH.out.1 ks[j] (List.getElem_mem hlt) ks'[j] B1 B2 (cs1 j) (cs2 j) (fs1 j) (fs2 j) _ (HIH.out.2.1 _ (List.getElem_mem hlt)) (HIH.out.2.2 _ (List.getElem_mem hlt2)) ((HC2 j hlt).under hb') ((HC4 j hlt2).under hb')
          have HE2 : Hid (same ks[j] ks'[j] = true → ∀ i (h : i < ks.length) (h' : i < ks'.length), i < j + 1 → same ks[i] ks'[i] = true) := by
            intro hh i h h' hi
            by_cases e : i = j
            · subst e; exact hh
            · exact HE.out i h h' (by omega)
          have HE3 : Hid (same ks[j] ks'[j] = false → R = false) := fun hh => by
            rw [hRs.out]; exact sameL_at ks ks' j hlt hlt2 hh
          clear HC1 HC2 HC3 HC4 x1 x2 e1 e2 hP1 hQ1 HE
          generalize same ks[j] ks'[j] = rr at *
          generalize cs1 j = d1 at *
          generalize cs2 j = d2 at *
          generalize ks[j] = x at *
          generalize ks'[j] = y at *
          cases x with
          | node kx tx nx nsx sx ksx =>
          cases y with
          | node ky ty ny nsy sy ksy =>
          obtain ⟨h60, h61, h62, h63, h64, h65⟩ := h6
          obtain ⟨g60, g61, g62, g63, g64, g65⟩ := g6
          have HCALL : Hid (Calls Try.prog 11 #[.agg #[.int .i64 kx, .string tx, .int .i64 nx, .slice d1.na nsx.length d1.nc, .bool sx, .slice d1.ka ksx.length d1.kc], .agg #[.int .i64 ky, .string ty, .int .i64 ny, .slice d2.na nsy.length d2.nc, .bool sy, .slice d2.ka ksy.length d2.kc]] (wr.drewN 1) fun e w' => e = .returned (.bool rr) ∧ Below (wr.drewN 1).heap.size (wr.drewN 1) w') := hcall
          clear hcall
          have hsz := hb.size
          go_wp2_with fail
          go_region_with (go_at_call 11; refine HCALL.out.mono ?_; rintro e w' ⟨rfl, hb'⟩)
          all_goals
            have hbx : Below W0.heap.size W0 w' := Below.trans (show Below W0.heap.size W0 (wr.drewN 1) from ⟨hb.os, hb.tape, hb.output, hb.size, hb.block⟩) (hb'.mono hsz)
            have hbz : Below w.heap.size w w' := hBW.trans (hbx.mono (by omega))
            clear hb' p0 p1 p2 p3 p4 p5 q0 q1 q2 q3 q4 q5 h60 h61 h62 h63 h64 h65 g60 g61 g62 g63 g64 g65
            cases rr with
            | true =>
              go_wp2_with fail
              exact ⟨⟨j + 1, by omega, by go_num, hbx, HE2.out rfl⟩, by simp [intOf]; omega⟩
            | false =>
              go_wp2_with fail
              go_ret
              exact ⟨retB (HE3.out (by first | rfl | trivial)).symm, hbz⟩
        · have hlt' : ¬ (j : Int) < (ks.length : Int) := by omega
          have hRt : Hid (R = true) := by
            show _ = _
            rw [hRs.out]; exact sameL_all ks ks' HNL.out.2 fun i h h' => HE.out i h h' (by omega)
          go_wp2_with fail
          go_ret
          exact ⟨retB hRt.out.symm, hbw⟩

end Go.Proofs.Ytpabbadngpjgoaa

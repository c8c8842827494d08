/-
  The walk of the specification's CallsEval.
-/
import Derived.Test.YtbkloddaooblfacEv
import Derived.Deep.CutRange
import Derived.Deep.LoopGhost
namespace Go.Proofs.Ytbkloddaooblfac
open Go.RowKit

def SpC (t : PT) : Prop := ∀ (B : Nat) (c : NC) (fp : List Nat) (w : World), szT t ≤ 1048576 → NIn w B t c fp →
  Calls Try.prog 58 #[.agg (t.cells c)] w fun e w' => e = .returned (.bool (callsT t)) ∧ Below w.heap.size w w'

theorem callsL_at : ∀ (ks : List PT) (i : Nat) (h : i < ks.length), subC ks[i] = true → callsL ks = true
  | x :: r, 0, _, e => by rw [callsL_any]; simp at e; simp [e]
  | x :: r, i + 1, h, e => by
    have := callsL_at r i (by simpa using h) (by simpa using e)
    rw [callsL_any] at this ⊢
    rw [List.any_cons, this]; simp
theorem callsL_none (ks : List PT) (h : ∀ (i : Nat) (h : i < ks.length), subC ks[i] = false) : callsL ks = false := by
  rw [callsL_any, List.any_eq_false]
  intro x hx
  obtain ⟨i, hi, rfl⟩ := List.getElem_of_mem hx
  simp [h i hi]

set_option maxHeartbeats 4000000 in
set_option maxRecDepth 100000 in
theorem sCalls (t : PT) : SpC t := by
  induction t using PT.ind with
  | h k t n ns s ks ih =>
  intro B c fp w hz hin
  rw [szT] at hz
  have hmem : ∀ x ∈ ks, szT x ≤ 1048576 := fun x hx => by
    obtain ⟨i, hi, rfl⟩ := List.getElem_of_mem hx
    have := szT_mem ks i hi; omega
  have hkb : ks.length ≤ 1048576 := by omega
  cases hin with
  | mk _ _ _ _ _ _ _ b o cs fs hns ha hc hk =>
  have HKA : Hid (ks = [] ∨ (c.ka = some ⟨b, o, none⟩ ∧ B ≤ b)) := ha
  have HKC : Hid ((∀ i (h : i < ks.length), SixAt w b (o + i * 6) ks[i] (cs i)) ∧ (∀ i (h : i < ks.length), NIn w B ks[i] (cs i) (fs i))) := ⟨hc, hk⟩
  have HIH : Hid ((∀ x ∈ ks, SpC x) ∧ (∀ x ∈ ks, szT x ≤ 1048576)) := ⟨ih, hmem⟩
  obtain ⟨R, hR⟩ : ∃ R, R = callsT (.node k t n ns s ks) := ⟨_, rfl⟩
  have HR : Hid (R = (evalH k ks || callsL ks)) := by show _ = _; rw [hR, callsT]
  rw [← hR]
  clear hR hns ha hc hk ih hmem hz
  unfold PT.cells nodeC
  dsimp only
  have hb0 : ∀ ob, Below w.heap.size w (w.alloc ob) := fun ob => (Below.refl _ _).alloc (Nat.le_refl _) ob
  have HB0 : Hid (∀ ob, Below w.heap.size w (w.alloc ob)) := hb0
  clear hb0
  have HFN : Hid (∀ (k : Int) (W : World), Calls Try.prog 57 #[.int .i64 k] W fun e w' => e = .returned (.bool (fnK k)) ∧ w' = W) := sFn
  generalize c.na = na at *
  generalize c.ka = ka at *
  generalize c.nc = nc at *
  generalize c.kc = kc at *
  go_enter Try.func58, Try.ntmps58
  go_upto_region 1 with fail
  go_cut [28] from 4 to 28 (fun v wx => v = .bool (evalH k ks) ∧ wx = w.alloc (.cells #[.int .i64 k, .string t, .int .i64 n, .slice na ns.length nc, .bool s, .slice ka ks.length kc] 56))
  case first =>
    clear HR HIH
    by_cases h9 : k = 9
    · subst h9
      cases ks with
      | nil =>
        go_wp2_with fail
        go_meet
        exact ⟨rfl, rfl⟩
      | cons y r =>
        obtain ⟨eka, _⟩ := HKA.out.resolve_left (fun e => by cases e)
        clear HKA
        subst eka
        have h6 := HKC.out.1 0 (by simp)
        simp only [Nat.zero_mul, Nat.add_zero, List.getElem_cons_zero] at h6
        clear HKC
        cases y with
        | node ky ty ny nsy sy ksy =>
        obtain ⟨q0, q1, q2, q3, q4, q5⟩ := h6
        have hpos : (0 : Int) < ((PT.node ky ty ny nsy sy ksy :: r).length : Int) := by simp
        have hb1 : b < w.heap.size := World.block_lt_of_cell? w _ q0
        have hcc : ∀ (ob : Obj) (j : Nat), (w.alloc ob).cell? ⟨b, j, none⟩ = w.cell? ⟨b, j, none⟩ := fun ob j => ((Below.refl w.heap.size w).alloc (Nat.le_refl _) ob).cell hb1
        have q0' := fun ob => (hcc ob o).trans q0
        have q1' := fun ob => (hcc ob (o + 1)).trans q1
        clear q2 q3 q4 q5 hcc
        by_cases h4 : ky = 4
        · subst h4
          by_cases ht : ty = evalW
          · have HE0 : Hid (_ = _) := evalH_yes (x := .node 4 ty ny nsy sy ksy) r rfl ht
            subst ht
            unfold evalW at q1 q1'
            generalize (PT.node 4 evalW ny nsy sy ksy :: r).length = L at *
            go_wp2_with fail
            go_meet
            exact ⟨congrArg Value.bool HE0.out.symm, rfl⟩
          · have HE0 : Hid (_ = _) := evalH_text (k := 9) (x := .node 4 ty ny nsy sy ksy) r ht
            obtain ⟨y1, y2, y3⟩ := text_ne' ht
            rw [evalW_list] at y1 y2 y3
            generalize (PT.node 4 ty ny nsy sy ksy :: r).length = L at *
            go_wp2_with fail
            go_meet
            exact ⟨congrArg Value.bool HE0.out.symm, rfl⟩
        · have HE0 : Hid (_ = _) := evalH_kind (k := 9) (x := .node ky ty ny nsy sy ksy) r h4
          have e4 : (ky == 4) = false := by simp [h4]
          generalize (PT.node ky ty ny nsy sy ksy :: r).length = L at *
          go_wp2_with fail
          go_meet
          exact ⟨congrArg Value.bool HE0.out.symm, rfl⟩
    · have HE0 : Hid (_ = _) := evalH_ne h9 ks
      have e9 : (k == 9) = false := by simp [h9]
      go_wp2_with fail
      go_meet
      exact ⟨congrArg Value.bool HE0.out.symm, rfl⟩
  case rest =>
    obtain ⟨rfl, rfl⟩ := hcut
    cases he : evalH k ks with
    | true =>
      have hRt : Hid (R = true) := by show _ = _; rw [HR.out, he]; rfl
      clear HR he
      go_wp2_with fail
      go_ret
      exact ⟨retB hRt.out.symm, HB0.out _⟩
    | false =>
      have hRs : Hid (R = callsL ks) := by show _ = _; rw [HR.out, he]; rfl
      clear HR he
      go_wp2_with fail
      generalize hW0 : w.alloc (.cells #[.int .i64 k, .string t, .int .i64 n, .slice na ns.length nc, .bool s, .slice ka ks.length kc] 56) = W0
      have hP : W0.heap[w.heap.size]? = some (.cells #[.int .i64 k, .string t, .int .i64 n, .slice na ns.length nc, .bool s, .slice ka ks.length kc] 56 (0, 0)) := by
        rw [← hW0]; exact heap_alloc_new _ _
      have hBW : Below w.heap.size w W0 := by rw [← hW0]; exact HB0.out _
      have hS0 : W0.heap.size = w.heap.size + 1 := by rw [← hW0]; simp
      clear hW0 HB0
      go_loopw [3] (fun vi wr => ∃ i : Nat, i ≤ ks.length ∧ vi = .int .i64 i ∧ Below W0.heap.size W0 wr ∧ Hid (∀ j (h : j < ks.length), j < i → subC ks[j] = false)) (fun vi _ => ks.length - (intOf vi).toNat)
      case atStart => exact ⟨0, Nat.zero_le _, rfl, Below.refl _ _, fun j _ h => by omega⟩
      case round =>
        obtain ⟨i, hi, rfl, hb, HE⟩ := hrel
        have hP1 := (hb.block _ (by omega)).trans hP
        have hbw : Below w.heap.size w wr := hBW.trans (hb.mono (by omega))
        obtain ⟨⟨p0, p1, p2, p3, p4, p5⟩, _⟩ := six_of hP1
        by_cases hlt : i < ks.length
        · have hlt' : (i : Int) < (ks.length : Int) := by omega
          obtain ⟨e1, hB1⟩ := HKA.out.resolve_left (fun e => by simp [e] at hlt)
          rw [e1] at p5
          have h6 := (HKC.out.1 i hlt).keep hB1 (.of_below hbw B)
          have hcall := HIH.out.1 ks[i] (List.getElem_mem hlt) B (cs i) (fs i) wr (HIH.out.2 _ (List.getElem_mem hlt)) ((HKC.out.2 i hlt).under hbw)
          have HE2 : Hid (subC ks[i] = false → ∀ j (h : j < ks.length), j < i + 1 → subC ks[j] = false) := by
            intro hh j h hj
            by_cases e : j = i
            · subst e; exact hh
            · exact HE.out j h (by omega)
          have HE3 : Hid (subC ks[i] = true → R = true) := fun hh => by
            rw [hRs.out]; exact callsL_at ks i hlt hh
          clear e1 hP1 HE
          generalize hx : ks[i] = x at *
          generalize cs i = d at *
          clear hx
          cases x with
          | node kx tx nx nsx sx ksx =>
          obtain ⟨h60, h61, h62, h63, h64, h65⟩ := h6
          have HCALL : Hid (Calls Try.prog 58 #[.agg #[.int .i64 kx, .string tx, .int .i64 nx, .slice d.na nsx.length d.nc, .bool sx, .slice d.ka ksx.length d.kc]] wr fun e w' => e = .returned (.bool (callsT (.node kx tx nx nsx sx ksx))) ∧ Below wr.heap.size wr w') := hcall
          clear hcall
          have hsub : subC (.node kx tx nx nsx sx ksx) = (!fnK kx && callsT (.node kx tx nx nsx sx ksx)) := rfl
          rw [hsub] at HE2 HE3
          clear hsub
          have HFX : Hid (Calls Try.prog 57 #[.int .i64 kx] wr fun e w' => e = .returned (.bool (fnK kx)) ∧ w' = wr) := HFN.out kx wr
          generalize callsT (.node kx tx nx nsx sx ksx) = rr at *
          cases hf : fnK kx with
          | true =>
            rw [hf] at HE2 HE3 HFX
            go_wp2_with (go_at_call 57; refine HFX.out.mono ?_; rintro e w1 ⟨rfl, rfl⟩)
            exact ⟨⟨i + 1, by omega, by go_num, hb, HE2.out rfl⟩, by simp [intOf]; omega⟩
          | false =>
            rw [hf] at HE2 HE3 HFX
            cases rr with
            | true =>
              have hRt : Hid (R = true) := HE3.out rfl
              go_wp2_with (first | (go_at_call 57; refine HFX.out.mono ?_; rintro e w1 ⟨rfl, rfl⟩) | (go_at_call 58; refine HCALL.out.mono ?_; rintro e w2 ⟨rfl, hb2⟩))
              go_ret
              exact ⟨retB hRt.out.symm, hbw.trans (hb2.mono hbw.size)⟩
            | false =>
              go_wp2_with (first | (go_at_call 57; refine HFX.out.mono ?_; rintro e w1 ⟨rfl, rfl⟩) | (go_at_call 58; refine HCALL.out.mono ?_; rintro e w2 ⟨rfl, hb2⟩))
              exact ⟨⟨i + 1, by omega, by go_num, hb.trans (hb2.mono hb.size), HE2.out rfl⟩, by simp [intOf]; omega⟩
        · have hlt' : ¬ (i : Int) < (ks.length : Int) := by omega
          have hRf : Hid (R = false) := by
            show _ = _
            rw [hRs.out]
            exact callsL_none ks fun j h => HE.out j h (by omega)
          go_wp2_with fail
          go_ret
          exact ⟨retB hRf.out.symm, hbw⟩

def specC (t : PT) : Bool := (fnK t.kind || decide (t.kind = 40)) && callsT t

set_option maxHeartbeats 2000000 in
theorem sCallsEval (t : PT) (B : Nat) (c : NC) (fp : List Nat) (w : World) (hz : szT t ≤ 1048576) (hin : NIn w B t c fp) :
    Calls Try.prog 31 #[.agg (t.cells c)] w fun e w' => e = .returned (.bool (specC t)) ∧ Below w.heap.size w w' := by
  have hcall : ∀ ob, Calls Try.prog 58 #[.agg (t.cells c)] (w.alloc ob) fun e w' => e = .returned (.bool (callsT t)) ∧ Below (w.alloc ob).heap.size (w.alloc ob) w' :=
    fun ob => sCalls t B c fp _ hz (hin.under ((Below.refl _ _).alloc (Nat.le_refl _) ob))
  have hb0 : ∀ ob, Below w.heap.size w (w.alloc ob) := fun ob => (Below.refl _ _).alloc (Nat.le_refl _) ob
  have HB0 : Hid (∀ ob, Below w.heap.size w (w.alloc ob)) := hb0
  clear hb0 hin hz
  obtain ⟨R, hR⟩ : ∃ R, R = specC t := ⟨_, rfl⟩
  have HR : Hid (R = ((fnK t.kind || decide (t.kind = 40)) && callsT t)) := hR
  rw [← hR]
  clear hR
  generalize hct : callsT t = ct at *
  clear hct
  cases t with
  | node k x n ns s ks =>
  unfold PT.cells nodeC at hcall ⊢
  unfold PT.kind at HR
  dsimp only at hcall HR ⊢
  have HCALL : Hid (∀ ob, Calls Try.prog 58 #[.agg #[.int .i64 k, .string x, .int .i64 n, .slice c.na ns.length c.nc, .bool s, .slice c.ka ks.length c.kc]] (w.alloc ob) fun e w' => e = .returned (.bool ct) ∧ Below (w.alloc ob).heap.size (w.alloc ob) w') := hcall
  clear hcall
  have HFX : Hid (∀ W, Calls Try.prog 57 #[.int .i64 k] W fun e w' => e = .returned (.bool (fnK k)) ∧ w' = W) := fun W => sFn k W
  cases hf : fnK k with
  | true =>
    rw [hf] at HFX HR
    have HR' : Hid (R = ct) := by show _ = _; rw [HR.out]; simp
    go_enter Try.func31, Try.ntmps31
    go_wp2_with (first | (go_at_call 57; refine (HFX.out _).mono ?_; rintro e w1 ⟨rfl, rfl⟩) | (go_at_call 58; refine (HCALL.out _).mono ?_; rintro e w2 ⟨rfl, hb2⟩))
    go_ret
    exact ⟨retB HR'.out.symm, (HB0.out _).trans (hb2.mono (by simp))⟩
  | false =>
    rw [hf] at HFX HR
    by_cases h40 : k = 40
    · subst h40
      have HR' : Hid (R = ct) := by show _ = _; rw [HR.out]; simp
      go_enter Try.func31, Try.ntmps31
      go_wp2_with (first | (go_at_call 57; refine (HFX.out _).mono ?_; rintro e w1 ⟨rfl, rfl⟩) | (go_at_call 58; refine (HCALL.out _).mono ?_; rintro e w2 ⟨rfl, hb2⟩))
      go_ret
      exact ⟨retB HR'.out.symm, (HB0.out _).trans (hb2.mono (by simp))⟩
    · have e40 : (k == 40) = false := by simp [h40]
      have HR' : Hid (R = false) := by show _ = _; rw [HR.out]; simp [h40]
      go_enter Try.func31, Try.ntmps31
      go_wp2_with (first | (go_at_call 57; refine (HFX.out _).mono ?_; rintro e w1 ⟨rfl, rfl⟩) | (go_at_call 58; refine (HCALL.out _).mono ?_; rintro e w2 ⟨rfl, hb2⟩))
      go_ret
      exact ⟨retB HR'.out.symm, HB0.out _⟩

end Go.Proofs.Ytbkloddaooblfac

/-
  FnNest: the world that a checked run starts in, and functions that are known by runs of their own.
-/
import Derived.Test.YtednkkcmboahgaaGreatDoorNsB
import Derived.Test.YtednkkcmboahgaaGreatDoorRpH
import Derived.Test.YtednkkcmboahgaaGreatDoorRtH
import Derived.Test.YtednkkcmboahgaaGreatDoorShelfC
namespace Go.Proofs.YtednkkcmboahgaaGreatDoor
open Go.RowKit

theorem tabOkN {hk : Trie HK} {bd : Bds} {ng : Nat} (hg : 12 ≤ ng) (hH : AllT (HookOk Tryz.prog (tabN.re hk bd ng)) hk id) : TabOk Tryz.prog (tabN.re hk bd ng) :=
  tabOk_of allTy allFn allMe allMv mixedO hg (fun s w hs => Tryz.stringslite_Clone s w (by omega)) Tryz.call133 hH

theorem lt_of_some {α : Type} {a : Array α} {i : Nat} {x : α} (h : a[i]? = some x) : i < a.size := (Array.getElem?_eq_some_iff.1 h).1
section
variable (W : World) (a0 a1 a3 : Nat × Nat)
noncomputable def szW (n : Nat) : Nat := match W.heap[n]? with
  | some (.cells c _ _) => c.size
  | _ => 0
noncomputable def esW (n : Nat) : Nat := match W.heap[n]? with
  | some (.cells _ t _) => esOf tabN t
  | _ => 1
/-- Where the variables lie. -/
noncomputable def plW : Pl := fun n => if n < 12 then some ⟨n, 0, szW W n, esW W n⟩ else if n = 12 then some ⟨a0.1, a0.2, 0, 1⟩ else if n = 13 then some ⟨a1.1, a1.2, 0, 1⟩ else if n = 14 then some ⟨a3.1, a3.2, 0, 1⟩ else none

variable {W a0 a1 a3} {E : Nat → Int}
theorem plW_lt {n : Nat} (h : n < 12) : plW W a0 a1 a3 n = some ⟨n, 0, szW W n, esW W n⟩ := by unfold plW; rw [if_pos h]
theorem brel_glob {g n t : Nat} {c : Array Value} {cs : Trie AV} (hg : g < 12) (hW : W.heap[g]? = some (.cells c t (0, 0))) (hn : n ≤ c.size) (hcs : AllT (fun i a => i < n ∧ ∃ v, c[i]? = some v ∧ V E (plW W a0 a1 a3) a v) cs id) : ∀ L, plW W a0 a1 a3 g = some L → BRel tabN E (plW W a0 a1 a3) L W (.cells n cs t) := by
  intro L hL
  rw [plW_lt hg] at hL
  cases hL
  have hs : szW W g = c.size := by unfold szW; rw [hW]
  have he : esW W g = esOf tabN t := by unfold esW; rw [hW]
  refine ⟨c, hW, hs.symm, by simp only [Nat.zero_add, hs]; exact hn, fun i a e => ?_, fun ti e => ?_⟩
  · obtain ⟨h1, v, h2, h3⟩ := hcs.get i a e
    exact ⟨h1, v, by simpa using h2, h3⟩
  · show esW W g = ti.size
    rw [he]
    unfold esOf
    rw [e]

theorem errV (n : Nat) (a : Nat × Nat) {t : Nat} (hn : plW W a0 a1 a3 n = some ⟨a.1, a.2, 0, 1⟩) : AllT (fun i x => i < 1 ∧ ∃ v, (#[Value.iface t (.pointer (some ⟨a.1, a.2, none⟩))] : Array Value)[i]? = some v ∧ V E (plW W a0 a1 a3) x v) (.node (some (.iface t (.ptr n 0))) .leaf .leaf) id := by
  refine allS (i := 0) ⟨by decide, _, rfl, ?_⟩ rfl allL allL
  simp only [V]
  exact ⟨_, rfl, _, hn, rfl⟩

theorem relW {t0 t1 t3 t4 t5 : Nat} (h0' : ErrAt W 0 a0 t0) (h1' : ErrAt W 1 a1 t1) (h3' : ErrAt W 3 a3 t3) (h4' : W.heap[4]? = some (.cells (rowV strs4) t4 (0, 0))) (h5' : W.heap[5]? = some (.cells (rowV strs5) t5 (0, 0))) (iv : tabN.inv.p W.heap.size W) :
    Rel tabN W.heap.size E (plW W a0 a1 a3) (h0 t0 t1 t3 t4 t5) W ∧ ∀ n b, (h0 t0 t1 t3 t4 t5).get n = some b → n < 12 := by
  have p12 : plW W a0 a1 a3 12 = some ⟨a0.1, a0.2, 0, 1⟩ := by unfold plW; simp
  have p13 : plW W a0 a1 a3 13 = some ⟨a1.1, a1.2, 0, 1⟩ := by unfold plW; simp
  have p14 : plW W a0 a1 a3 14 = some ⟨a3.1, a3.2, 0, 1⟩ := by unfold plW; simp
  have all : AllT (fun n b => n < 12 ∧ ∀ L, plW W a0 a1 a3 n = some L → BRel tabN E (plW W a0 a1 a3) L W b) (h0 t0 t1 t3 t4 t5).hp id :=
    allS (i := 0) ⟨by decide, brel_glob (by decide) h0' (Nat.le_refl _) (errV 12 a0 p12)⟩ rfl
      (allS (i := 1) ⟨by decide, brel_glob (by decide) h1' (Nat.le_refl _) (errV 13 a1 p13)⟩ rfl (allS (i := 3) ⟨by decide, brel_glob (by decide) h3' (Nat.le_refl _) (errV 14 a3 p14)⟩ rfl allL allL) (allS (i := 5) ⟨by decide, brel_glob (by decide) h5' (by decide) row5⟩ rfl allL allL))
      (allN (allS (i := 4) ⟨by decide, brel_glob (by decide) h4' (by decide) row4⟩ rfl allL allL) allL)
  have hlt : ∀ {n : Nat} {b : AB}, (h0 t0 t1 t3 t4 t5).get n = some b → n < 12 := fun {n b} e => (all.get n b e).1
  refine ⟨⟨fun n b L e1 e2 => (all.get n b e1).2 L e2, fun n m b c L M e1 e2 e3 e4 hne => ?_, fun n b L e1 hng _ => ?_, fun n hn => ?_, Nat.le_refl _, Nat.le_refl _, fun g hg => ⟨_, plW_lt hg, rfl, rfl⟩, iv⟩, fun n b e => hlt e⟩
  · rw [plW_lt (hlt e1)] at e3
    rw [plW_lt (hlt e2)] at e4
    cases e3
    cases e4
    exact hne
  · have h1 := hlt e1
    have h2 : 15 ≤ n := hng
    omega
  · have h2 : 15 ≤ n := hn
    refine ⟨?_, ?_⟩
    · cases hg : (h0 t0 t1 t3 t4 t5).get n with
      | none => rfl
      | some b =>
        have := hlt hg
        omega
    · unfold plW
      rw [if_neg (by omega), if_neg (by omega), if_neg (by omega), if_neg (by omega)]
end

/-- The heaps that a run starts in. -/
def SN (x : AH) : Prop := ∃ t0 t1 t3 t4 t5, x = h0 t0 t1 t3 t4 t5
theorem startR (B : Nat) (E : Nat → Int) (w : World) (h : tabN.inv.p B w) (hB : B ≤ w.heap.size) : ∃ κ0 x, SN x ∧ Rel tabN w.heap.size E κ0 x w ∧ x.next = tabN.ng ∧ ∀ n b L, x.get n = some b → κ0 n = some L → L.blk < B := by
  obtain ⟨h12, hG⟩ := h
  obtain ⟨⟨a0, t0, e0⟩, ⟨a1, t1, e1⟩, ⟨a3, t3, e3⟩, ⟨t4, e4⟩, ⟨t5, e5⟩⟩ := id hG
  obtain ⟨hr, hlt⟩ := relW (E := E) e0 e1 e3 e4 e5 ⟨Nat.le_trans h12 hB, hG⟩
  refine ⟨_, _, ⟨t0, t1, t3, t4, t5, rfl⟩, hr, rfl, fun n b L g1 g2 => ?_⟩
  have := hlt n b g1
  rw [plW_lt this] at g2
  cases g2
  show n < B
  omega
theorem startN (B : Nat) (E : Nat → Int) (w : World) (h : tabN.inv.p B w) (hB : B ≤ w.heap.size) : ∃ κ0 x, SN x ∧ Rel tabN w.heap.size E κ0 x w := by
  obtain ⟨κ0, x, h1, h2, _⟩ := startR B E w h hB
  exact ⟨κ0, x, h1, h2⟩

/-- No name twice, and none of the first. -/
def nodupB : List Nat → Bool
  | [] => true
  | a :: r => Nat.ble 15 a && !memN a r && nodupB r
theorem nodupB_spec : ∀ {l : List Nat}, nodupB l = true → (∀ m ∈ l, 15 ≤ m) ∧ l.Nodup
  | [], _ => ⟨fun m h => by simp at h, List.nodup_nil⟩
  | a :: r, h => by
    simp only [nodupB, Bool.and_eq_true, Nat.ble_eq, Bool.not_eq_true'] at h
    obtain ⟨⟨h1, h2⟩, h3⟩ := h
    obtain ⟨k1, k2⟩ := nodupB_spec h3
    refine ⟨fun m hm => ?_, List.nodup_cons.2 ⟨fun hm => ?_, k2⟩⟩
    · rcases List.mem_cons.1 hm with rfl | hm
      · exact h1
      · exact k1 m hm
    · rw [memN_iff.2 hm] at h2
      cases h2
theorem env_nil (E : Nat → Int) : Env [] E := fun i l u h => by simp at h
theorem allLeaf {P : Program} {T : Tab} : AllT (HookOk P T) .leaf id := allL
theorem allTok {P : Program} {T : Tab} {k : HK} (h : HookOk P T 25 k) : AllT (HookOk P T) (hkTok k) id := (allN (allN allL (allN (allN allL (allS h rfl allL allL)) allL)) allL)
theorem allScr {P : Program} {T : Tab} {k : HK} (h : HookOk P T 7 k) : AllT (HookOk P T) (hkScr k) id := (allN (allN (allN (allS h rfl allL allL) allL) allL) allL)
theorem allAll {P : Program} {T : Tab} {r s w : HK} (hr : HookOk P T 6 r) (hs : HookOk P T 7 s) (hw : HookOk P T 13 w) : AllT (HookOk P T) (hkAll r s w) id := (allN (allN (allN (allS hs rfl allL allL) allL) (allN allL (allS hw rfl allL allL))) (allN allL (allS hr rfl allL allL)))

section
variable {bd : Bds} {k m N : Nat} {ta ua : List AV} {tka uka sra ura us rna : AV} {tkb ukb srb urb : List (Nat × List AV)} {tkn ukn srn urn : List Nat}

/-- A text that is read, the digit left open. -/
theorem scr_ok (hf : freeVs ta = true) (h1 : nodupB tkn = true) 
    (kT : ∀ t0 t1 t3 t4 t5, chkM (callX (tabN.re .leaf bd 15) 60000 25 ta (h0 t0 t1 t3 t4 t5)) tkn tka tkb = true) : TabOk Tryz.prog (tabN.re (hkTok (.mem ta tka tkb)) bd 15) :=
  tabOkN (by omega) (allTok (hook_sym (T := tabN) (S := SN) (nm := tkn) (n := 60000) (hk := .leaf) (tabOkN (by show (12 : Nat) ≤ 15; omega) allLeaf) Tryz.call25 hf (nodupB_spec h1).1 (nodupB_spec h1).2 startN (fun x ⟨t0, t1, t3, t4, t5, hx⟩ => by rw [hx]; exact kT t0 t1 t3 t4 t5)))

/-- All the hooks of the law's run. -/
theorem nestOk (hσ : Env bd (sg k)) (fT : freeVs ta = true) (fU : freeVs ua = true) (nT : nodupB tkn = true) (nU : nodupB ukn = true) (nR : nodupB srn = true) (nW : nodupB urn = true) (hm : Nat.beq srb.length m = true) (hN : 15 + m = N) (fS : freeV us = true)
    (kT : ∀ t0 t1 t3 t4 t5, chkM (callX (tabN.re .leaf bd 15) 60000 25 ta (h0 t0 t1 t3 t4 t5)) tkn tka tkb = true)
    (kU : ∀ t0 t1 t3 t4 t5, chkM (callX (tabN.re .leaf bd 15) 60000 25 ua (h0 t0 t1 t3 t4 t5)) ukn uka ukb = true)
    (kR : ∀ t0 t1 t3 t4 t5, chkM (callX (tabN.re (hkTok (.mem ta tka tkb)) bd 15) 60000 7 ta (h0 t0 t1 t3 t4 t5)) srn sra srb = true)
    (kW : ∀ t0 t1 t3 t4 t5, chkM (callX (tabN.re (hkTok (.mem ua uka ukb)) bd 15) 60000 7 ua (h0 t0 t1 t3 t4 t5)) urn ura urb = true)
    (kS : ∀ t0 t1 t3 t4 t5, chkR (callX (tabN.re (hkScr (.mem ua ura urb)) bd N) 60000 13 (instVs (fun i => 15 + i) (nodeOf sra)) (layL (fun i => 15 + i) srb (h0 t0 t1 t3 t4 t5))) us = true)
    (fA : freeVs (fixVs (sg k) ta ++ [.int .i64 (.lit 5000)]) = true)
    (kN : ∀ t0 t1 t3 t4 t5, chkM (callX (tabN.re (hkScr (.mem (fixVs (sg k) ta) (fixV (sg k) sra) (fixB (sg k) srb))) [] 15) 60000 6 (fixVs (sg k) ta ++ [.int .i64 (.lit 5000)]) (h0 t0 t1 t3 t4 t5)) [] rna [] = true) :
    TabOk Tryz.prog (tabN.re (hkAll (.mem (fixVs (sg k) ta ++ [.int .i64 (.lit 5000)]) rna []) (.two (.mem (fixVs (sg k) ta) (fixV (sg k) sra) (fixB (sg k) srb)) (.mem (fixVs (sg k) ua) (fixV (sg k) ura) (fixB (sg k) urb))) (.rd m (fixVs (sg k) (nodeOf sra)) (fixB (sg k) srb) (fixV (sg k) us))) [] 15) := by
  rw [Nat.beq_eq] at hm
  have hNl : tabN.ng + srb.length = N := by rw [hm]; exact hN
  have T1 := scr_ok fT nT kT
  have T2 := scr_ok fU nU kU
  have hR : ∀ hk', HookOk Tryz.prog (tabN.re hk' [] 15) 7 (.mem (fixVs (sg k) ta) (fixV (sg k) sra) (fixB (sg k) srb)) := fun hk' =>
    hook_fix (T := tabN) (S := SN) (nm := srn) (n := 60000) hσ T1 Tryz.call7 fT (nodupB_spec nR).1 (nodupB_spec nR).2 startN (fun x ⟨t0, t1, t3, t4, t5, hx⟩ => by rw [hx]; exact kR t0 t1 t3 t4 t5)
  have hV : ∀ hk', HookOk Tryz.prog (tabN.re hk' [] 15) 7 (.mem (fixVs (sg k) ua) (fixV (sg k) ura) (fixB (sg k) urb)) := fun hk' =>
    hook_fix (T := tabN) (S := SN) (nm := urn) (n := 60000) hσ T2 Tryz.call7 fU (nodupB_spec nW).1 (nodupB_spec nW).2 startN (fun x ⟨t0, t1, t3, t4, t5, hx⟩ => by rw [hx]; exact kW t0 t1 t3 t4 t5)
  have T3 : TabOk Tryz.prog (tabN.re (hkScr (.mem ua ura urb)) bd N) := tabOkN (by omega) (allScr (hook_sym (T := tabN) (S := SN) (nm := urn) (n := 60000) T2 Tryz.call7 fU (nodupB_spec nW).1 (nodupB_spec nW).2 startN (fun x ⟨t0, t1, t3, t4, t5, hx⟩ => by rw [hx]; exact kW t0 t1 t3 t4 t5)))
  have hS : ∀ hk', HookOk Tryz.prog (tabN.re hk' [] 15) 13 (.rd m (fixVs (sg k) (nodeOf sra)) (fixB (sg k) srb) (fixV (sg k) us)) := fun hk' =>
    hook_rd (T := tabN) (S := SN) (n := 60000) (hk := hkScr (.mem ua ura urb)) hσ hm (by rw [hNl]; exact T3) Tryz.call13 fS startR (fun x ⟨t0, t1, t3, t4, t5, hx⟩ => by rw [hNl, hx]; exact kS t0 t1 t3 t4 t5)
  have T4 : TabOk Tryz.prog (tabN.re (hkScr (.mem (fixVs (sg k) ta) (fixV (sg k) sra) (fixB (sg k) srb))) [] 15) := tabOkN (by omega) (allScr (hR _))
  have hRun : ∀ hk', HookOk Tryz.prog (tabN.re hk' [] 15) 6 (.mem (fixVs (sg k) ta ++ [.int .i64 (.lit 5000)]) rna []) := fun hk' =>
    hook_sym (T := tabN) (S := SN) (nm := []) (n := 60000) T4 Tryz.call6 fA (fun m h => by simp at h) List.nodup_nil startN (fun x ⟨t0, t1, t3, t4, t5, hx⟩ => by rw [hx]; exact kN t0 t1 t3 t4 t5)
  exact tabOkN (by omega) (allAll (hRun _) (hook_two (hR _) (hV _)) (hS _))
end

end Go.Proofs.YtednkkcmboahgaaGreatDoor

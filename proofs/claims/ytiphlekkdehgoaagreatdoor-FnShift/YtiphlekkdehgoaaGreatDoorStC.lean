/-
  A checked run: the world that it starts in, and what a law's question then does.
-/
import Derived.Test.YtiphlekkdehgoaaGreatDoorStB
import Derived.Test.YtiphlekkdehgoaaGreatDoorRnA
import Derived.Test.YtiphlekkdehgoaaGreatDoorRtD
import Derived.Test.YtiphlekkdehgoaaGreatDoorSfB
import Derived.Test.YtiphlekkdehgoaaGreatDoorShelfC
namespace Go.Proofs.YtiphlekkdehgoaaGreatDoor
open Go.RowKit

theorem tabOk (bd : Bds) : TabOk Tryz.prog (tab bd) :=
  tabOk_of allTy allFn allMe mixedO (by show (12 : Nat) ≤ 15; omega) (fun s w hs => Tryz.stringslite_Clone s w (by omega)) Tryz.call102
    (allHk (hook_has Tryz.call147 Tryz.strings_Contains_one)
      (hook_is Tryz.call18 (by show (_ : Nat) < 12; decide) (fun x hx => by
          show x < 12
          simp only [List.mem_cons, List.not_mem_nil, or_false] at hx
          rcases hx with rfl | rfl <;> decide) (R := ApartA)
        (fun B w h x hx a b ha hb => by
          obtain ⟨_, _, h3⟩ := h
          obtain ⟨k1, ⟨_, k3⟩, _, k5⟩ := h3 x hx a b ha hb
          exact ⟨k1, k3, k5⟩)
        (fun e b w he h => isTop true e b w (isYes e b he w h)) (fun e b m w he h hr => isTop false e m w (isNo e b m he w h hr)))
      (hook_as Tryz.call19 (I := ErrIn) (fun B w h => h.2.1) (fun e t old w hI h1 h2 => asHit e t old w hI h1 h2)))

/-- A variable that holds an error of one text. -/
def ErrAt (W : World) (g : Nat) (a : Nat × Nat) (t : Nat) : Prop := W.heap[g]? = some (.cells #[.iface 336 (.pointer (some ⟨a.1, a.2, none⟩))] t (0, 0))
/-- What the row's list gives. -/
structure GIn (W : World) : Prop where
  e0 : ∃ a t, ErrAt W 0 a t
  e1 : ∃ a t, ErrAt W 1 a t
  e3 : ∃ a t, ErrAt W 3 a t
  k4 : ∃ t, W.heap[4]? = some (.cells (rowV strs4) t (0, 0))
  m5 : ∃ t, W.heap[5]? = some (.cells (rowV strs5) t (0, 0))
  iv : invP W.heap.size W
theorem invP_mono {B B' : Nat} {w : World} (hB : B ≤ B') (h : invP B w) : invP B' w := by
  obtain ⟨h1, h2, h3⟩ := h
  refine ⟨by omega, h2, fun x hx a b ha hb => ?_⟩
  obtain ⟨k1, ⟨k2, k3⟩, k4, k5⟩ := h3 x hx a b ha hb
  exact ⟨k1, ⟨by omega, k3⟩, by omega, k5⟩
theorem lt_of_some {α : Type} {a : Array α} {i : Nat} {x : α} (h : a[i]? = some x) : i < a.size := (Array.getElem?_eq_some_iff.1 h).1
theorem GIn.keep {W W' : World} (h : GIn W) (hb : Below W.heap.size W W') : GIn W' := by
  have k : ∀ {i : Nat} {o : Obj}, W.heap[i]? = some o → W'.heap[i]? = some o := fun {i o} e => by
    rw [hb.block i (lt_of_some e)]; exact e
  obtain ⟨⟨a0, t0, e0⟩, ⟨a1, t1, e1⟩, ⟨a3, t3, e3⟩, ⟨t4, e4⟩, ⟨t5, e5⟩, iv⟩ := h
  exact ⟨⟨a0, t0, k e0⟩, ⟨a1, t1, k e1⟩, ⟨a3, t3, k e3⟩, ⟨t4, k e4⟩, ⟨t5, k e5⟩, invP_mono hb.size (invP_st _ _ _ hb.block iv)⟩

section
variable (W : World) (bd : Bds) (a0 a1 a3 : Nat × Nat)
noncomputable def szW (n : Nat) : Nat := match W.heap[n]? with
  | some (.cells c _ _) => c.size
  | _ => 0
noncomputable def esW (n : Nat) : Nat := match W.heap[n]? with
  | some (.cells _ t _) => esOf (tab bd) t
  | _ => 1
/-- Where the variables lie. -/
noncomputable def plW : Pl := fun n => if n < 12 then some ⟨n, 0, szW W n, esW W bd n⟩ else if n = 12 then some ⟨a0.1, a0.2, 0, 1⟩ else if n = 13 then some ⟨a1.1, a1.2, 0, 1⟩ else if n = 14 then some ⟨a3.1, a3.2, 0, 1⟩ else none

variable {W bd a0 a1 a3} {E : Nat → Int}
theorem plW_lt {n : Nat} (h : n < 12) : plW W bd a0 a1 a3 n = some ⟨n, 0, szW W n, esW W bd n⟩ := by unfold plW; rw [if_pos h]
theorem brel_glob {g n t : Nat} {c : Array Value} {cs : Trie AV} (hg : g < 12) (hW : W.heap[g]? = some (.cells c t (0, 0))) (hn : n ≤ c.size) (hcs : AllT (fun i a => i < n ∧ ∃ v, c[i]? = some v ∧ V E (plW W bd a0 a1 a3) a v) cs id) : ∀ L, plW W bd a0 a1 a3 g = some L → BRel (tab bd) E (plW W bd a0 a1 a3) L W (.cells n cs t) := by
  intro L hL
  rw [plW_lt hg] at hL
  cases hL
  have hs : szW W g = c.size := by unfold szW; rw [hW]
  have he : esW W bd g = esOf (tab bd) t := by unfold esW; rw [hW]
  refine ⟨c, hW, hs.symm, by simp only [Nat.zero_add, hs]; exact hn, fun i a e => ?_, fun ti e => ?_⟩
  · obtain ⟨h1, v, h2, h3⟩ := hcs.get i a e
    exact ⟨h1, v, by simpa using h2, h3⟩
  · show esW W bd g = ti.size
    rw [he]
    unfold esOf
    rw [e]

theorem errV (n : Nat) (a : Nat × Nat) {t : Nat} (hn : plW W bd a0 a1 a3 n = some ⟨a.1, a.2, 0, 1⟩) : AllT (fun i x => i < 1 ∧ ∃ v, (#[Value.iface t (.pointer (some ⟨a.1, a.2, none⟩))] : Array Value)[i]? = some v ∧ V E (plW W bd a0 a1 a3) x v) (.node (some (.iface t (.ptr n 0))) .leaf .leaf) id := by
  refine allS (i := 0) ⟨by decide, _, rfl, ?_⟩ rfl allL allL
  simp only [V]
  exact ⟨_, rfl, _, hn, rfl⟩

theorem relW {t0 t1 t3 t4 t5 : Nat} (h0' : ErrAt W 0 a0 t0) (h1' : ErrAt W 1 a1 t1) (h3' : ErrAt W 3 a3 t3) (h4' : W.heap[4]? = some (.cells (rowV strs4) t4 (0, 0))) (h5' : W.heap[5]? = some (.cells (rowV strs5) t5 (0, 0))) (iv : invP W.heap.size W) :
    Rel (tab bd) W.heap.size E (plW W bd a0 a1 a3) (h0 t0 t1 t3 t4 t5) W := by
  have p12 : plW W bd a0 a1 a3 12 = some ⟨a0.1, a0.2, 0, 1⟩ := by unfold plW; simp
  have p13 : plW W bd a0 a1 a3 13 = some ⟨a1.1, a1.2, 0, 1⟩ := by unfold plW; simp
  have p14 : plW W bd a0 a1 a3 14 = some ⟨a3.1, a3.2, 0, 1⟩ := by unfold plW; simp
  have all : AllT (fun n b => n < 12 ∧ ∀ L, plW W bd a0 a1 a3 n = some L → BRel (tab bd) E (plW W bd a0 a1 a3) L W b) (h0 t0 t1 t3 t4 t5).hp id :=
    allS (i := 0) ⟨by decide, brel_glob (by decide) h0' (Nat.le_refl _) (errV 12 a0 p12)⟩ rfl
      (allS (i := 1) ⟨by decide, brel_glob (by decide) h1' (Nat.le_refl _) (errV 13 a1 p13)⟩ rfl (allS (i := 3) ⟨by decide, brel_glob (by decide) h3' (Nat.le_refl _) (errV 14 a3 p14)⟩ rfl allL allL) (allS (i := 5) ⟨by decide, brel_glob (by decide) h5' (by decide) row5⟩ rfl allL allL))
      (allN (allS (i := 4) ⟨by decide, brel_glob (by decide) h4' (by decide) row4⟩ rfl allL allL) allL)
  have hlt : ∀ {n : Nat} {b : AB}, (h0 t0 t1 t3 t4 t5).get n = some b → n < 12 := fun {n b} e => (all.get n b e).1
  refine ⟨fun n b L e1 e2 => (all.get n b e1).2 L e2, fun n m b c L M e1 e2 e3 e4 hne => ?_, fun n b L e1 hng _ => ?_, fun n hn => ?_, Nat.le_refl _, Nat.le_refl _, fun g hg => ⟨_, plW_lt hg, rfl, rfl⟩, iv⟩
  · rw [plW_lt (hlt e1)] at e3
    rw [plW_lt (hlt e2)] at e4
    cases e3
    cases e4
    exact hne
  · have h1 := hlt e1
    have h2 : 15 ≤ n := hng
    omega
  · have h2 : 15 ≤ n := hn
    refine ⟨?_, ?_⟩
    · cases hg : (h0 t0 t1 t3 t4 t5).get n with
      | none => rfl
      | some b =>
        have := hlt hg
        omega
    · unfold plW
      rw [if_neg (by omega), if_neg (by omega), if_neg (by omega), if_neg (by omega)]
end

/-- A law's question, at a text whose run tells true. -/
theorem says_ok {bd : Bds} {l : List AI} {v : List AV} (hs : Says bd l v) {E : Nat → Int} (hE : Env bd E) {W : World} (hG : GIn W) {vs : Array Value} (hv : ∀ ι, VL E ι v vs.toList) :
    Calls Tryz.prog 5 #[.string (bytesA E l), .agg vs] W fun e w' => e = .returned (.bool true) ∧ Below W.heap.size W w' := by
  obtain ⟨⟨a0, t0, e0⟩, ⟨a1, t1, e1⟩, ⟨a3, t3, e3⟩, ⟨t4, e4⟩, ⟨t5, e5⟩, iv⟩ := hG
  have hr := relW (bd := bd) (E := E) e0 e1 e3 e4 e5 iv
  have ht := hs t0 t1 t3 t4 t5
  cases hc : callX (tab bd) 30000 5 [.str l.length l, .agg v] (h0 t0 t1 t3 t4 t5) with
  | none => rw [hc] at ht; cases ht
  | some p =>
    obtain ⟨a, h1⟩ := p
    rw [hc] at ht
    cases a with
    | bool b =>
      have hb : b = true := ht
      subst hb
      refine (callX_ok (tabOk bd) hE hc ?_ hr).mono ?_
      · refine VL.cons (by simp [V]) (VL.cons ?_ VL.nil)
        simp only [V]
        exact ⟨vs, rfl, hv _⟩
      · rintro e w' ⟨κ, u, rfl, hV, hg, _⟩
        simp only [V] at hV
        subst hV
        exact ⟨rfl, hg.below⟩
    | _ => cases ht

/-- A run that throws. -/
theorem run_ok {bd : Bds} {l : List AI} (hs : Throws bd l) {E : Nat → Int} (hE : Env bd E) {W : World} (hG : GIn W) :
    Calls Tryz.prog 8 #[.string (bytesA E l), .int .i64 100] W fun e w' => (∃ κ v, e = .returned v ∧ V E κ v_five v) ∧ Below W.heap.size W w' := by
  obtain ⟨⟨a0, t0, e0⟩, ⟨a1, t1, e1⟩, ⟨a3, t3, e3⟩, ⟨t4, e4⟩, ⟨t5, e5⟩, iv⟩ := hG
  have hr := relW (bd := bd) (E := E) e0 e1 e3 e4 e5 iv
  have ht := hs t0 t1 t3 t4 t5
  cases hc : callX (tab bd) 30000 8 [.str l.length l, .int .i64 (.lit 100)] (h0 t0 t1 t3 t4 t5) with
  | none => rw [hc] at ht; cases ht
  | some p =>
    obtain ⟨a, h1⟩ := p
    rw [hc] at ht
    have hb : sameV a v_five = true := ht
    refine (callX_ok (tabOk bd) hE hc ?_ hr).mono ?_
    · exact VL.cons (by simp [V]) (VL.cons (by simp [V, AI.ev]) VL.nil)
    · rintro e w' ⟨κ, u, rfl, hV, hg, _⟩
      exact ⟨⟨κ, u, rfl, sameV_V hb hV⟩, hg.below⟩

end Go.Proofs.YtiphlekkdehgoaaGreatDoor

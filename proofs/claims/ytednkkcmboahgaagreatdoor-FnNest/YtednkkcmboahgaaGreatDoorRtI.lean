/-
  A checked run: a function at arguments that lie in known blocks, by a run of its own.
-/
import Derived.Test.YtednkkcmboahgaaGreatDoorRtG
namespace Go.Proofs.YtednkkcmboahgaaGreatDoor
open Go.RowKit

theorem liesC_spec {g : Nat → Nat} {cs : Trie AV} : ∀ {l : List AV} {i : Nat}, liesC g cs l i = true → ∀ j a, l[j]? = some a → ∃ v, cs.get (i + j) = some v ∧ sameV v (instV g a) = true
  | [], i, _, j, a, h => by simp at h
  | x :: r, i, h, j, a, hj => by
    simp only [liesC, Bool.and_eq_true] at h
    cases j with
    | zero =>
      simp only [List.getElem?_cons_zero, Option.some.injEq] at hj
      subst hj
      have h1 := h.1
      split at h1
      · rename_i v hv
        exact ⟨v, hv, h1⟩
      · cases h1
    | succ j =>
      obtain ⟨v, h1, h2⟩ := liesC_spec h.2 j a (by simpa using hj)
      exact ⟨v, by rw [show i + (j + 1) = i + 1 + j by omega]; exact h1, h2⟩
theorem liesB_spec {g : Nat → Nat} {h : AH} : ∀ {bs : List (Nat × List AV)} {i0 : Nat}, liesB g h bs i0 = true → ∀ (i t : Nat) (l : List AV), bs[i]? = some (t, l) → ∃ n cs, h.get (g (i0 + i)) = some (.cells n cs t) ∧ l.length ≤ n ∧ ∀ (j : Nat) (a : AV), l[j]? = some a → ∃ v, cs.get j = some v ∧ sameV v (instV g a) = true
  | [], _, _, i, t, l, h => by simp at h
  | (t, l) :: r, i0, h, i, t', l', hi => by
    simp only [liesB, Bool.and_eq_true] at h
    obtain ⟨h2, h3⟩ := h
    cases i with
    | zero =>
      simp only [List.getElem?_cons_zero, Option.some.injEq, Prod.mk.injEq] at hi
      obtain ⟨rfl, rfl⟩ := hi
      split at h2
      · rename_i n cs t' hg
        simp only [Bool.and_eq_true, Nat.beq_eq, Nat.ble_eq] at h2
        obtain ⟨⟨rfl, hle⟩, hc⟩ := h2
        refine ⟨n, cs, hg, hle, fun j a hj => ?_⟩
        obtain ⟨v, e1, e2⟩ := liesC_spec hc j a hj
        exact ⟨v, by simpa using e1, e2⟩
      · cases h2
    | succ i =>
      obtain ⟨n, cs, e1, e2⟩ := liesB_spec h3 i t' l' (by simpa using hi)
      exact ⟨n, cs, by rw [show i0 + (i + 1) = i0 + 1 + i by omega]; exact e1, e2⟩

theorem fixB_at (σ : Nat → Int) : ∀ (bs : List (Nat × List AV)) (i t : Nat) (l : List AV), bs[i]? = some (t, l) → (fixB σ bs)[i]? = some (t, fixVs σ l)
  | [], i, t, l, h => by simp at h
  | (u, k) :: r, 0, t, l, h => by
    simp only [List.getElem?_cons_zero, Option.some.injEq, Prod.mk.injEq] at h
    obtain ⟨rfl, rfl⟩ := h
    rfl
  | (u, k) :: r, i + 1, t, l, h => by
    simp only [List.getElem?_cons_succ] at h
    simpa [fixB] using fixB_at σ r i t l h

/-- Where the names of an inner run lie, with the blocks that it reads. -/
def inP (κ0 ι : Pl) (N m b : Nat) : Pl := fun n => if n < N then κ0 n else if n < N + m then ι (b + (n - N)) else none

section
variable {P : Program} {T : Tab} {hk hk' : Trie HK} {bd bd' : Bds} {ng' f n : Nat} {args : List AV} {a : AV} {bs : List (Nat × List AV)} {S : AH → Prop}

theorem Rel.inner {B : Nat} {E E' : Nat → Int} {ι κ0 : Pl} {h h0 : AH} {w : World} {b : Nat} (hn0 : h0.next = T.ng) (r0 : Rel T w.heap.size E' κ0 h0 w) (hlow : ∀ n x L, h0.get n = some x → κ0 n = some L → L.blk < B)
    (r : Rel (T.re hk' bd' ng') B E ι h w) (hb : ng' ≤ b)
    (hbs : ∀ (i t : Nat) (l : List AV), bs[i]? = some (t, l) → ∃ n cs, h.get (b + i) = some (.cells n cs t) ∧ l.length ≤ n ∧ ∀ (j : Nat) (a : AV), l[j]? = some a → ∃ v', cs.get j = some v' ∧ ∀ v, V E ι v' v → V E' (inP κ0 ι T.ng bs.length b) (instV (fun i => T.ng + i) a) v) :
    Rel (T.re hk bd (T.ng + bs.length)) w.heap.size E' (inP κ0 ι T.ng bs.length b) (layL (fun i => T.ng + i) bs h0) w := by
  have hx : Ext κ0 (inP κ0 ι T.ng bs.length b) := fun n L e => by
    unfold inP
    by_cases hn : n < T.ng
    · rw [if_pos hn]; exact e
    · rw [(r0.fresh n (by omega)).2] at e; cases e
  have cases : ∀ {n : Nat} {x : AB} {L : Loc}, (layL (fun i => T.ng + i) bs h0).get n = some x → inP κ0 ι T.ng bs.length b n = some L →
      (n < T.ng ∧ h0.get n = some x ∧ κ0 n = some L) ∨ (∃ i n' cs t l, i < bs.length ∧ n = T.ng + i ∧ h.get (b + i) = some (.cells n' cs t) ∧ l.length ≤ n' ∧ ι (b + i) = some L ∧ x = .cells l.length (newC (instVs (fun i => T.ng + i) l)) t ∧ ∀ (j : Nat) (a : AV), l[j]? = some a → ∃ v', cs.get j = some v' ∧ ∀ v, V E ι v' v → V E' (inP κ0 ι T.ng bs.length b) (instV (fun i => T.ng + i) a) v) := fun {n x L} e1 e2 => by
    rw [layL_get, hn0] at e1
    by_cases hn : n < T.ng
    · rw [if_pos hn] at e1
      unfold inP at e2
      rw [if_pos hn] at e2
      exact .inl ⟨hn, e1, e2⟩
    · rw [if_neg hn] at e1
      obtain ⟨i, rfl⟩ : ∃ i, n = T.ng + i := ⟨n - T.ng, by omega⟩
      rw [show T.ng + i - T.ng = i by omega] at e1
      cases hi : bs[i]? with
      | none =>
        rw [hi] at e1
        simp only [] at e1
        rw [(r0.fresh _ (by omega)).1] at e1
        cases e1
      | some p =>
        obtain ⟨t, l⟩ := p
        rw [hi] at e1
        simp only [Option.some.injEq] at e1
        have hlt : i < bs.length := (List.getElem?_eq_some_iff.1 hi).1
        obtain ⟨n', cs, k1, k2, k3⟩ := hbs i t l hi
        unfold inP at e2
        rw [if_neg hn, if_pos (by omega), show T.ng + i - T.ng = i by omega] at e2
        exact .inr ⟨i, n', cs, t, l, hlt, rfl, k1, k2, e2, e1.symm, k3⟩
  refine ⟨fun n x L e1 e2 => ?_, fun n q x c L M e1 e2 e3 e4 hne => ?_, fun n x L e1 hn e2 => ?_, fun n hn => ?_, Nat.le_refl _, by rw [layL_next, hn0]; exact Nat.le_refl _, fun g hg => ?_, r0.inv⟩
  · rcases cases e1 e2 with ⟨_, k1, k2⟩ | ⟨i, n', cs, t, l, _, rfl, k3, k4, k5, rfl, k6⟩
    · exact BRel.re.2 ((r0.blk n x L k1 k2).mono hx)
    · obtain ⟨c, hw, hsz, hm, hcs, hes⟩ := r.blk _ _ _ k3 k5
      refine ⟨c, hw, hsz, by omega, fun j y hy => ?_, hes⟩
      have hy := newC_get hy
      rw [instVs_get] at hy
      cases hj : l[j]? with
      | none => rw [hj] at hy; cases hy
      | some z =>
        rw [hj] at hy
        simp only [Option.map_some, Option.some.injEq] at hy
        subst hy
        obtain ⟨v', hv', hs⟩ := k6 j z hj
        obtain ⟨_, v, hv, hV⟩ := hcs j v' hv'
        exact ⟨(List.getElem?_eq_some_iff.1 hj).1, v, hv, hs v hV⟩
  · rcases cases e1 e3 with ⟨_, k1, k2⟩ | ⟨i, n', cs, t, l, _, rfl, k3, _, k5, _, _⟩
    · rcases cases e2 e4 with ⟨_, j1, j2⟩ | ⟨i', n2, cs', t', l', _, rfl, j3, _, j5, _, _⟩
      · exact r0.inj n q x c L M k1 j1 k2 j2 hne
      · have h1' := hlow n x L k1 k2
        have h2' := r.lo _ _ _ j3 (show ng' ≤ b + i' by omega) j5
        omega
    · rcases cases e2 e4 with ⟨_, j1, j2⟩ | ⟨i', n2, cs', t', l', _, rfl, j3, _, j5, _, _⟩
      · have h1' := hlow q c M j1 j2
        have h2' := r.lo _ _ _ k3 (show ng' ≤ b + i by omega) k5
        omega
      · exact r.inj _ _ _ _ L M k3 j3 k5 j5 (by omega)
  · have hn' : T.ng + bs.length ≤ n := hn
    rcases cases e1 e2 with ⟨hlt, _, _⟩ | ⟨i, n', cs, t, l, hlt, rfl, _⟩
    · omega
    · omega
  · rw [layL_next, hn0] at hn
    rw [layL_get, hn0, if_neg (by omega), List.getElem?_eq_none (by omega)]
    refine ⟨(r0.fresh n (by omega)).1, ?_⟩
    unfold inP
    rw [if_neg (by omega), if_neg (by omega)]
  · obtain ⟨L, e, e2⟩ := r0.glob g hg
    exact ⟨L, hx _ _ e, e2⟩

/-- A function that reads known blocks and tells no names; the letters are put to numbers. -/
theorem hook_rd {σ : Nat → Int} (hσ : Env bd σ) {m : Nat} (hm : bs.length = m) (hT : TabOk P (T.re hk bd (T.ng + bs.length))) (hin : ∀ args w, (callFunc f args).run P w = .ok (.enter f args) w) (hfa : freeV a = true)
    (hstart : ∀ B E w, T.inv.p B w → B ≤ w.heap.size → ∃ κ0 h0, S h0 ∧ Rel T w.heap.size E κ0 h0 w ∧ h0.next = T.ng ∧ ∀ n x L, h0.get n = some x → κ0 n = some L → L.blk < B)
    (hrun : ∀ h0, S h0 → chkR (callX (T.re hk bd (T.ng + bs.length)) n f (instVs (fun i => T.ng + i) args) (layL (fun i => T.ng + i) bs h0)) a = true) : HookOk P (T.re hk' bd' ng') f (.rd m (fixVs σ args) (fixB σ bs) (fixV σ a)) := by
  intro B E ι h w args' as' b' h2 hE e hV r
  refine ⟨hin as' w, ?_⟩
  unfold hookA at e
  split at e
  · rename_i b hb
    rcases cond_some' e with ⟨hs, e'⟩ | ⟨_, e'⟩
    · cases e'
      simp only [Bool.and_eq_true, Nat.ble_eq] at hs
      obtain ⟨⟨hng, hsa⟩, hsb⟩ := hs
      have hng' : ng' ≤ b := hng
      obtain ⟨κ0, h0, hS, r0, hn0, hlow⟩ := hstart B σ w r.inv r.size
      have hren : ∀ n L, ι (rdG b m h n) = some L → inP κ0 ι T.ng bs.length b (T.ng + n) = some L := fun n L e => by
        unfold rdG at e
        cases hc : Nat.blt n m with
        | true =>
          rw [hc] at e
          have hlt : n < m := by simpa [Nat.blt_eq] using hc
          unfold inP
          rw [if_neg (by omega), if_pos (by omega), show T.ng + n - T.ng = n by omega]
          exact e
        | false =>
          rw [hc] at e
          simp only [cond_false] at e
          rw [(r.fresh _ (Nat.le_refl _)).2] at e
          cases e
      have hsp := liesB_spec hsb
      have ri := Rel.inner (hk := hk) (bd := bd) (bs := bs) hn0 r0 hlow r hng' (fun i t l hi => by
        have hlt : i < bs.length := (List.getElem?_eq_some_iff.1 hi).1
        have hif := fixB_at σ bs i t l hi
        obtain ⟨n', cs, k1, k2, k3⟩ := hsp i t (fixVs σ l) hif
        rw [Nat.zero_add] at k1
        have hg : rdG b m h i = b + i := by
          unfold rdG
          have : Nat.blt i m = true := by rw [Nat.blt_eq]; omega
          rw [this]
          rfl
        rw [hg] at k1
        refine ⟨n', cs, k1, by rw [fixVs_len] at k2; exact k2, fun j x hj => ?_⟩
        obtain ⟨v', e1, e2⟩ := k3 j (fixV σ x) (by rw [fixVs_get, hj]; rfl)
        refine ⟨v', e1, fun v hv => V.inst (g := rdG b m h) hren ?_⟩
        have hq := sameV_V e2 hv
        rw [inst_fix] at hq
        exact V_fix.1 hq)
      have ht := hrun h0 hS
      unfold chkR at ht
      split at ht
      · rename_i a' h1 hc
        refine (callX_ok hT (E := σ) hσ hc (VL.inst (g := rdG b m h) hren ?_) ri).mono ?_
        · have hq := sameVs_VL hsa hV
          rw [insts_fix] at hq
          exact VL_fix.1 hq
        · rintro ev w' ⟨κ, v, rfl, hv, hgo, hrel⟩
          exact ⟨ι, v, rfl, V_fix.2 (V.free hfa (sameV_V ht hv)), Go.under r hgo.below, r.under hgo.below⟩
      · cases ht
    · cases e'
  · cases e
end

end Go.Proofs.YtednkkcmboahgaaGreatDoor

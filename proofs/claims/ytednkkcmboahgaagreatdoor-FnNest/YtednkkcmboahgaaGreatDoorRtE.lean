/-
  A checked run: what a run has made is laid behind another heap, under other names.
-/
import Derived.Test.YtednkkcmboahgaaGreatDoorRxC
namespace Go.Proofs.YtednkkcmboahgaaGreatDoor
open Go.RowKit

theorem instVs_len (g : Nat → Nat) : ∀ l, (instVs g l).length = l.length
  | [] => rfl
  | a :: r => by simp [instVs, instVs_len g r]
theorem instVs_get (g : Nat → Nat) : ∀ (l : List AV) (i : Nat), (instVs g l)[i]? = (l[i]?).map (instV g)
  | [], i => by simp [instVs]
  | a :: r, 0 => by simp [instVs]
  | a :: r, i + 1 => by simp [instVs, instVs_get g r i]

mutual
theorem V.inst {E : Nat → Int} {κ μ : Pl} {g g' : Nat → Nat} (hr : ∀ n L, κ (g n) = some L → μ (g' n) = some L) : ∀ {a : AV} {v : Value}, V E κ (instV g a) v → V E μ (instV g' a) v
  | .bool _, _, h => by simp only [instV, V] at h ⊢; exact h
  | .int _ _, _, h => by simp only [instV, V] at h ⊢; exact h
  | .str _ _, _, h => by simp only [instV, V] at h ⊢; exact h
  | .nilptr, _, h => by simp only [instV, V] at h ⊢; exact h
  | .eslice, _, h => by simp only [instV, V] at h ⊢; exact h
  | .nilslice, _, h => by simp only [instV, V] at h ⊢; exact h
  | .nilmap, _, h => by simp only [instV, V] at h ⊢; exact h
  | .nilfunc, _, h => by simp only [instV, V] at h ⊢; exact h
  | .niliface, _, h => by simp only [instV, V] at h ⊢; exact h
  | .junk, _, h => by simp only [instV, V] at h ⊢; exact h
  | .ptr n o, _, h => by
    simp only [instV, V] at h ⊢
    obtain ⟨L, hL, e⟩ := h
    exact ⟨L, hr _ _ hL, e⟩
  | .slice n o l, _, h => by
    simp only [instV, V] at h ⊢
    obtain ⟨L, cap, hL, e⟩ := h
    exact ⟨L, cap, hr _ _ hL, e⟩
  | .map n, _, h => by
    simp only [instV, V] at h ⊢
    obtain ⟨L, hL, e⟩ := h
    exact ⟨L, hr _ _ hL, e⟩
  | .yld n, _, h => by
    simp only [instV, V] at h ⊢
    obtain ⟨L, hL, e⟩ := h
    exact ⟨L, hr _ _ hL, e⟩
  | .func f a b, _, h => by
    simp only [instV, V] at h ⊢
    obtain ⟨a', b', e, h1, h2⟩ := h
    exact ⟨a', b', e, VL.inst hr h1, VL.inst hr h2⟩
  | .iface t a, _, h => by
    simp only [instV, V] at h ⊢
    obtain ⟨u, e, h1⟩ := h
    exact ⟨u, e, V.inst hr h1⟩
  | .agg l, _, h => by
    simp only [instV, V] at h ⊢
    obtain ⟨l', e, h1⟩ := h
    exact ⟨l', e, VL.inst hr h1⟩
  | .tuple l, _, h => by
    simp only [instV, V] at h ⊢
    obtain ⟨l', e, h1⟩ := h
    exact ⟨l', e, VL.inst hr h1⟩
theorem VL.inst {E : Nat → Int} {κ μ : Pl} {g g' : Nat → Nat} (hr : ∀ n L, κ (g n) = some L → μ (g' n) = some L) : ∀ {l : List AV} {s : List Value}, VL E κ (instVs g l) s → VL E μ (instVs g' l) s
  | [], _, h => by simp only [instVs, VL] at h ⊢; exact h
  | a :: r, _, h => by
    simp only [instVs, VL] at h ⊢
    obtain ⟨v, s, e, h1, h2⟩ := h
    exact ⟨v, s, e, V.inst hr h1, VL.inst hr h2⟩
end

theorem layL_next (g : Nat → Nat) : ∀ (bs : List (Nat × List AV)) (h : AH), (layL g bs h).next = h.next + bs.length
  | [], h => rfl
  | (t, l) :: r, h => by
    simp only [layL, layL_next g r, AH.next_new, List.length_cons]
    omega
theorem layL_get (g : Nat → Nat) : ∀ (bs : List (Nat × List AV)) (h : AH) (n : Nat), (layL g bs h).get n = if n < h.next then h.get n else (match bs[n - h.next]? with
    | some (t, l) => some (.cells l.length (newC (instVs g l)) t)
    | none => h.get n)
  | [], h, n => by simp [layL]
  | (t, l) :: r, h, n => by
    simp only [layL]
    rw [layL_get g r, AH.next_new, AH.get_new]
    by_cases h1 : n < h.next
    · rw [if_pos (by omega), if_pos h1, if_neg (by omega)]
    · rw [if_neg h1]
      by_cases h2 : n = h.next
      · subst h2
        rw [if_pos (by omega)]
        simp
      · rw [if_neg (by omega)]
        obtain ⟨k, hk⟩ : ∃ k, n - h.next = k + 1 := ⟨n - h.next - 1, by omega⟩
        rw [hk, List.getElem?_cons_succ, show n - (h.next + 1) = k by omega]
        cases r[k]? with
        | none => simp [h2]
        | some p => rfl

/-- Inner names, one a block. -/
def nmF (nm : List Nat) (i : Nat) : Nat := (nthL i nm).getD 1000000
/-- The blocks of an inner run are these. -/
noncomputable def chkB (nm : List Nat) (h1 : AH) : List (Nat × List AV) → List Nat → Bool
  | [], [] => true
  | (t, l) :: r, m :: ms => (match h1.get m with
    | some (.cells n cs t') => Nat.beq t t' && Nat.ble l.length n && chkC nm cs l 0
    | _ => false) && chkB nm h1 r ms
  | _, _ => false
where
  chkC (nm : List Nat) (cs : Trie AV) : List AV → Nat → Bool
    | [], _ => true
    | a :: r, i => (match cs.get i with
      | some v => sameV v (instV (nmF nm) a)
      | none => false) && chkC nm cs r (i + 1)

theorem chkC_spec {nm : List Nat} {cs : Trie AV} : ∀ {l : List AV} {i : Nat}, chkB.chkC nm cs l i = true → ∀ j a, l[j]? = some a → ∃ v, cs.get (i + j) = some v ∧ sameV v (instV (nmF nm) a) = true
  | [], i, _, j, a, h => by simp at h
  | x :: r, i, h, j, a, hj => by
    simp only [chkB.chkC, Bool.and_eq_true] at h
    cases j with
    | zero =>
      simp only [List.getElem?_cons_zero, Option.some.injEq] at hj
      subst hj
      have h1 := h.1
      split at h1
      · rename_i v hv
        exact ⟨v, hv, h1⟩
      · cases h1
    | succ j =>
      obtain ⟨v, h1, h2⟩ := chkC_spec h.2 j a (by simpa using hj)
      exact ⟨v, by rw [show i + (j + 1) = i + 1 + j by omega]; exact h1, h2⟩
theorem chkB_spec {nm : List Nat} {h1 : AH} : ∀ {bs : List (Nat × List AV)} {ms : List Nat}, chkB nm h1 bs ms = true → bs.length = ms.length ∧ ∀ (i t : Nat) (l : List AV), bs[i]? = some (t, l) → ∃ m n cs, ms[i]? = some m ∧ h1.get m = some (.cells n cs t) ∧ l.length ≤ n ∧ ∀ (j : Nat) (a : AV), l[j]? = some a → ∃ v, cs.get j = some v ∧ sameV v (instV (nmF nm) a) = true
  | [], [], _ => ⟨rfl, fun i t l h => by simp at h⟩
  | (t, l) :: r, m :: ms, h => by
    simp only [chkB, Bool.and_eq_true] at h
    obtain ⟨h2, h3⟩ := h
    obtain ⟨k1, k2⟩ := chkB_spec h3
    refine ⟨by simp [k1], fun i t' l' hi => ?_⟩
    cases i with
    | zero =>
      simp only [List.getElem?_cons_zero, Option.some.injEq, Prod.mk.injEq] at hi
      obtain ⟨rfl, rfl⟩ := hi
      split at h2
      · rename_i n cs t' hg
        simp only [Bool.and_eq_true, Nat.beq_eq, Nat.ble_eq] at h2
        obtain ⟨⟨rfl, hle⟩, hc⟩ := h2
        refine ⟨m, n, cs, by simp, hg, hle, fun j a hj => ?_⟩
        obtain ⟨v, e1, e2⟩ := chkC_spec hc j a hj
        exact ⟨v, by simpa using e1, e2⟩
      · cases h2
    | succ i =>
      obtain ⟨m', n, cs, e1, e2⟩ := k2 i t' l' (by simpa using hi)
      exact ⟨m', n, cs, by simpa using e1, e2⟩
  | [], _ :: _, h => by simp [chkB] at h
  | _ :: _, [], h => by simp [chkB] at h

end Go.Proofs.YtednkkcmboahgaaGreatDoor

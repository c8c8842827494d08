/-
  A checked run: what another run has made, laid behind a heap: the machine's side.
-/
import Derived.Test.YtednkkcmboahgaaGreatDoorRtE
namespace Go.Proofs.YtednkkcmboahgaaGreatDoor
open Go.RowKit

/-- The same tables, but for the hooks, the letters' bounds and the names that are not written. -/
abbrev Tab.re (T : Tab) (hk : Trie HK) (bd : Bds) (ng : Nat) : Tab := { T with hook := hk, bd := bd, ng := ng }

/-- Where the names lie, with those of the inner run behind. -/
def outP (ι κ : Pl) (N : Nat) (nm : List Nat) : Pl := fun n => if n < N then ι n else match nm[n - N]? with
  | some m => κ m
  | none => none

section
variable {T : Tab} {B : Nat} {E : Nat → Int} {ι κ : Pl} {h h1 : AH} {w w' : World} {nm : List Nat} {bs : List (Nat × List AV)}

theorem outP_old {T' : Tab} (r : Rel T' B E ι h w) : Ext ι (outP ι κ h.next nm) := fun n L e => by
  unfold outP
  by_cases hn : n < h.next
  · rw [if_pos hn]; exact e
  · rw [(r.fresh n (by omega)).2] at e; cases e
theorem outP_new {i m : Nat} (hi : nm[i]? = some m) (N : Nat) : outP ι κ N nm (N + i) = κ m := by
  unfold outP
  rw [if_neg (by omega), show N + i - N = i by omega, hi]
theorem outP_ren {E' : Nat → Int} (ri : Rel T w.heap.size E' κ h1 w') (hlt : h1.next ≤ 1000000) (N : Nat) : ∀ n L, κ (nmF nm n) = some L → outP ι κ N nm (N + n) = some L := fun n L e => by
  unfold nmF at e
  rw [nthL_eq] at e
  cases hn : nm[n]? with
  | none =>
    rw [hn] at e
    simp only [Option.getD_none] at e
    rw [(ri.fresh 1000000 hlt).2] at e
    cases e
  | some m =>
    rw [hn] at e
    simp only [Option.getD_some] at e
    rw [outP_new hn]
    exact e

theorem Rel.laid {hk' : Trie HK} {bd' : Bds} {ng' : Nat} {E' : Nat → Int} (r : Rel (T.re hk' bd' ng') B E ι h w) (ri : Rel T w.heap.size E' κ h1 w') (hb : Below w.heap.size w w')
    (hbs : ∀ (i t : Nat) (l : List AV), bs[i]? = some (t, l) → ∃ m n cs, nm[i]? = some m ∧ h1.get m = some (.cells n cs t) ∧ l.length ≤ n ∧ ∀ (j : Nat) (a : AV), l[j]? = some a → ∃ v', cs.get j = some v' ∧ ∀ v, V E' κ v' v → V E κ (instV (nmF nm) a) v)
    (hlt : h1.next ≤ 1000000) (hng : ∀ m ∈ nm, T.ng ≤ m) (hnd : nm.Nodup) (hlen : bs.length = nm.length) :
    Rel (T.re hk' bd' ng') B E (outP ι κ h.next nm) (layL (fun i => h.next + i) bs h) w' ∧ Go B ι h w (outP ι κ h.next nm) (layL (fun i => h.next + i) bs h) w' := by
  have hren := outP_ren (ι := ι) (nm := nm) ri hlt h.next
  have hx := outP_old (κ := κ) (nm := nm) r
  -- a name of the new heap
  have cases : ∀ {n : Nat} {b : AB} {L : Loc}, (layL (fun i => h.next + i) bs h).get n = some b → outP ι κ h.next nm n = some L →
      (n < h.next ∧ h.get n = some b ∧ ι n = some L) ∨ (∃ i m n' cs t l, n = h.next + i ∧ bs[i]? = some (t, l) ∧ nm[i]? = some m ∧ h1.get m = some (.cells n' cs t) ∧ l.length ≤ n' ∧ κ m = some L ∧ b = .cells l.length (newC (instVs (fun i => h.next + i) l)) t ∧ ∀ (j : Nat) (a : AV), l[j]? = some a → ∃ v', cs.get j = some v' ∧ ∀ v, V E' κ v' v → V E κ (instV (nmF nm) a) v) := fun {n b L} e1 e2 => by
    rw [layL_get] at e1
    by_cases hn : n < h.next
    · rw [if_pos hn] at e1
      unfold outP at e2
      rw [if_pos hn] at e2
      exact .inl ⟨hn, e1, e2⟩
    · rw [if_neg hn] at e1
      obtain ⟨i, rfl⟩ : ∃ i, n = h.next + i := ⟨n - h.next, by omega⟩
      rw [show h.next + i - h.next = i by omega] at e1
      cases hi : bs[i]? with
      | none =>
        rw [hi] at e1
        simp only [] at e1
        rw [(r.fresh _ (by omega)).1] at e1
        cases e1
      | some p =>
        obtain ⟨t, l⟩ := p
        rw [hi] at e1
        simp only [Option.some.injEq] at e1
        obtain ⟨m, n', cs, k1, k2, k3, k4⟩ := hbs i t l hi
        rw [outP_new k1] at e2
        exact .inr ⟨i, m, n', cs, t, l, rfl, hi, k1, k2, k3, e2, e1.symm, k4⟩
  have hmem : ∀ {i m : Nat}, nm[i]? = some m → T.ng ≤ m := fun {i m} e => hng m (List.mem_of_getElem? e)
  refine ⟨⟨fun n b L e1 e2 => ?_, fun n q b c L M e1 e2 e3 e4 hne => ?_, fun n b L e1 hn e2 => ?_, fun n hn => ?_, Nat.le_trans r.size hb.size, by rw [layL_next]; exact Nat.le_trans r.ng (Nat.le_add_right _ _), fun g hg => ?_, T.inv.st _ _ _ (fun k hk => hb.block k (Nat.lt_of_lt_of_le hk r.size)) r.inv⟩, hx, hb.mono r.size, fun n hn e => ⟨?_, ?_⟩, by rw [layL_next]; exact Nat.le_add_right _ _⟩
  · rcases cases e1 e2 with ⟨_, k1, k2⟩ | ⟨i, m, n', cs, t, l, rfl, _, k2, k3, k4, k5, rfl, k6⟩
    · have hbr := r.blk n b L k1 k2
      exact (hbr.block (hb.block _ hbr.lt)).mono hx
    · obtain ⟨c, hw, hsz, hm, hcs, hes⟩ := ri.blk _ _ _ k3 k5
      refine ⟨c, hw, hsz, by omega, fun j a ha => ?_, hes⟩
      have ha := newC_get ha
      rw [instVs_get] at ha
      cases hj : l[j]? with
      | none => rw [hj] at ha; cases ha
      | some x =>
        rw [hj] at ha
        simp only [Option.map_some, Option.some.injEq] at ha
        subst ha
        obtain ⟨v', hv', hs⟩ := k6 j x hj
        obtain ⟨_, v, hv, hV⟩ := hcs j v' hv'
        exact ⟨(List.getElem?_eq_some_iff.1 hj).1, v, hv, V.inst hren (hs v hV)⟩
  · rcases cases e1 e3 with ⟨_, k1, k2⟩ | ⟨i, m, n', cs, t, l, rfl, _, k2, k3, _, k5, _, _⟩
    · rcases cases e2 e4 with ⟨_, j1, j2⟩ | ⟨i', m', n2, cs', t', l', rfl, _, j2, j3, _, j5, _, _⟩
      · exact r.inj n q b c L M k1 j1 k2 j2 hne
      · have h1' := (r.blk n b L k1 k2).lt
        have h2' := ri.lo _ _ _ j3 (hmem j2) j5
        omega
    · rcases cases e2 e4 with ⟨_, j1, j2⟩ | ⟨i', m', n2, cs', t', l', rfl, _, j2, j3, _, j5, _, _⟩
      · have h1' := (r.blk q c M j1 j2).lt
        have h2' := ri.lo _ _ _ k3 (hmem k2) k5
        omega
      · refine ri.inj m m' _ _ L M k3 j3 k5 j5 (fun e => hne ?_)
        subst e
        have hi := (List.getElem?_eq_some_iff.1 k2)
        have hi' := (List.getElem?_eq_some_iff.1 j2)
        obtain ⟨p1, p2⟩ := hi
        obtain ⟨p3, p4⟩ := hi'
        have := List.getElem_inj hnd (h₀ := p1) (h₁ := p3) |>.1 (p2.trans p4.symm)
        omega
  · rcases cases e1 e2 with ⟨_, k1, k2⟩ | ⟨i, m, n', cs, t, l, rfl, _, k2, k3, _, k5, _, _⟩
    · exact r.lo n b L k1 hn k2
    · exact Nat.le_trans r.size (ri.lo _ _ _ k3 (hmem k2) k5)
  · rw [layL_next] at hn
    rw [layL_get, if_neg (by omega), List.getElem?_eq_none (by omega)]
    refine ⟨(r.fresh n (by omega)).1, ?_⟩
    unfold outP
    rw [if_neg (by omega), List.getElem?_eq_none (by omega)]
  · obtain ⟨L, e, e2⟩ := r.glob g hg
    exact ⟨L, hx _ _ e, e2⟩
  · unfold outP
    rw [if_pos hn]
    exact e
  · rw [layL_get, if_pos hn]
end

end Go.Proofs.YtednkkcmboahgaaGreatDoor

/-
  Objects as they are worked on (holders): how they lie in memory, and what leaves them as they are.
-/
import Derived.Test.YtlmlmdmechhalaaHpH
namespace Go.Proofs.Ytlmlmdmechhalaa
open Go.RowKit
open Hp (PP OO propC rP kl encP putAll)

/-- Where a holder lies: its block, its map, its order. -/
structure HC where
  b : Nat
  m : Nat
  a : Option Addr
  cap : Nat
  T : TypeId
  t : TypeId
def hTy (c : HC) : Prop := (c.T = 135 ∧ c.t = 130) ∨ (c.T = 126 ∧ c.t = 133)
def hV (c : HC) : Value := .iface c.T (.pointer (some ⟨c.b, 0, none⟩))
def rowV (cs : Nat → HC) (n : Nat) : List Value := (List.range n).map fun j => hV (cs j)
def ordV (x : OO) (c : HC) : Value := .slice c.a x.ps.length c.cap
/-- The blocks of a holder. -/
def Mine (x : OO) (c : HC) (q : Nat) : Prop := q = c.b ∨ q = c.m ∨ (ordV x c).ownBlock = some q
def HeldAt (w : World) (lo : Nat) (x : OO) (c : HC) : Prop :=
  hTy c ∧ lo ≤ c.b ∧ c.b + 1 ≤ c.m ∧ w.heap[c.b]? = some (.cells (.int .i64 x.cls :: .int .i64 x.pro :: .map (some c.m) :: .slice c.a x.ps.length c.cap :: tl c.t).toArray c.t (0, 0)) ∧
  (∃ n D, n ≤ x.ps.length + 50000 ∧ w.ownsMap Try.prog 9 rP c.m n D ∧ Hp.Reads D x.ps) ∧ w.ownsRow (c.b + 1) 147 2 (ordV x c) x.ps.length (keysV x.ps)
/-- The first n holders, and the row in which they stand. -/
def AllAt (w : World) (lo : Nat) (v : Value) (h : List OO) (n : Nat) (cs : Nat → HC) : Prop :=
  w.ownsRow lo 71 1 v n (rowV cs n) ∧ (∀ j (hj : j < h.length), j < n → HeldAt w lo h[j] (cs j)) ∧
  (∀ i j (hi : i < h.length) (hj : j < h.length), i < j → j < n → ∀ q, Mine h[i] (cs i) q → Mine h[j] (cs j) q → False)

theorem map_same {w w' : World} {P : Program} {k : TypeId} {R : Value → Option (DataW Unit × List MemPlace)} {b n : Nat} {D : DataW Unit} (h : w.ownsMap P k R b n D) (e : w'.heap[b]? = w.heap[b]?) : w'.ownsMap P k R b n D := by
  obtain ⟨es, ck, hb, rest⟩ := h
  exact ⟨es, ck, e.trans hb, rest⟩
theorem row_same {w w' : World} {base : Nat} {e : TypeId} {s : Nat} {v : Value} {n : Nat} {xs : List Value} (h : w.ownsRow base e s v n xs) (hq : ∀ q, v.ownBlock = some q → w'.heap[q]? = w.heap[q]?) : w'.ownsRow base e s v n xs := by
  refine ⟨h.1, ?_⟩
  rcases h.2 with hq' | ⟨g, cp, cur, e1, hg, hgb, rest⟩
  · exact .inl hq'
  · exact .inr ⟨g, cp, cur, e1, hg, (hq g (by rw [e1]; rfl)).trans hgb, rest⟩
theorem HeldAt.same {w w' : World} {lo : Nat} {x : OO} {c : HC} (h : HeldAt w lo x c) (hq : ∀ q, Mine x c q → w'.heap[q]? = w.heap[q]?) : HeldAt w' lo x c := by
  obtain ⟨h1, h2, h3, h4, ⟨n, D, h5, h6, h7⟩, h8⟩ := h
  exact ⟨h1, h2, h3, (hq _ (.inl rfl)).trans h4, ⟨n, D, h5, map_same h6 (hq _ (.inr (.inl rfl))), h7⟩, row_same h8 fun q e => hq q (.inr (.inr e))⟩
theorem HeldAt.mine {w : World} {lo : Nat} {x : OO} {c : HC} (h : HeldAt w lo x c) {q : Nat} (hq : Mine x c q) : lo ≤ q ∧ q < w.heap.size := by
  obtain ⟨h1, h2, h3, h4, ⟨n, D, h5, h6, h7⟩, h8⟩ := h
  rcases hq with rfl | rfl | hq
  · exact ⟨h2, (Array.getElem?_eq_some_iff.1 h4).1⟩
  · exact ⟨by omega, h6.lt⟩
  · have := h8.lt q hq
    exact ⟨by omega, this.2⟩
/-- None of a holder's blocks is a row of holders. -/
theorem HeldAt.apart {w : World} {lo : Nat} {x : OO} {c : HC} (h : HeldAt w lo x c) {q : Nat} (hq : Mine x c q) {cur : Array Value} (hc : w.heap[q]? = some (.cells cur 71 (0, 0))) : False := by
  obtain ⟨h1, h2, h3, h4, ⟨n, D, h5, h6, h7⟩, h8⟩ := h
  rcases hq with rfl | rfl | hq
  · rw [h4] at hc
    injection hc with hc
    injection hc with _ ht _
    rcases h1 with ⟨_, e⟩ | ⟨_, e⟩ <;> (rw [e] at ht; exact absurd ht (by decide))
  · obtain ⟨es, ck, hb, _⟩ := h6
    rw [hb] at hc; cases hc
  · obtain ⟨_, cc, hcc⟩ := own_apart h8 hq
    rw [hcc] at hc
    injection hc with hc
    injection hc with _ ht _
    exact absurd ht (by decide)
theorem HeldAt.under {w w' : World} {lo : Nat} {x : OO} {c : HC} (h : HeldAt w lo x c) (hb : Below w.heap.size w w') : HeldAt w' lo x c := h.same fun q hq => hb.block q (h.mine hq).2
theorem HeldAt.low {w : World} {lo lo' : Nat} {x : OO} {c : HC} (h : HeldAt w lo x c) (hl : lo' ≤ lo) : HeldAt w lo' x c := by
  obtain ⟨h1, h2, h3⟩ := h
  exact ⟨h1, by omega, h3⟩
/-- The i-th one of a holder's order. -/
theorem HeldAt.ord {w : World} {lo : Nat} {x : OO} {c : HC} (h : HeldAt w lo x c) (i : Nat) (hi : i < x.ps.length) :
    ∃ g, c.a = some ⟨g, 0, none⟩ ∧ w.cell? ⟨g, i * 2, none⟩ = some (.string x.ps[i].key) ∧ w.cell? ⟨g, i * 2 + 1, none⟩ = some (.bool x.ps[i].hid) := by
  have hr := h.2.2.2.2.2
  rcases hr.2 with ⟨e, e0⟩ | ⟨g, cap, cur, e, _⟩
  · omega
  · have e' := e
    unfold ordV at e' hr
    injection e' with e1 _ e3
    rw [e1] at hr
    refine ⟨g, e1, ?_, ?_⟩
    · have h0 := World.ownsRow.cellAt hr (i * 2) (by omega)
      rw [h0]
      exact keysV_at x.ps i hi 0 (by omega)
    · rw [World.ownsRow.cellAt hr (i * 2 + 1) (by omega)]
      exact keysV_at x.ps i hi 1 (by omega)
theorem AllAt.under {w w' : World} {lo : Nat} {v : Value} {h : List OO} {n : Nat} {cs : Nat → HC} (k : AllAt w lo v h n cs) (hb : Below w.heap.size w w') : AllAt w' lo v h n cs :=
  ⟨row_same k.1 fun q hq => hb.block q (k.1.lt q hq).2, fun j hj hjn => (k.2.1 j hj hjn).under hb, k.2.2⟩
theorem AllAt.low {w : World} {lo lo' : Nat} {v : Value} {h : List OO} {n : Nat} {cs : Nat → HC} (k : AllAt w lo v h n cs) (hl : lo' ≤ lo) : AllAt w lo' v h n cs :=
  ⟨World.ownsRow.mono k.1 hl, fun j hj hjn => (k.2.1 j hj hjn).low hl, k.2.2⟩
theorem allAt_nil (w : World) (lo : Nat) (h : List OO) (cs : Nat → HC) : AllAt w lo (.slice none 0 0) h 0 cs :=
  ⟨World.ownsRow_nil _ _ _ _, fun j _ h => absurd h (by omega), fun i j _ _ _ h => absurd h (by omega)⟩
theorem rowV_snoc (cs : Nat → HC) (n : Nat) (c : HC) : rowV (fun j => if j = n then c else cs j) (n + 1) = rowV cs n ++ [hV c] := by
  unfold rowV
  rw [List.range_succ, List.map_append]
  simp only [List.map_cons, List.map_nil, if_true]
  congr 1
  exact List.map_congr_left fun j hj => by
    have : j < n := List.mem_range.1 hj
    rw [if_neg (by omega)]
theorem rowV_len (cs : Nat → HC) (n : Nat) : (rowV cs n).length = n := by unfold rowV; simp
theorem rowV_get (cs : Nat → HC) (n j : Nat) (h : j < n) : (rowV cs n)[j]? = some (hV (cs j)) := by
  unfold rowV
  rw [List.getElem?_map, List.getElem?_range h]
  rfl
/-- One holder more, at the end of the row. -/
theorem AllAt.snoc {w w' : World} {lo W : Nat} {v v' : Value} {h : List OO} {n : Nat} {cs : Nat → HC} (k : AllAt w lo v h n cs) (hn : n < h.length) {c : HC} (hc : HeldAt w W h[n] c) (hlo : lo ≤ W) (hW : ∀ j (hj : j < h.length), j < n → ∀ q, Mine h[j] (cs j) q → q < W) (hWc : ∀ q, Mine h[n] c q → W ≤ q)
    (hg : w.grownBy w' v.ownBlock) (hown : w'.ownsRow lo 71 1 v' (n + 1) (rowV cs n ++ [hV c])) : AllAt w' lo v' h (n + 1) (fun j => if j = n then c else cs j) := by
  have far : ∀ x (d : HC) l, HeldAt w l x d → HeldAt w' l x d := fun x d l hd => hd.same fun q hq => hg.block q (hd.mine hq).2 fun e => by
    obtain ⟨_, cc, hcc⟩ := own_apart k.1 e.symm
    exact hd.apart hq hcc
  refine ⟨by rw [rowV_snoc]; exact hown, fun j hj hjn => ?_, fun i j hi hj hij hjn q h1 h2 => ?_⟩
  · by_cases e : j = n
    · subst e
      simp only [if_true]
      exact (far _ _ _ hc).low hlo
    · simp only [if_neg e]
      exact far _ _ _ (k.2.1 j hj (by omega))
  · dsimp only at h1 h2
    by_cases e : j = n
    · subst e
      simp only [if_true] at h2
      rw [if_neg (by omega : ¬ i = j)] at h1
      have := hW i hi (by omega) q h1
      have := hWc q h2
      omega
    · rw [if_neg (by omega : ¬ i = n)] at h1
      rw [if_neg e] at h2
      exact k.2.2 i j hi hj hij (by omega) q h1 h2

end Go.Proofs.Ytlmlmdmechhalaa

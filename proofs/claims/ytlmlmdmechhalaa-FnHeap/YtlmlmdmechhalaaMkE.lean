/-
  Marks of a heap of the call's own, the empty one among them.
-/
import Derived.Test.YtlmlmdmechhalaaHpW
import Derived.Test.YtlmlmdmechhalaaHpEq
namespace Go.Proofs.Ytlmlmdmechhalaa
open Go.RowKit
open Hp (PP OO propC)

set_option maxHeartbeats 4000000 in
theorem lMarkObj0 (a : Option Addr) (cap k0 : Nat) (w : World) : Calls Try.prog 61 #[.slice a 0 cap, .int .i64 k0] w fun e w' => e = .returned (.int .i64 k0) ∧ w' = w := by
  go_enter Try.func61, Try.ntmps61
  go_wp2_with fail
  go_loopw [1, 5] (fun vk vi wr => vk = .int .i64 k0 ∧ vi = .int .i64 0 ∧ wr = w) (fun _ _ _ => 0)
  case atStart => exact ⟨rfl, rfl, rfl⟩
  case round =>
    obtain ⟨rfl, rfl, rfl⟩ := hrel
    go_wp2_with fail
    go_ret
    exact ⟨rfl, rfl⟩
set_option maxHeartbeats 4000000 in
theorem lHeldObj0 (a : Option Addr) (cap k0 : Nat) (w : World) : Calls Try.prog 62 #[.slice a 0 cap, .int .i64 k0] w fun e w' => e = .returned (.int .i64 k0) ∧ w' = w := by
  go_enter Try.func62, Try.ntmps62
  go_wp2_with fail
  go_loopw [1, 5] (fun vk vi wr => vk = .int .i64 k0 ∧ vi = .int .i64 0 ∧ wr = w) (fun _ _ _ => 0)
  case atStart => exact ⟨rfl, rfl, rfl⟩
  case round =>
    obtain ⟨rfl, rfl, rfl⟩ := hrel
    go_wp2_with fail
    go_ret
    exact ⟨rfl, rfl⟩
set_option maxHeartbeats 4000000 in
theorem lMark0 (a : Option Addr) (cap k0 : Nat) (w : World) : Calls Try.prog 31 #[.agg #[.slice a 0 cap], .int .i64 k0] w fun e w' => e = .returned (.int .i64 k0) ∧ Below w.heap.size w w' := by
  have HB0 : Hid (∀ o, Below w.heap.size w (w.alloc o)) := fun o => (Below.refl _ _).alloc (Nat.le_refl _) o
  go_enter Try.func31, Try.ntmps31
  go_wp2_with fail
  refine (lMarkObj0 a cap k0 _).mono ?_
  rintro e w2 ⟨rfl, rfl⟩
  go_wp2_with fail
  go_ret
  exact ⟨rfl, HB0.out _⟩
set_option maxHeartbeats 4000000 in
theorem lHeld0 (a : Option Addr) (cap k0 : Nat) (w : World) : Calls Try.prog 32 #[.agg #[.slice a 0 cap], .int .i64 k0] w fun e w' => e = .returned (.int .i64 k0) ∧ Below w.heap.size w w' := by
  have HB0 : Hid (∀ o, Below w.heap.size w (w.alloc o)) := fun o => (Below.refl _ _).alloc (Nat.le_refl _) o
  have hk : ¬ ((k0 : Nat) : Int) < 0 := by omega
  go_enter Try.func32, Try.ntmps32
  go_wp2_with fail
  refine (lHeldObj0 a cap k0 _).mono ?_
  rintro e w2 ⟨rfl, rfl⟩
  go_wp2_with fail
  go_ret
  exact ⟨rfl, HB0.out _⟩

/-- A heap that was marked from 1 on. -/
def Marked (w : World) (a : Option Addr) (V : List OO) : Prop := V = [] ∨ ∃ g N cs gs Ns, a = some ⟨g, 0, none⟩ ∧ GH w g N (mkH 1 V) cs gs Ns
theorem Marked.under {w w' : World} {a : Option Addr} {V : List OO} (k : Marked w a V) (hb : Below w.heap.size w w') : Marked w' a V := by
  rcases k with k | ⟨g, N, cs, gs, Ns, e, k⟩
  · exact .inl k
  · exact .inr ⟨g, N, cs, gs, Ns, e, k.under hb⟩
theorem lHeldOwn (V : List OO) (w : World) (a : Option Addr) (cap : Nat) (hz : szH V ≤ 1100000) (k : Marked w a V) :
    Calls Try.prog 32 #[.agg #[.slice a V.length cap], .int .i64 1] w fun e w' => e = .returned (.int .i64 ((1 + mkK V V.length : Nat) : Int)) ∧ Below w.heap.size w w' := by
  rcases k with rfl | ⟨g, N, cs, gs, Ns, rfl, H⟩
  · refine (lHeld0 a cap 1 w).mono ?_
    rintro e w' ⟨rfl, hb⟩
    exact ⟨rfl, hb⟩
  · exact lHeldHeap g cap N 1 V cs gs Ns w hz (Nat.le_refl 1) (by omega) H

/-- The rows of a heap lie in no box of a Heap. -/
theorem GH.noBox {w : World} {g N : Nat} {h : List OO} {cs : Nat → OC} {gs Ns : Nat → Nat} (H : GH w g N h cs gs Ns) {q : Nat} (hq : Blks g h gs q) {c : Array Value} (e : w.heap[q]? = some (.cells c 25 (0, 0))) : False := by
  rcases hq with rfl | ⟨j, hj, hne, rfl⟩
  · obtain ⟨f, ⟨c', h1, _⟩, _⟩ := H.row
    rw [h1] at e
    injection e with e
    injection e with _ e _
    exact absurd e (by decide)
  · rcases H.props j hj with h0 | ⟨_, _, f, ⟨c', h1, _⟩, _⟩
    · exact hne h0
    · rw [h1] at e
      injection e with e
      injection e with _ e _
      exact absurd e (by decide)

/-! ### what stays as it was -/
/-- The blocks from lo on that were there stayed as they were. -/
def Kept (lo : Nat) (U W : World) : Prop := U.heap.size ≤ W.heap.size ∧ ∀ q, lo ≤ q → q < U.heap.size → W.heap[q]? = U.heap[q]?
theorem Kept.refl (lo : Nat) (U : World) : Kept lo U U := ⟨Nat.le_refl _, fun _ _ _ => rfl⟩
theorem Kept.under {lo : Nat} {U W W' : World} (k : Kept lo U W) (hb : Below W.heap.size W W') : Kept lo U W' := ⟨Nat.le_trans k.1 hb.size, fun q h1 h2 => (hb.block q (Nat.lt_of_lt_of_le h2 k.1)).trans (k.2 q h1 h2)⟩
theorem Kept.marks {lo : Nat} {U W W' : World} {Q : Nat → Prop} (k : Kept lo U W) (hm : Marks Q W W') (hq : ∀ q, lo ≤ q → q < U.heap.size → ¬ Q q) : Kept lo U W' :=
  ⟨Nat.le_trans k.1 hm.size, fun q h1 h2 => (hm.block q (Nat.lt_of_lt_of_le h2 k.1) (hq q h1 h2)).trans (k.2 q h1 h2)⟩
theorem HOwn.kept {U W : World} {lo : Nat} {v : Value} {h : List OO} {n : Nat} {cs : Nat → OC} (k : HOwn U lo v h n cs) (hk : Kept lo U W) : HOwn W lo v h n cs :=
  ⟨row_same k.1 fun q hq => hk.2 q (World.ownsRow.lt k.1 q hq).1 (World.ownsRow.lt k.1 q hq).2, fun j hj hjn => row_same (k.2.1 j hj hjn) fun q hq => hk.2 q (World.ownsRow.lt (k.2.1 j hj hjn) q hq).1 (World.ownsRow.lt (k.2.1 j hj hjn) q hq).2, k.2.2⟩
/-- An answer: a heap of the call's own, and the box X that holds it. -/
def Ans (U : World) (lo X : Nat) (a : Option Addr) (cap : Nat) (V : List OO) : Prop :=
  lo ≤ X ∧ U.heap[X]? = some (.cells #[.slice a V.length cap] 25 (0, 0)) ∧ ∃ cs, HOwn U lo (.slice a V.length cap) V V.length cs
theorem Ans.lt {U : World} {lo X : Nat} {a : Option Addr} {cap : Nat} {V : List OO} (k : Ans U lo X a cap V) : X < U.heap.size := (Array.getElem?_eq_some_iff.1 k.2.1).1
theorem Ans.kept {U W : World} {lo X : Nat} {a : Option Addr} {cap : Nat} {V : List OO} (k : Ans U lo X a cap V) (hk : Kept lo U W) : Ans W lo X a cap V := by
  have hX := k.lt
  obtain ⟨h1, h2, cs, h3⟩ := k
  exact ⟨h1, (hk.2 X h1 hX).trans h2, cs, h3.kept hk⟩
theorem Ans.cell {U : World} {lo X : Nat} {a : Option Addr} {cap : Nat} {V : List OO} (k : Ans U lo X a cap V) : U.cell? ⟨X, 0, none⟩ = some (.slice a V.length cap) := (one_of k.2.1).1
theorem ans_new {W : World} {lo : Nat} {a : Option Addr} {cap : Nat} {V : List OO} {cs : Nat → OC} (k : HOwn W lo (.slice a V.length cap) V V.length cs) (hlo : lo ≤ W.heap.size) : Ans (W.alloc (.cells #[.slice a V.length cap] 25)) lo W.heap.size a cap V :=
  ⟨hlo, heap_alloc_new _ _, cs, k.under ((Below.refl _ _).alloc (Nat.le_refl _) _)⟩
theorem HOwn.setBox {W : World} {lo : Nat} {v : Value} {h : List OO} {n : Nat} {cs : Nat → OC} (k : HOwn W lo v h n cs) {X : Nat} {c : Array Value} (hX : W.heap[X]? = some (.cells c 25 (0, 0))) (u : Value) : HOwn (W.setCell ⟨X, 0, none⟩ u) lo v h n cs := by
  have far : ∀ q (t : TypeId) (c' : Array Value), t ≠ 25 → W.heap[q]? = some (Obj.cells c' t (0, 0)) → (W.setCell ⟨X, 0, none⟩ u).heap[q]? = W.heap[q]? := fun q t c' ht hq => Below.heap_setCell W ⟨X, 0, none⟩ u q (fun e => by
    have e' : q = X := e
    subst e'
    rw [hX] at hq
    injection hq with hq
    injection hq with _ hq _
    exact ht hq.symm)
  refine ⟨row_same k.1 fun q hq => ?_, fun j hj hjn => row_same (k.2.1 j hj hjn) fun q hq => ?_, k.2.2⟩
  · obtain ⟨_, c', hc⟩ := own_apart k.1 hq
    exact far q 76 c' (by decide) hc
  · obtain ⟨_, c', hc⟩ := own_apart (k.2.1 j hj hjn) hq
    exact far q 78 c' (by decide) hc
theorem ans_set {W : World} {lo B X : Nat} {a : Option Addr} {cap : Nat} {V : List OO} {cs : Nat → OC} {c : Value} (k : HOwn W lo (.slice a V.length cap) V V.length cs) (hX : W.heap[X]? = some (.cells #[c] 25 (0, 0))) (hB : B ≤ lo) (hBX : B ≤ X) : Ans (W.setCell ⟨X, 0, none⟩ (.slice a V.length cap)) B X a cap V :=
  ⟨hBX, blk_set hX 0 _, cs, (k.setBox hX _).low hB⟩
theorem lMarkAns (V : List OO) (w : World) (lo X : Nat) (a : Option Addr) (cap : Nat) (hz : szH V ≤ 1100000) (k : Ans w lo X a cap V) :
    Calls Try.prog 31 #[.agg #[.slice a V.length cap], .int .i64 1] w fun e w' => e = .returned (.int .i64 ((1 + mkK V V.length : Nat) : Int)) ∧ Marked w' a V ∧ w'.heap[X]? = some (.cells #[.slice a V.length cap] 25 (0, 0)) ∧ ∃ Q, Marks Q w w' ∧ ∀ q, Q q → lo ≤ q := by
  have hX := k.lt
  obtain ⟨h1, h2, cs, h3⟩ := k
  by_cases h0 : V = []
  · subst h0
    refine (lMark0 a cap 1 w).mono ?_
    rintro e w' ⟨rfl, hb⟩
    exact ⟨rfl, .inl rfl, (hb.block X hX).trans h2, fun _ => False, Marks.of_below hb, fun _ h => h.elim⟩
  · obtain ⟨g, N, gs, Ns, rfl, H, hq⟩ := h3.gh h0
    refine (lMarkHeap g cap N 1 V cs gs Ns w hz (Nat.le_refl 1) (by omega) H).mono ?_
    rintro e w' ⟨rfl, k1, k2⟩
    exact ⟨rfl, .inr ⟨g, N, cs, gs, Ns, rfl, k1⟩, (k2.block X hX (fun e => H.noBox e h2)).trans h2, _, k2, fun q e => (hq q e).1⟩
theorem lEqAns (V : List OO) (w : World) (lo1 X1 : Nat) (a1 : Option Addr) (cap1 : Nat) (lo2 X2 : Nat) (a2 : Option Addr) (cap2 : Nat) (hz : OkH V) (k1 : Ans w lo1 X1 a1 cap1 V) (k2 : Ans w lo2 X2 a2 cap2 V) :
    Calls Try.prog 27 #[.agg #[.slice a1 V.length cap1], .agg #[.slice a2 V.length cap2]] w fun e w' => e = .returned (.bool true) ∧ Below w.heap.size w w' := by
  obtain ⟨_, _, cs1, h1⟩ := k1
  obtain ⟨_, _, cs2, h2⟩ := k2
  exact lEqHeap a1 a2 cap1 cap2 lo1 lo2 V cs1 cs2 w hz h1.hIn h2.hIn

/-! ### sizes of what is put -/
theorem okH_of_sz {h : List OO} (hz : szH h ≤ 1100000) : OkH h := by
  refine ⟨by unfold szH at hz; omega, fun o ho => ?_⟩
  obtain ⟨i, hi, rfl⟩ := List.getElem_of_mem ho
  have h1 : szPs h[i].ps ≤ (h.map fun o => szPs o.ps).sum := sum_mem (fun o : OO => szPs o.ps) h i hi
  have h3 : szPs h[i].ps ≤ 1100000 := by unfold szH at hz; omega
  clear h1
  unfold szPs at h3
  refine ⟨by omega, fun p hp => ?_⟩
  obtain ⟨j, hj, rfl⟩ := List.getElem_of_mem hp
  have h2 : szP h[i].ps[j] ≤ (h[i].ps.map szP).sum := sum_mem szP h[i].ps j hj
  have h4 : szP h[i].ps[j] ≤ 1100000 := by omega
  unfold szP at h4
  exact ⟨by omega, by omega⟩
theorem sum_set (l : List Nat) (i x : Nat) (hi : i < l.length) : (l.set i x).sum + l[i] = l.sum + x := by
  induction l generalizing i with
  | nil => simp at hi
  | cons y r ih =>
    cases i with
    | zero => simp; omega
    | succ i =>
      have := ih i (by simpa using hi)
      simp only [List.set_cons_succ, List.sum_cons, List.getElem_cons_succ]
      omega
theorem szPs_put (ps : List PP) (key : ByteArray) (v : Val.VV) : szPs (Hp.putPs ps key v) ≤ szPs ps + 1 + key.size + v.text.size := by
  unfold Hp.putPs szPs
  split
  · rename_i hi
    have h1 := sum_set (ps.map szP) (Hp.fi ps key) (szP { ps[Hp.fi ps key] with v := v }) (by simpa using hi)
    rw [← List.map_set] at h1
    have h2 : szP { ps[Hp.fi ps key] with v := v } = key.size + v.text.size := by
      unfold szP
      dsimp only
      rw [Hp.fi_lt hi]
    rw [List.length_set]
    omega
  · simp only [List.length_append, List.length_singleton, List.map_append, List.map_cons, List.map_nil, List.sum_append, List.sum_cons, List.sum_nil]
    unfold szP
    dsimp only
    omega

end Go.Proofs.Ytlmlmdmechhalaa

/-
  'open = append(open, kid)' within a round: the append and the two stores; the whole region. (Written by wip/tools/mkEvA2.py.)
-/
import Derived.Test.YtbkloddaooblfacEvA
namespace Go.Proofs.Ytbkloddaooblfac
open Go.RowKit Go.Shelf

attribute [local go_sem] Oper.semAt_some

/-- What lay stays, but for one box, and rows of Nodes from B on. -/
structure KO (O B : Nat) (w w' : World) : Prop where
  os : w'.os = w.os
  tape : w'.tape = w.tape
  output : w'.output = w.output
  size : w.heap.size ≤ w'.heap.size
  block : ∀ k o, w.heap[k]? = some o → k ≠ O → (k < B ∨ ∀ c, o ≠ .cells c 56 (0, 0)) → w'.heap[k]? = some o
theorem KO.refl (O B : Nat) (w : World) : KO O B w w := ⟨rfl, rfl, rfl, Nat.le_refl _, fun _ _ h _ _ => h⟩
theorem KO.trans {O B : Nat} {a b c : World} (h : KO O B a b) (k : KO O B b c) : KO O B a c := ⟨k.os.trans h.os, k.tape.trans h.tape, k.output.trans h.output, Nat.le_trans h.size k.size, fun i o hi h1 h2 => k.block i o (h.block i o hi h1 h2) h1 h2⟩
theorem KO.alloc {O B : Nat} {w w' : World} (h : KO O B w w') (ob : Obj) : KO O B w (w'.alloc ob) := ⟨h.os, h.tape, h.output, by have := h.size; simp; omega, fun k o hk h1 h2 => by
  have h3 := h.block k o hk h1 h2
  exact (Below.heap_alloc _ _ _ (Array.getElem?_eq_some_iff.1 h3).1).trans h3⟩
theorem KO.grown {O B : Nat} {w w1 w2 : World} {row : Option Nat} (h : KO O B w w1) (hg : w1.grownBy w2 row) (hr : ∀ g, row = some g → g = O ∨ (B ≤ g ∧ ∃ c, w1.heap[g]? = some (.cells c 56 (0, 0)))) : KO O B w w2 :=
  ⟨hg.os.trans h.os, hg.tape.trans h.tape, hg.output.trans h.output, Nat.le_trans h.size hg.size, fun k o hk h1 h2 => by
    have h3 := h.block k o hk h1 h2
    refine (hg.block k (Array.getElem?_eq_some_iff.1 h3).1 (fun e => ?_)).trans h3
    rcases hr k e.symm with e1 | ⟨e1, c, e2⟩
    · exact h1 e1
    · rcases h2 with h2 | h2
      · omega
      · rw [h3] at e2
        cases e2
        exact h2 _ rfl⟩

theorem grown_trans {a b c : World} {row : Option Nat} (h : a.grownBy b row) (k : b.grownBy c row) : a.grownBy c row :=
  ⟨k.os.trans h.os, k.tape.trans h.tape, k.output.trans h.output, Nat.le_trans h.size k.size, fun i hi hne => (k.block i (Nat.lt_of_lt_of_le hi h.size) hne).trans (h.block i hi hne)⟩

theorem setSix_own {w : World} {B e g vl cap : Nat} {xs : List Value} {z0 z1 z2 z3 z4 z5 : Value} (k : Int) (t : ByteArray) (n : Int) (na : Option Addr) (nl nc : Nat) (s : Bool) (ka : Option Addr) (kl kc : Nat) (hx : xs.length = vl * 6)
    (h : w.ownsRow B e 6 (.slice (some ⟨g, 0, none⟩) (vl + 1) cap) (vl + 1) (xs ++ [z0, z1, z2, z3, z4, z5])) :
    (setSix w g (vl * 6) k t n na nl nc s ka kl kc).ownsRow B e 6 (.slice (some ⟨g, 0, none⟩) (vl + 1) cap) (vl + 1) (xs ++ [.int .i64 k, .string t, .int .i64 n, .slice na nl nc, .bool s, .slice ka kl kc]) ∧ w.grownBy (setSix w g (vl * 6) k t n na nl nc s ka kl kc) (some g) := by
  obtain ⟨h0, g0⟩ := h.stored (vl * 6) (.int .i64 k)
  obtain ⟨h1, g1⟩ := h0.stored (vl * 6 + 1) (.string t)
  obtain ⟨h2, g2⟩ := h1.stored (vl * 6 + 2) (.int .i64 n)
  obtain ⟨h3, g3⟩ := h2.stored (vl * 6 + 3) (.slice na nl nc)
  obtain ⟨h4, g4⟩ := h3.stored (vl * 6 + 4) (.bool s)
  obtain ⟨h5, g5⟩ := h4.stored (vl * 6 + 5) (.slice ka kl kc)
  refine ⟨?_, grown_trans (grown_trans (grown_trans (grown_trans (grown_trans g0 g1) g2) g3) g4) g5⟩
  have e : (((((((xs ++ [z0, z1, z2, z3, z4, z5]).set (vl * 6) (.int .i64 k)).set (vl * 6 + 1) (.string t)).set (vl * 6 + 2) (.int .i64 n)).set (vl * 6 + 3) (.slice na nl nc)).set (vl * 6 + 4) (.bool s)).set (vl * 6 + 5) (.slice ka kl kc)) = xs ++ [.int .i64 k, .string t, .int .i64 n, .slice na nl nc, .bool s, .slice ka kl kc] := by
    rw [← hx]
    simp
  rw [e] at h5
  exact h5


/-- What the region leaves. -/
def AppFin (D : World) (O B vl : Nat) (xs : List Value) (W' : World) : Prop := ∃ v', Boxed W' O 54 v' ∧ W'.ownsRow B 56 6 v' (vl + 1) xs ∧ KO O B D W'

set_option maxRecDepth 100000 in
set_option maxHeartbeats 4000000 in
theorem appTail (l m O X : Nat) (va : Option Addr) (vl vc : Nat) (k : Int) (t : ByteArray) (n : Int) (na : Option Addr) (nl nc : Nat) (s : Bool) (ka : Option Addr) (kl kc : Nat) (B : Nat) (ys : List Value) (D : World) (Q : Exit → Act → World → Prop) (x0 x1 x2 x3 x4 x5 x6 x8 x9 x11 x12 x13 x14 x15 x16 x17 x18 x19 x20 x21 x22 x23 x24 x25 x26 x27 x28 x29 x30 x31 x32 x33 x34 x35 x36 x37 x38 x39 x40 x41 x42 _x43 _x44 _x45 _x46 x47 x48 : Value) (ds : List Deferred)
    (hBox : Boxed D O 54 (.slice va vl vc)) (hown : D.ownsRow B 56 6 (.slice va vl vc) vl ys) (hB : B ≤ D.heap.size) (hl : vl ≤ 3000000)
    (hQ : ∀ a' W', AppFin D O B vl (ys ++ [.int .i64 k, .string t, .int .i64 n, .slice na nl nc, .bool s, .slice ka kl kc]) W' → Q .normal a' W') :
    wpAnyIn (Fence.wide.inRound l) m Try.prog .any appOps Q 4 #[true, true, true, true, false, false, false, false] { tmps := #[x0, x1, x2, x3, x4, x5, x6, .pointer (some ⟨O, 0, none⟩), x8, x9, .pointer (some ⟨X, 0, none⟩), x11, x12, x13, x14, x15, x16, x17, x18, x19, x20, x21, x22, x23, x24, x25, x26, x27, x28, x29, x30, x31, x32, x33, x34, x35, x36, x37, x38, x39, x40, x41, x42, .slice va vl vc, .agg #[.int .i64 k, .string t, .int .i64 n, .slice na nl nc, .bool s, .slice ka kl kc], .int .i64 (vl : Int), .slice (some ⟨D.heap.size, 0, none⟩) 1 1, x47, x48], defers := ds } (D.alloc (.cells #[.int .i64 0, .string ⟨#[]⟩, .int .i64 0, .slice none 0 0, .bool false, .slice none 0 0] 56)) := by
  have hx : ys.length = vl * 6 := hown.1
  obtain ⟨v', w4, hrun, own4, grow4⟩ := ar4 (Act.eval { tmps := #[x0, x1, x2, x3, x4, x5, x6, .pointer (some ⟨O, 0, none⟩), x8, x9, .pointer (some ⟨X, 0, none⟩), x11, x12, x13, x14, x15, x16, x17, x18, x19, x20, x21, x22, x23, x24, x25, x26, x27, x28, x29, x30, x31, x32, x33, x34, x35, x36, x37, x38, x39, x40, x41, x42, .slice va vl vc, .agg #[.int .i64 k, .string t, .int .i64 n, .slice na nl nc, .bool s, .slice ka kl kc], .int .i64 (vl : Int), .slice (some ⟨D.heap.size, 0, none⟩) 1 1, x47, x48], defers := ds }) (D.alloc (.cells #[.int .i64 0, .string ⟨#[]⟩, .int .i64 0, .slice none 0 0, .bool false, .slice none 0 0] 56)) (va := va) (vl := vl) (vc := vc) (B := B) (xs := ys) (g := D.heap.size) rfl rfl (hown.alloc _) hl (by simp; omega) (by
    intro j u hu
    rw [show (⟨D.heap.size, 0, none⟩ : Addr).add j = ⟨D.heap.size, j, none⟩ by unfold Addr.add; split <;> simp_all, World.cell?_alloc_new]
    simpa using (show (([.int .i64 0, .string ⟨#[]⟩, .int .i64 0, .slice none 0 0, .bool false, .slice none 0 0] : List Value)[j]? = some u) from hu))
  obtain ⟨g', cap', rfl⟩ := ownsRow_succ own4
  have hvB : ∀ gg, Value.ownBlock (.slice va vl vc) = some gg → B ≤ gg ∧ ∃ c, (D.alloc (.cells #[.int .i64 0, .string ⟨#[]⟩, .int .i64 0, .slice none 0 0, .bool false, .slice none 0 0] 56)).heap[gg]? = some (.cells c 56 (0, 0)) := fun gg e => by
    rcases (hown.alloc (.cells #[.int .i64 0, .string ⟨#[]⟩, .int .i64 0, .slice none 0 0, .bool false, .slice none 0 0] 56)).2 with ⟨h', _⟩ | ⟨g1, cap1, cur, h', hb, hg, _⟩
    · rw [h'] at e; cases e
    · rw [h'] at e
      have : g1 = gg := by simpa [Value.ownBlock] using e
      subst this
      exact ⟨hb, cur, hg⟩
  have k4 : KO O B D w4 := ((KO.refl O B D).alloc (.cells #[.int .i64 0, .string ⟨#[]⟩, .int .i64 0, .slice none 0 0, .bool false, .slice none 0 0] 56)).grown grow4 (fun gg e => .inr (hvB gg e))
  have box4 : Boxed w4 O 54 (.slice va vl vc) := (hBox.alloc (.cells #[.int .i64 0, .string ⟨#[]⟩, .int .i64 0, .slice none 0 0, .bool false, .slice none 0 0] 56)).kept grow4 ((hBox.alloc (.cells #[.int .i64 0, .string ⟨#[]⟩, .int .i64 0, .slice none 0 0, .bool false, .slice none 0 0] 56)).not_row (by decide) (hown.alloc (.cells #[.int .i64 0, .string ⟨#[]⟩, .int .i64 0, .slice none 0 0, .bool false, .slice none 0 0] 56)))
  have hgB : B ≤ g' ∧ ∃ c, w4.heap[g']? = some (.cells c 56 (0, 0)) := by
    rcases own4.2 with ⟨h', _⟩ | ⟨g1, cap1, cur, h', hb, hg, _⟩
    · cases h'
    · have : g1 = g' := by cases h'; rfl
      subst this
      exact ⟨hb, cur, hg⟩
  have hOg : O ≠ g' := fun e => by
    obtain ⟨_, c, hc⟩ := hgB
    rw [← e, show w4.heap[O]? = _ from box4] at hc
    simp at hc
  have cells : ∀ j, j < 6 → w4.cell? ⟨g', vl * 6 + j, none⟩ = (zeroN.cells.toList)[j]? := fun j hj => by
    rw [own4.cellAt (vl * 6 + j) (by omega), List.getElem?_append_right (by omega), hx, Nat.add_sub_cancel_left]
  have frz : ∀ j, w4.frozen? ⟨g', j, none⟩ = false := own4.frozenAt
  -- the two ends
  have six4 := setSix_own k t n na nl nc s ka kl kc hx own4
  have endA : AppFin D O B vl (ys ++ [.int .i64 k, .string t, .int .i64 n, .slice na nl nc, .bool s, .slice ka kl kc]) ((setSix w4 g' (vl * 6) k t n na nl nc s ka kl kc).setCell ⟨O, 0, none⟩ (.slice (some ⟨g', 0, none⟩) (vl + 1) cap')) := by
    have b5 : Boxed (setSix w4 g' (vl * 6) k t n na nl nc s ka kl kc) O 54 (.slice va vl vc) := box4.kept six4.2 (fun e => hOg (by cases e; rfl))
    exact ⟨_, b5.set _, six4.1.kept (grownBy_setCell' _ O _) (.inr (b5.not_row (by decide) six4.1).symm), (k4.grown six4.2 (fun gg e => .inr (by cases e; exact hgB))).grown (grownBy_setCell' _ O _) (fun gg e => .inl (by cases e; rfl))⟩
  have own5 : (w4.setCell ⟨O, 0, none⟩ (.slice (some ⟨g', 0, none⟩) (vl + 1) cap')).ownsRow B 56 6 (.slice (some ⟨g', 0, none⟩) (vl + 1) cap') (vl + 1) (ys ++ zeroN.cells.toList) := own4.kept (grownBy_setCell' _ O _) (.inr (box4.not_row (by decide) own4).symm)
  have six5 := setSix_own k t n na nl nc s ka kl kc hx own5
  have hgB5 : ∃ c, (w4.setCell ⟨O, 0, none⟩ (.slice (some ⟨g', 0, none⟩) (vl + 1) cap')).heap[g']? = some (.cells c 56 (0, 0)) := by
    obtain ⟨_, c, hc⟩ := hgB
    exact ⟨c, (Below.heap_setCell _ _ _ _ (fun e => hOg e.symm)).trans hc⟩
  have endB : AppFin D O B vl (ys ++ [.int .i64 k, .string t, .int .i64 n, .slice na nl nc, .bool s, .slice ka kl kc]) (setSix (w4.setCell ⟨O, 0, none⟩ (.slice (some ⟨g', 0, none⟩) (vl + 1) cap')) g' (vl * 6) k t n na nl nc s ka kl kc) :=
    ⟨_, (box4.set _).kept six5.2 (fun e => hOg (by cases e; rfl)), six5.1, (k4.grown (grownBy_setCell' _ O _) (fun gg e => .inl (by cases e; rfl))).grown six5.2 (fun gg e => .inr (by cases e; exact ⟨hgB.1, hgB5⟩))⟩
  have cells5 : ∀ j, j < 6 → (w4.setCell ⟨O, 0, none⟩ (.slice (some ⟨g', 0, none⟩) (vl + 1) cap')).cell? ⟨g', vl * 6 + j, none⟩ = (zeroN.cells.toList)[j]? := fun j hj => by
    rw [own5.cellAt (vl * 6 + j) (by omega), List.getElem?_append_right (by omega), hx, Nat.add_sub_cancel_left]
  have frz5 : ∀ j, (w4.setCell ⟨O, 0, none⟩ (.slice (some ⟨g', 0, none⟩) (vl + 1) cap')).frozen? ⟨g', j, none⟩ = false := own5.frozenAt
  have b5 : Boxed (setSix w4 g' (vl * 6) k t n na nl nc s ka kl kc) O 54 (.slice va vl vc) := box4.kept six4.2 (fun e => hOg (by cases e; rfl))
  refine wpAnyIn_all (rs := [4]) (by kernel_rfl) (by simp) ?_
  intro i hi
  obtain rfl : i = 4 := by simpa using hi
  refine opV (o := ap4) rfl rfl (fun _ h => by cases h) hrun ?_
  have E1 : wpAnyIn (Fence.wide.inRound l) m Try.prog .any appOps Q 0 #[true, true, true, true, true, true, true, true] { tmps := #[x0, x1, x2, x3, x4, x5, x6, .pointer (some ⟨O, 0, none⟩), x8, x9, .pointer (some ⟨X, 0, none⟩), x11, x12, x13, x14, x15, x16, x17, x18, x19, x20, x21, x22, x23, x24, x25, x26, x27, x28, x29, x30, x31, x32, x33, x34, x35, x36, x37, x38, x39, x40, x41, x42, .slice va vl vc, .agg #[.int .i64 k, .string t, .int .i64 n, .slice na nl nc, .bool s, .slice ka kl kc], .int .i64 (vl : Int), .slice (some ⟨D.heap.size, 0, none⟩) 1 1, .slice (some ⟨g', 0, none⟩) (vl + 1) cap', .pointer (some ⟨g', vl * 6, none⟩)], defers := ds } ((setSix w4 g' (vl * 6) k t n na nl nc s ka kl kc).setCell ⟨O, 0, none⟩ (.slice (some ⟨g', 0, none⟩) (vl + 1) cap')) := by
    exact wpAnyIn_done (by kernel_rfl) (hQ _ _ endA) _
  have E2 : wpAnyIn (Fence.wide.inRound l) m Try.prog .any appOps Q 0 #[true, true, true, true, true, true, true, true] { tmps := #[x0, x1, x2, x3, x4, x5, x6, .pointer (some ⟨O, 0, none⟩), x8, x9, .pointer (some ⟨X, 0, none⟩), x11, x12, x13, x14, x15, x16, x17, x18, x19, x20, x21, x22, x23, x24, x25, x26, x27, x28, x29, x30, x31, x32, x33, x34, x35, x36, x37, x38, x39, x40, x41, x42, .slice va vl vc, .agg #[.int .i64 k, .string t, .int .i64 n, .slice na nl nc, .bool s, .slice ka kl kc], .int .i64 (vl : Int), .slice (some ⟨D.heap.size, 0, none⟩) 1 1, .slice (some ⟨g', 0, none⟩) (vl + 1) cap', .pointer (some ⟨g', vl * 6, none⟩)], defers := ds } (setSix (w4.setCell ⟨O, 0, none⟩ (.slice (some ⟨g', 0, none⟩) (vl + 1) cap')) g' (vl * 6) k t n na nl nc s ka kl kc) := by
    exact wpAnyIn_done (by kernel_rfl) (hQ _ _ endB) _
  have F1 : wpAnyIn (Fence.wide.inRound l) m Try.prog .any appOps Q 1 #[true, true, true, true, true, true, true, false] { tmps := #[x0, x1, x2, x3, x4, x5, x6, .pointer (some ⟨O, 0, none⟩), x8, x9, .pointer (some ⟨X, 0, none⟩), x11, x12, x13, x14, x15, x16, x17, x18, x19, x20, x21, x22, x23, x24, x25, x26, x27, x28, x29, x30, x31, x32, x33, x34, x35, x36, x37, x38, x39, x40, x41, x42, .slice va vl vc, .agg #[.int .i64 k, .string t, .int .i64 n, .slice na nl nc, .bool s, .slice ka kl kc], .int .i64 (vl : Int), .slice (some ⟨D.heap.size, 0, none⟩) 1 1, .slice (some ⟨g', 0, none⟩) (vl + 1) cap', .pointer (some ⟨g', vl * 6, none⟩)], defers := ds } (setSix w4 g' (vl * 6) k t n na nl nc s ka kl kc) := by
    refine wpAnyIn_all (rs := [7]) (by kernel_rfl) (by simp) ?_
    intro i hi
    obtain rfl : i = 7 := by simpa using hi
    exact opS (o := ap7) rfl rfl (fun _ h => by cases h) (ar7 _ _ rfl rfl b5.cell b5.frozen) E1
  have F2 : wpAnyIn (Fence.wide.inRound l) m Try.prog .any appOps Q 1 #[true, true, true, true, true, true, false, true] { tmps := #[x0, x1, x2, x3, x4, x5, x6, .pointer (some ⟨O, 0, none⟩), x8, x9, .pointer (some ⟨X, 0, none⟩), x11, x12, x13, x14, x15, x16, x17, x18, x19, x20, x21, x22, x23, x24, x25, x26, x27, x28, x29, x30, x31, x32, x33, x34, x35, x36, x37, x38, x39, x40, x41, x42, .slice va vl vc, .agg #[.int .i64 k, .string t, .int .i64 n, .slice na nl nc, .bool s, .slice ka kl kc], .int .i64 (vl : Int), .slice (some ⟨D.heap.size, 0, none⟩) 1 1, .slice (some ⟨g', 0, none⟩) (vl + 1) cap', .pointer (some ⟨g', vl * 6, none⟩)], defers := ds } (w4.setCell ⟨O, 0, none⟩ (.slice (some ⟨g', 0, none⟩) (vl + 1) cap')) := by
    refine wpAnyIn_all (rs := [6]) (by kernel_rfl) (by simp) ?_
    intro i hi
    obtain rfl : i = 6 := by simpa using hi
    exact opS (o := ap6) rfl rfl (fun _ h => by cases h) (ar6 _ _ rfl rfl (cells5 0 (by omega)) (cells5 1 (by omega)) (cells5 2 (by omega)) (cells5 3 (by omega)) (cells5 4 (by omega)) (cells5 5 (by omega)) frz5) E2
  have G1 : wpAnyIn (Fence.wide.inRound l) m Try.prog .any appOps Q 2 #[true, true, true, true, true, true, false, false] { tmps := #[x0, x1, x2, x3, x4, x5, x6, .pointer (some ⟨O, 0, none⟩), x8, x9, .pointer (some ⟨X, 0, none⟩), x11, x12, x13, x14, x15, x16, x17, x18, x19, x20, x21, x22, x23, x24, x25, x26, x27, x28, x29, x30, x31, x32, x33, x34, x35, x36, x37, x38, x39, x40, x41, x42, .slice va vl vc, .agg #[.int .i64 k, .string t, .int .i64 n, .slice na nl nc, .bool s, .slice ka kl kc], .int .i64 (vl : Int), .slice (some ⟨D.heap.size, 0, none⟩) 1 1, .slice (some ⟨g', 0, none⟩) (vl + 1) cap', .pointer (some ⟨g', vl * 6, none⟩)], defers := ds } w4 := by
    refine wpAnyIn_all (rs := [6, 7]) (by kernel_rfl) (by simp) ?_
    intro i hi
    have hi' : i = 6 ∨ i = 7 := by simpa using hi
    rcases hi' with rfl | rfl
    · exact opS (o := ap6) rfl rfl (fun _ h => by cases h) (ar6 _ _ rfl rfl (cells 0 (by omega)) (cells 1 (by omega)) (cells 2 (by omega)) (cells 3 (by omega)) (cells 4 (by omega)) (cells 5 (by omega)) frz) F1
    · exact opS (o := ap7) rfl rfl (fun _ h => by cases h) (ar7 _ _ rfl rfl box4.cell box4.frozen) F2
  have G2 : wpAnyIn (Fence.wide.inRound l) m Try.prog .any appOps Q 2 #[true, true, true, true, true, false, false, true] { tmps := #[x0, x1, x2, x3, x4, x5, x6, .pointer (some ⟨O, 0, none⟩), x8, x9, .pointer (some ⟨X, 0, none⟩), x11, x12, x13, x14, x15, x16, x17, x18, x19, x20, x21, x22, x23, x24, x25, x26, x27, x28, x29, x30, x31, x32, x33, x34, x35, x36, x37, x38, x39, x40, x41, x42, .slice va vl vc, .agg #[.int .i64 k, .string t, .int .i64 n, .slice na nl nc, .bool s, .slice ka kl kc], .int .i64 (vl : Int), .slice (some ⟨D.heap.size, 0, none⟩) 1 1, .slice (some ⟨g', 0, none⟩) (vl + 1) cap', x48], defers := ds } (w4.setCell ⟨O, 0, none⟩ (.slice (some ⟨g', 0, none⟩) (vl + 1) cap')) := by
    refine wpAnyIn_all (rs := [5]) (by kernel_rfl) (by simp) ?_
    intro i hi
    obtain rfl : i = 5 := by simpa using hi
    exact opV (o := ap5) rfl rfl (fun _ h => by cases h) (ar5 _ _ rfl rfl hl) F2
  have I1 : wpAnyIn (Fence.wide.inRound l) m Try.prog .any appOps Q 3 #[true, true, true, true, true, false, false, false] { tmps := #[x0, x1, x2, x3, x4, x5, x6, .pointer (some ⟨O, 0, none⟩), x8, x9, .pointer (some ⟨X, 0, none⟩), x11, x12, x13, x14, x15, x16, x17, x18, x19, x20, x21, x22, x23, x24, x25, x26, x27, x28, x29, x30, x31, x32, x33, x34, x35, x36, x37, x38, x39, x40, x41, x42, .slice va vl vc, .agg #[.int .i64 k, .string t, .int .i64 n, .slice na nl nc, .bool s, .slice ka kl kc], .int .i64 (vl : Int), .slice (some ⟨D.heap.size, 0, none⟩) 1 1, .slice (some ⟨g', 0, none⟩) (vl + 1) cap', x48], defers := ds } w4 := by
    refine wpAnyIn_all (rs := [5, 7]) (by kernel_rfl) (by simp) ?_
    intro i hi
    have hi' : i = 5 ∨ i = 7 := by simpa using hi
    rcases hi' with rfl | rfl
    · exact opV (o := ap5) rfl rfl (fun _ h => by cases h) (ar5 _ _ rfl rfl hl) G1
    · exact opS (o := ap7) rfl rfl (fun _ h => by cases h) (ar7 _ _ rfl rfl box4.cell box4.frozen) G2
  exact I1

set_option maxRecDepth 100000 in
theorem appRound (l m O X : Nat) (va : Option Addr) (vl vc : Nat) (k : Int) (t : ByteArray) (n : Int) (na : Option Addr) (nl nc : Nat) (s : Bool) (ka : Option Addr) (kl kc : Nat) (B : Nat) (ys : List Value) (W : World) (Q : Exit → Act → World → Prop) (x0 x1 x2 x3 x4 x5 x6 x8 x9 x11 x12 x13 x14 x15 x16 x17 x18 x19 x20 x21 x22 x23 x24 x25 x26 x27 x28 x29 x30 x31 x32 x33 x34 x35 x36 x37 x38 x39 x40 x41 x42 x43 x44 x45 x46 x47 x48 : Value) (ds : List Deferred)
    (hBox : Boxed W O 54 (.slice va vl vc)) (hown : W.ownsRow B 56 6 (.slice va vl vc) vl ys) (hB : B ≤ W.heap.size) (hl : vl ≤ 3000000)
    (hX : W.heap[X]? = some (.cells #[.int .i64 k, .string t, .int .i64 n, .slice na nl nc, .bool s, .slice ka kl kc] 56 (0, 0)))
    (hQ : ∀ a' W', AppFin W.drew O B vl (ys ++ [.int .i64 k, .string t, .int .i64 n, .slice na nl nc, .bool s, .slice ka kl kc]) W' → Q .normal a' W') :
    (Code.region 11 appOps true).wpIn (Fence.wide.inRound l) m Try.prog Q { tmps := #[x0, x1, x2, x3, x4, x5, x6, .pointer (some ⟨O, 0, none⟩), x8, x9, .pointer (some ⟨X, 0, none⟩), x11, x12, x13, x14, x15, x16, x17, x18, x19, x20, x21, x22, x23, x24, x25, x26, x27, x28, x29, x30, x31, x32, x33, x34, x35, x36, x37, x38, x39, x40, x41, x42, x43, x44, x45, x46, x47, x48], defers := ds } W := by
  refine wpIn_region_any Try.mixed ?_
  have hX' : W.drew.heap[X]? = some (.cells #[.int .i64 k, .string t, .int .i64 n, .slice na nl nc, .bool s, .slice ka kl kc] 56 (0, 0)) := hX
  have hBox' : Boxed W.drew O 54 (.slice va vl vc) := hBox
  obtain ⟨⟨p0, p1, p2, p3, p4, p5⟩, -⟩ := six_of hX'
  exact appHead l m O X va vl vc k t n na nl nc s ka kl kc W.drew Q x0 x1 x2 x3 x4 x5 x6 x8 x9 x11 x12 x13 x14 x15 x16 x17 x18 x19 x20 x21 x22 x23 x24 x25 x26 x27 x28 x29 x30 x31 x32 x33 x34 x35 x36 x37 x38 x39 x40 x41 x42 x43 x44 x45 x46 x47 x48 ds hBox'.cell p0 p1 p2 p3 p4 p5 (appTail l m O X va vl vc k t n na nl nc s ka kl kc B ys W.drew Q x0 x1 x2 x3 x4 x5 x6 x8 x9 x11 x12 x13 x14 x15 x16 x17 x18 x19 x20 x21 x22 x23 x24 x25 x26 x27 x28 x29 x30 x31 x32 x33 x34 x35 x36 x37 x38 x39 x40 x41 x42 x43 x44 x45 x46 x47 x48 ds hBox' hown.drew hB hl hQ)

end Go.Proofs.Ytbkloddaooblfac

/-
  The walk of impl's isNew: a row of kids that is met for the first time.
-/
import Derived.Test.YtbkloddaooblfacEvM
import Derived.Carry
import Derived.BigRegion
import Derived.Deep.CutRange
namespace Go.Proofs.Ytbkloddaooblfac
open Go.RowKit

/-- All that lay stays, but for one block. -/
structure BBut (M : Nat) (w w' : World) : Prop where
  os : w'.os = w.os
  tape : w'.tape = w.tape
  output : w'.output = w.output
  size : w.heap.size ≤ w'.heap.size
  block : ∀ k, k < w.heap.size → k ≠ M → w'.heap[k]? = w.heap[k]?
theorem BBut.of_below {M : Nat} {w w' : World} (h : Below w.heap.size w w') : BBut M w w' := ⟨h.os, h.tape, h.output, h.size, fun k hk _ => h.block k hk⟩
theorem BBut.trans {M : Nat} {a b c : World} (h : BBut M a b) (k : BBut M b c) : BBut M a c := ⟨k.os.trans h.os, k.tape.trans h.tape, k.output.trans h.output, Nat.le_trans h.size k.size, fun i hi hne => (k.block i (Nat.lt_of_lt_of_le hi h.size) hne).trans (h.block i hi hne)⟩
theorem BBut.below {M n : Nat} {w w' : World} (h : BBut M w w') (h1 : n ≤ M) (h2 : n ≤ w.heap.size) : Below n w w' := ⟨h.os, h.tape, h.output, h.size, fun k hk => h.block k (by omega) (by omega)⟩
theorem BBut.mapW {M : Nat} {w : World} (es : Array MapEntry) (clock : Nat) : BBut M w (mapW w M es clock) := ⟨rfl, rfl, rfl, by rw [mapW_size]; exact Nat.le_refl _, fun _ _ hne => mapW_other hne es clock⟩
theorem BBut.drew {M : Nat} {w w' : World} (h : BBut M w w') : BBut M w w'.drew := ⟨h.os, h.tape, h.output, h.size, h.block⟩

set_option maxHeartbeats 1000000 in
theorem iNew0 (mv : Value) (ka : Option Addr) (kc : Nat) (w : World) :
    Calls Try.prog 86 #[.agg #[mv], .slice ka 0 kc] w fun e w' => e = .returned (.bool false) ∧ Below w.heap.size w w' := by
  have hb0 : ∀ ob, Below w.heap.size w (w.alloc ob) := fun ob => (Below.refl _ _).alloc (Nat.le_refl _) ob
  have HB0 : Hid (∀ ob, Below w.heap.size w (w.alloc ob)) := hb0
  clear hb0
  go_enter Try.func86, Try.ntmps86
  go_wp2_with fail
  go_ret
  exact ⟨rfl, HB0.out _⟩

set_option maxHeartbeats 2000000 in
theorem iNew (M g o n kc : Nat) (es : Array MapEntry) (clock : Nat) (met : List Nat) (w : World) (hn : 0 < n) (hn2 : n ≤ 1048576) (hM : w.heap[M]? = some (.map es clock)) (hk : KeysIn es clock met) (hp : ∀ x ∈ met, Plain w x) (hg : Plain w g) (hng : g ∉ met) :
    Calls Try.prog 86 #[.agg #[.map (some M)], .slice (some ⟨g, o, none⟩) n kc] w fun e w' => e = .returned (.bool true) ∧ BBut M w w' ∧ w'.heap[M]? = some (.map (es.push ⟨klV g o n, .int .i64 1, clock⟩) (clock + 1)) := by
  have hpos : (0 : Int) < (n : Int) := by omega
  have hne : ((n : Int) == 0) = false := by simp; omega
  have HH : Hid (w.heap[M]? = some (.map es clock) ∧ KeysIn es clock met ∧ (∀ x ∈ met, Plain w x) ∧ Plain w g ∧ g ∉ met) := ⟨hM, hk, hp, hg, hng⟩
  clear hM hk hp hg hng
  go_enter Try.func86, Try.ntmps86
  go_wp2_with fail
  generalize hW2 : (w.alloc _).alloc _ = W2
  have hb2 : Below w.heap.size w W2 := by rw [← hW2]; exact ((Below.refl _ _).alloc (Nat.le_refl _) _).alloc (by simp) _
  have hX : W2.heap[w.heap.size]? = some (.cells #[.map (some M)] 119 (0, 0)) := by
    rw [← hW2, Below.heap_alloc _ _ _ (by simp)]; exact heap_alloc_new _ _
  have hZ : W2.heap[w.heap.size + 1]? = some (.cells #[.pointer (some ⟨g, o, none⟩), .int .i64 (n : Int)] 150 (0, 0)) := by
    rw [← hW2, ← World.size_alloc w]; exact heap_alloc_new _ _
  clear hW2
  obtain ⟨hM, hk, hp, hg, hng⟩ := HH.out
  have hM2 : W2.drew.heap[M]? = some (.map es clock) := (hb2.block M (Array.getElem?_eq_some_iff.1 hM).1).trans hM
  have hMl : M < W2.drew.heap.size := (Array.getElem?_eq_some_iff.1 hM2).1
  have hne1 : w.heap.size ≠ M := by have := (Array.getElem?_eq_some_iff.1 hM).1; omega
  have hne2 : w.heap.size + 1 ≠ M := by have := (Array.getElem?_eq_some_iff.1 hM).1; omega
  have hp2 : ∀ x ∈ met, Plain W2.drew x := fun x hx => (hp x hx).under hb2.drew
  have hg2 : Plain W2.drew g := hg.under hb2.drew
  have far : ∀ (es' : Array MapEntry) (c' : Nat) (V : World) (x : Nat), V.heap[M]? = some (.map es clock) → Plain V x → Plain (mapW V M es' c') x := fun es' c' V x hV h => by
    obtain ⟨c, t, e⟩ := h
    exact ⟨c, t, (mapW_other (fun h' => by subst h'; rw [hV] at e; cases e) _ _).trans e⟩
  have hlk := look_none hM2 hk hp2 (o := o) hg2 hng (n : Int)
  have hent := entry_new hM2 hk hp2 (o := o) hg2 hng (n : Int)
  have hM3 := mapW_at hMl (es.push ⟨klV g o n, .int .i64 0, clock⟩) (clock + 1)
  have hlk2 := look_last hM3 hk (fun x hx => far _ _ _ _ hM2 (hp2 x hx)) (far _ _ _ _ hM2 hg2) hng
  have hst := store_new hM3 hk (.int .i64 1)
  have hM4 := mapW_at (w := mapW W2.drew M (es.push ⟨klV g o n, .int .i64 0, clock⟩) (clock + 1)) (by rw [mapW_size]; exact hMl) (es.push ⟨klV g o n, .int .i64 1, clock⟩) (clock + 1)
  have HF : Hid (∀ W4 : World, W4 = mapW (mapW W2.drew M (es.push ⟨klV g o n, .int .i64 0, clock⟩) (clock + 1)) M (es.push ⟨klV g o n, .int .i64 1, clock⟩) (clock + 1) → BBut M w W4 ∧ W4.heap[M]? = some (.map (es.push ⟨klV g o n, .int .i64 1, clock⟩) (clock + 1)) ∧ (Instr.lookup 117 (.map (some M)) (klV g o n) false).run Try.prog W4 = .ok (.int .i64 1) W4 ∧ W4.heap[w.heap.size]? = some (.cells #[.map (some M)] 119 (0, 0)) ∧ W4.heap[w.heap.size + 1]? = some (.cells #[.pointer (some ⟨g, o, none⟩), .int .i64 (n : Int)] 150 (0, 0))) := by
    rintro W4 rfl
    refine ⟨(((BBut.of_below hb2).drew).trans (BBut.mapW _ _)).trans (BBut.mapW _ _), hM4, look_last hM4 hk (fun x hx => ?_) ?_ hng, ?_, ?_⟩
    · obtain ⟨c, t, e⟩ := hp2 x hx
      have hxM : x ≠ M := fun h' => by subst h'; rw [hM2] at e; cases e
      exact ⟨c, t, (mapW_other hxM _ _).trans ((mapW_other hxM _ _).trans e)⟩
    · obtain ⟨c, t, e⟩ := hg2
      have hxM : g ≠ M := fun h' => by subst h'; rw [hM2] at e; cases e
      exact ⟨c, t, (mapW_other hxM _ _).trans ((mapW_other hxM _ _).trans e)⟩
    · exact (mapW_other hne1 _ _).trans ((mapW_other hne1 _ _).trans hX)
    · exact (mapW_other hne2 _ _).trans ((mapW_other hne2 _ _).trans hZ)
  clear hM hk hp hg hng hM2 hMl hne1 hne2 hp2 hg2 far hM3 hM4 HH hb2
  unfold klV at hlk hent hlk2 hst HF
  have hx0 : W2.cell? ⟨w.heap.size, 0, none⟩ = some (.map (some M)) := by simp [World.cell?, hX]
  have hz0 : W2.cell? ⟨w.heap.size + 1, 0, none⟩ = some (.pointer (some ⟨g, o, none⟩)) ∧ W2.cell? ⟨w.heap.size + 1, 1, none⟩ = some (.int .i64 (n : Int)) := by simp [World.cell?, hZ]
  obtain ⟨z0, z1⟩ := hz0
  generalize hme : mapW W2.drew M (es.push ⟨.agg #[.pointer (some ⟨g, o, none⟩), .int .i64 (n : Int)], .int .i64 0, clock⟩) (clock + 1) = W3 at *
  generalize hmf : mapW W3 M (es.push ⟨.agg #[.pointer (some ⟨g, o, none⟩), .int .i64 (n : Int)], .int .i64 1, clock⟩) (clock + 1) = W4 at *
  obtain ⟨f1, f2, f3, f4, f5⟩ := HF.out W4 rfl
  have hx4 : W4.cell? ⟨w.heap.size, 0, none⟩ = some (.map (some M)) := by simp [World.cell?, f4]
  have hz4 : W4.cell? ⟨w.heap.size + 1, 0, none⟩ = some (.pointer (some ⟨g, o, none⟩)) ∧ W4.cell? ⟨w.heap.size + 1, 1, none⟩ = some (.int .i64 (n : Int)) := by simp [World.cell?, f5]
  obtain ⟨y0, y1⟩ := hz4
  have HF2 : Hid (BBut M w W4 ∧ W4.heap[M]? = some (.map (es.push ⟨.agg #[.pointer (some ⟨g, o, none⟩), .int .i64 (n : Int)], .int .i64 1, clock⟩) (clock + 1))) := ⟨f1, f2⟩
  clear f1 f2 f4 f5 hme hmf HF hX hZ
  go_region
  all_goals
    go_wp2_with fail
    go_ret
    exact ⟨rfl, HF2.out.1, HF2.out.2⟩

end Go.Proofs.Ytbkloddaooblfac

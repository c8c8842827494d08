/-
  What the two walks of Tokens have in common.
-/
import Derived.Test.YtpabbadngpjgoaaDoorImplG
namespace Go.Proofs.YtpabbadngpjgoaaDoor
open Go.RowKit

def outR0 : Obj := .cells #[.slice none 0 0, .int .i64 0, .int .i64 0] 27

theorem marks_heap {w : World} (h : MarksIn w) : 0 < w.heap.size := by
  have := World.block_lt_of_cell? w ⟨0, 0, none⟩ (h 0 (by decide))
  exact this

theorem outR_facts {w w1 : World} (h : Below (w.heap.size + 1) (w.alloc outR0) w1) :
    w1.cell? ⟨w.heap.size, 0, none⟩ = some (.slice none 0 0) ∧ w1.cell? ⟨w.heap.size, 1, none⟩ = some (.int .i64 0) ∧ w1.cell? ⟨w.heap.size, 2, none⟩ = some (.int .i64 0) ∧
    w1.frozen? ⟨w.heap.size, 0, none⟩ = false ∧ w1.frozen? ⟨w.heap.size, 1, none⟩ = false ∧ w1.frozen? ⟨w.heap.size, 2, none⟩ = false := by
  obtain ⟨hc, hf⟩ := old_cells h
  have hb : w.heap.size < w.heap.size + 1 := by omega
  rw [hc _ _ hb, hc _ _ hb, hc _ _ hb, hf _ _ hb, hf _ _ hb, hf _ _ hb]
  unfold outR0
  simp [go_sem]

theorem new_cells2 (w : World) (X : Obj) (c : Array Value) (t : TypeId) (j : Nat) (u : Value) (h : c.toList[j]? = some u) : ((w.alloc X).alloc (.cells c t)).cell? ((⟨w.heap.size + 1, 0, none⟩ : Addr).add j) = some u := by
  have := new_cells (w.alloc X) c t j u h
  rw [World.size_alloc] at this
  exact this

theorem three_set {B : Nat} {W w1 : World} (h : Below B W w1) {b : Nat} (hb : B ≤ b) (v0 v1 v2 : Value) :
    Below B W (((w1.setCell ⟨b, 0, none⟩ v0).setCell ⟨b, 1, none⟩ v1).setCell ⟨b, 2, none⟩ v2) :=
  ((h.setCell hb v0).setCell hb v1).setCell hb v2

theorem OwnT.set {w : World} {B b : Nat} {v : Value} {l : List Lex.TokF} (h : OwnT w B v l) (hb : b < B) (o : Nat) (u : Value) : OwnT (w.setCell ⟨b, o, none⟩ u) B v l := by
  refine ⟨h.1, ?_⟩
  rcases h.2 with hn | ⟨g, cap, cur, rfl, hB, hg, rest⟩
  · exact .inl hn
  · exact .inr ⟨g, cap, cur, rfl, hB, (Below.heap_setCell w ⟨b, o, none⟩ u g (by show g ≠ b; omega)).trans hg, rest⟩
theorem OwnT.base {w : World} {B B' : Nat} {v : Value} {l : List Lex.TokF} (h : OwnT w B v l) (hb : B' ≤ B) : OwnT w B' v l := by
  refine ⟨h.1, ?_⟩
  rcases h.2 with hn | ⟨g, cap, cur, rfl, hB, rest⟩
  · exact .inl hn
  · exact .inr ⟨g, cap, cur, rfl, by omega, rest⟩

end Go.Proofs.YtpabbadngpjgoaaDoor

/-
  What the draw of a value lays: tables, noughts.
-/
import Derived.Test.YtlmlmdmechhalaaVDraw
import Derived.Test.YtlmlmdmechhalaaValBo
import Derived.Test.YtlmlmdmechhalaaValT
import Derived.Test.YtlmlmdmechhalaaValN
import Derived.Test.YtlmlmdmechhalaaValPt
import Derived.Deep.RegionWith
import Derived.BigRegion
namespace Go.Proofs.Ytlmlmdmechhalaa
open Go.RowKit

theorem Src.set3 {w : World} {S : Nat} (h : Src w S) (b : Nat) (x : Val.VV) (hb : S < b) : Src (put3 w b x) S := by
  obtain ⟨a, len, cap, at', mix, sz, cs, h1, h2, h3, h4, h5, h6⟩ := h
  refine ⟨a, len, cap, at', mix, sz, cs, (put3_other w b x S (by omega)).trans h1, h2, h3, h4, ?_, h6⟩
  rcases h5 with h | ⟨b', o, e, hc⟩
  · exact .inl h
  · refine .inr ⟨b', o, e, fun i hi => ?_⟩
    have hlt : b' < S := h6 ⟨b', o, none⟩ e (by omega)
    rw [World.cell?_of_block (w := w) (put3_other w b x b' (by omega))]
    exact hc i hi
theorem Keep.set3 {L : Nat} {a w : World} (h : Keep L a w) {b : Nat} (hb : a.heap.size ≤ b) (x : Val.VV) : Keep L a (put3 w b x) :=
  ((h.setNew hb 0 _).setNew hb 1 _).setNew hb 2 _
theorem Lies.keepK {S : Nat} {W W' : World} {b : Nat} {v : Val.VV} (h : Lies W b v) (hk : Keep S W W') (hne : b ≠ S) : Lies W' b v := (hk.block b h.lt hne).trans h
/-- The source is there behind what keeps all but it. -/
theorem Keep.ofBelow {S : Nat} {a w w' : World} (h : Keep S a w) (hb : Below w.heap.size w w') : Keep S a w' := h.below hb h.size

theorem sNumE (m : Int) (W : World) : Calls Try.prog 70 #[.int .i64 m] W fun e w' => ∃ v : Val.VV, v.text.size ≤ 2000 ∧ e = .returned (.agg (vC v)) ∧ Below W.heap.size W w' := by
  refine (sNum m W).mono fun e w' h => ⟨_, ?_, h.1, h.2⟩
  unfold Val.numV
  split <;> (show (⟨#[]⟩ : ByteArray).size ≤ 2000; decide)
theorem five_of {W : World} {b : Nat} {t : TypeId} {v0 v1 v2 v3 v4 : Value} (h : W.heap[b]? = some (.cells #[v0, v1, v2, v3, v4] t (0, 0))) :
    W.cell? ⟨b, 0, none⟩ = some v0 ∧ W.cell? ⟨b, 1, none⟩ = some v1 ∧ W.cell? ⟨b, 2, none⟩ = some v2 ∧ W.cell? ⟨b, 3, none⟩ = some v3 ∧ W.cell? ⟨b, 4, none⟩ = some v4 := by
  simp [World.cell?, h]

theorem Try.infoB : (Try.prog.info? 5).map (fun i => (i.zero, i.size, i.bytes)) = some (some (.int .u8 0), 1, 1) := by kernel_rfl
theorem make_law (q : Nat) (hq : q < 2) : ∀ W : World, (Instr.makeSlice 22 (.int .i64 (1000 + (q : Int))) (.int .i64 (1000 + (q : Int)))).run Try.prog W = .ok (.slice (some ⟨W.heap.size, 0, none⟩) (1000 + q) (1000 + q)) (W.alloc (.cells (madeCells #[.int .u8 0] (1000 + q)) 5)) := by
  have e : (1000 + (q : Int)) = ((1000 + q : Nat) : Int) := by omega
  rw [e]
  exact run_make_row' (P := Try.prog) 22 5 (.int .u8 0) 1 Try.underlying22 Try.infoB rfl .i64 .i64 (1000 + q) (by omega) (by omega)
theorem wrap_q (q : Nat) (hq : q < 2) : IntKind.i64.wrap (1000 + (q : Int)) = 1000 + (q : Int) := by
  have : (1000 + (q : Int)) = 1000 ∨ (1000 + (q : Int)) = 1001 := by omega
  rcases this with h | h <;> (rw [h]; decide)
theorem conv_zero (W : World) (g N : Nat) (h : W.heap[g]? = some (.cells (madeCells #[.int .u8 0] N) 5 (0, 0))) :
    (convert 22 9 (.slice (some ⟨g, 0, none⟩) N N)).run Try.prog W = .ok (.string ⟨(List.replicate N (0 : UInt8)).toArray⟩) W := by
  have hl : (List.replicate N (0 : UInt8)).length = N := List.length_replicate
  have := run_convert_bytes_back (P := Try.prog) W 22 9 5 ⟨g, 0, none⟩ N (List.replicate N 0) Try.underlying22 Try.underlying5 Try.underlying9 (fun j hj => by
    rw [hl] at hj
    have e : ((⟨g, 0, none⟩ : Addr).add j) = ⟨g, j, none⟩ := by unfold Addr.add; split <;> simp_all
    rw [e]
    have e2 : (madeCells #[Value.int .u8 0] N)[j]? = some (.int .u8 0) := by
      rw [← Array.getElem?_toList, toList_madeCells_one, List.getElem?_replicate, if_pos hj]
    simp [World.cell?, h, e2])
  rw [hl] at this
  exact this
def zerosT (q : Nat) : ByteArray := ⟨(List.replicate (1000 + q) (0 : UInt8)).toArray⟩
theorem conv_new (q : Nat) (W : World) : (convert 22 9 (.slice (some ⟨W.heap.size, 0, none⟩) (1000 + q) (1000 + q))).run Try.prog (W.alloc (.cells (madeCells #[.int .u8 0] (1000 + q)) 5)) = .ok (.string (zerosT q)) (W.alloc (.cells (madeCells #[.int .u8 0] (1000 + q)) 5)) :=
  conv_zero _ _ _ (heap_alloc_new _ _)
theorem conv_keep {S q : Nat} {WA WB : World} (hS : S < WA.heap.size) (hk : Keep S (WA.alloc (.cells (madeCells #[.int .u8 0] (1000 + q)) 5)) WB) : (convert 22 9 (.slice (some ⟨WA.heap.size, 0, none⟩) (1000 + q) (1000 + q))).run Try.prog WB = .ok (.string (zerosT q)) WB :=
  conv_zero _ _ _ ((hk.block _ (by rw [World.size_alloc]; omega) (by omega)).trans (heap_alloc_new _ _))
def tK (p : Nat) : Int := ([7, -1, 2, 3, 5, 6, 5] : List Int).getD p 0
def tN (p : Nat) : Int := ([0, 0, 2, 9007199254740993, 1, 400, 0] : List Int).getD p 0
def tX (q p : Nat) : ByteArray := ([⟨#[]⟩, ⟨#[]⟩, ⟨#[]⟩, ⟨#[]⟩, ⟨#[]⟩, ⟨#[]⟩, zerosT q] : List ByteArray).getD p ⟨#[]⟩
theorem tX_size (q p : Nat) (hq : q < 2) : (tX q p).size ≤ 2000 := by
  have hz : (zerosT q).size ≤ 2000 := by
    show (List.replicate (1000 + q) (0 : UInt8)).toArray.size ≤ 2000
    rw [List.size_toArray, List.length_replicate]; omega
  unfold tX
  have h0 : (⟨#[]⟩ : ByteArray).size ≤ 2000 := by decide
  match p with
  | 0 | 1 | 2 | 3 | 4 | 5 => exact h0
  | 6 => exact hz
  | n + 7 => exact h0
theorem tab_at {W : World} {g q p : Nat} (h : W.heap[g]? = some (.cells #[.int .i64 7, .int .i64 0, .string ⟨#[]⟩, .int .i64 (-1), .int .i64 0, .string ⟨#[]⟩, .int .i64 2, .int .i64 2, .string ⟨#[]⟩, .int .i64 3, .int .i64 9007199254740993, .string ⟨#[]⟩, .int .i64 5, .int .i64 1, .string ⟨#[]⟩, .int .i64 6, .int .i64 400, .string ⟨#[]⟩, .int .i64 5, .int .i64 0, .string (zerosT q)] 27 (0, 0))) (hp : p < 7) :
    W.cell? ⟨g, p * 3, none⟩ = some (.int .i64 (tK p)) ∧ W.cell? ⟨g, p * 3 + 1, none⟩ = some (.int .i64 (tN p)) ∧ W.cell? ⟨g, p * 3 + 2, none⟩ = some (.string (tX q p)) := by
  have : p = 0 ∨ p = 1 ∨ p = 2 ∨ p = 3 ∨ p = 4 ∨ p = 5 ∨ p = 6 := by omega
  rcases this with rfl | rfl | rfl | rfl | rfl | rfl | rfl <;> simp [World.cell?, h, tK, tN, tX]
theorem tab_new {q p : Nat} (hp : p < 7) (W : World) :
    (W.alloc (.cells #[.int .i64 7, .int .i64 0, .string ⟨#[]⟩, .int .i64 (-1), .int .i64 0, .string ⟨#[]⟩, .int .i64 2, .int .i64 2, .string ⟨#[]⟩, .int .i64 3, .int .i64 9007199254740993, .string ⟨#[]⟩, .int .i64 5, .int .i64 1, .string ⟨#[]⟩, .int .i64 6, .int .i64 400, .string ⟨#[]⟩, .int .i64 5, .int .i64 0, .string (zerosT q)] 27)).cell? ⟨W.heap.size, p * 3, none⟩ = some (.int .i64 (tK p)) ∧ (W.alloc (.cells #[.int .i64 7, .int .i64 0, .string ⟨#[]⟩, .int .i64 (-1), .int .i64 0, .string ⟨#[]⟩, .int .i64 2, .int .i64 2, .string ⟨#[]⟩, .int .i64 3, .int .i64 9007199254740993, .string ⟨#[]⟩, .int .i64 5, .int .i64 1, .string ⟨#[]⟩, .int .i64 6, .int .i64 400, .string ⟨#[]⟩, .int .i64 5, .int .i64 0, .string (zerosT q)] 27)).cell? ⟨W.heap.size, p * 3 + 1, none⟩ = some (.int .i64 (tN p)) ∧ (W.alloc (.cells #[.int .i64 7, .int .i64 0, .string ⟨#[]⟩, .int .i64 (-1), .int .i64 0, .string ⟨#[]⟩, .int .i64 2, .int .i64 2, .string ⟨#[]⟩, .int .i64 3, .int .i64 9007199254740993, .string ⟨#[]⟩, .int .i64 5, .int .i64 1, .string ⟨#[]⟩, .int .i64 6, .int .i64 400, .string ⟨#[]⟩, .int .i64 5, .int .i64 0, .string (zerosT q)] 27)).cell? ⟨W.heap.size, p * 3 + 2, none⟩ = some (.string (tX q p)) :=
  tab_at (heap_alloc_new _ _) hp
theorem tab_new2 {q p : Nat} (hp : p < 7) (W : World) (o : Obj) :
    ((W.alloc o).alloc (.cells #[.int .i64 7, .int .i64 0, .string ⟨#[]⟩, .int .i64 (-1), .int .i64 0, .string ⟨#[]⟩, .int .i64 2, .int .i64 2, .string ⟨#[]⟩, .int .i64 3, .int .i64 9007199254740993, .string ⟨#[]⟩, .int .i64 5, .int .i64 1, .string ⟨#[]⟩, .int .i64 6, .int .i64 400, .string ⟨#[]⟩, .int .i64 5, .int .i64 0, .string (zerosT q)] 27)).cell? ⟨W.heap.size + 1, p * 3, none⟩ = some (.int .i64 (tK p)) ∧ ((W.alloc o).alloc (.cells #[.int .i64 7, .int .i64 0, .string ⟨#[]⟩, .int .i64 (-1), .int .i64 0, .string ⟨#[]⟩, .int .i64 2, .int .i64 2, .string ⟨#[]⟩, .int .i64 3, .int .i64 9007199254740993, .string ⟨#[]⟩, .int .i64 5, .int .i64 1, .string ⟨#[]⟩, .int .i64 6, .int .i64 400, .string ⟨#[]⟩, .int .i64 5, .int .i64 0, .string (zerosT q)] 27)).cell? ⟨W.heap.size + 1, p * 3 + 1, none⟩ = some (.int .i64 (tN p)) ∧ ((W.alloc o).alloc (.cells #[.int .i64 7, .int .i64 0, .string ⟨#[]⟩, .int .i64 (-1), .int .i64 0, .string ⟨#[]⟩, .int .i64 2, .int .i64 2, .string ⟨#[]⟩, .int .i64 3, .int .i64 9007199254740993, .string ⟨#[]⟩, .int .i64 5, .int .i64 1, .string ⟨#[]⟩, .int .i64 6, .int .i64 400, .string ⟨#[]⟩, .int .i64 5, .int .i64 0, .string (zerosT q)] 27)).cell? ⟨W.heap.size + 1, p * 3 + 2, none⟩ = some (.string (tX q p)) := by
  have := tab_new (q := q) hp (W.alloc o)
  rw [World.size_alloc] at this
  exact this
theorem tab_keep {S q p : Nat} {W WB : World} {o : Obj} (hp : p < 7) (hS : S < W.heap.size) (hk : Keep S ((W.alloc o).alloc (.cells #[.int .i64 7, .int .i64 0, .string ⟨#[]⟩, .int .i64 (-1), .int .i64 0, .string ⟨#[]⟩, .int .i64 2, .int .i64 2, .string ⟨#[]⟩, .int .i64 3, .int .i64 9007199254740993, .string ⟨#[]⟩, .int .i64 5, .int .i64 1, .string ⟨#[]⟩, .int .i64 6, .int .i64 400, .string ⟨#[]⟩, .int .i64 5, .int .i64 0, .string (zerosT q)] 27)) WB) :
    WB.cell? ⟨W.heap.size + 1, p * 3, none⟩ = some (.int .i64 (tK p)) ∧ WB.cell? ⟨W.heap.size + 1, p * 3 + 1, none⟩ = some (.int .i64 (tN p)) ∧ WB.cell? ⟨W.heap.size + 1, p * 3 + 2, none⟩ = some (.string (tX q p)) := by
  have h0 := heap_alloc_new (W.alloc o) (.cells #[.int .i64 7, .int .i64 0, .string ⟨#[]⟩, .int .i64 (-1), .int .i64 0, .string ⟨#[]⟩, .int .i64 2, .int .i64 2, .string ⟨#[]⟩, .int .i64 3, .int .i64 9007199254740993, .string ⟨#[]⟩, .int .i64 5, .int .i64 1, .string ⟨#[]⟩, .int .i64 6, .int .i64 400, .string ⟨#[]⟩, .int .i64 5, .int .i64 0, .string (zerosT q)] 27)
  rw [World.size_alloc] at h0
  exact tab_at ((hk.block _ (by rw [World.size_alloc, World.size_alloc]; omega) (by omega)).trans h0) hp
theorem src_grow1 {W : World} {S : Nat} {o : Obj} (h : Src W S) : Src (W.alloc o) S := h.below ((Below.refl _ _).alloc (Nat.le_refl _) o)
theorem src_grow2 {W : World} {S : Nat} {o o2 : Obj} (h : Src W S) : Src ((W.alloc o).alloc o2) S := src_grow1 (src_grow1 h)

end Go.Proofs.Ytlmlmdmechhalaa

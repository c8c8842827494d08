/-
  The walks of the law's own functions on values: szValue, toValue; an argument that is a value.
-/
import Derived.Test.YtlmlmdmechhalaaValB
import Derived.ProofKit
import Derived.ChangeArms
namespace Go.Proofs.Ytlmlmdmechhalaa
open Go.RowKit Go.ChangeShapes Go.WideShapes

set_option maxHeartbeats 1000000 in
theorem lSzValue (v : Val.VV) (l : Nat) (w : World) (hl : l ≤ 1048576) (ht : v.text.size ≤ 9223372036854775807) :
    Calls Try.prog 29 #[.agg (vC v), .int .i64 l] w fun e w' => e = .returned (.int .i64 (if v.text.size ≤ l then ((l - v.text.size : Nat) : Int) else -1)) ∧ Below w.heap.size w w' := by
  obtain ⟨k, n, t⟩ := v
  unfold vC
  dsimp only at ht ⊢
  have hb : ∀ o, Below w.heap.size w (w.alloc o) := fun o => (Below.refl _ _).alloc (Nat.le_refl _) o
  have HB : Hid (∀ o, Below w.heap.size w (w.alloc o)) := hb
  clear hb
  by_cases h : t.size ≤ l
  · rw [if_pos h]
    have h1 : ¬ ((l : Int) - (t.size : Int)) < 0 := by omega
    have e1 : ((l : Int) - (t.size : Int)) = ((l - t.size : Nat) : Int) := by omega
    go_enter Try.func29, Try.ntmps29
    go_wp2_with fail
    go_ret
    exact ⟨rfl, HB.out _⟩
  · rw [if_neg h]
    have h1 : ((l : Int) - (t.size : Int)) < 0 := by omega
    go_enter Try.func29, Try.ntmps29
    go_wp2_with fail
    go_ret
    exact ⟨rfl, HB.out _⟩

set_option maxHeartbeats 1000000 in
theorem lToValue (v : Val.VV) (w : World) : Calls Try.prog 30 #[.agg (vC v)] w fun e w' => e = .returned (.agg (vC v)) ∧ Below w.heap.size w w' := by
  obtain ⟨k, n, t⟩ := v
  unfold vC
  dsimp only
  have hb : ∀ o1 o2 o3, Below w.heap.size w (((w.alloc o1).alloc o2).alloc o3) := fun o1 o2 o3 => (((Below.refl _ _).alloc (Nat.le_refl _) o1).alloc (by simp) o2).alloc (by simp; omega) o3
  have HB : Hid (∀ o1 o2 o3, Below w.heap.size w (((w.alloc o1).alloc o2).alloc o3)) := hb
  clear hb
  go_enter Try.func30, Try.ntmps30
  go_wp2_with fail
  refine bodyPost_ret (v := .agg #[.int .i64 k, .int .i64 n, .string t]) (by simp [results, Try.results30, go_sem]) rfl ⟨rfl, ?_⟩
  exact HB.out _ _ _

/-- Three cells of a block that holds a value of the law's own type. -/
def Lies2 (W : World) (b : Nat) (v : Val.VV) : Prop := W.heap[b]? = some (.cells (vC v) 50 (0, 0))
theorem Lies2.lt {W : World} {b : Nat} {v : Val.VV} (h : Lies2 W b v) : b < W.heap.size := (Array.getElem?_eq_some_iff.1 h).1
theorem Lies2.three {W : World} {b : Nat} {v : Val.VV} (h : Lies2 W b v) :
    (W.cell? ⟨b, 0, none⟩ = some (.int .i64 v.kind) ∧ W.cell? ⟨b, 1, none⟩ = some (.int .i64 v.num) ∧ W.cell? ⟨b, 2, none⟩ = some (.string v.text)) ∧ (W.frozen? ⟨b, 0, none⟩ = false ∧ W.frozen? ⟨b, 1, none⟩ = false ∧ W.frozen? ⟨b, 2, none⟩ = false) := v3_of h
theorem Lies2.keep {W W' : World} {b : Nat} {v : Val.VV} (h : Lies2 W b v) (hb : Below W.heap.size W W') : Lies2 W' b v := (hb.block _ h.lt).trans h
theorem Lies2.grow {W : World} {b : Nat} {v : Val.VV} (h : Lies2 W b v) (o : Obj) : Lies2 (W.alloc o) b v := h.keep ((Below.refl _ _).alloc (Nat.le_refl _) o)
theorem lies2_new (W : World) (v : Val.VV) : Lies2 (W.alloc (.cells (vC v) 50)) W.heap.size v := heap_alloc_new W _

theorem lies2_two (w : World) (a b : Val.VV) : Lies2 ((w.alloc (.cells (vC a) 50)).alloc (.cells (vC b) 50)) w.heap.size a ∧ Lies2 ((w.alloc (.cells (vC a) 50)).alloc (.cells (vC b) 50)) (w.heap.size + 1) b := by
  refine ⟨(lies2_new w a).grow _, ?_⟩
  have := lies2_new (w.alloc (.cells (vC a) 50)) b
  rw [World.size_alloc] at this
  exact this

theorem Try.valFields : (Try.prog.fieldsOf 50).toList.map (fun f => (f.type, f.offset)) = [(2, 0), (2, 1), (9, 2)] := by kernel_rfl
theorem Try.valUnd : Try.prog.underlying 50 = some (.struct (Try.prog.fieldsOf 50)) := by kernel_rfl
theorem Try.valCells : Try.prog.cellsOf 50 = 3 := by kernel_rfl
theorem Try.valOne : Try.prog.cellsOf 2 = 1 ∧ Try.prog.cellsOf 9 = 1 := ⟨by kernel_rfl, by kernel_rfl⟩

set_option maxRecDepth 100000 in
/-- The three cells of a value, in whatever place they were read. -/
theorem open_val {H : Type} {enc : TypeId × Value → H} {w : World} {base : Nat} {spare : Nat → Bool} {held : Bool} {fuel : Nat} {cs : List Value} {x : DataW H × List MemPlace} (h : DataW.trod enc Try.prog w base spare held fuel 50 cs = some x) :
    ∃ v : Val.VV, cs = (vC v).toList ∧ v.text.size ≤ 9223372036854775807 := by
  obtain ⟨xs, n, rfl, _, hl, hxl, hf⟩ := DataW.trod_struct Try.valUnd h
  rw [Try.valCells] at hl
  obtain ⟨v0, v1, v2, rfl⟩ : ∃ v0 v1 v2, cs = [v0, v1, v2] := by
    match cs, hl with
    | [a, b, c], _ => exact ⟨a, b, c, rfl⟩
  have hF := Try.valFields
  have hlen : (Try.prog.fieldsOf 50).size = 3 := by
    have := congrArg List.length hF
    simpa using this
  rw [hlen] at hxl
  obtain ⟨o1, o2⟩ := Try.valOne
  have key : ∀ i t, ((Try.prog.fieldsOf 50).toList.map (fun f => (f.type, f.offset)))[i]? = some (t, i) → Try.prog.cellsOf t = 1 → i < 3 → ∃ y, DataW.trod enc Try.prog w base spare held n t (([v0, v1, v2].drop i).take 1) = some y := by
    intro i t hi hc hi6
    rw [List.getElem?_map] at hi
    obtain ⟨f, hfi, hft⟩ := Option.map_eq_some_iff.1 hi
    simp only [Prod.mk.injEq] at hft
    have := hf i f (by simpa using hfi)
    rw [hft.1, hft.2, hc] at this
    rw [this]
    exact ⟨xs[i]'(by omega), List.getElem?_eq_getElem (by omega)⟩
  rw [hF] at key
  obtain ⟨y0, k0⟩ := key 0 2 rfl o1 (by omega)
  obtain ⟨y1, k1⟩ := key 1 2 rfl o1 (by omega)
  obtain ⟨y2, k2⟩ := key 2 9 rfl o2 (by omega)
  obtain ⟨a0, e0, _, _⟩ := DataW.trod_int Try.underlying2 k0
  obtain ⟨a1, e1, _, _⟩ := DataW.trod_int Try.underlying2 k1
  obtain ⟨a2, e2, _, w2⟩ := DataW.trod_string Try.underlying9 k2
  have e0' : v0 = .int .i64 a0 := by simpa using e0
  have e1' : v1 = .int .i64 a1 := by simpa using e1
  have e2' : v2 = .string a2 := by simpa using e2
  subst e0' e1' e2'
  unfold maxLen at w2
  exact ⟨⟨a0, a1, a2⟩, rfl, by show a2.size ≤ _; omega⟩
set_option maxRecDepth 100000 in
theorem open_value {H : Type} {enc : TypeId × Value → H} {W : World} {base : Nat} {v : Value} {d : DataW H} {p : List MemPlace} (hv : Value.okWide Try.prog W .any base 50 v) (h : DataW.Trod enc Try.prog W 0 (fun _ => true) true 50 v d p) :
    ∃ x : Val.VV, v = .agg (vC x) ∧ x.text.size ≤ 9223372036854775807 := by
  obtain ⟨cs, rfl, _⟩ := okWide_struct Try.valUnd hv
  obtain ⟨fuel, hf⟩ := h
  obtain ⟨x, e, hx⟩ := open_val hf
  have e' : cs.toList = (vC x).toList := e
  exact ⟨x, congrArg Value.agg (Array.toList_inj.1 e'), hx⟩

end Go.Proofs.Ytlmlmdmechhalaa

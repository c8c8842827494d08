/-
  An argument that is a heap, opened: what it holds, and that it lies in memory.
-/
import Derived.Test.YthagnflhelndjabHpL
import Derived.Test.YthagnflhelndjabValLaw
import Derived.ProofKit
import Derived.ChangeArms
import Derived.DataReads
namespace Go.Proofs.Ythagnflhelndjab
open Go.RowKit Go.ChangeShapes Go.WideShapes
open Hp (PP OO propC)

theorem Try.propFields : (Try.prog.fieldsOf 105).toList.map (fun f => (f.type, f.offset)) = [(9, 0), (35, 1), (4, 4), (4, 5)] := by kernel_rfl
theorem Try.propUnd : Try.prog.underlying 105 = some (.struct (Try.prog.fieldsOf 105)) := by kernel_rfl
theorem Try.propCells : Try.prog.cellsOf 105 = 6 := by kernel_rfl
theorem Try.objFields : (Try.prog.fieldsOf 81).toList.map (fun f => (f.type, f.offset)) = [(2, 0), (2, 1), (79, 2)] := by kernel_rfl
theorem Try.objUnd : Try.prog.underlying 81 = some (.struct (Try.prog.fieldsOf 81)) := by kernel_rfl
theorem Try.objCells : Try.prog.cellsOf 81 = 3 := by kernel_rfl
theorem Try.heapFields : (Try.prog.fieldsOf 45).toList.map (fun f => (f.type, f.offset)) = [(43, 0)] := by kernel_rfl
theorem Try.heapUnd : Try.prog.underlying 45 = some (.struct (Try.prog.fieldsOf 45)) := by kernel_rfl
theorem Try.heapCells : Try.prog.cellsOf 45 = 1 := by kernel_rfl
theorem Try.hOne : Try.prog.cellsOf 4 = 1 ∧ Try.prog.cellsOf 79 = 1 ∧ Try.prog.cellsOf 43 = 1 := ⟨by kernel_rfl, by kernel_rfl, by kernel_rfl⟩

theorem spot_none {w : World} {a : Addr} {v : Value} (h : w.cell? a = some v) : a = ⟨a.block, a.off, none⟩ := by
  have := World.cell?_spot h
  cases a; simp_all
theorem add_at (b o j : Nat) : (⟨b, o, none⟩ : Addr).add j = ⟨b, o + j, none⟩ := by unfold Addr.add; split <;> simp_all

section
variable {H : Type} {enc : TypeId × Value → H} {w : World} {spare : Nat → Bool} {held : Bool}

theorem field_at {T : TypeId} (und : Try.prog.underlying T = some (.struct (Try.prog.fieldsOf T))) {fuel : Nat} {cs : List Value} {x : DataW H × List MemPlace} (h : DataW.trod enc Try.prog w 0 spare held fuel T cs = some x) :
    ∃ n, cs.length = Try.prog.cellsOf T ∧ ∀ (i : Nat) (t : TypeId) (off : Nat), ((Try.prog.fieldsOf T).toList.map (fun f => (f.type, f.offset)))[i]? = some (t, off) → ∃ y, DataW.trod enc Try.prog w 0 spare held n t ((cs.drop off).take (Try.prog.cellsOf t)) = some y := by
  obtain ⟨xs, n, rfl, _, hl, hxl, hf⟩ := DataW.trod_struct und h
  refine ⟨n, hl, fun i t off hi => ?_⟩
  rw [List.getElem?_map] at hi
  obtain ⟨f, hfi, hft⟩ := Option.map_eq_some_iff.1 hi
  simp only [Prod.mk.injEq] at hft
  have hil : i < xs.length := by
    rw [hxl]
    have := (List.getElem?_eq_some_iff.1 hfi).1
    simpa using this
  have := hf i f (by simpa using hfi)
  rw [hft.1, hft.2] at this
  rw [this]
  exact ⟨xs[i], List.getElem?_eq_getElem hil⟩

/-- A row of elements of s cells each. -/
theorem open_row {α : Type} {T E : TypeId} {s : Nat} (hu : Try.prog.underlying T = some (.slice E)) (hc : Try.prog.cellsOf E = s) (hs : 0 < s) (Q : α → List Value → Prop) (d : α)
    (each : ∀ fuel cs x, DataW.trod enc Try.prog w 0 spare held fuel E cs = some x → ∃ y, Q y cs) {fuel : Nat} {v : Value} {x : DataW H × List MemPlace} (h : DataW.trod enc Try.prog w 0 spare held fuel T [v] = some x) :
    ∃ (a : Option Addr) (cap : Nat) (l : List α), v = .slice a l.length cap ∧ l.length ≤ 9223372036854775807 ∧
      (l = [] ∨ ∃ b o, a = some ⟨b, o, none⟩ ∧ ∀ i (hi : i < l.length), ∃ cs, Q l[i] cs ∧ ∀ j, j < s → w.cell? ⟨b, o + i * s + j, none⟩ = cs[j]?) := by
  rcases DataW.trod_slice hu h with ⟨e5, _⟩ | ⟨a, len, cap, elems, rest, n', hn', e5, _, _, hlc, hcm, hel, helem, _, _⟩
  · simp only [List.cons.injEq, and_true] at e5
    exact ⟨none, 0, [], e5, by simp, .inl rfl⟩
  · simp only [List.cons.injEq, and_true] at e5
    unfold maxLen at hcm
    rw [hc] at helem
    have each' : ∀ i, ∃ y : α, i < len → ∃ cs', w.cells? 0 (a.add (i * s)) s = some cs' ∧ Q y cs' := by
      intro i
      by_cases hi : i < len
      · have h1 := helem i hi
        rw [List.getElem?_eq_getElem (by omega)] at h1
        obtain ⟨cs', hcs, ht⟩ := Option.bind_eq_some_iff.1 h1
        obtain ⟨y, hy⟩ := each _ _ _ ht
        exact ⟨y, fun _ => ⟨cs', hcs, hy⟩⟩
      · exact ⟨d, fun h => absurd h hi⟩
    obtain ⟨Y, hY⟩ := Classical.axiomOfChoice each'
    have hsp : 0 < len → a = ⟨a.block, a.off, none⟩ := fun h0 => by
      obtain ⟨cs', hcs, _⟩ := hY 0 h0
      obtain ⟨_, hl6, hc⟩ := World.cells?_some hcs
      have h1 := hc 0 (by omega)
      rw [List.getElem?_eq_getElem (by omega)] at h1
      have h2 : w.cell? a = some cs'[0] := by simpa [Addr.add] using h1
      exact spot_none h2
    refine ⟨some a, cap, (List.range len).map Y, by rw [e5]; simp, by simp; omega, ?_⟩
    by_cases h0 : len = 0
    · left; simp [h0]
    · right
      refine ⟨a.block, a.off, by rw [← hsp (by omega)], fun i hi => ?_⟩
      have hi' : i < len := by simpa using hi
      obtain ⟨cs', hcs, hq⟩ := hY i hi'
      obtain ⟨_, hl6, hc⟩ := World.cells?_some hcs
      refine ⟨cs', by simpa using hq, fun j hj => ?_⟩
      have := hc j hj
      rw [hsp (by omega), add_at, add_at] at this
      exact this

set_option maxRecDepth 100000 in
theorem open_prop {fuel : Nat} {cs : List Value} {x : DataW H × List MemPlace} (h : DataW.trod enc Try.prog w 0 spare held fuel 105 cs = some x) : ∃ p : PP, cs = (propC p).toList ∧ OkP p := by
  obtain ⟨n, hl, key⟩ := field_at Try.propUnd h
  rw [Try.propCells] at hl
  rw [Try.propFields] at key
  obtain ⟨v0, v1, v2, v3, v4, v5, rfl⟩ : ∃ v0 v1 v2 v3 v4 v5, cs = [v0, v1, v2, v3, v4, v5] := by
    match cs, hl with
    | [a, b, c, d, e, f], _ => exact ⟨a, b, c, d, e, f, rfl⟩
  obtain ⟨y0, k0⟩ := key 0 _ _ rfl
  obtain ⟨y1, k1⟩ := key 1 _ _ rfl
  obtain ⟨y2, k2⟩ := key 2 _ _ rfl
  obtain ⟨y3, k3⟩ := key 3 _ _ rfl
  rw [Try.valOne.2] at k0
  rw [Try.valCells] at k1
  rw [Try.hOne.1] at k2 k3
  obtain ⟨a0, e0, _, w0⟩ := DataW.trod_string Try.underlying9 k0
  obtain ⟨a1, e1, w1⟩ := open_val k1
  obtain ⟨a2, e2, _⟩ := DataW.trod_bool Try.underlying4 k2
  obtain ⟨a3, e3, _⟩ := DataW.trod_bool Try.underlying4 k3
  have e0' : v0 = .string a0 := by simpa using e0
  have e1' : [v1, v2, v3] = (vC a1).toList := by simpa using e1
  have e2' : v4 = .bool a2 := by simpa using e2
  have e3' : v5 = .bool a3 := by simpa using e3
  unfold vC at e1'
  simp only [List.cons.injEq, and_true] at e1'
  obtain ⟨rfl, rfl, rfl⟩ := e1'
  subst e0' e2' e3'
  unfold maxLen at w0
  exact ⟨⟨a0, a1, a2, a3⟩, rfl, by show a0.size ≤ _; omega, w1⟩

set_option maxRecDepth 100000 in
theorem open_obj {fuel : Nat} {cs : List Value} {x : DataW H × List MemPlace} (h : DataW.trod enc Try.prog w 0 spare held fuel 81 cs = some x) : ∃ (o : OO) (c : OC), cs = (objC o c).toList ∧ PsIn w 0 c.pa o.ps ∧ OkO o := by
  obtain ⟨n, hl, key⟩ := field_at Try.objUnd h
  rw [Try.objCells] at hl
  rw [Try.objFields] at key
  obtain ⟨v0, v1, v2, rfl⟩ : ∃ v0 v1 v2, cs = [v0, v1, v2] := by
    match cs, hl with
    | [a, b, c], _ => exact ⟨a, b, c, rfl⟩
  obtain ⟨y0, k0⟩ := key 0 _ _ rfl
  obtain ⟨y1, k1⟩ := key 1 _ _ rfl
  obtain ⟨y2, k2⟩ := key 2 _ _ rfl
  rw [Try.valOne.1] at k0 k1
  rw [Try.hOne.2.1] at k2
  obtain ⟨a0, e0, _, _⟩ := DataW.trod_int Try.underlying2 k0
  obtain ⟨a1, e1, _, _⟩ := DataW.trod_int Try.underlying2 k1
  have e0' : v0 = .int .i64 a0 := by simpa using e0
  have e1' : v1 = .int .i64 a1 := by simpa using e1
  have k2' : DataW.trod enc Try.prog w 0 spare held n 79 [v2] = some y2 := k2
  obtain ⟨a, cap, ps, e2, hn, hps⟩ := open_row Try.underlying79 Try.propCells (by omega) (fun (p : PP) cs => cs = (propC p).toList ∧ OkP p) Hp.zeroP (fun _ _ _ h => open_prop h) k2'
  subst e0' e1' e2
  refine ⟨⟨a0, a1, ps⟩, ⟨a, cap⟩, rfl, ?_, hn, ?_⟩
  · rcases hps with h | ⟨b, o, ha, hc⟩
    · exact .inl h
    · refine .inr ⟨b, o, ha, Nat.zero_le _, fun i hi => ?_⟩
      obtain ⟨cs, ⟨rfl, _⟩, hj⟩ := hc i hi
      exact ⟨hj 0 (by omega), hj 1 (by omega), hj 2 (by omega), hj 3 (by omega), hj 4 (by omega), hj 5 (by omega)⟩
  · intro p hp
    obtain ⟨i, hi, rfl⟩ := List.getElem_of_mem hp
    rcases hps with h | ⟨b, o, ha, hc⟩
    · have h' : ps = [] := h
      subst h'
      simp at hi
    · obtain ⟨cs, ⟨_, h⟩, _⟩ := hc i hi
      exact h

set_option maxRecDepth 100000 in
theorem open_hp {fuel : Nat} {cs : List Value} {x : DataW H × List MemPlace} (h : DataW.trod enc Try.prog w 0 spare held fuel 45 cs = some x) : ∃ (a : Option Addr) (cap : Nat) (l : List OO) (ks : Nat → OC), cs = [.slice a l.length cap] ∧ HIn w 0 a l ks ∧ OkH l := by
  obtain ⟨n, hl, key⟩ := field_at Try.heapUnd h
  rw [Try.heapCells] at hl
  rw [Try.heapFields] at key
  obtain ⟨v0, rfl⟩ : ∃ v0, cs = [v0] := by
    match cs, hl with
    | [a], _ => exact ⟨a, rfl⟩
  obtain ⟨y0, k0⟩ := key 0 _ _ rfl
  rw [Try.hOne.2.2] at k0
  have k0' : DataW.trod enc Try.prog w 0 spare held n 43 [v0] = some y0 := k0
  obtain ⟨a, cap, l, e, hn, hro⟩ := open_row Try.underlying43 Try.objCells (by omega) (fun (y : OO × OC) cs => cs = (objC y.1 y.2).toList ∧ PsIn w 0 y.2.pa y.1.ps ∧ OkO y.1) (⟨0, 0, []⟩, ⟨none, 0⟩) (fun _ _ _ h => by
    obtain ⟨o, c, h1, h2, h3⟩ := open_obj h
    exact ⟨(o, c), h1, h2, h3⟩) k0'
  subst e
  refine ⟨a, cap, l.map Prod.fst, fun i => ((l[i]?).map Prod.snd).getD ⟨none, 0⟩, by simp, ⟨?_, fun i hi => ?_⟩, by simpa using hn, fun o ho => ?_⟩
  · rcases hro with hnil | ⟨b, o, ha, hc⟩
    · exact .inl (by simp [hnil])
    · refine .inr ⟨b, o, ha, Nat.zero_le _, fun i hi => ?_⟩
      have hi' : i < l.length := by simpa using hi
      obtain ⟨cs, ⟨rfl, _⟩, hj⟩ := hc i hi'
      simp only [List.getElem_map, List.getElem?_eq_getElem hi', Option.map_some, Option.getD_some]
      exact ⟨hj 0 (by omega), hj 1 (by omega), hj 2 (by omega)⟩
  · have hi' : i < l.length := by simpa using hi
    rcases hro with hnil | ⟨b, o, ha, hc⟩
    · subst hnil; simp at hi'
    · obtain ⟨cs, ⟨_, h, _⟩, _⟩ := hc i hi'
      simp only [List.getElem_map, List.getElem?_eq_getElem hi', Option.map_some, Option.getD_some]
      exact h
  · obtain ⟨y, hy, rfl⟩ := List.mem_map.1 ho
    obtain ⟨i, hi, rfl⟩ := List.getElem_of_mem hy
    rcases hro with hnil | ⟨b, o, ha, hc⟩
    · subst hnil; simp at hi
    · obtain ⟨cs, ⟨_, _, h⟩, _⟩ := hc i hi
      exact h
end

set_option maxRecDepth 100000 in
/-- An argument of the type, opened. -/
theorem open_heap {H : Type} {enc : TypeId × Value → H} {W : World} {base : Nat} {v : Value} {d : DataW H} {p : List MemPlace} (hv : Value.okWide Try.prog W .any base 45 v) (h : DataW.Trod enc Try.prog W 0 (fun _ => true) true 45 v d p) :
    ∃ (a : Option Addr) (cap : Nat) (l : List OO) (ks : Nat → OC), v = .agg #[.slice a l.length cap] ∧ HIn W 0 a l ks ∧ OkH l := by
  obtain ⟨cs, rfl, _⟩ := okWide_struct Try.heapUnd hv
  obtain ⟨fuel, hf⟩ := h
  obtain ⟨a, cap, l, ks, e, h1, h2⟩ := open_hp hf
  refine ⟨a, cap, l, ks, ?_, h1, h2⟩
  have e' : cs.toList = [.slice a l.length cap] := e
  exact congrArg Value.agg (Array.toList_inj.1 e')

end Go.Proofs.Ythagnflhelndjab

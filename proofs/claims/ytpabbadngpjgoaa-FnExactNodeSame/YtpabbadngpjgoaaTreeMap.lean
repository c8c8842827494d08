/-
  A map whose keys are pairs of rows: a key that is not there; a key that is put.
-/
import Derived.Test.YtpabbadngpjgoaaTreeToN
import Derived.LaidEqlPtr
import Derived.Laws.StructEq
import Derived.WideKeyRuns
namespace Go.Proofs.Ytpabbadngpjgoaa
open Go.RowKit

theorem Try.infoNode' : ∃ j, Try.prog.info? 32 = some j ∧ j.size = 6 := by
  obtain ⟨i, hi, hzz⟩ := Option.map_eq_some_iff.1 Try.infoNode
  simp only [Prod.mk.injEq] at hzz
  exact ⟨i, hi, hzz.2.1⟩

theorem Try.pairFields : (Try.prog.fieldsOf 50).toList.map (fun f => (f.name, f.type, f.offset)) = [("a", 48, 0), ("b", 48, 1), ("count", 3, 2)] := by kernel_rfl
theorem Try.pairUnd : Try.prog.underlying 50 = some (.struct (Try.prog.fieldsOf 50)) := by kernel_rfl
theorem Try.pairStood : Try.prog.stoodInHeld 50 = false := by kernel_rfl
theorem Try.ptrAgg (w : World) : (isAgg 48).run Try.prog w = .ok false w := by kernel_rfl
theorem Try.intAgg (w : World) : (isAgg 3).run Try.prog w = .ok false w := by kernel_rfl

theorem pair_ne (w : World) {a a' : Addr} (p p' n n' : Value) (hne : a ≠ a') (ha : Plain w a.block) (ha' : Plain w a'.block) :
    (Op.equal 50 (.agg #[.pointer (some a), p, n]) (.agg #[.pointer (some a'), p', n'])).run Try.prog w = .ok false w := by
  obtain ⟨c, t, e⟩ := ha
  obtain ⟨c', t', e'⟩ := ha'
  obtain ⟨j, hj, hjs⟩ := Try.infoNode'
  have h : ∀ d : Nat, (Op.equalIn (d + 1) 48 (.pointer (some a)) (.pointer (some a'))).run Try.prog w = .ok false w := fun d => by
    simp [Op.equalIn, run_underlying Try.underlying48, sizeOf, typeInfo, hj, hjs, run_sameAddr_other w hne e e']
  show (Op.equalIn (9999 + 1) 50 _ _).run Try.prog w = _
  rw [run_equalIn_agg w 9999 50 _ _ Try.pairUnd Try.pairStood]
  have hf := Try.pairFields
  cases hl : (Try.prog.fieldsOf 50).toList with
  | nil => rw [hl] at hf; simp at hf
  | cons f fs =>
    rw [hl] at hf
    simp only [List.map_cons, List.cons.injEq, Prod.mk.injEq] at hf
    obtain ⟨⟨h1, h2, h3⟩, _⟩ := hf
    rw [Op.eqFields]
    simp [h1, h2, h3, part, Try.ptrAgg w, h 9998]

/-- The keys of a map: pairs whose first row is one of these blocks. -/
def KeysIn (es : Array MapEntry) (met : List Nat) : Prop := ∀ x ∈ es.toList, ∃ (g o : Nat) (p n : Value), x.key = .agg #[.pointer (some ⟨g, o, none⟩), p, n] ∧ g ∈ met

theorem find_none (w : World) {g o : Nat} (p n : Value) (hg : Plain w g) : ∀ (l : List MapEntry) (i : Nat), (∀ x ∈ l, ∃ (g' o' : Nat) (p' n' : Value), x.key = .agg #[.pointer (some ⟨g', o', none⟩), p', n'] ∧ g' ≠ g ∧ Plain w g') →
    (Instr.findAsking 50 (.agg #[.pointer (some ⟨g, o, none⟩), p, n]) l i).run Try.prog w = .ok none w
  | [], i, _ => by simp [Instr.findAsking]
  | x :: l, i, h => by
    obtain ⟨g', o', p', n', hk, hne, hp⟩ := h x (by simp)
    have h1 := pair_ne w (a := ⟨g, o, none⟩) (a' := ⟨g', o', none⟩) p p' n n' (fun e => hne (by simp only [Addr.mk.injEq] at e; exact e.1.symm)) hg hp
    simp [Instr.findAsking, hk, h1, find_none w p n hg l (i + 1) (fun y hy => h y (by simp [hy]))]

theorem check_pair (w : World) (em : Bool) (a : Addr) (b : Addr) (n : Int) : (Instr.checkKey em 10000 50 (.agg #[.pointer (some a), .pointer (some b), .int .i64 n])).run Try.prog w = .ok () w := by
  kernel_rfl

theorem find_eq (w : World) (x : Value) (es : List MapEntry) : (Instr.findKey 50 x es).run Try.prog w = (Instr.findAsking 50 x es).run Try.prog w := run_findKey_eq w (by rw [Try.pairUnd]) x es

theorem look_none {w : World} {M : Nat} {es : Array MapEntry} {clock : Nat} {met : List Nat} (hM : w.heap[M]? = some (.map es clock)) (hk : KeysIn es met) (hp : ∀ x ∈ met, Plain w x) {g o : Nat} (hg : Plain w g) (hn : g ∉ met) (b : Addr) (n : Int) :
    (Instr.lookup 45 (.map (some M)) (.agg #[.pointer (some ⟨g, o, none⟩), .pointer (some b), .int .i64 n]) false).run Try.prog w = .ok (.int .i64 0) w := by
  have hf := find_none w (g := g) (o := o) (.pointer (some b)) (.int .i64 n) hg es.toList 0 (fun x hx => by
    obtain ⟨g', o', p', n', e, hm⟩ := hk x hx
    exact ⟨g', o', p', n', e, fun e' => hn (e' ▸ hm), hp _ hm⟩)
  simp [Instr.lookup, run_underlying Try.underlying45, MapKept.run_getObj_map hM, check_pair, find_eq, hf, Result.andThen]

theorem put_new {w : World} {M : Nat} {es : Array MapEntry} {clock : Nat} {met : List Nat} (hM : w.heap[M]? = some (.map es clock)) (hk : KeysIn es met) (hp : ∀ x ∈ met, Plain w x) {g o : Nat} (hg : Plain w g) (hn : g ∉ met) (b : Addr) (n : Int) :
    ∃ w' es', (Instr.mapUpdate 45 (.map (some M)) (.agg #[.pointer (some ⟨g, o, none⟩), .pointer (some b), .int .i64 n]) (.int .i64 1)).run Try.prog w = .ok () w' ∧ w'.heap[M]? = some (.map es' (clock + 1)) ∧ KeysIn es' (g :: met) ∧
      w'.heap.size = w.heap.size ∧ (∀ k, k ≠ M → w'.heap[k]? = w.heap[k]?) ∧ w'.os = w.os ∧ w'.tape = w.tape ∧ w'.output = w.output := by
  have hf := find_none w (g := g) (o := o) (.pointer (some b)) (.int .i64 n) hg es.toList 0 (fun x hx => by
    obtain ⟨g', o', p', n', e, hm⟩ := hk x hx
    exact ⟨g', o', p', n', e, fun e' => hn (e' ▸ hm), hp _ hm⟩)
  refine ⟨{ w with heap := w.heap.setIfInBounds M (.map (es.push ⟨.agg #[.pointer (some ⟨g, o, none⟩), .pointer (some b), .int .i64 n], .int .i64 1, clock⟩) (clock + 1)) }, es.push ⟨.agg #[.pointer (some ⟨g, o, none⟩), .pointer (some b), .int .i64 n], .int .i64 1, clock⟩, ?_, ?_, ?_, by simp, ?_, rfl, rfl, rfl⟩
  · simp [Instr.mapUpdate, run_underlying Try.underlying45, MapKept.run_getObj_map hM, check_pair, find_eq, hf, MapKept.run_setObj_map _ hM, Result.andThen]
  · have := (Array.getElem?_eq_some_iff.1 hM).1
    simp [this]
  · intro x hx
    simp only [Array.toList_push, List.mem_append, List.mem_singleton] at hx
    rcases hx with hx | rfl
    · obtain ⟨g', o', p', n', e, hm⟩ := hk x hx
      exact ⟨g', o', p', n', e, by simp [hm]⟩
    · exact ⟨g, o, _, _, rfl, by simp⟩
  · intro k hk'
    simp [hk'.symm]

end Go.Proofs.Ytpabbadngpjgoaa

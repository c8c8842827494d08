/-
  A map whose keys are rows of kids: a key that is not there; an entry that is made and written; a key that is there.
-/
import Derived.Test.YtbkloddaooblfacEv
import Derived.LaidEqlPtr
import Derived.Laws.StructEq
import Derived.WideKeyRuns
namespace Go.Proofs.Ytbkloddaooblfac
open Go.RowKit

theorem Try.infoNode' : ∃ j, Try.prog.info? 56 = some j ∧ j.size = 6 := by
  obtain ⟨i, hi, hzz⟩ := Option.map_eq_some_iff.1 Try.infoNode
  simp only [Prod.mk.injEq] at hzz
  exact ⟨i, hi, hzz.2.1⟩
theorem Try.klFields : (Try.prog.fieldsOf 150).toList.map (fun f => (f.name, f.type, f.offset)) = [("first", 148, 0), ("count", 3, 1)] := by kernel_rfl
theorem Try.klUnd : Try.prog.underlying 150 = some (.struct (Try.prog.fieldsOf 150)) := by kernel_rfl
theorem Try.klStood : Try.prog.stoodInHeld 150 = false := by kernel_rfl
theorem Try.ptrAgg (w : World) : (isAgg 148).run Try.prog w = .ok false w := by kernel_rfl

theorem idx_list (xs : Array MapEntry) (p : MapEntry → Bool) : xs.findIdx? p = xs.toList.findIdx? p := by
  cases xs
  simp
theorem mod_last {α : Type} (f : α → α) (a : α) : ∀ l : List α, (l ++ [a]).modify l.length f = l ++ [f a]
  | [] => rfl
  | b :: r => by simp [List.modify_succ_cons, mod_last f a r]

def klV (g o : Nat) (n : Int) : Value := .agg #[.pointer (some ⟨g, o, none⟩), .int .i64 n]

theorem kl_ne (w : World) {a a' : Addr} (n n' : Value) (hne : a ≠ a') (ha : Plain w a.block) (ha' : Plain w a'.block) :
    (Op.equal 150 (.agg #[.pointer (some a), n]) (.agg #[.pointer (some a'), n'])).run Try.prog w = .ok false w := by
  obtain ⟨c, t, e⟩ := ha
  obtain ⟨c', t', e'⟩ := ha'
  obtain ⟨j, hj, hjs⟩ := Try.infoNode'
  have h : ∀ d : Nat, (Op.equalIn (d + 1) 148 (.pointer (some a)) (.pointer (some a'))).run Try.prog w = .ok false w := fun d => by
    simp [Op.equalIn, run_underlying Try.underlying148, sizeOf, typeInfo, hj, hjs, run_sameAddr_other w hne e e']
  show (Op.equalIn (9999 + 1) 150 _ _).run Try.prog w = _
  rw [run_equalIn_agg w 9999 150 _ _ Try.klUnd Try.klStood]
  have hf := Try.klFields
  cases hl : (Try.prog.fieldsOf 150).toList with
  | nil => rw [hl] at hf; simp at hf
  | cons f fs =>
    rw [hl] at hf
    simp only [List.map_cons, List.cons.injEq, Prod.mk.injEq] at hf
    obtain ⟨⟨h1, h2, h3⟩, _⟩ := hf
    rw [Op.eqFields]
    simp [h1, h2, h3, part, Try.ptrAgg w, h 9998]

theorem kl_eq (w : World) (a : Addr) (n : Int) :
    (Op.equal 150 (.agg #[.pointer (some a), .int .i64 n]) (.agg #[.pointer (some a), .int .i64 n])).run Try.prog w = .ok true w := by
  obtain ⟨j, hj, hjs⟩ := Try.infoNode'
  have h : ∀ d : Nat, (Op.equalIn (d + 1) 148 (.pointer (some a)) (.pointer (some a))).run Try.prog w = .ok true w := fun d => by
    simp [Op.equalIn, run_underlying Try.underlying148, sizeOf, typeInfo, hj, hjs, run_sameAddr_same w a]
  have h' : ∀ d : Nat, (Op.equalIn (d + 1) 3 (.int .i64 n) (.int .i64 n)).run Try.prog w = .ok true w := fun d => by
    simp [Op.equalIn, run_underlying Try.underlying3]
  show (Op.equalIn (9999 + 1) 150 _ _).run Try.prog w = _
  rw [run_equalIn_agg w 9999 150 _ _ Try.klUnd Try.klStood]
  have hf := Try.klFields
  cases hl : (Try.prog.fieldsOf 150).toList with
  | nil => rw [hl] at hf; simp at hf
  | cons f fs =>
    rw [hl] at hf
    cases fs with
    | nil => simp at hf
    | cons f2 fs2 =>
    simp only [List.map_cons, List.cons.injEq, Prod.mk.injEq, List.map_eq_nil_iff] at hf
    obtain ⟨⟨h1, h2, h3⟩, ⟨k1, k2, k3⟩, rfl⟩ := hf
    rw [Op.eqFields, Op.eqFields]
    simp [h1, h2, h3, k1, k2, k3, part, Try.ptrAgg w, h 9998, h' 9998, Op.eqFields]

/-- The keys of a map: rows of these blocks; each entry was made ahead of now. -/
def KeysIn (es : Array MapEntry) (clock : Nat) (met : List Nat) : Prop := ∀ x ∈ es.toList, x.born < clock ∧ ∃ (g o : Nat) (n : Int), x.key = klV g o n ∧ g ∈ met

theorem find_none (w : World) {g o : Nat} (n : Int) (hg : Plain w g) : ∀ (l : List MapEntry) (i : Nat), (∀ x ∈ l, ∃ (g' o' : Nat) (n' : Int), x.key = klV g' o' n' ∧ g' ≠ g ∧ Plain w g') →
    (Instr.findAsking 150 (klV g o n) l i).run Try.prog w = .ok none w
  | [], i, _ => by simp [Instr.findAsking]
  | x :: l, i, h => by
    obtain ⟨g', o', n', hk, hne, hp⟩ := h x (by simp)
    have h1 := kl_ne w (a := ⟨g, o, none⟩) (a' := ⟨g', o', none⟩) (.int .i64 n) (.int .i64 n') (fun e => hne (by simp only [Addr.mk.injEq] at e; exact e.1.symm)) hg hp
    have h2 := find_none w n hg l (i + 1) (fun y hy => h y (by simp [hy])) (o := o)
    unfold klV at hk h2 ⊢
    simp [Instr.findAsking, hk, h1, h2]
theorem find_last (w : World) {g o : Nat} (n : Int) (hg : Plain w g) (e : MapEntry) (he : e.key = klV g o n) : ∀ (l : List MapEntry) (i : Nat), (∀ x ∈ l, ∃ (g' o' : Nat) (n' : Int), x.key = klV g' o' n' ∧ g' ≠ g ∧ Plain w g') →
    (Instr.findAsking 150 (klV g o n) (l ++ [e]) i).run Try.prog w = .ok (some (i + l.length, e.val)) w
  | [], i, _ => by
    have h1 := kl_eq w ⟨g, o, none⟩ n
    unfold klV at he ⊢
    simp [Instr.findAsking, he, h1]
  | x :: l, i, h => by
    obtain ⟨g', o', n', hk, hne, hp⟩ := h x (by simp)
    have h1 := kl_ne w (a := ⟨g, o, none⟩) (a' := ⟨g', o', none⟩) (.int .i64 n) (.int .i64 n') (fun e => hne (by simp only [Addr.mk.injEq] at e; exact e.1.symm)) hg hp
    have h2 := find_last w n hg e he l (i + 1) (fun y hy => h y (by simp [hy]))
    unfold klV at hk h2 ⊢
    simp [Instr.findAsking, hk, h1, h2]
    omega

theorem check_kl (w : World) (em : Bool) (g o : Nat) (n : Int) : (Instr.checkKey em 10000 150 (klV g o n)).run Try.prog w = .ok () w := by
  unfold klV
  kernel_rfl
theorem find_eq (w : World) (x : Value) (es : List MapEntry) : (Instr.findKey 150 x es).run Try.prog w = (Instr.findAsking 150 x es).run Try.prog w := run_findKey_eq w (by rw [Try.klUnd]) x es

theorem keys_far {es : Array MapEntry} {clock : Nat} {met : List Nat} {w : World} (hk : KeysIn es clock met) (hp : ∀ x ∈ met, Plain w x) {g : Nat} (hn : g ∉ met) : ∀ x ∈ es.toList, ∃ (g' o' : Nat) (n' : Int), x.key = klV g' o' n' ∧ g' ≠ g ∧ Plain w g' := fun x hx => by
  obtain ⟨_, g', o', n', e, hm⟩ := hk x hx
  exact ⟨g', o', n', e, fun e' => hn (e' ▸ hm), hp _ hm⟩

theorem look_none {w : World} {M : Nat} {es : Array MapEntry} {clock : Nat} {met : List Nat} (hM : w.heap[M]? = some (.map es clock)) (hk : KeysIn es clock met) (hp : ∀ x ∈ met, Plain w x) {g o : Nat} (hg : Plain w g) (hn : g ∉ met) (n : Int) :
    (Instr.lookup 117 (.map (some M)) (klV g o n) false).run Try.prog w = .ok (.int .i64 0) w := by
  have hf := find_none w (g := g) (o := o) n hg es.toList 0 (keys_far hk hp hn)
  simp [Instr.lookup, run_underlying Try.underlying117, MapKept.run_getObj_map hM, check_kl, find_eq, hf, Result.andThen]
theorem look_last {w : World} {M : Nat} {es : Array MapEntry} {clock c2 : Nat} {met : List Nat} {g o : Nat} {n : Int} {v : Value} {bn : Nat} (hM : w.heap[M]? = some (.map (es.push ⟨klV g o n, v, bn⟩) c2)) (hk : KeysIn es clock met) (hp : ∀ x ∈ met, Plain w x) (hg : Plain w g) (hn : g ∉ met) :
    (Instr.lookup 117 (.map (some M)) (klV g o n) false).run Try.prog w = .ok v w := by
  have hf := find_last w (g := g) (o := o) n hg ⟨klV g o n, v, bn⟩ rfl es.toList 0 (keys_far hk hp hn)
  simp [Instr.lookup, run_underlying Try.underlying117, MapKept.run_getObj_map hM, check_kl, find_eq, hf, Result.andThen]

/-- The world with the map's block put anew. -/
def mapW (w : World) (M : Nat) (es : Array MapEntry) (clock : Nat) : World := { w with heap := w.heap.setIfInBounds M (.map es clock) }
theorem mapW_at {w : World} {M : Nat} (h : M < w.heap.size) (es : Array MapEntry) (clock : Nat) : (mapW w M es clock).heap[M]? = some (.map es clock) := by simp [mapW, h]
theorem mapW_other {w : World} {M k : Nat} (h : k ≠ M) (es : Array MapEntry) (clock : Nat) : (mapW w M es clock).heap[k]? = w.heap[k]? := by simp [mapW, h.symm]
theorem mapW_size (w : World) (M : Nat) (es : Array MapEntry) (clock : Nat) : (mapW w M es clock).heap.size = w.heap.size := by simp [mapW]

theorem entry_new {w : World} {M : Nat} {es : Array MapEntry} {clock : Nat} {met : List Nat} (hM : w.heap[M]? = some (.map es clock)) (hk : KeysIn es clock met) (hp : ∀ x ∈ met, Plain w x) {g o : Nat} (hg : Plain w g) (hn : g ∉ met) (n : Int) :
    (Instr.mapEntry 117 (.map (some M)) (klV g o n)).run Try.prog w = .ok (.tuple #[.int .i64 0, .int .i64 (clock : Int)]) (mapW w M (es.push ⟨klV g o n, .int .i64 0, clock⟩) (clock + 1)) := by
  have hf := find_none w (g := g) (o := o) n hg es.toList 0 (keys_far hk hp hn)
  simp [Instr.mapEntry, run_underlying Try.underlying117, MapKept.run_getObj_map hM, check_kl, find_eq, hf, MapKept.run_setObj_map _ hM, Result.andThen, mapW, goInt]

theorem store_new {w : World} {M : Nat} {es : Array MapEntry} {clock : Nat} {met : List Nat} {key v : Value} (hM : w.heap[M]? = some (.map (es.push ⟨key, v, clock⟩) (clock + 1))) (hk : KeysIn es clock met) (u : Value) :
    (Instr.entryStore 117 (.map (some M)) (.int .i64 (clock : Int)) u).run Try.prog w = .ok () (mapW w M (es.push ⟨key, u, clock⟩) (clock + 1)) := by
  have hidx : (es.push ⟨key, v, clock⟩).findIdx? (fun e => ((e.born : Nat) : Int) == ((clock : Nat) : Int)) = some es.size := by
    rw [idx_list, Array.toList_push, List.findIdx?_append]
    have : es.toList.findIdx? (fun e => ((e.born : Nat) : Int) == ((clock : Nat) : Int)) = none := by
      rw [List.findIdx?_eq_none_iff]
      intro x hx
      have := (hk x hx).1
      simp; omega
    rw [this]
    simp [List.findIdx?_cons]
  have hmod : (es.push ⟨key, v, clock⟩).modify es.size (fun e => { e with val := u }) = es.push ⟨key, u, clock⟩ := by
    apply Array.ext'
    rw [Array.toList_modify, Array.toList_push, Array.toList_push, ← Array.length_toList, mod_last]
  simp [Instr.entryStore, MapKept.run_getObj_map hM, asInt, asIntOf, hidx, hmod, MapKept.run_setObj_map _ hM, Result.andThen, mapW]

theorem KeysIn.push {es : Array MapEntry} {clock : Nat} {met : List Nat} (hk : KeysIn es clock met) (g o : Nat) (n : Int) (v : Value) : KeysIn (es.push ⟨klV g o n, v, clock⟩) (clock + 1) (g :: met) := by
  intro x hx
  simp only [Array.toList_push, List.mem_append, List.mem_singleton] at hx
  rcases hx with hx | rfl
  · obtain ⟨hb, g', o', n', e, hm⟩ := hk x hx
    exact ⟨by omega, g', o', n', e, by simp [hm]⟩
  · exact ⟨by simp, g, o, n, rfl, by simp⟩

end Go.Proofs.Ytbkloddaooblfac

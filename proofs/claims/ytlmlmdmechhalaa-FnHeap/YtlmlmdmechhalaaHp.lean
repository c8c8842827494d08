/-
  Heaps, plainly: what both sides are held against; what a map of Props reads as.
-/
import Derived.Test.YtlmlmdmechhalaaVal
import Derived.Maps.OwnSet
namespace Go.Proofs.Ytlmlmdmechhalaa.Hp

structure PP where
  key : ByteArray
  v : Val.VV
  hid : Bool
  fix : Bool
structure OO where
  cls : Int
  pro : Int
  ps : List PP

def zeroP : PP := ⟨Val.e0, Val.zeroV, false, false⟩
def same (k : ByteArray) (p : PP) : Bool := decide (p.key = k)
/-- The number of the first Prop of that Key, or how many there are. -/
def fi (ps : List PP) (k : ByteArray) : Nat := ps.findIdx (same k)
def ownI (ps : List PP) (k : ByteArray) : Int := if fi ps k < ps.length then (fi ps k : Int) else -1
def RightP (n : Nat) (p : PP) : Prop := p.key.size ≤ 1000 ∧ Val.right p.v = true ∧ (p.v.kind = 6 → p.v.num < n)
def Unlike (ps : List PP) : Prop := ps.Pairwise (fun p q => p.key ≠ q.key)
def RightO (n i : Nat) (o : OO) : Prop := 0 ≤ o.cls ∧ o.cls ≤ 2 ∧ -1 ≤ o.pro ∧ o.pro < i ∧ (∀ p ∈ o.ps, RightP n p) ∧ Unlike o.ps
def RightH (h : List OO) : Prop := h.length ≤ 400 ∧ ∀ i (hi : i < h.length), RightO h.length i h[i]

theorem same_iff {k : ByteArray} {p : PP} : same k p = true ↔ p.key = k := by simp [same]
theorem snocInd {α : Type} {P : List α → Prop} (h0 : P []) (hs : ∀ l x, P l → P (l ++ [x])) (l : List α) : P l := by
  rw [← List.reverse_reverse l]
  induction l.reverse with
  | nil => exact h0
  | cons a r ih => rw [List.reverse_cons]; exact hs _ _ ih
theorem unlike_snoc (ps : List PP) (p : PP) : Unlike (ps ++ [p]) ↔ Unlike ps ∧ ∀ q ∈ ps, q.key ≠ p.key := by
  unfold Unlike
  rw [List.pairwise_append]
  simp
theorem unlike_take {ps : List PP} (h : Unlike ps) (i : Nat) : Unlike (ps.take i) := h.sublist (List.take_sublist i ps)

/-! ### what stands in a map -/
def kl (k : ByteArray) : Lit := .string k.data.toList
def encP (p : PP) : DataW Unit := .agg [.lit (kl p.key), .lit (.int .i64 p.v.kind), .lit (.int .i64 p.v.num), .lit (kl p.v.text), .lit (.bool p.hid), .lit (.bool p.fix)]
def propC (p : PP) : Array Value := #[.string p.key, .int .i64 p.v.kind, .int .i64 p.v.num, .string p.v.text, .bool p.hid, .bool p.fix]
def rP : Value → Option (DataW Unit × List MemPlace)
  | .agg cs => match cs.toList with
    | [.string a, .int .i64 b, .int .i64 c, .string d, .bool e, .bool f] => some (encP ⟨a, ⟨b, c, d⟩, e, f⟩, [])
    | _ => none
  | _ => none
theorem rP_mk (p : PP) : rP (.agg (propC p)) = some (encP p, []) := rfl
theorem rP_inv {v : Value} {z : DataW Unit × List MemPlace} (h : rP v = some z) : ∃ p, v = .agg (propC p) ∧ z.1 = encP p := by
  unfold rP at h
  split at h
  · rename_i cs
    split at h
    · rename_i a b c d e f hcs
      refine ⟨⟨a, ⟨b, c, d⟩, e, f⟩, ?_, by cases h; rfl⟩
      exact congrArg Value.agg (Array.toList_inj.1 hcs)
    · cases h
  · cases h
theorem kl_inj {a b : ByteArray} (h : kl a = kl b) : a = b := by
  unfold kl at h
  injection h with h
  exact ByteArray.ext (Array.toList_inj.1 h)
theorem encP_inj {p q : PP} (h : encP p = encP q) : p = q := by
  obtain ⟨a, ⟨b, c, d⟩, e, f⟩ := p
  obtain ⟨a', ⟨b', c', d'⟩, e', f'⟩ := q
  unfold encP at h
  simp only [DataW.agg.injEq, List.cons.injEq, DataW.lit.injEq, Lit.int.injEq, Lit.bool.injEq, and_true, true_and] at h
  obtain ⟨h1, h2, h3, h4, h5, h6⟩ := h
  have := kl_inj h1
  have := kl_inj h4
  subst_vars
  rfl
theorem kl_key (k : ByteArray) : WideAt.IsKeyLit (kl k) := by simp [kl, WideAt.IsKeyLit]

/-- A map's datum that reads as those Props. -/
def Reads (D : DataW Unit) (ps : List PP) : Prop := Maps.Tidy D ∧ ∀ k z, D.atKey (kl k) z = ((ps.find? (same k)).map encP).getD z
theorem reads_nil : Reads (.map []) [] := ⟨Maps.tidy_empty, fun _ _ => rfl⟩
theorem Reads.has {D : DataW Unit} {ps : List PP} (h : Reads D ps) (k : ByteArray) : Maps.has D (kl k) = (ps.find? (same k)).isSome := by
  cases hf : ps.find? (same k) with
  | none => exact Maps.has_false_of_atKey fun z => by rw [h.2, hf]; rfl
  | some p => exact Maps.has_true_of_atKey (y := encP p) fun z => by rw [h.2, hf]; rfl
theorem Reads.got {D : DataW Unit} {ps : List PP} (h : Reads D ps) (k : ByteArray) {v : Value} {l : List MemPlace} (hv : rP v = some (D.atKey (kl k) (encP zeroP), l)) : v = .agg (propC ((ps.find? (same k)).getD zeroP)) := by
  obtain ⟨p, rfl, e⟩ := rP_inv hv
  have e' : D.atKey (kl k) (encP zeroP) = encP p := e
  rw [h.2] at e'
  cases hf : ps.find? (same k) with
  | none => rw [hf] at e'; exact congrArg (fun p => Value.agg (propC p)) (encP_inj e').symm
  | some q => rw [hf] at e'; exact congrArg (fun p => Value.agg (propC p)) (encP_inj e').symm
theorem Reads.snoc {D : DataW Unit} {ps : List PP} (h : Reads D ps) (q : PP) (hq : ∀ p ∈ ps, p.key ≠ q.key) : Reads (D.put (kl q.key) (encP q)) (ps ++ [q]) := by
  refine ⟨h.1.put (kl_key _) _, fun k z => ?_⟩
  rw [List.find?_append]
  by_cases e : k = q.key
  · subst e
    rw [Maps.atKey_put_same h.1.isMap (kl_key _), List.find?_eq_none.2 (fun p hp => by simpa [same] using hq p hp)]
    simp [same]
  · rw [Maps.atKey_put_other (fun e' => e (kl_inj e')), h.2]
    cases ps.find? (same k) with
    | some p => rfl
    | none =>
      have e2 : ¬ q.key = k := fun e' => e e'.symm
      simp [same, e2]

/-- All of them put, one behind another. -/
def putAll (ps : List PP) : DataW Unit := ps.foldl (fun D p => D.put (kl p.key) (encP p)) (.map [])
theorem putAll_snoc (ps : List PP) (p : PP) : putAll (ps ++ [p]) = (putAll ps).put (kl p.key) (encP p) := by simp [putAll, List.foldl_append]
theorem putAll_tidy (ps : List PP) : Maps.Tidy (putAll ps) := by
  induction ps using snocInd with
  | h0 => exact Maps.tidy_empty
  | hs l x ih => rw [putAll_snoc]; exact ih.put (kl_key _) _
theorem putAll_has (ps : List PP) (k : ByteArray) : Maps.has (putAll ps) (kl k) = ps.any (same k) := by
  induction ps using snocInd with
  | h0 => rfl
  | hs l x ih =>
    rw [putAll_snoc, List.any_append]
    by_cases e : k = x.key
    · subst e
      rw [Maps.has_put_same (putAll_tidy l).isMap (kl_key _)]
      simp [same]
    · rw [Maps.has_put_other (fun e' => e (kl_inj e')), ih]
      have e2 : ¬ x.key = k := fun e' => e e'.symm
      simp [same, e2]
theorem any_same (ps : List PP) (k : ByteArray) : ps.any (same k) = false ↔ ∀ q ∈ ps, q.key ≠ k := by
  rw [List.any_eq_false]
  exact forall_congr' fun q => forall_congr' fun _ => by simp [same]
theorem putAll_sizes (ps : List PP) : (Unlike ps → Maps.size (putAll ps) = ps.length) ∧ (¬ Unlike ps → Maps.size (putAll ps) < ps.length) ∧ Maps.size (putAll ps) ≤ ps.length := by
  induction ps using snocInd with
  | h0 => exact ⟨fun _ => rfl, fun h => absurd List.Pairwise.nil h, Nat.le_refl _⟩
  | hs l x ih =>
    obtain ⟨h1, h2, h3⟩ := ih
    rw [putAll_snoc, Maps.size_put (putAll_tidy l), putAll_has, unlike_snoc]
    cases ha : l.any (same x.key) with
    | true =>
      have hn : ¬ ∀ q ∈ l, q.key ≠ x.key := fun h => by rw [(any_same l x.key).2 h] at ha; cases ha
      simp only [if_true, List.length_append, List.length_cons, List.length_nil]
      exact ⟨fun h => absurd h.2 hn, fun _ => by omega, by omega⟩
    | false =>
      have hy := (any_same l x.key).1 ha
      simp only [Bool.false_eq_true, if_false, List.length_append, List.length_cons, List.length_nil]
      exact ⟨fun h => by rw [h1 h.1], fun h => by have := h2 (fun h' => h ⟨h', hy⟩); omega, by omega⟩
theorem putAll_size (ps : List PP) : Maps.size (putAll ps) = ps.length ↔ Unlike ps := by
  obtain ⟨h1, h2, _⟩ := putAll_sizes ps
  exact ⟨fun h => Classical.byContradiction fun h' => by have := h2 h'; omega, h1⟩
theorem putAll_reads {ps : List PP} (h : Unlike ps) : Reads (putAll ps) ps := by
  induction ps using snocInd with
  | h0 => exact reads_nil
  | hs l x ih =>
    obtain ⟨h1, h2⟩ := (unlike_snoc l x).1 h
    rw [putAll_snoc]
    exact (ih h1).snoc x h2

/-! ### where a Key stands -/
theorem fi_lt {ps : List PP} {k : ByteArray} (h : fi ps k < ps.length) : ps[fi ps k].key = k := same_iff.1 (List.findIdx_getElem (w := h))
theorem fi_ge {ps : List PP} {k : ByteArray} (h : ¬ fi ps k < ps.length) : ∀ q ∈ ps, q.key ≠ k := fun q hq e => h (List.findIdx_lt_length_of_exists ⟨q, hq, same_iff.2 e⟩)
theorem fi_first {ps : List PP} {k : ByteArray} {i : Nat} (hi : i < ps.length) (h : ps[i].key = k) (hb : ∀ j (hj : j < i), ps[j].key ≠ k) : fi ps k = i := by
  unfold fi
  rw [List.findIdx_eq hi]
  exact ⟨same_iff.2 h, fun j hj => by simpa [same] using hb j hj⟩
theorem fi_none {ps : List PP} {k : ByteArray} (h : ∀ q ∈ ps, q.key ≠ k) : fi ps k = ps.length := by
  unfold fi
  exact List.findIdx_eq_length_of_false fun q hq => by simpa [same] using h q hq
theorem find_fi (ps : List PP) (k : ByteArray) : ps.find? (same k) = ps[fi ps k]? := by
  by_cases h : fi ps k < ps.length
  · rw [List.getElem?_eq_getElem h]
    exact List.find?_eq_some_iff_getElem.2 ⟨same_iff.2 (fi_lt h), _, h, rfl, fun j hj => by
      have := List.not_of_lt_findIdx hj
      simpa using this⟩
  · rw [List.getElem?_eq_none (by omega), List.find?_eq_none.2 fun q hq => by simpa [same] using fi_ge h q hq]

end Go.Proofs.Ytlmlmdmechhalaa.Hp

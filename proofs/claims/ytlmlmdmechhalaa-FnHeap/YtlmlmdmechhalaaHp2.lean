/-
  Heaps, plainly: what is put, what is deleted, what is told.
-/
import Derived.Test.YtlmlmdmechhalaaHp
namespace Go.Proofs.Ytlmlmdmechhalaa.Hp

/-- With the Value in the place of that of the Prop of that Key, or in a new one. -/
def putPs (ps : List PP) (k : ByteArray) (v : Val.VV) : List PP :=
  if h : fi ps k < ps.length then ps.set (fi ps k) { ps[fi ps k] with v := v } else ps ++ [⟨k, v, false, false⟩]
/-- Without the Prop of that Key, unless it is Fixed. -/
def delPs (ps : List PP) (k : ByteArray) : List PP :=
  if h : fi ps k < ps.length then (if ps[fi ps k].fix then ps else ps.eraseIdx (fi ps k)) else ps
def keysPs (ps : List PP) : List ByteArray := (ps.filter fun p => !p.hid).map PP.key

theorem fi_keys {ps qs : List PP} (h : ps.map PP.key = qs.map PP.key) (k : ByteArray) : fi ps k = fi qs k := by
  have key : ∀ l : List PP, fi l k = (l.map PP.key).findIdx (fun x => decide (x = k)) := fun l => by
    unfold fi
    induction l with
    | nil => rfl
    | cons a r ih => simp only [List.map_cons, List.findIdx_cons, same]; rw [show r.findIdx (same k) = r.findIdx (fun p => decide (p.key = k)) from rfl] at ih; rw [show (fun p : PP => decide (p.key = k)) = same k from rfl] at ih; cases hd : decide (a.key = k) <;> simp [ih]
  rw [key, key, h]
theorem unlike_keys {ps qs : List PP} (h : ps.map PP.key = qs.map PP.key) (hu : Unlike ps) : Unlike qs := by
  have key : ∀ l : List PP, Unlike l ↔ (l.map PP.key).Pairwise (· ≠ ·) := fun l => by unfold Unlike; rw [List.pairwise_map]
  rw [key] at hu ⊢
  rwa [← h]
theorem set_keys {ps : List PP} {i : Nat} (hi : i < ps.length) (q : PP) (hq : q.key = ps[i].key) : (ps.set i q).map PP.key = ps.map PP.key := by
  apply List.ext_getElem
  · simp
  · intro j h1 h2
    simp only [List.getElem_map, List.getElem_set]
    split
    · rename_i e; subst e; exact hq
    · rfl
theorem Reads.set {D : DataW Unit} {ps : List PP} (h : Reads D ps) {i : Nat} (hi : i < ps.length) {k : ByteArray} (hk : fi ps k = i) (q : PP) (hq : q.key = k) : Reads (D.put (kl k) (encP q)) (ps.set i q) := by
  subst hk
  have hke : ps[fi ps k].key = k := fi_lt hi
  refine ⟨h.1.put (kl_key _) _, fun k' z => ?_⟩
  have e1 := set_keys hi q (hq.trans hke.symm)
  rw [find_fi, fi_keys e1 k', List.getElem?_set]
  by_cases e : k' = k
  · subst e
    rw [Maps.atKey_put_same h.1.isMap (kl_key _), if_pos rfl, if_pos hi]
    rfl
  · rw [Maps.atKey_put_other (fun e' => e (kl_inj e')), h.2, find_fi, if_neg]
    intro e2
    by_cases hl : fi ps k' < ps.length
    · have := fi_lt hl
      simp only [← e2] at this
      exact e (this.symm.trans hke)
    · omega
theorem Reads.del {D : DataW Unit} {ps : List PP} (h : Reads D ps) (hu : Unlike ps) {k : ByteArray} (hi : fi ps k < ps.length) : Reads (D.del (kl k)) (ps.eraseIdx (fi ps k)) := by
  have hke : ps[fi ps k].key = k := fi_lt hi
  have hsplit : ps = ps.take (fi ps k) ++ ps[fi ps k] :: ps.drop (fi ps k + 1) := by
    rw [List.getElem_cons_drop, List.take_append_drop]
  generalize ps[fi ps k] = q at *
  refine ⟨h.1.del _, fun k' z => ?_⟩
  rw [List.eraseIdx_eq_take_drop_succ, List.find?_append]
  by_cases e : k' = k
  · subst e
    have hx : ∀ p ∈ ps.take (fi ps k') ++ ps.drop (fi ps k' + 1), p.key ≠ k' := by
      intro p hp
      have hu' : Unlike ps := hu
      unfold Unlike at hu'
      rw [hsplit, List.pairwise_append, List.pairwise_cons] at hu'
      rcases List.mem_append.1 hp with hp | hp
      · exact hke ▸ hu'.2.2 p hp q (by simp)
      · exact fun e => hu'.2.1.1 p hp (hke.trans e.symm)
    rw [Maps.atKey_del_same, List.find?_eq_none.2 (fun p hp => by simpa [same] using hx p (List.mem_append_left _ hp)), List.find?_eq_none.2 (fun p hp => by simpa [same] using hx p (List.mem_append_right _ hp))]
    rfl
  · rw [Maps.atKey_del_other (fun e' => e (kl_inj e')), h.2]
    have e2 : ¬ q.key = k' := fun h => e (h.symm.trans hke)
    conv => lhs; rw [hsplit]
    rw [List.find?_append, List.find?_cons]
    simp [same, e2]

theorem unlike_put {ps : List PP} (h : Unlike ps) (k : ByteArray) (v : Val.VV) : Unlike (putPs ps k v) := by
  unfold putPs
  split
  · rename_i hi
    exact unlike_keys (set_keys hi { ps[fi ps k] with v := v } rfl).symm h
  · rename_i hi
    rw [unlike_snoc]
    exact ⟨h, fi_ge hi⟩
theorem unlike_del {ps : List PP} (h : Unlike ps) (k : ByteArray) : Unlike (delPs ps k) := by
  unfold delPs
  split
  · split
    · exact h
    · exact h.sublist (List.eraseIdx_sublist _ _)
  · exact h

/-! ### rows of Protos -/
/-- The first object in the row of Protos that has the Key, and the number of its Prop. -/
inductive Sk (h : List OO) (k : ByteArray) : Int → Option (Nat × Nat) → Prop
  | none (r : Int) (hr : r < 0) : Sk h k r none
  | hit (i : Nat) (hi : i < h.length) (hf : fi h[i].ps k < h[i].ps.length) : Sk h k i (some (i, fi h[i].ps k))
  | next (i : Nat) (hi : i < h.length) (hf : ¬ fi h[i].ps k < h[i].ps.length) (res : Option (Nat × Nat)) (hn : Sk h k h[i].pro res) : Sk h k i res
theorem Sk.det {h : List OO} {k : ByteArray} {r : Int} {a b : Option (Nat × Nat)} (x : Sk h k r a) (y : Sk h k r b) : a = b := by
  induction x with
  | none r hr =>
    cases y with
    | none => rfl
    | hit i _ _ => omega
    | next i _ _ _ _ => omega
  | hit i hi hf =>
    generalize hr : (i : Int) = r at y
    cases y with
    | none => omega
    | hit j _ _ => obtain rfl : i = j := by omega
                   rfl
    | next j _ hf' _ _ => obtain rfl : i = j := by omega
                          exact absurd hf hf'
  | next i hi hf res _ ih =>
    generalize hr : (i : Int) = r at y
    cases y with
    | none => omega
    | hit j _ hf' => obtain rfl : i = j := by omega
                     exact absurd hf' hf
    | next j _ _ _ hn => obtain rfl : i = j := by omega
                         exact ih hn
theorem Sk.lt {h : List OO} {k : ByteArray} {r : Int} {i j : Nat} (x : Sk h k r (some (i, j))) : ∃ (hi : i < h.length), j < h[i].ps.length ∧ j = fi h[i].ps k := by
  generalize hr : some (i, j) = res at x
  induction x with
  | none => cases hr
  | hit i' hi hf => cases hr; exact ⟨hi, hf, rfl⟩
  | next _ _ _ _ _ ih => exact ih hr

end Go.Proofs.Ytlmlmdmechhalaa.Hp

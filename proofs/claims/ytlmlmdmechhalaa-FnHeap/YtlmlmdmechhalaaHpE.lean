/-
  Copies that the specification makes: rows appended onto an empty row; a heap half copied.
-/
import Derived.Test.YtlmlmdmechhalaaHpW
import Derived.Test.YtlmlmdmechhalaaHpSK
namespace Go.Proofs.Ytlmlmdmechhalaa
open Go.RowKit
open Hp (PP OO propC)

/-- A cell of an own row is set. -/
theorem own_put {w : World} {B : Nat} {e : TypeId} {s g n cap : Nat} {xs : List Value} (h : w.ownsRow B e s (.slice (some ⟨g, 0, none⟩) n cap) n xs) (k : Nat) (u : Value) : (w.setCell ⟨g, k, none⟩ u).ownsRow B e s (.slice (some ⟨g, 0, none⟩) n cap) n (xs.set k u) := by
  rcases h with ⟨h1, ⟨e, _⟩ | ⟨g', cap', cur, e, hB, hg, hnc, hm, hs, htk⟩⟩
  · cases e
  · injection e with e1 e2 e3
    injection e1 with e1
    injection e1 with e1 _ _
    subst e1 e3
    refine ⟨by rw [List.length_set]; exact h1, .inr ⟨g, cap, cur.setIfInBounds k u, rfl, hB, blk_set hg k u, hnc, hm, by simp [hs], ?_⟩⟩
    rw [Array.toList_setIfInBounds, ← htk, List.take_set]

theorem rowO_set (h : List OO) (cs : Nat → OC) (n i : Nat) (hi : i < h.length) (hin : i < n) (hn : n ≤ h.length) (c : OC) : (rowO h cs n).set (i * 3 + 2) (.slice c.pa h[i].ps.length c.pc) = rowO h (fun j => if j = i then c else cs j) n := by
  apply List.ext_getElem?
  intro k
  by_cases hk : k < n * 3
  · obtain ⟨j, o, ho, rfl⟩ : ∃ j o, o < 3 ∧ k = j * 3 + o := ⟨k / 3, k % 3, by omega, by omega⟩
    have hjn : j < n := by omega
    rw [rowO_at h (fun j => if j = i then c else cs j) n j (by omega) hjn o ho]
    by_cases e : i * 3 + 2 = j * 3 + o
    · have e1 : j = i := by omega
      have e2 : o = 2 := by omega
      subst e1 e2
      rw [List.getElem?_set_self (by rw [rowO_len]; omega)]
      simp [objL]
    · rw [List.getElem?_set_ne e, rowO_at h cs n j (by omega) hjn o ho]
      by_cases e1 : j = i
      · subst e1
        have : o = 0 ∨ o = 1 := by omega
        rcases this with rfl | rfl <;> simp [objL]
      · rw [if_neg e1]
  · rw [List.getElem?_eq_none (by rw [List.length_set, rowO_len]; omega), List.getElem?_eq_none (by rw [rowO_len]; omega)]

theorem rowO_one (h : List OO) (cs : Nat → OC) (n : Nat) : ∀ u ∈ rowO h cs n, u.oneCell' = true := fun u hu => by
  unfold rowO at hu
  obtain ⟨j, _, hu⟩ := List.mem_flatMap.1 hu
  cases e : h[j]? with
  | none => rw [e] at hu; simp at hu; rcases hu with rfl | rfl <;> rfl
  | some x => rw [e] at hu; simp [objL] at hu; rcases hu with rfl | rfl | rfl <;> rfl
theorem flatP_one (ps : List PP) : ∀ u ∈ ps.flatMap propL, u.oneCell' = true := fun u hu => by
  obtain ⟨p, _, hu⟩ := List.mem_flatMap.1 hu
  simp only [propL, propC, List.mem_cons, List.mem_nil_iff, or_false] at hu
  rcases hu with rfl | rfl | rfl | rfl | rfl | rfl <;> rfl
theorem news_obj {w : World} {B b o : Nat} {h : List OO} {cs : Nat → OC} (k : OsIn w B (some ⟨b, o, none⟩) h cs) : ∀ j u, (rowO h cs h.length)[j]? = some u → w.cell? ((⟨b, o, none⟩ : Addr).add j) = some u := fun k' u hu => by
  have hlt : k' < h.length * 3 := by have := (List.getElem?_eq_some_iff.1 hu).1; rwa [rowO_len] at this
  obtain ⟨j, r, hr, rfl⟩ : ∃ j r, r < 3 ∧ k' = j * 3 + r := ⟨k' / 3, k' % 3, by omega, by omega⟩
  have hj : j < h.length := by omega
  rw [rowO_at h cs h.length j hj hj r hr] at hu
  obtain ⟨b', o', e, _, hc⟩ := k.resolve_left (fun e => by rw [e] at hj; simp at hj)
  injection e with e
  injection e with e1 e2 _
  subst e1 e2
  obtain ⟨q0, q1, q2⟩ := hc j hj
  rw [show (⟨b, o, none⟩ : Addr).add (j * 3 + r) = ⟨b, o + (j * 3 + r), none⟩ from by simp [Addr.add]]
  rw [← hu, ← Nat.add_assoc]
  have : r = 0 ∨ r = 1 ∨ r = 2 := by omega
  rcases this with rfl | rfl | rfl
  · exact q0
  · exact q1
  · exact q2
theorem news_prop {w : World} {B b o : Nat} {ps : List PP} (k : PsIn w B (some ⟨b, o, none⟩) ps) : ∀ j u, (ps.flatMap propL)[j]? = some u → w.cell? ((⟨b, o, none⟩ : Addr).add j) = some u := fun k' u hu => by
  have hlt : k' < ps.length * 6 := by have := (List.getElem?_eq_some_iff.1 hu).1; rwa [flatP_len] at this
  obtain ⟨j, r, hr, rfl⟩ : ∃ j r, r < 6 ∧ k' = j * 6 + r := ⟨k' / 6, k' % 6, by omega, by omega⟩
  have hj : j < ps.length := by omega
  rw [flatP_at ps j hj r hr] at hu
  obtain ⟨b', o', e, _, hc⟩ := k.resolve_left (fun e => by rw [e] at hj; simp at hj)
  injection e with e
  injection e with e1 e2 _
  subst e1 e2
  obtain ⟨q0, q1, q2, q3, q4, q5⟩ := hc j hj
  rw [show (⟨b, o, none⟩ : Addr).add (j * 6 + r) = ⟨b, o + (j * 6 + r), none⟩ from by simp [Addr.add]]
  rw [← hu, ← Nat.add_assoc]
  have : r = 0 ∨ r = 1 ∨ r = 2 ∨ r = 3 ∨ r = 4 ∨ r = 5 := by omega
  rcases this with rfl | rfl | rfl | rfl | rfl | rfl
  · exact q0
  · exact q1
  · exact q2
  · exact q3
  · exact q4
  · exact q5

/-- 'append([]Object{}, h.Objects...)'. -/
theorem appN_obj {w : World} {ops : Array Oper} {rest : List Oper} {o : Oper} {a : Act} {Q : Exit → Act → World → Prop} (hgd : o.guard = none) (s x : Operand)
    (ho : o.op = .call { callee := .builtin .append, args := #[s, x], argTypes := #[23, 23] })
    (B : Nat) (v : Value) (hs : a.eval s = v) (hown : w.ownsRow B 76 3 v 0 [])
    (b p cap B' : Nat) (h : List OO) (cs : Nat → OC) (hx : a.eval x = .slice (some ⟨b, p, none⟩) h.length cap) (hin : OsIn w B' (some ⟨b, p, none⟩) h cs)
    (hlen : h.length ≤ 1100000) (hB : B ≤ w.heap.size)
    (hK : ∀ v' w', w'.ownsRow B 76 3 v' h.length (rowO h cs h.length) → w.grownBy w' v.ownBlock → wpList Try.prog ops Q rest (a.put o.dst v') w') : wpList Try.prog ops Q (o :: rest) a w := by
  obtain ⟨i0, hi, hz0, hz1, hz2⟩ := info_parts Try.infoObject
  refine wpList_append_own w hgd s x 23 ho B 76 i0 zeroOb 3 40 Try.underlying23 hi hz0 hz1 hz2 rfl (by decide) v 0 [] hs hown ⟨b, p, none⟩ h.length cap (rowO h cs h.length) hx (rowO_len h cs h.length) (news_obj hin)
    (rowO_one h cs h.length) (by unfold maxLen; omega) (by omega) hB (fun v' w' h1 h2 _ => hK v' w' ?_ h2)
  rw [Nat.zero_add, List.nil_append] at h1
  exact h1
/-- 'append([]Prop{}, o.Props...)', in a region that draws. -/
theorem stepN_prop {w : World} {o : Oper} {a : Act} {K : Act → World → Prop} {Q : Exit → Act → World → Prop} (hgd : o.guard = none) (s x : Operand)
    (ho : o.op = .call { callee := .builtin .append, args := #[s, x], argTypes := #[74, 74] })
    (B : Nat) (v : Value) (hs : a.eval s = v) (hown : POwn w B v [])
    (b p cap B' : Nat) (ps : List PP) (hx : a.eval x = .slice (some ⟨b, p, none⟩) ps.length cap) (hin : PsIn w B' (some ⟨b, p, none⟩) ps)
    (hlen : ps.length ≤ 1100000) (hB : B ≤ w.heap.size)
    (hK : ∀ v' w', POwn w' B v' ps → w.grownBy w' v.ownBlock → K (a.put o.dst v') w') :
    Oper.wp Try.prog o a w K Q := by
  obtain ⟨i0, hi, hz0, hz1, hz2⟩ := info_parts Try.infoProp
  have hw : Region.wanted o (yielded #[] a.tmps) = true := by simp [Region.wanted, hgd]
  suffices hh : if Region.wanted o (yielded #[] a.tmps) = true then Oper.wp Try.prog o a w K Q else True by rwa [if_pos hw] at hh
  refine step_append_own hgd s x 74 ho B 78 i0 zeroPr 6 56 Try.underlying74 hi hz0 hz1 hz2 rfl (by decide) v 0 [] hs hown ⟨b, p, none⟩ ps.length cap (ps.flatMap propL) hx (flatP_len ps) (news_prop hin)
    (flatP_one ps) (by unfold maxLen; omega) (by omega) hB (fun v' w' h1 h2 => hK v' w' ?_ h2)
  rw [Nat.zero_add, List.nil_append] at h1
  exact h1

theorem rowO_congr (h : List OO) {f g : Nat → OC} (n : Nat) (e : ∀ j, j < n → f j = g j) : rowO h f n = rowO h g n := by
  unfold rowO
  induction n with
  | zero => rfl
  | succ n ih =>
    rw [List.range_succ, List.flatMap_append, List.flatMap_append, ih fun j hj => e j (by omega)]
    simp only [List.flatMap_cons, List.flatMap_nil]
    rw [e n (by omega)]
/-- A heap's copy, whose first i objects have Props of their own. -/
def HHalf (w : World) (lo : Nat) (v : Value) (h : List OO) (i : Nat) (ds cs : Nat → OC) : Prop :=
  w.ownsRow lo 76 3 v h.length (rowO h (fun j => if j < i then ds j else cs j) h.length) ∧ (∀ j (hj : j < h.length), j < i → POwn w lo (pV h[j] (ds j)) h[j].ps) ∧
  (∀ i' j (hi : i' < h.length) (hj : j < h.length), i' < j → j < i → ∀ q, (pV h[i'] (ds i')).ownBlock = some q → (pV h[j] (ds j)).ownBlock = some q → False)
theorem HHalf.done {w : World} {lo : Nat} {v : Value} {h : List OO} {ds cs : Nat → OC} (k : HHalf w lo v h h.length ds cs) : HOwn w lo v h h.length ds :=
  ⟨by have := k.1; rwa [rowO_congr h h.length (g := ds) fun j hj => if_pos hj] at this, k.2.1, k.2.2⟩
theorem HHalf.under {w w' : World} {lo : Nat} {v : Value} {h : List OO} {i : Nat} {ds cs : Nat → OC} (k : HHalf w lo v h i ds cs) (hb : ∀ q, lo ≤ q → q < w.heap.size → w'.heap[q]? = w.heap[q]?) : HHalf w' lo v h i ds cs :=
  ⟨row_same k.1 fun q hq => hb q (World.ownsRow.lt k.1 q hq).1 (World.ownsRow.lt k.1 q hq).2, fun j hj hjn => row_same (k.2.1 j hj hjn) fun q hq => hb q (World.ownsRow.lt (k.2.1 j hj hjn) q hq).1 (World.ownsRow.lt (k.2.1 j hj hjn) q hq).2, k.2.2⟩
theorem own_ne {w : World} {B B' : Nat} {v v' : Value} {n n' s s' : Nat} {e e' : TypeId} {xs xs' : List Value} (h : w.ownsRow B e s v n xs) (h' : w.ownsRow B' e' s' v' n' xs') (hne : e ≠ e') {q : Nat} (hq : v.ownBlock = some q) (hq' : v'.ownBlock = some q) : False := by
  obtain ⟨_, c, h1⟩ := own_apart h hq
  obtain ⟨_, c', h2⟩ := own_apart h' hq'
  rw [h1] at h2
  injection h2 with h2
  injection h2 with _ h2 _
  exact hne h2
theorem HHalf.step {wr w1 : World} {lo g cap L : Nat} {h : List OO} {i : Nat} {ds cs : Nat → OC} {c : OC} (k : HHalf wr lo (.slice (some ⟨g, 0, none⟩) h.length cap) h i ds cs) (hi : i < h.length) (hb : Below wr.heap.size wr w1) (hL : wr.heap.size ≤ L) (hlo : lo ≤ L) (hp : POwn w1 L (pV h[i] c) h[i].ps) :
    HHalf (w1.setCell ⟨g, i * 3 + 2, none⟩ (.slice c.pa h[i].ps.length c.pc)) lo (.slice (some ⟨g, 0, none⟩) h.length cap) h (i + 1) (fun j => if j = i then c else ds j) cs := by
  have k1 : HHalf w1 lo (.slice (some ⟨g, 0, none⟩) h.length cap) h i ds cs := k.under fun q _ hq => hb.block q hq
  have hne : ∀ q, q ≠ g → (w1.setCell ⟨g, i * 3 + 2, none⟩ (.slice c.pa h[i].ps.length c.pc)).heap[q]? = w1.heap[q]? := fun q hq => Below.heap_setCell _ ⟨g, i * 3 + 2, none⟩ _ q hq
  refine ⟨?_, fun j hj hjn => ?_, fun i' j hi' hj hij hjn q h1 h2 => ?_⟩
  · have := own_put k1.1 (i * 3 + 2) (.slice c.pa h[i].ps.length c.pc)
    rw [rowO_set h _ h.length i hi hi (Nat.le_refl _) c] at this
    rwa [rowO_congr h h.length (g := fun j => if j < i + 1 then (if j = i then c else ds j) else cs j) fun j hj => ?_] at this
    by_cases e : j = i
    · subst e; simp
    · by_cases e2 : j < i
      · simp [e, e2, show j < i + 1 by omega]
      · simp [e, e2, show ¬ j < i + 1 by omega]
  · by_cases e : j = i
    · subst e
      simp only [if_true]
      exact World.ownsRow.mono (row_same hp fun q hq => hne q fun e => own_ne hp k1.1 (by decide) hq (by rw [e]; rfl)) hlo
    · simp only [if_neg e]
      have h2 := k1.2.1 j hj (by omega)
      exact row_same h2 fun q hq => hne q fun e => own_ne h2 k1.1 (by decide) hq (by rw [e]; rfl)
  · dsimp only at h1 h2
    rw [if_neg (by omega)] at h1
    by_cases e : j = i
    · subst e
      simp only [if_true] at h2
      have a1 := (World.ownsRow.lt (k.2.1 i' hi' (by omega)) q h1).2
      have a2 := (World.ownsRow.lt hp q h2).1
      omega
    · rw [if_neg e] at h2
      exact k.2.2 i' j hi' hj hij (by omega) q h1 h2

end Go.Proofs.Ytlmlmdmechhalaa

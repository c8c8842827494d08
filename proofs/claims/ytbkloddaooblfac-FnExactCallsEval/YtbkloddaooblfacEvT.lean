/-
  What the walk of impl's through keeps: a stack of trees.
-/
import Derived.Test.YtbkloddaooblfacEvA2
namespace Go.Proofs.Ytbkloddaooblfac
open Go.RowKit Go.Shelf

structure SE where
  t : PT
  c : NC
  f : List Nat
def seC (e : SE) : List Value := (e.t.cells e.c).toList
theorem seC_len (e : SE) : (seC e).length = 6 := by cases e with | mk t c f => cases t; rfl
def OwnN (w : World) (B : Nat) (v : Value) (L : List SE) : Prop := w.ownsRow B 56 6 v L.length (L.flatMap seC)
theorem flatN_len (l : List SE) : (l.flatMap seC).length = l.length * 6 := by
  induction l with
  | nil => rfl
  | cons a r ih => rw [List.flatMap_cons, List.length_append, ih, List.length_cons, seC_len]; omega

/-- What is known of the stack, and of the rows that were met. -/
structure Good (w : World) (L : List SE) (met : List Nat) : Prop where
  inn : ∀ e ∈ L, NIn w 0 e.t e.c e.f
  sz : ∀ e ∈ L, szT e.t ≤ 1048576
  nodup : (L.flatMap SE.f ++ met).Nodup
  pl : ∀ x ∈ L.flatMap SE.f ++ met, Plain w x

def anyS (L : List SE) : Bool := L.any fun e => subC e.t
theorem anyS_append (L K : List SE) : anyS (L ++ K) = (anyS L || anyS K) := by simp [anyS]
theorem anyS_snoc (L : List SE) (e : SE) : anyS (L ++ [e]) = (anyS L || subC e.t) := by simp [anyS]
mutual
def cntT : PT → Nat
  | .node _ _ _ _ _ ks => 1 + cntL ks
def cntL : List PT → Nat
  | [] => 0
  | t :: r => cntT t + cntL r
end
def cntS (L : List SE) : Nat := (L.map fun e => cntT e.t).sum
theorem cntT_pos (t : PT) : 1 ≤ cntT t := by cases t; rw [cntT]; omega
theorem cntS_len (L : List SE) : L.length ≤ cntS L := by
  induction L with
  | nil => simp
  | cons a r ih => simp only [cntS, List.map_cons, List.sum_cons, List.length_cons] at ih ⊢; have := cntT_pos a.t; omega
theorem cntS_append (a b : List SE) : cntS (a ++ b) = cntS a + cntS b := by simp [cntS]
theorem cnt_le : ∀ t : PT, cntT t ≤ szT t + 1 := by
  have hl : ∀ ks : List PT, (∀ x ∈ ks, cntT x ≤ szT x + 1) → cntL ks ≤ szL ks + ks.length := by
    intro ks
    induction ks with
    | nil => intro _; simp [cntL]
    | cons a r ih =>
      intro h
      have h1 := h a (by simp)
      have h2 := ih (fun x hx => h x (by simp [hx]))
      rw [cntL, szL, List.length_cons]; omega
  intro t
  induction t using PT.ind with
  | h k t n ns s ks ih => rw [cntT, szT]; have := hl ks ih; omega

/-- The i-th kid. -/
def kidE (ks : List PT) (cs : Nat → NC) (fs : Nat → List Nat) (i : Nat) : SE := ⟨ks.getD i ptD, cs i, fs i⟩
theorem range_map_getD (ks : List PT) : (List.range ks.length).map (fun i => ks.getD i ptD) = ks := by
  apply List.ext_getElem
  · simp
  · intro i h h'; simp [List.getD, h']
theorem cntL_sum (ks : List PT) : cntL ks = (ks.map cntT).sum := by
  induction ks with
  | nil => rfl
  | cons a r ih => rw [cntL, ih]; simp
theorem dn_eq (n : Nat) : dn n 0 = (List.range n).reverse := by unfold dn; rw [Nat.sub_zero, List.range_eq_range']
theorem kids_cnt (ks : List PT) (cs : Nat → NC) (fs : Nat → List Nat) : cntS ((dn ks.length 0).map (kidE ks cs fs)) = cntL ks := by
  unfold cntS
  rw [dn_eq, List.map_reverse, List.map_reverse, List.sum_reverse, List.map_map, cntL_sum]
  conv => rhs; rw [← range_map_getD ks, List.map_map]
  rfl
theorem kids_any (ks : List PT) (cs : Nat → NC) (fs : Nat → List Nat) : anyS ((dn ks.length 0).map (kidE ks cs fs)) = callsL ks := by
  unfold anyS
  rw [dn_eq, List.map_reverse, List.any_reverse, List.any_map, callsL_any]
  conv => rhs; rw [← range_map_getD ks, List.any_map]
  rfl

theorem Good.top {w : World} {L : List SE} {e : SE} {met : List Nat} (h : Good w (L ++ [e]) met) : NIn w 0 e.t e.c e.f ∧ szT e.t ≤ 1048576 := ⟨h.inn e (by simp), h.sz e (by simp)⟩
theorem Good.pop {w : World} {L : List SE} {e : SE} {met : List Nat} (h : Good w (L ++ [e]) met) : Good w L met := by
  have hn := h.nodup
  have h1 := h.pl
  rw [List.flatMap_append, List.append_assoc] at hn
  rw [List.flatMap_append] at h1
  refine ⟨fun x hx => h.inn x (by simp [hx]), fun x hx => h.sz x (by simp [hx]), ?_, fun x hx => h1 x ?_⟩
  · rw [List.nodup_append] at hn ⊢
    obtain ⟨a, b, c⟩ := hn
    rw [List.nodup_append] at b
    exact ⟨a, b.2.1, fun x hx y hy => c x hx y (by simp [hy])⟩
  · simp only [List.mem_append] at hx ⊢
    rcases hx with hx | hx
    · exact .inl (.inl hx)
    · exact .inr hx
/-- The top, its kids not empty: what goes on the stack, and what is met. -/
theorem Good.kids {w : World} {L : List SE} {met : List Nat} {t : PT} {c : NC} {ks : List PT} {cs : Nat → NC} {fs : Nat → List Nat} {b : Nat}
    (h : Good w (L ++ [⟨t, c, fpOf b ks.length fs⟩]) met) (hne : 0 < ks.length) (hk : ∀ i (h : i < ks.length), NIn w 0 ks[i] (cs i) (fs i)) (hz : ∀ x ∈ ks, szT x ≤ 1048576) :
    Good w (L ++ (dn ks.length 0).map (kidE ks cs fs)) (b :: met) ∧ Plain w b ∧ b ∉ met := by
  have hn := h.nodup
  have h1 := h.pl
  have hp := h.pop
  have hf : ((dn ks.length 0).map (kidE ks cs fs)).flatMap SE.f = (List.range ks.length).reverse.flatMap fs := by
    rw [List.flatMap_map, dn_eq]; rfl
  have hpm : ((List.range ks.length).reverse.flatMap fs).Perm ((List.range ks.length).flatMap fs) := (List.reverse_perm _).flatMap_right _
  simp only [List.flatMap_append, List.flatMap_singleton, fpOf, if_neg (show ¬ ks.length = 0 by omega)] at hn h1
  have hmem : ∀ x ∈ (dn ks.length 0).map (kidE ks cs fs), ∃ i, ∃ (h : i < ks.length), x.t = ks[i] ∧ x.c = cs i ∧ x.f = fs i := by
    intro x hx
    obtain ⟨i, hi, rfl⟩ := List.mem_map.1 hx
    have hi1 : i < ks.length := by rw [dn_eq] at hi; simpa using hi
    exact ⟨i, hi1, getD_at ks i hi1, rfl, rfl⟩
  refine ⟨⟨fun x hx => ?_, fun x hx => ?_, ?_, fun x hx => ?_⟩, h1 b (by simp), ?_⟩
  · rcases List.mem_append.1 hx with hx | hx
    · exact hp.inn x hx
    · obtain ⟨i, hi, e1, e2, e3⟩ := hmem x hx
      rw [e1, e2, e3]; exact hk i hi
  · rcases List.mem_append.1 hx with hx | hx
    · exact hp.sz x hx
    · obtain ⟨i, hi, e1, e2, e3⟩ := hmem x hx
      rw [e1]; exact hz _ (List.getElem_mem hi)
  · rw [List.flatMap_append, hf]
    refine (List.Perm.nodup_iff ?_).1 hn
    rw [List.append_assoc, List.append_assoc]
    refine List.Perm.append_left _ ?_
    rw [List.cons_append]
    refine (List.perm_middle.symm).trans ?_
    exact List.Perm.append_right _ hpm.symm
  · rw [List.flatMap_append, hf] at hx
    apply h1 x
    simp only [List.mem_append, List.mem_cons] at hx ⊢
    rcases hx with (hx | hx) | rfl | hx
    · exact .inl (.inl hx)
    · exact .inl (.inr (.inr (hpm.mem_iff.1 hx)))
    · exact .inl (.inr (.inl rfl))
    · exact .inr hx
  · intro hm
    rw [List.append_assoc, List.nodup_append] at hn
    rw [List.cons_append, List.nodup_cons] at hn
    exact hn.2.1.1 (by simp [hm])

/-- All that is no loop's record stays, but for the map. -/
structure KX (M : Nat) (w w' : World) : Prop where
  os : w'.os = w.os
  tape : w'.tape = w.tape
  output : w'.output = w.output
  size : w.heap.size ≤ w'.heap.size
  block : ∀ (k : Nat) (o : Obj), w.heap[k]? = some o → (∀ r, o ≠ .loop r) → k ≠ M → w'.heap[k]? = some o
theorem KX.refl (M : Nat) (w : World) : KX M w w := ⟨rfl, rfl, rfl, Nat.le_refl _, fun _ _ h _ _ => h⟩
theorem KX.trans {M : Nat} {a b c : World} (h : KX M a b) (k : KX M b c) : KX M a c := ⟨k.os.trans h.os, k.tape.trans h.tape, k.output.trans h.output, Nat.le_trans h.size k.size, fun i o hi h1 h2 => k.block i o (h.block i o hi h1 h2) h1 h2⟩
theorem KX.of_below {M : Nat} {w w' : World} (h : Below w.heap.size w w') : KX M w w' := ⟨h.os, h.tape, h.output, h.size, fun k _ hk _ _ => (h.block k (Array.getElem?_eq_some_iff.1 hk).1).trans hk⟩
theorem KX.of_but {M : Nat} {w w' : World} (h : BBut M w w') : KX M w w' := ⟨h.os, h.tape, h.output, h.size, fun k _ hk _ hM => (h.block k (Array.getElem?_eq_some_iff.1 hk).1 hM).trans hk⟩
theorem KX.alloc {M : Nat} (w : World) (ob : Obj) : KX M w (w.alloc ob) := .of_below ((Below.refl _ _).alloc (Nat.le_refl _) ob)
/-- All that is no loop's record stays: a round. -/
structure KY (w w' : World) : Prop where
  os : w'.os = w.os
  tape : w'.tape = w.tape
  output : w'.output = w.output
  size : w.heap.size ≤ w'.heap.size
  block : ∀ (k : Nat) (o : Obj), w.heap[k]? = some o → (∀ r, o ≠ .loop r) → w'.heap[k]? = some o
theorem KY.kx {M : Nat} {w w' : World} (h : KY w w') : KX M w w' := ⟨h.os, h.tape, h.output, h.size, fun k o hk h1 _ => h.block k o hk h1⟩

theorem KX.cells {M : Nat} {w w' : World} (h : KX M w w') {es : Array MapEntry} {clock : Nat} (hM : w.heap[M]? = some (.map es clock)) : Keeps 0 w w' := fun a v _ hv => by
  cases ho : w.heap[a.block]? with
  | none => simp [World.cell?, ho] at hv
  | some o =>
    have hl : ∀ r, o ≠ .loop r := fun r e => by subst e; simp [World.cell?, ho] at hv
    have hm : a.block ≠ M := fun e => by rw [e, hM] at ho; cases ho; simp [World.cell?, e, hM] at hv
    rw [World.cell?_of_block (w := w) ((h.block _ _ ho hl hm).trans ho.symm)]; exact hv
theorem KX.plain {M : Nat} {w w' : World} (h : KX M w w') {es : Array MapEntry} {clock : Nat} (hM : w.heap[M]? = some (.map es clock)) {x : Nat} (hp : Plain w x) : Plain w' x := by
  obtain ⟨c, t, e⟩ := hp
  exact ⟨c, t, h.block _ _ e (fun r e' => by cases e') (fun e' => by rw [e', hM] at e; cases e)⟩
theorem OwnN.kx {M B : Nat} {w w' : World} {v : Value} {L : List SE} (h : OwnN w B v L) (hk : KX M w w') {es : Array MapEntry} {clock : Nat} (hM : w.heap[M]? = some (.map es clock)) : OwnN w' B v L := by
  refine ⟨h.1, ?_⟩
  rcases h.2 with hv | ⟨g, cap, cur, hv, hb', hg, rest⟩
  · exact .inl hv
  · exact .inr ⟨g, cap, cur, hv, hb', hk.block _ _ hg (fun r e' => by cases e') (fun e' => by rw [e', hM] at hg; cases hg), rest⟩
theorem boxed_kx {M B : Nat} {w w' : World} {t : TypeId} {v : Value} (h : Boxed w B t v) (hk : KX M w w') {es : Array MapEntry} {clock : Nat} (hM : w.heap[M]? = some (.map es clock)) : Boxed w' B t v :=
  hk.block _ _ h (fun r e' => by cases e') (fun e' => by rw [e'] at h; exact absurd (hM.symm.trans h) (by simp))

/-- The marks of loops that have run. -/
def dmk (D : Nat) : Deferred := { target := .collected D, args := #[] }
structure Marks (s : Nat) (w : World) (Ds : List Nat) : Prop where
  nodup : Ds.Nodup
  at_ : ∀ D ∈ Ds, s ≤ D ∧ w.heap[D]? = some (.deferred (some []))
theorem Marks.nil (s : Nat) (w : World) : Marks s w [] := ⟨by simp, by simp⟩
theorem Marks.kx {s M : Nat} {w w' : World} {Ds : List Nat} (h : Marks s w Ds) (hk : KX M w w') {es : Array MapEntry} {clock : Nat} (hM : w.heap[M]? = some (.map es clock)) : Marks s w' Ds :=
  ⟨h.nodup, fun D hD => ⟨(h.at_ D hD).1, hk.block _ _ (h.at_ D hD).2 (fun r e => by cases e) (fun e => by have := (h.at_ D hD).2; rw [e, hM] at this; cases this)⟩⟩
theorem Marks.ko {s O B : Nat} {w w' : World} {Ds : List Nat} (h : Marks s w Ds) (hk : KO O B w w') {c : Array Value} {t : TypeId} (hO : w.heap[O]? = some (.cells c t (0, 0))) : Marks s w' Ds :=
  ⟨h.nodup, fun D hD => ⟨(h.at_ D hD).1, hk.block _ _ (h.at_ D hD).2 (fun e => by have := (h.at_ D hD).2; rw [e, hO] at this; cases this) (.inr (fun c e => by cases e))⟩⟩
theorem Marks.cons {s D : Nat} {w : World} {Ds : List Nat} (h : Marks s w Ds) (hs : s ≤ D) (hD : w.heap[D]? = some (.deferred (some []))) (hne : D ∉ Ds) : Marks s w (D :: Ds) :=
  ⟨List.nodup_cons.2 ⟨hne, h.nodup⟩, fun x hx => by
    rcases List.mem_cons.1 hx with rfl | hx
    · exact ⟨hs, hD⟩
    · exact h.at_ x hx⟩

/-- The marks are taken up as the function leaves. -/
theorem leavesM {n : Nat} {fn : Func} {tmps : Array Value} {R : Ending → World → Prop} (s : Nat) : ∀ (Ds : List Nat) (w : World), Marks s w Ds → s ≤ w.heap.size → (∀ w', Below s w w' → LeavesIn Fence.wide n Try.prog fn tmps R [] .returning w') →
    LeavesInM Fence.wide n Try.prog fn tmps R (Ds.map dmk) .returning w
  | [], w, _, _, h => h w (Below.refl _ _)
  | D :: Ds, w, hm, hs, h => by
    obtain ⟨h1, h2⟩ := hm.at_ D (by simp)
    refine ⟨by simp, .inl ⟨D, _, rfl, run_takeDeferred h2, ?_⟩⟩
    have hnd := List.nodup_cons.1 hm.nodup
    have hlt := (Array.getElem?_eq_some_iff.1 h2).1
    have hb : Below s w (w.putObj D (.deferred none)) := (Below.refl s w).grown (grownBy_putObj' w D _) hs (fun k e => by cases e; exact h1)
    refine leavesM s Ds _ ⟨hnd.2, fun x hx => ⟨(hm.at_ x (by simp [hx])).1, (World.putObj_heap_other (fun e => hnd.1 (by rw [← e]; exact hx))).trans (hm.at_ x (by simp [hx])).2⟩⟩ (Nat.le_trans hs hb.size) (fun w' hw' => h w' (hb.trans hw'))

/-- What lies from B on stays. -/
structure KZ (B : Nat) (w w' : World) : Prop where
  size : w.heap.size ≤ w'.heap.size
  block : ∀ (k : Nat) (o : Obj), B ≤ k → w.heap[k]? = some o → w'.heap[k]? = some o
theorem Marks.kz {s B : Nat} {w w' : World} {Ds : List Nat} (h : Marks s w Ds) (hk : KZ B w w') (hB : B ≤ s) : Marks s w' Ds :=
  ⟨h.nodup, fun D hD => ⟨(h.at_ D hD).1, hk.block _ _ (by have := (h.at_ D hD).1; omega) (h.at_ D hD).2⟩⟩
/-- What a call of yield does. -/
structure YOK (l B : Nat) (R Rx : World → Prop) : Prop where
  keep : ∀ W W', R W → Below B W W' → R W'
  keepx : ∀ W W', Rx W → Below B W W' → Rx W'
  call : ∀ (m : Nat) (t : PT) (c : NC) (fp : List Nat) (W : World), R W → szT t ≤ 1048576 → NIn W 0 t c fp → YieldAt Fence.wide m Try.prog l #[.agg (t.cells c)] W fun e W' =>
    (e = .returned (.bool true) ∧ evalT t = false ∧ R W' ∧ KY W W') ∨ (e = .returned (.bool false) ∧ evalT t = true ∧ Rx W' ∧ KZ B W W')

end Go.Proofs.Ytbkloddaooblfac

/-
  What the walk of impl's NodeSame keeps: a stack of pairs of trees.
-/
import Derived.Test.YtpabbadngpjgoaaTreeHead
import Derived.Test.YtpabbadngpjgoaaTreeMap
import Derived.Deep.LoopGhost
import Derived.Deep.RegionLawGrows
import Derived.Carry
namespace Go.Proofs.Ytpabbadngpjgoaa
open Go.RowKit

structure PE where
  t1 : PT
  t2 : PT
  c1 : NC
  c2 : NC
  f1 : List Nat
  f2 : List Nat
def peC (e : PE) : List Value := (e.t1.cells e.c1).toList ++ (e.t2.cells e.c2).toList
theorem cells_len (t : PT) (c : NC) : (t.cells c).toList.length = 6 := by cases t; rfl
theorem peC_len (e : PE) : (peC e).length = 12 := by simp only [peC, List.length_append, cells_len]

/-- The slice value v owns, among the blocks from B on, these pairs. -/
def OwnP (w : World) (B : Nat) (v : Value) (l : List PE) : Prop := w.ownsRow B 46 12 v l.length (l.flatMap peC)

theorem flatP_len (l : List PE) : (l.flatMap peC).length = 12 * l.length := by
  induction l with
  | nil => rfl
  | cons a r ih => rw [List.flatMap_cons, List.length_append, ih, List.length_cons, peC_len]; omega

/-- What is known of the stack, and of the rows that were met. -/
structure Good (w : World) (C : Nat) (L : List PE) (met : List Nat) : Prop where
  in1 : ∀ e ∈ L, NIn w 0 e.t1 e.c1 e.f1
  in2 : ∀ e ∈ L, NIn w 0 e.t2 e.c2 e.f2
  sz1 : ∀ e ∈ L, szT e.t1 ≤ 1048576
  sz2 : ∀ e ∈ L, szT e.t2 ≤ 1048576
  nodup : (L.flatMap PE.f1 ++ met).Nodup
  pl1 : ∀ x ∈ L.flatMap PE.f1 ++ met, Plain w x ∧ x < C
  pl2 : ∀ x ∈ L.flatMap PE.f2, Plain w x ∧ C ≤ x

def allS (L : List PE) : Bool := L.all fun e => same e.t1 e.t2
mutual
def cntT : PT → Nat
  | .node _ _ _ _ _ ks => 1 + cntL ks
def cntL : List PT → Nat
  | [] => 0
  | t :: r => cntT t + cntL r
end
def cntS (L : List PE) : Nat := (L.map fun e => cntT e.t1).sum
theorem cntT_pos (t : PT) : 1 ≤ cntT t := by cases t; rw [cntT]; omega
theorem cntL_len (ks : List PT) : ks.length ≤ cntL ks := by
  induction ks with
  | nil => simp
  | cons a r ih => rw [cntL, List.length_cons]; have := cntT_pos a; omega
theorem cntS_len (L : List PE) : L.length ≤ cntS L := by
  induction L with
  | nil => simp
  | cons a r ih => simp only [cntS, List.map_cons, List.sum_cons, List.length_cons] at ih ⊢; have := cntT_pos a.t1; omega
theorem cntS_append (a b : List PE) : cntS (a ++ b) = cntS a + cntS b := by simp [cntS]
theorem cnt_le : ∀ t : PT, cntT t ≤ szT t + 1 := by
  have hl : ∀ ks : List PT, (∀ x ∈ ks, cntT x ≤ szT x + 1) → cntL ks ≤ szL ks + ks.length := by
    intro ks
    induction ks with
    | nil => intro _; simp [cntL]
    | cons a r ih =>
      intro h
      have h1 := h a (by simp)
      have h2 := ih (fun x hx => h x (by simp [hx]))
      rw [cntL, szL, List.length_cons]; omega
  intro t
  induction t using PT.ind with
  | h k t n ns s ks ih => rw [cntT, szT]; have := hl ks ih; omega

def ptD : PT := .node 0 ⟨#[]⟩ 0 [] false []
/-- The i-th pair of kids. -/
def kidE (ks ks' : List PT) (cs cs' : Nat → NC) (fs fs' : Nat → List Nat) (i : Nat) : PE := ⟨ks.getD i ptD, ks'.getD i ptD, cs i, cs' i, fs i, fs' i⟩
def kidsE (ks ks' : List PT) (cs cs' : Nat → NC) (fs fs' : Nat → List Nat) (j : Nat) : List PE := (List.range j).map (kidE ks ks' cs cs' fs fs')
theorem kidsE_len (ks ks' : List PT) (cs cs' : Nat → NC) (fs fs' : Nat → List Nat) (j : Nat) : (kidsE ks ks' cs cs' fs fs' j).length = j := by simp [kidsE]
theorem kidsE_succ (ks ks' : List PT) (cs cs' : Nat → NC) (fs fs' : Nat → List Nat) (j : Nat) : kidsE ks ks' cs cs' fs fs' (j + 1) = kidsE ks ks' cs cs' fs fs' j ++ [kidE ks ks' cs cs' fs fs' j] := by simp [kidsE, List.range_succ]
theorem getD_at (ks : List PT) (i : Nat) (h : i < ks.length) : ks.getD i ptD = ks[i] := by simp [List.getD, h]
theorem range_map_getD (ks : List PT) : (List.range ks.length).map (fun i => ks.getD i ptD) = ks := by
  apply List.ext_getElem
  · simp
  · intro i h h'; simp [List.getD, h']
theorem cntL_sum (ks : List PT) : cntL ks = (ks.map cntT).sum := by
  induction ks with
  | nil => rfl
  | cons a r ih => rw [cntL, ih]; simp
theorem kidsE_cnt (ks ks' : List PT) (cs cs' : Nat → NC) (fs fs' : Nat → List Nat) : cntS (kidsE ks ks' cs cs' fs fs' ks.length) = cntL ks := by
  unfold cntS kidsE
  rw [List.map_map, cntL_sum]
  conv => rhs; rw [← range_map_getD ks, List.map_map]
  rfl
theorem kidsE_all (ks ks' : List PT) (cs cs' : Nat → NC) (fs fs' : Nat → List Nat) (hl : ks.length = ks'.length) : allS (kidsE ks ks' cs cs' fs fs' ks.length) = sameL ks ks' := by
  unfold allS kidsE
  rw [Bool.eq_iff_iff, List.all_map, List.all_eq_true]
  constructor
  · intro h
    refine sameL_all ks ks' hl fun i hi hi' => ?_
    have := h i (by simpa using hi)
    have e : same (ks.getD i ptD) (ks'.getD i ptD) = true := this
    rw [getD_at ks i hi, getD_at ks' i hi'] at e
    exact e
  · intro h i hi
    have hi1 : i < ks.length := by simpa using hi
    have hi2 : i < ks'.length := by omega
    cases e : same ks[i] ks'[i] with
    | true =>
      show same (ks.getD i ptD) (ks'.getD i ptD) = true
      rw [getD_at ks i hi1, getD_at ks' i hi2]
      exact e
    | false => rw [sameL_at ks ks' i hi1 hi2 e] at h; cases h
theorem same_head (t1 t2 : PT) (h : headB t1 t2 = false) : same t1 t2 = false := by
  cases t1; cases t2
  rw [same]
  simp only [headB] at h
  rw [h]; rfl
theorem same_tail (k : Int) (t : ByteArray) (n : Int) (ns : List ByteArray) (s : Bool) (ks : List PT) (k' : Int) (t' : ByteArray) (n' : Int) (ns' : List ByteArray) (s' : Bool) (ks' : List PT) (h : headB (.node k t n ns s ks) (.node k' t' n' ns' s' ks') = true) :
    same (.node k t n ns s ks) (.node k' t' n' ns' s' ks') = sameL ks ks' ∧ ks.length = ks'.length := by
  rw [same]
  simp only [headB] at h
  rw [h]
  simp only [Bool.and_eq_true, decide_eq_true_eq] at h
  exact ⟨by simp, h.2⟩
theorem allS_snoc (L : List PE) (e : PE) : allS (L ++ [e]) = (allS L && same e.t1 e.t2) := by simp [allS]
theorem allS_append (L K : List PE) : allS (L ++ K) = (allS L && allS K) := by simp [allS]

theorem Good.top {w : World} {C : Nat} {L : List PE} {e : PE} {met : List Nat} (h : Good w C (L ++ [e]) met) : NIn w 0 e.t1 e.c1 e.f1 ∧ NIn w 0 e.t2 e.c2 e.f2 ∧ szT e.t1 ≤ 1048576 ∧ szT e.t2 ≤ 1048576 :=
  ⟨h.in1 e (by simp), h.in2 e (by simp), h.sz1 e (by simp), h.sz2 e (by simp)⟩
theorem Good.pop {w : World} {C : Nat} {L : List PE} {e : PE} {met : List Nat} (h : Good w C (L ++ [e]) met) : Good w C L met := by
  have hn := h.nodup
  have h1 := h.pl1
  have h2 := h.pl2
  rw [List.flatMap_append, List.append_assoc] at hn
  rw [List.flatMap_append] at h1 h2
  refine ⟨fun x hx => h.in1 x (by simp [hx]), fun x hx => h.in2 x (by simp [hx]), fun x hx => h.sz1 x (by simp [hx]), fun x hx => h.sz2 x (by simp [hx]), ?_, fun x hx => h1 x ?_, fun x hx => h2 x (by simp [hx])⟩
  · rw [List.nodup_append] at hn ⊢
    obtain ⟨a, b, c⟩ := hn
    rw [List.nodup_append] at b
    exact ⟨a, b.2.1, fun x hx y hy => c x hx y (by simp [hy])⟩
  · simp only [List.mem_append] at hx ⊢
    rcases hx with hx | hx
    · exact .inl (.inl hx)
    · exact .inr hx

/-- The top, its kids not empty: what goes on the stack, and what is met. -/
theorem Good.kids {w : World} {C : Nat} {L : List PE} {met : List Nat} {t1 t2 : PT} {c1 c2 : NC} {ks ks' : List PT} {cs cs' : Nat → NC} {fs fs' : Nat → List Nat} {b b' : Nat}
    (h : Good w C (L ++ [⟨t1, t2, c1, c2, fpOf b ks.length fs, fpOf b' ks'.length fs'⟩]) met) (hne : 0 < ks.length) (hl : ks.length = ks'.length)
    (hk1 : ∀ i (h : i < ks.length), NIn w 0 ks[i] (cs i) (fs i)) (hk2 : ∀ i (h : i < ks'.length), NIn w 0 ks'[i] (cs' i) (fs' i)) (hz1 : ∀ x ∈ ks, szT x ≤ 1048576) (hz2 : ∀ x ∈ ks', szT x ≤ 1048576) :
    Good w C (L ++ kidsE ks ks' cs cs' fs fs' ks.length) (b :: met) ∧ (Plain w b ∧ b < C ∧ b ∉ met) ∧ (Plain w b' ∧ C ≤ b') := by
  have hn := h.nodup
  have h1 := h.pl1
  have h2 := h.pl2
  have hp := h.pop
  have hf : (kidsE ks ks' cs cs' fs fs' ks.length).flatMap PE.f1 = (List.range ks.length).flatMap fs := by
    unfold kidsE; rw [List.flatMap_map]; rfl
  have hf' : (kidsE ks ks' cs cs' fs fs' ks.length).flatMap PE.f2 = (List.range ks.length).flatMap fs' := by
    unfold kidsE; rw [List.flatMap_map]; rfl
  simp only [List.flatMap_append, List.flatMap_singleton, fpOf, if_neg (show ¬ ks.length = 0 by omega), if_neg (show ¬ ks'.length = 0 by omega)] at hn h1 h2
  have hmem : ∀ x ∈ kidsE ks ks' cs cs' fs fs' ks.length, ∃ i, ∃ (h : i < ks.length) (h' : i < ks'.length), x.t1 = ks[i] ∧ x.t2 = ks'[i] ∧ x.c1 = cs i ∧ x.c2 = cs' i ∧ x.f1 = fs i ∧ x.f2 = fs' i := by
    intro x hx
    obtain ⟨i, hi, rfl⟩ := List.mem_map.1 hx
    have hi1 : i < ks.length := by simpa using hi
    exact ⟨i, hi1, by omega, getD_at ks i hi1, getD_at ks' i (by omega), rfl, rfl, rfl, rfl⟩
  refine ⟨⟨fun x hx => ?_, fun x hx => ?_, fun x hx => ?_, fun x hx => ?_, ?_, fun x hx => ?_, fun x hx => ?_⟩, ?_, ?_⟩
  · rcases List.mem_append.1 hx with hx | hx
    · exact hp.in1 x hx
    · obtain ⟨i, hi, hi', e1, e2, e3, e4, e5, e6⟩ := hmem x hx
      rw [e1, e3, e5]; exact hk1 i hi
  · rcases List.mem_append.1 hx with hx | hx
    · exact hp.in2 x hx
    · obtain ⟨i, hi, hi', e1, e2, e3, e4, e5, e6⟩ := hmem x hx
      rw [e2, e4, e6]; exact hk2 i hi'
  · rcases List.mem_append.1 hx with hx | hx
    · exact hp.sz1 x hx
    · obtain ⟨i, hi, hi', e1, e2, e3, e4, e5, e6⟩ := hmem x hx
      rw [e1]; exact hz1 _ (List.getElem_mem hi)
  · rcases List.mem_append.1 hx with hx | hx
    · exact hp.sz2 x hx
    · obtain ⟨i, hi, hi', e1, e2, e3, e4, e5, e6⟩ := hmem x hx
      rw [e2]; exact hz2 _ (List.getElem_mem hi')
  · rw [List.flatMap_append, hf]
    refine (List.Perm.nodup_iff ?_).1 hn
    rw [List.append_assoc, List.append_assoc]
    refine List.Perm.append_left _ ?_
    rw [List.cons_append]
    exact List.perm_middle.symm
  · rw [List.flatMap_append, hf] at hx
    apply h1 x
    simp only [List.mem_append, List.mem_cons] at hx ⊢
    rcases hx with (hx | hx) | rfl | hx
    · exact .inl (.inl hx)
    · exact .inl (.inr (.inr hx))
    · exact .inl (.inr (.inl rfl))
    · exact .inr hx
  · rw [List.flatMap_append, hf'] at hx
    apply h2 x
    rw [hl] at hx
    simp only [List.mem_append, List.mem_cons] at hx ⊢
    rcases hx with hx | hx
    · exact .inl hx
    · exact .inr (.inr hx)
  · obtain ⟨p1, p2⟩ := h1 b (by simp)
    refine ⟨p1, p2, fun hm => ?_⟩
    rw [List.append_assoc, List.nodup_append] at hn
    rw [List.cons_append, List.nodup_cons] at hn
    exact hn.2.1.1 (by simp [hm])
  · exact h2 b' (by simp)

/-- append onto a row of the call's own, as one step of a region that draws. -/
theorem step_append_own {P : Program} {ops : Array Oper} {o : Oper} {a : Act} {w : World} {K : Act → World → Prop} {Q : Exit → Act → World → Prop} {E : Prop}
    (hg : o.guard = none) (s x : Operand) (t : TypeId) (hop : o.op = Op.call { callee := Callee.builtin Builtin.append, args := #[s, x], argTypes := #[t, t] })
    (base : Nat) (e : TypeId) (i : TypeInfo) (z : Value) (size bytes : Nat) (h1 : P.underlying t = some (.slice e)) (h2 : P.info? e = some i) (h3 : i.zero = some z) (h4 : i.size = size) (h5 : i.bytes = bytes) (h6 : z.cells.size = size) (h7 : 0 < size)
    (v : Value) (n : Nat) (xs : List Value) (hs : a.eval s = v) (hown : w.ownsRow base e size v n xs)
    (ad : Addr) (m c : Nat) (news : List Value) (hx : a.eval x = .slice (some ad) m c) (hn : news.length = m * size) (hc : ∀ j u, news[j]? = some u → w.cell? (ad.add j) = some u) (h1c : ∀ u ∈ news, u.oneCell' = true)
    (b1 : n + m ≤ maxLen) (b2 : (n + m) * bytes ≤ 140737488355328) (hbase : base ≤ w.heap.size)
    (hK : ∀ v' w', w'.ownsRow base e size v' (n + m) (xs ++ news) → w.grownBy w' v.ownBlock → K (a.put o.dst v') w') :
    if Region.wanted o (yielded ops a.tmps) = true then Oper.wp P o a w K Q else E := by
  have hw : Region.wanted o (yielded ops a.tmps) = true := by simp [Region.wanted, hg]
  rw [if_pos hw]
  obtain ⟨v', w', hrun, r1, r2, _⟩ := run_append_own (P := P) w base t o.type e i z size bytes h1 h2 h3 h4 h5 h6 h7 v n xs hown ad m c news hn hc h1c b1 b2 hbase
  unfold Oper.wp
  simp [execOp, hop, resolve, invoke, builtin, hs, hx, hrun, Result.andThen]
  exact hK v' w' r1 r2

def zeroP : Value := .agg #[.int .i64 0, .string ByteArray.empty, .int .i64 0, .slice none 0 0, .bool false, .slice none 0 0, .int .i64 0, .string ByteArray.empty, .int .i64 0, .slice none 0 0, .bool false, .slice none 0 0]
theorem Try.infoPair : (Try.prog.info? 46).map (fun i => (i.zero, i.size, i.bytes)) = some (some zeroP, 12, 176) := by kernel_rfl
theorem peC_one (e : PE) : ∀ u ∈ peC e, u.oneCell' = true := by
  obtain ⟨t1, t2, c1, c2, f1, f2⟩ := e
  cases t1; cases t2
  intro u hu
  simp only [peC, PT.cells, nodeC, List.cons_append, List.nil_append, List.mem_cons, List.not_mem_nil, or_false] at hu
  rcases hu with rfl | rfl | rfl | rfl | rfl | rfl | rfl | rfl | rfl | rfl | rfl | rfl <;> rfl

/-- 'open = append(open, pair)', in a region that draws. -/
theorem app_pair {ops : Array Oper} {o : Oper} {a : Act} {w : World} {K : Act → World → Prop} {Q : Exit → Act → World → Prop} {E : Prop}
    (hg : o.guard = none) (s x : Operand) (hop : o.op = Op.call { callee := Callee.builtin Builtin.append, args := #[s, x], argTypes := #[47, 47] })
    (B : Nat) (v : Value) (l : List PE) (hs : a.eval s = v) (hown : OwnP w B v l) (ad : Addr) (e : PE) (hx : a.eval x = .slice (some ad) 1 1) (hc : ∀ j u, (peC e)[j]? = some u → w.cell? (ad.add j) = some u)
    (hl : l.length ≤ 3000000) (hB : B ≤ w.heap.size)
    (hK : ∀ v' w', OwnP w' B v' (l ++ [e]) → w.grownBy w' v.ownBlock → K (a.put o.dst v') w') :
    if Region.wanted o (yielded ops a.tmps) = true then Oper.wp Try.prog o a w K Q else E := by
  obtain ⟨i0, hi, hz0, hz1, hz2⟩ := info_parts Try.infoPair
  refine step_append_own hg s x 47 hop B 46 i0 zeroP 12 176 Try.underlying47 hi hz0 hz1 hz2 rfl (by decide) v l.length (l.flatMap peC) hs hown ad 1 1 (peC e) hx (by rw [peC_len]) hc (peC_one e)
    (by unfold maxLen; omega) (by omega) hB (fun v' w' h1 h2 => hK v' w' ?_ h2)
  unfold OwnP
  rw [List.length_append, List.length_singleton, List.flatMap_append, List.flatMap_singleton]
  exact h1

theorem addr_add (g j : Nat) : (⟨g, 0, none⟩ : Addr).add j = ⟨g, j, none⟩ := by unfold Addr.add; split <;> simp_all

/-- What an append onto the stack leaves as it was. -/
theorem OwnP.rest {wr w' : World} {B : Nat} {v : Value} {l : List PE} {o : Obj} (hO : OwnP wr B v l) (hg : ((wr.alloc o).drew).grownBy w' v.ownBlock) {k : Nat} (hk : k < wr.heap.size) (hne : k < B ∨ ∃ c, wr.heap[k]? = some (.cells c 32 (0, 0))) : w'.heap[k]? = wr.heap[k]? := by
  have h1 : ((wr.alloc o).drew).heap[k]? = wr.heap[k]? := Below.heap_alloc wr o k hk
  refine (hg.block k (by show k < (wr.alloc o).heap.size; rw [World.size_alloc]; omega) (fun e => ?_)).trans h1
  rcases hO.2 with ⟨rfl, _⟩ | ⟨g, cap, cur, rfl, hb, hgb, _⟩
  · cases e
  · have e' : k = g := by simpa [Value.ownBlock] using e
    subst e'
    rcases hne with h | ⟨c, h⟩
    · omega
    · rw [hgb] at h
      simp at h
theorem OwnP.restBelow {w wr w' : World} {B : Nat} {v : Value} {l : List PE} {o : Obj} (hO : OwnP wr B v l) (hg : ((wr.alloc o).drew).grownBy w' v.ownBlock) (hb : Below w.heap.size w wr) (hB : w.heap.size ≤ B) : Below w.heap.size w w' :=
  ⟨hg.os.trans hb.os, hg.tape.trans hb.tape, hg.output.trans hb.output, by have h1 := hg.size; have h2 : ((wr.alloc o).drew).heap.size = wr.heap.size + 1 := World.size_alloc wr o; have h3 := hb.size; omega, fun k hk => (hO.rest hg (Nat.lt_of_lt_of_le hk hb.size) (.inl (by omega))).trans (hb.block k hk)⟩
theorem grown_size {wr w' : World} {o : Obj} {r : Option Nat} (hg : ((wr.alloc o).drew).grownBy w' r) : wr.heap.size ≤ w'.heap.size := by
  have h1 := hg.size; have h2 : ((wr.alloc o).drew).heap.size = wr.heap.size + 1 := World.size_alloc wr o; omega

end Go.Proofs.Ytpabbadngpjgoaa

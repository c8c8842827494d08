/-
  Draws of heaps: what stands while a heap is drawn.
-/
import Derived.Test.YtlmlmdmechhalaaHpDw
import Derived.Test.YtlmlmdmechhalaaMkE
namespace Go.Proofs.Ytlmlmdmechhalaa
open Go.RowKit
open Hp (PP OO propC)

/-- The objects that were made: the box of the answer, the box of the heap, its rows; the blocks of their Props lie ahead of L. -/
structure DSt (w W : World) (S L : Nat) (a : Option Addr) (cap : Nat) (hs : List OO) : Prop where
  src : Src W S
  keep : Keep S w W
  low : S < w.heap.size
  res : W.heap[w.heap.size]? = some (.cells #[.slice none 0 0] 25 (0, 0))
  box : W.heap[w.heap.size + 1]? = some (.cells #[.slice a hs.length cap] 25 (0, 0))
  own : ∃ cs, HOwn W (w.heap.size + 2) (.slice a hs.length cap) hs hs.length cs ∧ (∀ j (hj : j < hs.length) q, (pV hs[j] (cs j)).ownBlock = some q → q < L) ∧ ∀ q, (Value.slice a hs.length cap).ownBlock = some q → q < L
  small : ∀ o ∈ hs, SmallO o ∧ o.ps.length ≤ 3
theorem DSt.keepK {w W W' : World} {S L : Nat} {a : Option Addr} {cap : Nat} {hs : List OO} (h : DSt w W S L a cap hs) (hs' : Src W' S) (hk : Keep S W W') : DSt w W' S L a cap hs := by
  have h0 := h.low
  obtain ⟨cs, ho, hq⟩ := h.own
  exact ⟨hs', h.keep.trans hk, h.low, (hk.block _ (Array.getElem?_eq_some_iff.1 h.res).1 (by omega)).trans h.res, (hk.block _ (Array.getElem?_eq_some_iff.1 h.box).1 (by omega)).trans h.box, ⟨cs, ho.keepK hk (by omega), hq⟩, h.small⟩
theorem DSt.under {w W W' : World} {S L : Nat} {a : Option Addr} {cap : Nat} {hs : List OO} (h : DSt w W S L a cap hs) (hb : Below W.heap.size W W') : DSt w W' S L a cap hs :=
  h.keepK (h.src.below hb) ((Keep.refl S W).ofBelow hb)

/-- Besides, the object that is made: its box P, its Props in a row behind it; and the box V of a value. -/
def RSt (w W : World) (S P V : Nat) (a : Option Addr) (cap : Nat) (hs : List OO) (cls pro : Int) (pa : Option Addr) (pc : Nat) (ps : List PP) (v : Val.VV) : Prop :=
  DSt w W S P a cap hs ∧ W.heap[P]? = some (.cells #[.int .i64 cls, .int .i64 pro, .slice pa ps.length pc] 76 (0, 0)) ∧ POwn W (P + 1) (.slice pa ps.length pc) ps ∧ W.heap[V]? = some (.cells (vC v) 27 (0, 0)) ∧ w.heap.size + 2 ≤ P ∧ P < V
theorem RSt.keepK {w W W' : World} {S P V : Nat} {a : Option Addr} {cap : Nat} {hs : List OO} {cls pro : Int} {pa : Option Addr} {pc : Nat} {ps : List PP} {v : Val.VV} (h : RSt w W S P V a cap hs cls pro pa pc ps v) (hs' : Src W' S) (hk : Keep S W W') : RSt w W' S P V a cap hs cls pro pa pc ps v := by
  obtain ⟨h1, h2, h3, h4, h5, h6⟩ := h
  have h0 := h1.low
  exact ⟨h1.keepK hs' hk, (hk.block _ (Array.getElem?_eq_some_iff.1 h2).1 (by omega)).trans h2, h3.keepK hk (by omega), (hk.block _ (Array.getElem?_eq_some_iff.1 h4).1 (by omega)).trans h4, h5, h6⟩
theorem RSt.under {w W W' : World} {S P V : Nat} {a : Option Addr} {cap : Nat} {hs : List OO} {cls pro : Int} {pa : Option Addr} {pc : Nat} {ps : List PP} {v : Val.VV} (h : RSt w W S P V a cap hs cls pro pa pc ps v) (hb : Below W.heap.size W W') : RSt w W' S P V a cap hs cls pro pa pc ps v :=
  h.keepK (h.1.src.below hb) ((Keep.refl S W).ofBelow hb)
theorem RSt.vcells {w W : World} {S P V : Nat} {a : Option Addr} {cap : Nat} {hs : List OO} {cls pro : Int} {pa : Option Addr} {pc : Nat} {ps : List PP} {vk vn : Int} {vt : ByteArray} (h : RSt w W S P V a cap hs cls pro pa pc ps ⟨vk, vn, vt⟩) :
    W.cell? ⟨V, 0, none⟩ = some (.int .i64 vk) ∧ W.cell? ⟨V, 1, none⟩ = some (.int .i64 vn) ∧ W.cell? ⟨V, 2, none⟩ = some (.string vt) := three_ofF h.2.2.2.1
theorem RSt.base {w W : World} {S P V : Nat} {a : Option Addr} {cap : Nat} {hs : List OO} {cls pro : Int} {pa : Option Addr} {pc : Nat} {ps : List PP} {v : Val.VV} (h : RSt w W S P V a cap hs cls pro pa pc ps v) : P + 1 ≤ W.heap.size := (Array.getElem?_eq_some_iff.1 h.2.1).1
/-- Behind the append of one more Prop. -/
def REnd (w W : World) (S P V : Nat) (a : Option Addr) (cap : Nat) (hs : List OO) (cls pro : Int) (pa : Option Addr) (pc : Nat) (ps : List PP) (pa' : Option Addr) (pc' : Nat) (p : PP) : Prop :=
  DSt w W S P a cap hs ∧ W.heap[P]? = some (.cells #[.int .i64 cls, .int .i64 pro, .slice pa ps.length pc] 76 (0, 0)) ∧ POwn W (P + 1) (.slice pa' (ps ++ [p]).length pc') (ps ++ [p]) ∧ W.heap[V]? = some (.cells (vC p.v) 27 (0, 0)) ∧ w.heap.size + 2 ≤ P ∧ P < V
theorem RSt.grown {w W W' : World} {S P V : Nat} {a : Option Addr} {cap : Nat} {hs : List OO} {cls pro : Int} {pa : Option Addr} {pc : Nat} {ps : List PP} {v : Val.VV} {pa' : Option Addr} {pc' : Nat} {key : ByteArray} {b1 b2 : Bool} (h : RSt w W S P V a cap hs cls pro pa pc ps v)
    (ho : POwn W' (P + 1) (.slice pa' (ps ++ [(⟨key, v, b1, b2⟩ : PP)]).length pc') (ps ++ [(⟨key, v, b1, b2⟩ : PP)])) (hg : W.grownBy W' (Value.slice pa ps.length pc).ownBlock) : REnd w W' S P V a cap hs cls pro pa pc ps pa' pc' ⟨key, v, b1, b2⟩ := by
  obtain ⟨h1, h2, h3, h4, h5, h6⟩ := h
  have hne : ∀ q, q < W.heap.size → (∀ c, W.heap[q]? ≠ some (.cells c 78 (0, 0))) → W'.heap[q]? = W.heap[q]? := fun q hq hn => hg.block q hq (fun e => by
    obtain ⟨_, c, hc⟩ := own_apart h3 e.symm
    exact hn c hc)
  have far : ∀ q, q ≤ P → q < W.heap.size → W'.heap[q]? = W.heap[q]? := fun q hq hl => hg.block q hl (fun e => by
    have := (own_apart h3 e.symm).1
    omega)
  have hP : P < W.heap.size := (Array.getElem?_eq_some_iff.1 h2).1
  have h0 := h1.low
  obtain ⟨cs, ho1, hq1, hq2⟩ := h1.own
  have hS : Src W' S := by
    obtain ⟨a', len, cap', at', mix, sz, cs', k1, k2, k3, k4, k5, k6⟩ := h1.src
    refine ⟨a', len, cap', at', mix, sz, cs', (far S (by omega) (by omega)).trans k1, k2, k3, k4, ?_, k6⟩
    rcases k5 with k | ⟨b, o, e, hc⟩
    · exact .inl k
    · refine .inr ⟨b, o, e, fun i hi => ?_⟩
      have hb : b < S := k6 ⟨b, o, none⟩ e (by omega)
      exact (World.cell?_of_block (w := W) (far b (by omega) (by omega))).trans (hc i hi)
  refine ⟨⟨hS, ⟨hg.os.trans h1.keep.os, hg.tape.trans h1.keep.tape, hg.output.trans h1.keep.output, Nat.le_trans h1.keep.size hg.size, fun q hq hqS => (far q (by omega) (by have := h1.keep.size; omega)).trans (h1.keep.block q hq hqS)⟩, h0, (far _ (by omega) (by omega)).trans h1.res, (far _ (by omega) (by omega)).trans h1.box, ⟨cs, ⟨row_same ho1.1 fun q hq => far q (by have := hq2 q hq; omega) (World.ownsRow.lt ho1.1 q hq).2, fun j hj hjn => row_same (ho1.2.1 j hj hjn) fun q hq => far q (by have := hq1 j hj q hq; omega) (World.ownsRow.lt (ho1.2.1 j hj hjn) q hq).2, ho1.2.2⟩, hq1, hq2⟩, h1.small⟩, (far P (Nat.le_refl _) hP).trans h2, ho, (hne V (Array.getElem?_eq_some_iff.1 h4).1 (fun c e => by
    rw [h4] at e
    injection e with e
    injection e with _ e _
    exact absurd e (by decide))).trans h4, h5, h6⟩
theorem REnd.vcells {w W : World} {S P V : Nat} {a : Option Addr} {cap : Nat} {hs : List OO} {cls pro : Int} {pa : Option Addr} {pc : Nat} {ps : List PP} {pa' : Option Addr} {pc' : Nat} {key : ByteArray} {vk vn : Int} {vt : ByteArray} {b1 b2 : Bool} (h : REnd w W S P V a cap hs cls pro pa pc ps pa' pc' ⟨key, ⟨vk, vn, vt⟩, b1, b2⟩) :
    W.cell? ⟨V, 0, none⟩ = some (.int .i64 vk) ∧ W.cell? ⟨V, 1, none⟩ = some (.int .i64 vn) ∧ W.cell? ⟨V, 2, none⟩ = some (.string vt) := three_ofF h.2.2.2.1
theorem REnd.slot {w W : World} {S P V : Nat} {a : Option Addr} {cap : Nat} {hs : List OO} {cls pro : Int} {pa : Option Addr} {pc : Nat} {ps : List PP} {pa' : Option Addr} {pc' : Nat} {p : PP} (h : REnd w W S P V a cap hs cls pro pa pc ps pa' pc' p) : W.cell? ⟨P, 2, none⟩ = some (.slice pa ps.length pc) ∧ W.frozen? ⟨P, 2, none⟩ = false := ⟨(three_all h.2.1).1.2.2, (three_all h.2.1).2.2.2⟩
theorem REnd.stored {w W : World} {S P V : Nat} {a : Option Addr} {cap : Nat} {hs : List OO} {cls pro : Int} {pa : Option Addr} {pc : Nat} {ps : List PP} {pa' : Option Addr} {pc' : Nat} {p : PP} (h : REnd w W S P V a cap hs cls pro pa pc ps pa' pc' p) : RSt w (W.setCell ⟨P, 2, none⟩ (.slice pa' (ps.length + 1) pc')) S P V a cap hs cls pro pa' pc' (ps ++ [p]) p.v := by
  obtain ⟨h1, h2, h3, h4, h5, h6⟩ := h
  have hl : (ps ++ [p]).length = ps.length + 1 := by simp
  have hP : P < W.heap.size := (Array.getElem?_eq_some_iff.1 h2).1
  have h0 := h1.low
  have far : ∀ q, q ≠ P → (W.setCell ⟨P, 2, none⟩ (.slice pa' (ps.length + 1) pc')).heap[q]? = W.heap[q]? := fun q hq => Below.heap_setCell _ ⟨P, 2, none⟩ _ q hq
  obtain ⟨cs, ho1, hq1, hq2⟩ := h1.own
  have hS : Src (W.setCell ⟨P, 2, none⟩ (.slice pa' (ps.length + 1) pc')) S := by
    obtain ⟨a', len, cap', at', mix, sz, cs', k1, k2, k3, k4, k5, k6⟩ := h1.src
    refine ⟨a', len, cap', at', mix, sz, cs', (far S (by omega)).trans k1, k2, k3, k4, ?_, k6⟩
    rcases k5 with k | ⟨b, o, e, hc⟩
    · exact .inl k
    · refine .inr ⟨b, o, e, fun i hi => ?_⟩
      have hb : b < S := k6 ⟨b, o, none⟩ e (by omega)
      exact (World.cell?_of_block (w := W) (far b (by omega))).trans (hc i hi)
  have hbk := blk_set h2 2 (.slice pa' (ps.length + 1) pc')
  refine ⟨⟨hS, h1.keep.setNew (by omega) 2 _, h0, (far _ (by omega)).trans h1.res, (far _ (by omega)).trans h1.box, ⟨cs, ⟨row_same ho1.1 fun q hq => far q (by have := hq2 q hq; omega), fun j hj hjn => row_same (ho1.2.1 j hj hjn) fun q hq => far q (by have := hq1 j hj q hq; omega), ho1.2.2⟩, hq1, hq2⟩, h1.small⟩, ?_, ?_, (far V (by omega)).trans h4, h5, h6⟩
  · rw [hl]
    exact hbk
  · rw [hl] at h3 ⊢
    have h3' : W.ownsRow (P + 1) 78 6 (.slice pa' (ps.length + 1) pc') (ps ++ [p]).length ((ps ++ [p]).flatMap propL) := h3
    exact row_same h3' fun q hq => far q (by have := (World.ownsRow.lt h3' q hq).1; omega)

theorem src_far {W W' : World} {S : Nat} (h : Src W S) (far : ∀ q, q ≤ S → W'.heap[q]? = W.heap[q]?) : Src W' S := by
  obtain ⟨a', len, cap', at', mix, sz, cs', k1, k2, k3, k4, k5, k6⟩ := h
  refine ⟨a', len, cap', at', mix, sz, cs', (far S (Nat.le_refl _)).trans k1, k2, k3, k4, ?_, k6⟩
  rcases k5 with k | ⟨b, o, e, hc⟩
  · exact .inl k
  · refine .inr ⟨b, o, e, fun i hi => ?_⟩
    have hb : b < S := k6 ⟨b, o, none⟩ e (by omega)
    exact (World.cell?_of_block (w := W) (far b (by omega))).trans (hc i hi)
/-- The object that is made, without a value's box. -/
def OSt (w W : World) (S P : Nat) (a : Option Addr) (cap : Nat) (hs : List OO) (cls pro : Int) (pa : Option Addr) (pc : Nat) (ps : List PP) : Prop :=
  DSt w W S P a cap hs ∧ W.heap[P]? = some (.cells #[.int .i64 cls, .int .i64 pro, .slice pa ps.length pc] 76 (0, 0)) ∧ POwn W (P + 1) (.slice pa ps.length pc) ps ∧ w.heap.size + 2 ≤ P
theorem OSt.keepK {w W W' : World} {S P : Nat} {a : Option Addr} {cap : Nat} {hs : List OO} {cls pro : Int} {pa : Option Addr} {pc : Nat} {ps : List PP} (h : OSt w W S P a cap hs cls pro pa pc ps) (hs' : Src W' S) (hk : Keep S W W') : OSt w W' S P a cap hs cls pro pa pc ps := by
  obtain ⟨h1, h2, h3, h5⟩ := h
  have h0 := h1.low
  exact ⟨h1.keepK hs' hk, (hk.block _ (Array.getElem?_eq_some_iff.1 h2).1 (by omega)).trans h2, h3.keepK hk (by omega), h5⟩
theorem OSt.under {w W W' : World} {S P : Nat} {a : Option Addr} {cap : Nat} {hs : List OO} {cls pro : Int} {pa : Option Addr} {pc : Nat} {ps : List PP} (h : OSt w W S P a cap hs cls pro pa pc ps) (hb : Below W.heap.size W W') : OSt w W' S P a cap hs cls pro pa pc ps :=
  h.keepK (h.1.src.below hb) ((Keep.refl S W).ofBelow hb)
theorem RSt.ost {w W : World} {S P V : Nat} {a : Option Addr} {cap : Nat} {hs : List OO} {cls pro : Int} {pa : Option Addr} {pc : Nat} {ps : List PP} {v : Val.VV} (h : RSt w W S P V a cap hs cls pro pa pc ps v) : OSt w W S P a cap hs cls pro pa pc ps := ⟨h.1, h.2.1, h.2.2.1, h.2.2.2.2.1⟩
theorem OSt.lt {w W : World} {S P : Nat} {a : Option Addr} {cap : Nat} {hs : List OO} {cls pro : Int} {pa : Option Addr} {pc : Nat} {ps : List PP} (h : OSt w W S P a cap hs cls pro pa pc ps) : P < W.heap.size := (Array.getElem?_eq_some_iff.1 h.2.1).1
/-- A value in a new box. -/
theorem OSt.rst {w W : World} {S P : Nat} {a : Option Addr} {cap : Nat} {hs : List OO} {cls pro : Int} {pa : Option Addr} {pc : Nat} {ps : List PP} (h : OSt w W S P a cap hs cls pro pa pc ps) (v : Val.VV) : RSt w (W.alloc (.cells (vC v) 27)) S P W.heap.size a cap hs cls pro pa pc ps v := by
  have k := h.under ((Below.refl _ _).alloc (Nat.le_refl _) (.cells (vC v) 27))
  exact ⟨k.1, k.2.1, k.2.2.1, heap_alloc_new _ _, k.2.2.2, h.lt⟩
theorem rowO_more (h r : List OO) (cs : Nat → OC) (n : Nat) (hn : h.length = n) : rowO (h ++ r) cs n = rowO h cs n := by
  unfold rowO
  have : ∀ l : List Nat, (∀ j ∈ l, j < n) → l.flatMap (fun j => (((h ++ r)[j]?).map fun x => objL x (cs j)).getD [.int .i64 0, .int .i64 0, .slice none 0 0]) = l.flatMap (fun j => ((h[j]?).map fun x => objL x (cs j)).getD [.int .i64 0, .int .i64 0, .slice none 0 0]) := by
    intro l hl
    induction l with
    | nil => rfl
    | cons a t ih =>
      have e : (h ++ r)[a]? = h[a]? := List.getElem?_append_left (by have := hl a (List.mem_cons_self ..); omega)
      rw [List.flatMap_cons, List.flatMap_cons, ih fun j hj => hl j (List.mem_cons_of_mem _ hj), e]
  exact this _ fun j hj => List.mem_range.1 hj
/-- The object that was made is one more of the heap's. -/
theorem OSt.appended {w W W' : World} {S P : Nat} {a : Option Addr} {cap : Nat} {hs : List OO} {cls pro : Int} {pa : Option Addr} {pc : Nat} {ps : List PP} {cs : Nat → OC} {a' : Option Addr} {cap' : Nat} (h : OSt w W S P a cap hs cls pro pa pc ps) (hsm : SmallO ⟨cls, pro, ps⟩ ∧ ps.length ≤ 3)
    (ho1 : HOwn W (w.heap.size + 2) (.slice a hs.length cap) hs hs.length cs) (hq1 : ∀ j (hj : j < hs.length) q, (pV hs[j] (cs j)).ownBlock = some q → q < P)
    (hown : W'.ownsRow (w.heap.size + 2) 76 3 (.slice a' (hs.length + 1) cap') (hs.length + 1) (rowO hs cs hs.length ++ objL ⟨cls, pro, ps⟩ ⟨pa, pc⟩)) (hg : W.grownBy W' (Value.slice a hs.length cap).ownBlock) :
    W'.cell? ⟨w.heap.size + 1, 0, none⟩ = some (.slice a hs.length cap) ∧ W'.frozen? ⟨w.heap.size + 1, 0, none⟩ = false ∧ DSt w (W'.setCell ⟨w.heap.size + 1, 0, none⟩ (.slice a' (hs.length + 1) cap')) S (W'.setCell ⟨w.heap.size + 1, 0, none⟩ (.slice a' (hs.length + 1) cap')).heap.size a' cap' (hs ++ [⟨cls, pro, ps⟩]) := by
  obtain ⟨h1, h2, h3, h5⟩ := h
  have h0 := h1.low
  have hl : (hs ++ [(⟨cls, pro, ps⟩ : OO)]).length = hs.length + 1 := by simp
  have far : ∀ q, q < w.heap.size + 2 → W'.heap[q]? = W.heap[q]? := fun q hq => hg.block q (by have := (Array.getElem?_eq_some_iff.1 h1.box).1; omega) (fun e => by have := (own_apart ho1.1 e.symm).1; omega)
  have hbox := (far _ (by omega)).trans h1.box
  have k1 := ho1.more rfl [(⟨cls, pro, ps⟩ : OO)]
  have hx : (hs ++ [(⟨cls, pro, ps⟩ : OO)])[hs.length]'(by omega) = ⟨cls, pro, ps⟩ := by simp
  have k2 := HOwn.snoc (W := P + 1) (v' := .slice a' (hs.length + 1) cap') (c := ⟨pa, pc⟩) k1 (by omega) (by rw [hx]; exact h3) (by omega) (fun j hj hjn q hq => by
    have e : (hs ++ [(⟨cls, pro, ps⟩ : OO)])[j] = hs[j] := List.getElem_append_left hjn
    rw [e] at hq
    have := hq1 j hjn q hq
    omega) hg (by rw [hx, rowO_more hs _ cs hs.length rfl]; exact hown)
  have k3 := k2.setBox hbox (.slice a' (hs.length + 1) cap')
  have far2 : ∀ q, q ≠ w.heap.size + 1 → (W'.setCell ⟨w.heap.size + 1, 0, none⟩ (.slice a' (hs.length + 1) cap')).heap[q]? = W'.heap[q]? := fun q hq => Below.heap_setCell _ ⟨w.heap.size + 1, 0, none⟩ _ q hq
  obtain ⟨z0, u0⟩ := one_of hbox
  refine ⟨z0, u0, ⟨src_far h1.src fun q hq => (far2 q (by omega)).trans (far q (by omega)), ?_, h0, (far2 _ (by omega)).trans ((far _ (by omega)).trans h1.res), by rw [hl]; exact blk_set hbox 0 _, ⟨_, by rw [hl]; exact k3, fun j hj q hq => (World.ownsRow.lt (k3.2.1 j hj (by omega)) q hq).2, fun q hq => (World.ownsRow.lt k3.1 q (by rw [hl] at hq; exact hq)).2⟩, fun o ho => ?_⟩⟩
  · have hk : Keep S w W' := ⟨hg.os.trans h1.keep.os, hg.tape.trans h1.keep.tape, hg.output.trans h1.keep.output, Nat.le_trans h1.keep.size hg.size, fun q hq hqS => (far q (by omega)).trans (h1.keep.block q hq hqS)⟩
    exact hk.setNew (by omega) 0 _
  · rcases List.mem_append.1 ho with ho | ho
    · exact h1.small o ho
    · rw [List.mem_singleton] at ho
      subst ho
      exact hsm

/-- The Props' rows lie as they can be appended to. -/
def CapO (o : OO) (c : OC) : Prop := o.ps.length ≤ c.pc ∧ ((c.pa = none ∧ o.ps = []) ∨ ∃ pb po, c.pa = some ⟨pb, po, none⟩)
def CapH (h : List OO) (cs : Nat → OC) : Prop := ∀ j (hj : j < h.length), CapO h[j] (cs j)
theorem POwn.capS {W : World} {B : Nat} {a : Option Addr} {n cap : Nat} {ps : List PP} (h : POwn W B (.slice a n cap) ps) (o' : OO) (e : o'.ps = ps) : CapO o' ⟨a, cap⟩ := by
  unfold CapO
  rw [e]
  rcases h.2 with ⟨e1, hn⟩ | ⟨g, cap', cur, e1, _, _, hc, _⟩
  · injection e1 with e1 _ _
    exact ⟨by omega, .inl ⟨e1, List.length_eq_zero_iff.1 hn⟩⟩
  · injection e1 with e1 _ e3
    exact ⟨by show _ ≤ cap; omega, .inr ⟨g, 0, e1⟩⟩
theorem POwn.capO {W : World} {B : Nat} {o : OO} {c : OC} (h : POwn W B (pV o c) o.ps) (o' : OO) (e : o'.ps = o.ps) : CapO o' c := POwn.capS (a := c.pa) (n := o.ps.length) (cap := c.pc) h o' e

/-- The heap that was drawn, told. -/
theorem DSt.fin {w W : World} {S L : Nat} {a : Option Addr} {cap : Nat} {hs : List OO} (h : DSt w W S L a cap hs) (hl : 1 ≤ hs.length ∧ hs.length ≤ 4) :
    W.cell? ⟨w.heap.size + 1, 0, none⟩ = some (.slice a hs.length cap) ∧ W.cell? ⟨w.heap.size, 0, none⟩ = some (.slice none 0 0) ∧ W.frozen? ⟨w.heap.size, 0, none⟩ = false ∧
    ((W.setCell ⟨w.heap.size, 0, none⟩ (.slice a hs.length cap)).cell? ⟨w.heap.size, 0, none⟩ = some (.slice a hs.length cap) ∧ SmallD hs ∧ Src (W.setCell ⟨w.heap.size, 0, none⟩ (.slice a hs.length cap)) S ∧ Keep S w (W.setCell ⟨w.heap.size, 0, none⟩ (.slice a hs.length cap)) ∧ ∃ cs, HIn (W.setCell ⟨w.heap.size, 0, none⟩ (.slice a hs.length cap)) w.heap.size a hs cs ∧ CapH hs cs) := by
  have h0 := h.low
  obtain ⟨cs, ho, _, _⟩ := h.own
  have far2 : ∀ q, q ≠ w.heap.size → (W.setCell ⟨w.heap.size, 0, none⟩ (.slice a hs.length cap)).heap[q]? = W.heap[q]? := fun q hq => Below.heap_setCell _ ⟨w.heap.size, 0, none⟩ _ q hq
  refine ⟨(one_of h.box).1, (one_of h.res).1, (one_of h.res).2, (one_of (blk_set h.res 0 (.slice a hs.length cap))).1, ⟨hl, fun o ho => (h.small o ho).1⟩, src_far h.src fun q hq => far2 q (by omega), h.keep.setNew (Nat.le_refl _) 0 _, cs, ?_, fun j hj => POwn.capO (ho.2.1 j hj hj) _ rfl⟩
  exact ((ho.setBox h.res (.slice a hs.length cap)).low (by omega : w.heap.size ≤ w.heap.size + 2)).hIn

/-- A heap that was drawn, as it can be read: its boxes, and its rows, whatever they share. -/
structure Spo (w W : World) (S : Nat) (a : Option Addr) (cap : Nat) (hs : List OO) : Prop where
  src : Src W S
  keep : Keep S w W
  low : S < w.heap.size
  res : W.heap[w.heap.size]? = some (.cells #[.slice none 0 0] 25 (0, 0))
  box : W.heap[w.heap.size + 1]? = some (.cells #[.slice a hs.length cap] 25 (0, 0))
  hin : ∃ cs, HIn W (w.heap.size + 2) a hs cs ∧ CapH hs cs
  small : ∀ o ∈ hs, SmallO o
theorem PsIn.same {W W' : World} {B : Nat} {a : Option Addr} {ps : List PP} (h : PsIn W B a ps) (hb : ∀ b o, a = some ⟨b, o, none⟩ → W'.heap[b]? = W.heap[b]?) : PsIn W' B a ps := by
  rcases h with h | ⟨b, o, e, hB, hc⟩
  · exact .inl h
  · refine .inr ⟨b, o, e, hB, fun i hi => ?_⟩
    have hs := hb b o e
    obtain ⟨c0, c1, c2, c3, c4, c5⟩ := hc i hi
    have t := fun x => World.cell?_of_block (w := W) (w' := W') (a := ⟨b, x, none⟩) hs
    exact ⟨(t _).trans c0, (t _).trans c1, (t _).trans c2, (t _).trans c3, (t _).trans c4, (t _).trans c5⟩
theorem Spo.fin {w W : World} {S : Nat} {a : Option Addr} {cap : Nat} {hs : List OO} (h : Spo w W S a cap hs) (hl : 1 ≤ hs.length ∧ hs.length ≤ 4) :
    W.cell? ⟨w.heap.size + 1, 0, none⟩ = some (.slice a hs.length cap) ∧ W.cell? ⟨w.heap.size, 0, none⟩ = some (.slice none 0 0) ∧ W.frozen? ⟨w.heap.size, 0, none⟩ = false ∧
    ((W.setCell ⟨w.heap.size, 0, none⟩ (.slice a hs.length cap)).cell? ⟨w.heap.size, 0, none⟩ = some (.slice a hs.length cap) ∧ SmallD hs ∧ Src (W.setCell ⟨w.heap.size, 0, none⟩ (.slice a hs.length cap)) S ∧ Keep S w (W.setCell ⟨w.heap.size, 0, none⟩ (.slice a hs.length cap)) ∧ ∃ cs, HIn (W.setCell ⟨w.heap.size, 0, none⟩ (.slice a hs.length cap)) w.heap.size a hs cs ∧ CapH hs cs) := by
  have h0 := h.low
  obtain ⟨cs, ⟨ho, hp⟩, hcp⟩ := h.hin
  have far2 : ∀ q, q ≠ w.heap.size → (W.setCell ⟨w.heap.size, 0, none⟩ (.slice a hs.length cap)).heap[q]? = W.heap[q]? := fun q hq => Below.heap_setCell _ ⟨w.heap.size, 0, none⟩ _ q hq
  refine ⟨(one_of h.box).1, (one_of h.res).1, (one_of h.res).2, (one_of (blk_set h.res 0 (.slice a hs.length cap))).1, ⟨hl, h.small⟩, src_far h.src fun q hq => far2 q (by omega), h.keep.setNew (Nat.le_refl _) 0 _, cs, ⟨?_, fun i hi => ?_⟩, hcp⟩
  · rcases ho with ho | ⟨b, o, e, hB, hc⟩
    · exact .inl ho
    · refine .inr ⟨b, o, e, by omega, fun i hi => ?_⟩
      obtain ⟨c0, c1, c2⟩ := hc i hi
      have t := fun x => World.cell?_of_block (w := W) (a := ⟨b, x, none⟩) (far2 b (by omega))
      exact ⟨(t _).trans c0, (t _).trans c1, (t _).trans c2⟩
  · rcases hp i hi with k | ⟨b, o, e, hB, hc⟩
    · exact .inl k
    · have k : PsIn W (w.heap.size + 2) (cs i).pa hs[i].ps := .inr ⟨b, o, e, hB, hc⟩
      have k2 := k.same (W' := W.setCell ⟨w.heap.size, 0, none⟩ (.slice a hs.length cap)) (fun b' o' e' => far2 b' (by
        rw [e] at e'
        injection e' with e'
        injection e' with e1 _ _
        omega))
      rcases k2 with k2 | ⟨b2, o2, e2, hB2, hc2⟩
      · exact .inl k2
      · exact .inr ⟨b2, o2, e2, by omega, hc2⟩
/-- One object turned: a cell of it stored, its Props perhaps in another row. -/
theorem DSt.spoil {w W W1 : World} {S L g : Nat} {cap : Nat} {hs : List OO} (h : DSt w W S L (some ⟨g, 0, none⟩) cap hs) {kk : Nat} (hk : kk < hs.length) {cs : Nat → OC} (ho : HOwn W (w.heap.size + 2) (.slice (some ⟨g, 0, none⟩) hs.length cap) hs hs.length cs)
    (hg : W.grownBy W1 (pV hs[kk] (cs kk)).ownBlock) (x' : OO) (c' : OC) (hsm : SmallO x') (hp : PsIn W1 (w.heap.size + 2) c'.pa x'.ps) (hcp : CapO x' c') (hpg : ∀ b o, c'.pa = some ⟨b, o, none⟩ → x'.ps ≠ [] → b ≠ g) (o : Nat) (ho3 : o < 3) (u : Value) (hu : (objL x' c')[o]? = some u) (hoth : ∀ t, t < 3 → t ≠ o → (objL x' c')[t]? = (objL hs[kk] (cs kk))[t]?) :
    (∃ v, W1.cell? ⟨g, kk * 3 + o, none⟩ = some v) ∧ W1.frozen? ⟨g, kk * 3 + o, none⟩ = false ∧ Spo w (W1.setCell ⟨g, kk * 3 + o, none⟩ u) S (some ⟨g, 0, none⟩) cap (hs.set kk x') := by
  have h0 := h.low
  have hgr := World.ownsRow.lt ho.1 g rfl
  obtain ⟨_, cg, hcg⟩ := own_apart ho.1 (k := g) rfl
  have hgt : ∀ {B v n xs}, W.ownsRow B 78 6 v n xs → ∀ q, v.ownBlock = some q → q ≠ g := fun hr q hq e => by
    obtain ⟨_, c, hc⟩ := own_apart hr hq
    rw [e, hcg] at hc
    injection hc with hc
    injection hc with _ hc _
    exact absurd hc (by decide)
  have hkk := ho.2.1 kk hk hk
  have far1 : ∀ q, q < W.heap.size → (pV hs[kk] (cs kk)).ownBlock ≠ some q → W1.heap[q]? = W.heap[q]? := fun q hq hne => hg.block q hq (fun e => hne e.symm)
  have lowf : ∀ q, q < w.heap.size + 2 → W1.heap[q]? = W.heap[q]? := fun q hq => far1 q (by have := (Array.getElem?_eq_some_iff.1 h.box).1; omega) (fun e => by have := (World.ownsRow.lt hkk q e).1; omega)
  have hg1 := far1 g hgr.2 (fun e => hgt hkk g e rfl)
  have hcell : ∀ j (hj : j < hs.length) t, t < 3 → W1.cell? ⟨g, j * 3 + t, none⟩ = (objL hs[j] (cs j))[t]? := fun j hj t ht => by
    rw [World.cell?_of_block (w := W) hg1, World.ownsRow.cellAt ho.1 (j * 3 + t) (by omega), rowO_at hs cs hs.length j hj hj t ht]
  have hfz : W1.frozen? ⟨g, kk * 3 + o, none⟩ = false := by
    have : W1.heap[g]? = some (.cells cg 76 (0, 0)) := hg1.trans hcg
    simp [World.frozen?, this]
  have hex : ∃ v, W1.cell? ⟨g, kk * 3 + o, none⟩ = some v := by
    rw [hcell kk hk o ho3]
    exact ⟨_, List.getElem?_eq_getElem (by simp [objL]; omega)⟩
  have far2 : ∀ q, q ≠ g → (W1.setCell ⟨g, kk * 3 + o, none⟩ u).heap[q]? = W1.heap[q]? := fun q hq => Below.heap_setCell _ ⟨g, kk * 3 + o, none⟩ _ q hq
  refine ⟨hex, hfz, ⟨src_far h.src fun q hq => (far2 q (by omega)).trans (lowf q (by omega)), ?_, h0, (far2 _ (by omega)).trans ((lowf _ (by omega)).trans h.res), by rw [List.length_set]; exact (far2 _ (by omega)).trans ((lowf _ (by omega)).trans h.box), ⟨fun j => if j = kk then c' else cs j, ⟨?_, fun j hj => ?_⟩, fun j hj => ?_⟩, fun y hy => ?_⟩⟩
  · have hk1 : Keep S w W1 := ⟨hg.os.trans h.keep.os, hg.tape.trans h.keep.tape, hg.output.trans h.keep.output, Nat.le_trans h.keep.size hg.size, fun q hq hqS => (lowf q (by omega)).trans (h.keep.block q hq hqS)⟩
    exact hk1.setNew (by omega) _ _
  · refine .inr ⟨g, 0, rfl, hgr.1, fun j hj => ?_⟩
    have hj' : j < hs.length := by rw [List.length_set] at hj; exact hj
    have hc2 : ∀ t, t < 3 → (W1.setCell ⟨g, kk * 3 + o, none⟩ u).cell? ⟨g, j * 3 + t, none⟩ = (objL (hs.set kk x')[j] (if j = kk then c' else cs j))[t]? := fun t ht => by
      by_cases e : j * 3 + t = kk * 3 + o
      · have e1 : j = kk := by omega
        have e2 : t = o := by omega
        subst e1 e2
        rw [List.getElem_set_self, if_pos rfl, hu]
        obtain ⟨v, hv⟩ := hex
        exact World.cell?_setCell_same' _ _ _ (by rw [hv]; rfl)
      · have hne : (W1.setCell ⟨g, kk * 3 + o, none⟩ u).cell? ⟨g, j * 3 + t, none⟩ = W1.cell? ⟨g, j * 3 + t, none⟩ := World.cell?_setCell_other _ _ _ _ (fun e2 => e (by injection e2 with _ e2 _; exact e2.symm))
        rw [hne, hcell j hj' t ht]
        by_cases e1 : j = kk
        · subst e1
          rw [List.getElem_set_self, if_pos rfl, hoth t ht (by omega)]
        · rw [List.getElem_set_ne (fun e2 => e1 e2.symm), if_neg e1]
    rw [Nat.zero_add]
    exact ⟨hc2 0 (by omega), hc2 1 (by omega), hc2 2 (by omega)⟩
  · have hj' : j < hs.length := by rw [List.length_set] at hj; exact hj
    by_cases e : j = kk
    · subst e
      simp only [if_true, List.getElem_set_self]
      by_cases he : x'.ps = []
      · exact .inl he
      · exact hp.same fun b o' e' => far2 b (hpg b o' e' he)
    · simp only [if_neg e, List.getElem_set_ne (fun e2 => e e2.symm)]
      have hr := ho.2.1 j hj' hj'
      refine hr.psIn.same fun b o' e' => ?_
      have hob : (pV hs[j] (cs j)).ownBlock = some b := by unfold pV; rw [e']; rfl
      refine (far2 b (hgt hr b hob)).trans (far1 b (World.ownsRow.lt hr b hob).2 (fun e2 => ?_))
      rcases Nat.lt_or_gt_of_ne e with e | e
      · exact ho.2.2 j kk hj' hk e hk b hob e2
      · exact ho.2.2 kk j hk hj' e hj' b e2 hob
  · have hj' : j < hs.length := by rw [List.length_set] at hj; exact hj
    by_cases e : j = kk
    · subst e
      simp only [if_true, List.getElem_set_self]
      exact hcp
    · simp only [if_neg e, List.getElem_set_ne (fun e2 => e e2.symm)]
      exact POwn.capO (ho.2.1 j hj' hj') _ rfl
  · rcases List.mem_or_eq_of_mem_set hy with hy | rfl
    · exact (h.small y hy).1
    · exact hsm

theorem Spo.drew {w W : World} {S : Nat} {a : Option Addr} {cap : Nat} {hs : List OO} (h : Spo w W S a cap hs) : Spo w W.drew S a cap hs := by
  obtain ⟨cs, k, hcp⟩ := h.hin
  exact ⟨h.src.below (Below.refl _ _).drew, h.keep.drew, h.low, h.res, h.box, ⟨cs, k.under (Below.refl _ _).drew, hcp⟩, h.small⟩
theorem ints_at {W : World} {G : Nat} {xs : List Int} {t : TypeId} (h : W.heap[G]? = some (.cells (xs.map (Value.int .i64)).toArray t (0, 0))) {r : Nat} (hr : r < xs.length) : ∃ x : Int, W.cell? ⟨G, r, none⟩ = some (.int .i64 x) := by
  refine ⟨xs[r], ?_⟩
  simp [World.cell?, h, hr]

end Go.Proofs.Ytlmlmdmechhalaa

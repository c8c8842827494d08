/-
  The walks of the specification's source of draws, at a seat of values.
-/
import Derived.Test.YtlmlmdmechhalaaValB
import Derived.Deep.QuietTactic
import Derived.BigQuiet
import Derived.Deep.OwnRows
namespace Go.Proofs.Ytlmlmdmechhalaa
open Go.RowKit


/-- Of what was there, block L alone may have turned. -/
structure Keep (L : Nat) (w w' : World) : Prop where
  os : w'.os = w.os
  tape : w'.tape = w.tape
  output : w'.output = w.output
  size : w.heap.size ≤ w'.heap.size
  block : ∀ k, k < w.heap.size → k ≠ L → w'.heap[k]? = w.heap[k]?

theorem Keep.refl (L : Nat) (w : World) : Keep L w w := ⟨rfl, rfl, rfl, Nat.le_refl _, fun _ _ _ => rfl⟩
theorem Keep.trans {L : Nat} {a b c : World} (h : Keep L a b) (k : Keep L b c) : Keep L a c :=
  ⟨k.os.trans h.os, k.tape.trans h.tape, k.output.trans h.output, Nat.le_trans h.size k.size, fun i hi hn => (k.block i (Nat.lt_of_lt_of_le hi h.size) hn).trans (h.block i hi hn)⟩
theorem Keep.drew {L : Nat} {a w : World} (h : Keep L a w) : Keep L a w.drew := ⟨h.os, h.tape, h.output, h.size, h.block⟩
theorem Keep.alloc {L : Nat} {a w : World} (h : Keep L a w) (o : Obj) : Keep L a (w.alloc o) :=
  h.trans ⟨rfl, rfl, rfl, by simp, fun k hk _ => Below.heap_alloc _ _ _ hk⟩
theorem Keep.set {L : Nat} {a w : World} (h : Keep L a w) (o : Nat) (u : Value) : Keep L a (w.setCell ⟨L, o, none⟩ u) :=
  h.trans ⟨rfl, rfl, rfl, by simp [World.setCell], fun k _ hn => Below.heap_setCell _ _ _ _ hn⟩
theorem Keep.setNew {L : Nat} {a w : World} (h : Keep L a w) {b : Nat} (hb : a.heap.size ≤ b) (o : Nat) (u : Value) : Keep L a (w.setCell ⟨b, o, none⟩ u) :=
  ⟨h.os, h.tape, h.output, by simpa [World.setCell] using h.size, fun k hk hn => (Below.heap_setCell _ _ _ _ (by show k ≠ b; omega)).trans (h.block k hk hn)⟩
theorem Keep.below {L B : Nat} {a w w' : World} (h : Keep L a w) (hb : Below B w w') (hB : a.heap.size ≤ B) : Keep L a w' :=
  ⟨hb.os.trans h.os, hb.tape.trans h.tape, hb.output.trans h.output, Nat.le_trans h.size hb.size, fun k hk hn => (hb.block k (Nat.lt_of_lt_of_le hk hB)).trans (h.block k hk hn)⟩
theorem drewN_heap (w : World) (n : Nat) : (w.drewN n).heap = w.heap := by
  induction n with
  | zero => rfl
  | succ n ih => exact ih
theorem Keep.drewN {L : Nat} {a w : World} (h : Keep L a w) (n : Nat) : Keep L a (w.drewN n) := by
  induction n with
  | zero => exact h
  | succ n ih => exact ih.drew



/-- A row of bytes. -/
def BytesIn (w : World) (a : Option Addr) (cs : List UInt8) : Prop :=
  cs = [] ∨ ∃ b o, a = some ⟨b, o, none⟩ ∧ ∀ i (h : i < cs.length), w.cell? ⟨b, o + i, none⟩ = some (.int .u8 (cs[i].toNat : Int))

/-- The source of draws, in block S. -/
def SrcAt (w : World) (S : Nat) (a : Option Addr) (len cap at' : Nat) (mix sz : Int) : Prop :=
  w.heap[S]? = some (.cells #[.slice a len cap, .int .i64 at', .int .u64 mix, .int .i64 sz] 98 (0, 0))
theorem SrcAt.cells {w : World} {S : Nat} {a : Option Addr} {len cap at' : Nat} {mix sz : Int} (h : SrcAt w S a len cap at' mix sz) :
    (w.cell? ⟨S, 0, none⟩ = some (.slice a len cap) ∧ w.cell? ⟨S, 1, none⟩ = some (.int .i64 at') ∧ w.cell? ⟨S, 2, none⟩ = some (.int .u64 mix) ∧ w.cell? ⟨S, 3, none⟩ = some (.int .i64 sz)) ∧
    (w.frozen? ⟨S, 0, none⟩ = false ∧ w.frozen? ⟨S, 1, none⟩ = false ∧ w.frozen? ⟨S, 2, none⟩ = false ∧ w.frozen? ⟨S, 3, none⟩ = false) := by
  unfold SrcAt at h
  simp [World.cell?, World.frozen?, h]
theorem SrcAt.setAt {w : World} {S : Nat} {a : Option Addr} {len cap at' : Nat} {mix sz : Int} (h : SrcAt w S a len cap at' mix sz) (n : Nat) : SrcAt (w.setCell ⟨S, 1, none⟩ (.int .i64 n)) S a len cap n mix sz := by
  unfold SrcAt at h ⊢
  simp [World.setCell, Array.getElem?_modify, h]
theorem SrcAt.setMix {w : World} {S : Nat} {a : Option Addr} {len cap at' : Nat} {mix sz : Int} (h : SrcAt w S a len cap at' mix sz) (n : Int) : SrcAt (w.setCell ⟨S, 2, none⟩ (.int .u64 n)) S a len cap at' n sz := by
  unfold SrcAt at h ⊢
  simp [World.setCell, Array.getElem?_modify, h]
theorem SrcAt.setSz {w : World} {S : Nat} {a : Option Addr} {len cap at' : Nat} {mix sz : Int} (h : SrcAt w S a len cap at' mix sz) (n : Int) : SrcAt (w.setCell ⟨S, 3, none⟩ (.int .i64 n)) S a len cap at' mix n := by
  unfold SrcAt at h ⊢
  simp [World.setCell, Array.getElem?_modify, h]
theorem SrcAt.drewN {w : World} {S : Nat} {a : Option Addr} {len cap at' : Nat} {mix sz : Int} (h : SrcAt w S a len cap at' mix sz) (n : Nat) : SrcAt (w.drewN n) S a len cap at' mix sz := by
  unfold SrcAt at h ⊢; rw [drewN_heap]; exact h

/-- What is kept while one number is drawn. -/
structure SSt (w W : World) (S : Nat) (a : Option Addr) (len cap at' : Nat) (mix sz : Int) : Prop where
  src : SrcAt W S a len cap at' mix sz
  keep : Keep S w W
theorem SSt.drewN {w W : World} {S : Nat} {a : Option Addr} {len cap at' : Nat} {mix sz : Int} (h : SSt w W S a len cap at' mix sz) (n : Nat) : SSt w (W.drewN n) S a len cap at' mix sz := ⟨h.src.drewN n, h.keep.drewN n⟩
theorem SSt.setAt {w W : World} {S : Nat} {a : Option Addr} {len cap at' : Nat} {mix sz : Int} (h : SSt w W S a len cap at' mix sz) (n : Nat) : SSt w (W.setCell ⟨S, 1, none⟩ (.int .i64 n)) S a len cap n mix sz := ⟨h.src.setAt n, h.keep.set _ _⟩
theorem SSt.setMix {w W : World} {S : Nat} {a : Option Addr} {len cap at' : Nat} {mix sz : Int} (h : SSt w W S a len cap at' mix sz) (n : Int) : SSt w ((W.setCell ⟨S, 2, none⟩ (.int .u64 n)).drew) S a len cap at' n sz := ⟨h.src.setMix n, (h.keep.set _ _).drew⟩
theorem SSt.some {w W : World} {S : Nat} {a : Option Addr} {len cap at' : Nat} {mix sz : Int} (h : SSt w W S a len cap at' mix sz) : ∃ m, SSt w W S a len cap at' m sz := ⟨_, h⟩

theorem draw_val (X : Int) (most : Nat) (hm : 2 ≤ most) (hm2 : most ≤ 1000000) : ∃ r : Nat, r < most ∧ wrap64 ((IntKind.u64.wrap X).tmod (most : Int)) = (r : Int) := by
  have h1 : 0 ≤ IntKind.u64.wrap X := by
    simp only [IntKind.wrap]
    first | exact Int.emod_nonneg _ (by decide) | omega | (split <;> omega)
  generalize IntKind.u64.wrap X = Y at *
  have h2 : 0 ≤ Y.tmod (most : Int) := Int.tmod_nonneg _ h1
  have h3 : Y.tmod (most : Int) < most := Int.tmod_lt_of_pos _ (by omega)
  generalize Y.tmod (most : Int) = Z at *
  refine ⟨Z.toNat, by omega, ?_⟩
  unfold wrap64
  omega

set_option maxHeartbeats 2000000 in
theorem sN (S : Nat) (a : Option Addr) (len cap at' : Nat) (mix sz : Int) (cs : List UInt8) (most : Nat) (w : World) (hm : 2 ≤ most) (hm2 : most ≤ 1000000) (hS : SrcAt w S a len cap at' mix sz) (hat : at' ≤ len) (hlen : cs.length = len) (hlb : len ≤ 1048576) (hB : BytesIn w a cs) :
    Calls Try.prog 64 #[.pointer (some ⟨S, 0, none⟩), .int .i64 most] w fun e w' => ∃ (r at2 : Nat) (mix2 : Int), e = .returned (.int .i64 r) ∧ r < most ∧ SrcAt w' S a len cap at2 mix2 sz ∧ at2 ≤ len ∧ Keep S w w' := by
  have hm' : ¬ (most : Int) ≤ 1 := by omega
  by_cases hlt : at' < len
  · obtain ⟨⟨c0, c1, c2, c3⟩, f0, f1, f2, f3⟩ := hS.cells
    obtain ⟨b, o, rfl, hc⟩ := hB.resolve_left (fun e => by simp [e] at hlen; omega)
    have hb := hc at' (by omega)
    have hlt' : (at' : Int) < (len : Int) := by omega
    have st : SSt w w S (some ⟨b, o, none⟩) len cap at' mix sz := ⟨hS, Keep.refl _ _⟩
    clear hc hS hB
    generalize cs[at'].toNat = ch at *
    go_enter Try.func64, Try.ntmps64
    go_wp2_with fail
    go_quiet (fail)
    have st1 := st.drewN nq
    clear st c0 c1 c2 c3 f0 f1 f2 f3
    have hb1 : (w.drewN nq).cell? ⟨b, o + at', none⟩ = some (.int .u8 (ch : Int)) := by rw [← hb]; exact World.cell?_of_block (w := w) (by rw [drewN_heap])
    clear hb
    generalize w.drewN nq = W1 at st1 hb1 ⊢
    obtain ⟨⟨c0, c1, c2, c3⟩, f0, f1, f2, f3⟩ := st1.src.cells
    go_wp2_with fail
    go_quiet (fail)
    have st2 := st1.drewN nq
    clear st1 c0 c1 c2 c3 f0 f1 f2 f3 hb1
    generalize W1.drewN nq = W2 at st2 ⊢
    obtain ⟨⟨c0, c1, c2, c3⟩, f0, f1, f2, f3⟩ := st2.src.cells
    go_wp2_with fail
    have st3 := st2.setAt (at' + 1)
    rw [show ((at' + 1 : Nat) : Int) = (at' : Int) + 1 from by omega] at st3
    clear st2 c0 c1 c2 c3 f0 f1 f2 f3
    generalize W2.setCell ⟨S, 1, none⟩ (.int .i64 ((at' : Int) + 1)) = W3 at *
    obtain ⟨⟨c0, c1, c2, c3⟩, f0, f1, f2, f3⟩ := st3.src.cells
    go_region
    generalize bits BinOp.xor IntKind.u64 mix _ = m4
    have st4 := st3.setMix m4
    clear st3 c0 c1 c2 c3 f0 f1 f2 f3
    generalize (W3.setCell ⟨S, 2, none⟩ (.int .u64 m4)).drew = W4 at *
    obtain ⟨⟨c0, c1, c2, c3⟩, f0, f1, f2, f3⟩ := st4.src.cells
    go_wp2_with fail
    go_region
    generalize bits BinOp.xor IntKind.u64 m4 _ = m5
    have st5 := st4.setMix m5
    clear st4 c0 c1 c2 c3 f0 f1 f2 f3
    generalize (W4.setCell ⟨S, 2, none⟩ (.int .u64 m5)).drew = W5 at *
    obtain ⟨⟨c0, c1, c2, c3⟩, f0, f1, f2, f3⟩ := st5.src.cells
    go_wp2_with fail
    go_region
    generalize bits BinOp.xor IntKind.u64 m5 _ = m6
    have st6 := st5.setMix m6
    clear st5 c0 c1 c2 c3 f0 f1 f2 f3
    generalize (W5.setCell ⟨S, 2, none⟩ (.int .u64 m6)).drew = W6 at *
    obtain ⟨⟨c0, c1, c2, c3⟩, f0, f1, f2, f3⟩ := st6.src.cells
    go_wp2_with fail
    obtain ⟨r, hr, er⟩ := draw_val (IntKind.u64.wrap (ch : Int) + m6 / 1048576) most hm hm2
    rw [er]
    go_ret
    exact ⟨r, at' + 1, m6, rfl, hr, st6.src, by omega, st6.keep⟩
  · obtain ⟨⟨c0, c1, c2, c3⟩, f0, f1, f2, f3⟩ := hS.cells
    have hlt' : ¬ (at' : Int) < (len : Int) := by omega
    have hlt'' : decide ((at' : Int) < (len : Int)) = false := decide_eq_false hlt'
    have st : SSt w w S a len cap at' mix sz := ⟨hS, Keep.refl _ _⟩
    clear hS hB
    go_enter Try.func64, Try.ntmps64
    go_wp2_with fail
    go_quiet (fail)
    have st3 := st.drewN nq
    clear st c0 c1 c2 c3 f0 f1 f2 f3
    generalize w.drewN nq = W3 at st3 ⊢
    obtain ⟨⟨c0, c1, c2, c3⟩, f0, f1, f2, f3⟩ := st3.src.cells
    go_wp2_with fail
    go_region
    generalize bits BinOp.xor IntKind.u64 mix _ = m4
    have st4 := st3.setMix m4
    clear st3 c0 c1 c2 c3 f0 f1 f2 f3
    generalize (W3.setCell ⟨S, 2, none⟩ (.int .u64 m4)).drew = W4 at *
    obtain ⟨⟨c0, c1, c2, c3⟩, f0, f1, f2, f3⟩ := st4.src.cells
    go_wp2_with fail
    go_region
    generalize bits BinOp.xor IntKind.u64 m4 _ = m5
    have st5 := st4.setMix m5
    clear st4 c0 c1 c2 c3 f0 f1 f2 f3
    generalize (W4.setCell ⟨S, 2, none⟩ (.int .u64 m5)).drew = W5 at *
    obtain ⟨⟨c0, c1, c2, c3⟩, f0, f1, f2, f3⟩ := st5.src.cells
    go_wp2_with fail
    go_region
    generalize bits BinOp.xor IntKind.u64 m5 _ = m6
    have st6 := st5.setMix m6
    clear st5 c0 c1 c2 c3 f0 f1 f2 f3
    generalize (W5.setCell ⟨S, 2, none⟩ (.int .u64 m6)).drew = W6 at *
    obtain ⟨⟨c0, c1, c2, c3⟩, f0, f1, f2, f3⟩ := st6.src.cells
    go_wp2_with fail
    obtain ⟨r, hr, er⟩ := draw_val (m6 / 1048576) most hm hm2
    rw [er]
    go_ret
    exact ⟨r, at', m6, rfl, hr, st6.src, by omega, st6.keep⟩

/-- There is a source of draws in block S. -/
def Src (w : World) (S : Nat) : Prop := ∃ a len cap at' mix sz cs, SrcAt w S a len cap at' mix sz ∧ at' ≤ len ∧ List.length cs = len ∧ len ≤ 1048576 ∧ BytesIn w a cs ∧ ∀ ad, a = some ad → len ≠ 0 → ad.block < S
theorem Src.lt {w : World} {S : Nat} (h : Src w S) : S < w.heap.size := by
  obtain ⟨a, len, cap, at', mix, sz, cs, h1, _⟩ := h
  exact (Array.getElem?_eq_some_iff.1 h1).1
theorem BytesIn.keep {w w' : World} {a : Option Addr} {cs : List UInt8} (h : BytesIn w a cs) {S : Nat} (hk : Keep S w w') (ha : ∀ ad, a = some ad → cs.length ≠ 0 → ad.block < S) : BytesIn w' a cs := by
  rcases h with h | ⟨b, o, e, hc⟩
  · exact .inl h
  · refine .inr ⟨b, o, e, fun i hi => ?_⟩
    have hb := ha ⟨b, o, none⟩ e (by omega)
    have h1 := hc i hi
    rw [World.cell?_of_block (w := w) (hk.block b (World.block_lt_of_cell? w _ h1) (by show b ≠ S; have : b < S := hb; omega))]
    exact h1
/-- The source is there behind what leaves it alone. -/
theorem Src.below {w w' : World} {S : Nat} (h : Src w S) (hb : Below w.heap.size w w') : Src w' S := by
  obtain ⟨a, len, cap, at', mix, sz, cs, h1, h2, h3, h4, h5, h6⟩ := h
  refine ⟨a, len, cap, at', mix, sz, cs, (hb.block S (Array.getElem?_eq_some_iff.1 h1).1).trans h1, h2, h3, h4, ?_, h6⟩
  rcases h5 with h | ⟨b, o, e, hc⟩
  · exact .inl h
  · exact .inr ⟨b, o, e, fun i hi => by rw [hb.cell (World.block_lt_of_cell? w _ (hc i hi))]; exact hc i hi⟩

theorem sNs (S : Nat) (most : Nat) (w : World) (hm : 2 ≤ most) (hm2 : most ≤ 1000000) (h : Src w S) :
    Calls Try.prog 64 #[.pointer (some ⟨S, 0, none⟩), .int .i64 most] w fun e w' => ∃ r : Nat, e = .returned (.int .i64 r) ∧ r < most ∧ Src w' S ∧ Keep S w w' := by
  obtain ⟨a, len, cap, at', mix, sz, cs, h1, h2, h3, h4, h5, h6⟩ := h
  refine (sN S a len cap at' mix sz cs most w hm hm2 h1 h2 h3 h4 h5).mono ?_
  rintro e w' ⟨r, at2, mix2, rfl, hr, hs, ha, hk⟩
  exact ⟨r, rfl, hr, ⟨a, len, cap, at2, mix2, sz, cs, hs, ha, h3, h4, h5.keep hk (by rw [h3]; exact h6), h6⟩, hk⟩

set_option maxHeartbeats 1000000 in
theorem sOne (S : Nat) (most : Nat) (w : World) (hm : 2 ≤ most) (hm2 : most ≤ 1000000) (h : Src w S) :
    Calls Try.prog 65 #[.pointer (some ⟨S, 0, none⟩), .int .i64 most] w fun e w' => ∃ b : Bool, e = .returned (.bool b) ∧ Src w' S ∧ Keep S w w' := by
  have H : Hid _ := fun (_ : Unit) => sNs S most w hm hm2 h
  clear h
  go_enter Try.func65, Try.ntmps65
  go_wp2_with fail
  refine (H.out ()).mono ?_
  rintro e w1 ⟨r, rfl, hr, hs, hk⟩
  go_wp2_with fail
  go_ret
  exact ⟨_, rfl, hs, hk⟩

/-- A row of texts in a block of its own. -/
def RowS (w : World) (g : Nat) (l : List ByteArray) : Prop := w.heap[g]? = some (.cells (l.map Value.string).toArray 9 (0, 0))
theorem RowS.at {w : World} {g : Nat} {l : List ByteArray} (h : RowS w g l) (i : Nat) (hi : i < l.length) : w.cell? ⟨g, i, none⟩ = some (.string l[i]) := by
  unfold RowS at h
  simp [World.cell?, h, hi]

set_option maxHeartbeats 1000000 in
theorem sPick (S g : Nat) (l : List ByteArray) (w : World) (hm : 2 ≤ l.length) (hm2 : l.length ≤ 1000000) (h : Src w S) (hg : RowS w g l) (hne : g ≠ S) :
    Calls Try.prog 67 #[.pointer (some ⟨S, 0, none⟩), .slice (some ⟨g, 0, none⟩) l.length l.length] w fun e w' => ∃ t : ByteArray, t ∈ l ∧ e = .returned (.string t) ∧ Src w' S ∧ Keep S w w' := by
  have H : Hid _ := fun (_ : Unit) => sNs S l.length w hm hm2 h
  clear h
  go_enter Try.func67, Try.ntmps67
  go_wp2_with fail
  refine (H.out ()).mono ?_
  rintro e w1 ⟨r, rfl, hr, hs, hk⟩
  have hg1 : RowS w1 g l := (hk.block g (Array.getElem?_eq_some_iff.1 hg).1 hne).trans hg
  have hc := hg1.at r hr
  have hr' : (r : Int) < (l.length : Int) := by omega
  have HT : Hid (l[r] ∈ l) := List.getElem_mem hr
  generalize l[r] = t at *
  go_wp2_with fail
  go_ret
  exact ⟨t, HT.out, rfl, hs, hk⟩

theorem pick_of (S g n : Nat) (l : List ByteArray) (w : World) (hn : l.length = n) (hm : 2 ≤ n) (hm2 : n ≤ 1000000) (h : Src w S) (hg : RowS w g l) (hne : g ≠ S) :
    Calls Try.prog 67 #[.pointer (some ⟨S, 0, none⟩), .slice (some ⟨g, 0, none⟩) n n] w fun e w' => ∃ t : ByteArray, t ∈ l ∧ e = .returned (.string t) ∧ Src w' S ∧ Keep S w w' := by
  subst hn
  exact sPick S g l w hm hm2 h hg hne

theorem draw_new {w wr : World} {o : Obj} (h : Keep w.heap.size (w.alloc o) wr) : Below w.heap.size w wr :=
  ⟨h.os, h.tape, h.output, by have := h.size; rw [World.size_alloc] at this; omega, fun k hk => (h.block k (by rw [World.size_alloc]; omega) (by omega)).trans (Below.heap_alloc w o k hk)⟩

set_option maxHeartbeats 2000000 in
theorem sSource (a : Option Addr) (len cap : Nat) (cs : List UInt8) (w : World) (hl : cs.length = len) (hlb : len ≤ 1048576) (hB : BytesIn w a cs) :
    Calls Try.prog 36 #[.slice a len cap] w fun e w' => e = .returned (.pointer (some ⟨w.heap.size, 0, none⟩)) ∧ Src w' w.heap.size ∧ Below w.heap.size w w' := by
  have hfin : ∀ (wr : World) (o : Obj) (mix sz : Int), SrcAt wr w.heap.size a len cap 0 mix sz → Keep w.heap.size (w.alloc o) wr → Src wr w.heap.size ∧ Below w.heap.size w wr := by
    intro wr o mix sz h1 h2
    have hbel := draw_new h2
    refine ⟨⟨a, len, cap, 0, mix, sz, cs, h1, Nat.zero_le _, hl, hlb, ?_, ?_⟩, hbel⟩
    · rcases hB with h | ⟨b, o', e, hc⟩
      · exact .inl h
      · exact .inr ⟨b, o', e, fun i hi => by rw [hbel.cell (World.block_lt_of_cell? w _ (hc i hi))]; exact hc i hi⟩
    · intro ad e h0
      rcases hB with h | ⟨b, o', e', hc⟩
      · rw [h] at hl; simp at hl; omega
      · rw [e] at e'
        obtain rfl := Option.some.inj e'
        exact World.block_lt_of_cell? w _ (hc 0 (by omega))
  have HF : Hid (∀ (wr : World) (o : Obj) (mix sz : Int), SrcAt wr w.heap.size a len cap 0 mix sz → Keep w.heap.size (w.alloc o) wr → Src wr w.heap.size ∧ Below w.heap.size w wr) := hfin
  have HB : Hid (BytesIn w a cs) := hB
  clear hfin hB
  go_enter Try.func36, Try.ntmps36
  go_wp2_with fail
  generalize hO : Obj.cells #[Value.slice a len cap, .int .i64 0, .int .u64 88172645463325252, .int .i64 0] 98 = O
  have hS0 : SrcAt (w.alloc O) w.heap.size a len cap 0 88172645463325252 0 := by rw [← hO]; exact heap_alloc_new _ _
  clear hO
  go_loopw [4] (fun vi wr => ∃ (i : Nat) (mix : Int), i ≤ len ∧ i ≤ 64 ∧ vi = .int .i64 i ∧ SrcAt wr w.heap.size a len cap 0 mix 0 ∧ Keep w.heap.size (w.alloc O) wr) (fun vi _ => len - (intOf vi).toNat)
  case atStart => exact ⟨0, _, Nat.zero_le _, by omega, rfl, hS0, Keep.refl _ _⟩
  case round =>
    obtain ⟨i, mix, hi, hi2, rfl, hS, hK⟩ := hrel
    obtain ⟨⟨c0, c1, c2, c3⟩, f0, f1, f2, f3⟩ := hS.cells
    by_cases hlt : i < len ∧ i < 64
    · obtain ⟨l1, l2⟩ := hlt
      have l1' : (i : Int) < (len : Int) := by omega
      have l2' : (i : Int) < 64 := by omega
      obtain ⟨b, o, rfl, hc⟩ := HB.out.resolve_left (fun e => by simp [e] at hl; omega)
      have hb0 := hc i (by omega)
      have hbl := World.block_lt_of_cell? w _ hb0
      have hb1 : wr.cell? ⟨b, o + i, none⟩ = some (.int .u8 (cs[i].toNat : Int)) := by
        rw [(draw_new hK).cell hbl]; exact hb0
      clear hb0 hc
      generalize cs[i].toNat = ch at *
      go_wp2_with fail
      go_region
      have hS2 := fun m => hS.setMix m
      have hK2 := fun m => (hK.set 2 (.int .u64 m)).drew
      go_wp2_with fail
      exact ⟨⟨i + 1, _, by omega, by omega, by go_num, hS2 _, hK2 _⟩, by simp [intOf]; omega⟩
    · have hd : (decide ((i : Int) < (len : Int)) && decide ((i : Int) < 64)) = false := by simp; omega
      by_cases l1 : i < len
      · have l1' : (i : Int) < (len : Int) := by omega
        have l2' : ¬ (i : Int) < 64 := by omega
        go_wp2_with fail
        all_goals
          go_ret
          first
            | exact ⟨rfl, HF.out _ O _ _ ((hS.setSz _).setSz _) ((hK.set _ _).set _ _)⟩
            | exact ⟨rfl, HF.out _ O _ _ (hS.setSz _) (hK.set _ _)⟩
      · have l1' : ¬ (i : Int) < (len : Int) := by omega
        go_wp2_with fail
        all_goals
          go_ret
          first
            | exact ⟨rfl, HF.out _ O _ _ ((hS.setSz _).setSz _) ((hK.set _ _).set _ _)⟩
            | exact ⟨rfl, HF.out _ O _ _ (hS.setSz _) (hK.set _ _)⟩

theorem keep_below {S : Nat} {w w1 w2 : World} (hb : Below S w w1) (hw : w.heap.size = S) (hk : Keep S w1 w2) : Below S w w2 :=
  ⟨hk.os.trans hb.os, hk.tape.trans hb.tape, hk.output.trans hb.output, Nat.le_trans hb.size hk.size, fun k hk' => (hk.block k (by have := hb.size; omega) (by omega)).trans (hb.block k hk')⟩

end Go.Proofs.Ytlmlmdmechhalaa

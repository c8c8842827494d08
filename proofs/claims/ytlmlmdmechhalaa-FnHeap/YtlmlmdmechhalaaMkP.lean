/-
  Marks: the walks of the law's markPropS, markObjectS, markHeap.
-/
import Derived.Test.YtlmlmdmechhalaaMkT
namespace Go.Proofs.Ytlmlmdmechhalaa
open Go.RowKit
open Hp (PP OO propC)

/-- All that stood is as it was, but in the blocks of Q. -/
structure Marks (Q : Nat → Prop) (w w' : World) : Prop where
  os : w'.os = w.os
  tape : w'.tape = w.tape
  output : w'.output = w.output
  size : w.heap.size ≤ w'.heap.size
  block : ∀ k, k < w.heap.size → ¬ Q k → w'.heap[k]? = w.heap[k]?
theorem Marks.refl (Q : Nat → Prop) (w : World) : Marks Q w w := ⟨rfl, rfl, rfl, Nat.le_refl _, fun _ _ _ => rfl⟩
theorem Marks.trans {Q : Nat → Prop} {a b c : World} (h : Marks Q a b) (k : Marks Q b c) : Marks Q a c :=
  ⟨k.os.trans h.os, k.tape.trans h.tape, k.output.trans h.output, Nat.le_trans h.size k.size, fun q hq hn => (k.block q (Nat.lt_of_lt_of_le hq h.size) hn).trans (h.block q hq hn)⟩
theorem Marks.of_below {Q : Nat → Prop} {w w' : World} (h : Below w.heap.size w w') : Marks Q w w' := ⟨h.os, h.tape, h.output, h.size, fun q hq _ => h.block q hq⟩
theorem Marks.mono {Q Q' : Nat → Prop} {w w' : World} (h : Marks Q w w') (hq : ∀ k, Q k → Q' k) : Marks Q' w w' := ⟨h.os, h.tape, h.output, h.size, fun k hk hn => h.block k hk fun e => hn (hq k e)⟩
theorem Marks.setCell {Q : Nat → Prop} {a w : World} (h : Marks Q a w) {p : Addr} (hp : Q p.block) (u : Value) : Marks Q a (w.setCell p u) :=
  ⟨h.os, h.tape, h.output, by simpa [World.setCell] using h.size, fun k hk hn => (Below.heap_setCell w p u k (fun e => hn (by rw [e]; exact hp))).trans (h.block k hk hn)⟩
theorem Marks.below {Q : Nat → Prop} {B : Nat} {a w w' : World} (h : Below B a w) (k : Marks Q w w') (hQ : ∀ q, Q q → B ≤ q) (hB : B ≤ w.heap.size) : Below B a w' :=
  ⟨k.os.trans h.os, k.tape.trans h.tape, k.output.trans h.output, Nat.le_trans h.size k.size, fun q hq => (k.block q (Nat.lt_of_lt_of_le hq hB) (fun e => absurd (hQ q e) (by omega))).trans (h.block q hq)⟩

def b3 (k : Nat) : Bool := ((k : Int) % 3) == 0
/-- The mark of a Prop. -/
def mkP (k : Nat) : PP := ⟨mT k, ⟨(k + 1 : Nat), (k + 2 : Nat), mT (k + 3)⟩, b3 (k + 4), b3 (k + 5)⟩
def mkPs (k n : Nat) : List PP := (List.range n).map fun j => mkP (k + 6 * j)
theorem mkPs_len (k n : Nat) : (mkPs k n).length = n := by simp [mkPs]
theorem mkPs_at (k n j : Nat) (h : j < (mkPs k n).length) : (mkPs k n)[j] = mkP (k + 6 * j) := by simp [mkPs]
/-- A row of Props, in a block of N cells. -/
def PRowN (w : World) (g N : Nat) (ps : List PP) : Prop := ps.length * 6 ≤ N ∧ ∃ f, w.rowIs g 78 N f ∧ ∀ j (h : j < ps.length), PF f (j * 6) ps[j]
theorem PRow.rowN {w : World} {g : Nat} {ps : List PP} (h : PRow w g ps) : PRowN w g (ps.length * 6) ps := by
  obtain ⟨f, h⟩ := h
  exact ⟨Nat.le_refl _, f, h.row, fun j hj => h.six j hj hj⟩
theorem PRowN.lt {w : World} {g N : Nat} {ps : List PP} (h : PRowN w g N ps) : g < w.heap.size := by obtain ⟨_, f, h, _⟩ := h; exact h.lt
theorem PRowN.of_block {w w' : World} {g N : Nat} {ps : List PP} (h : PRowN w g N ps) (e : w'.heap[g]? = w.heap[g]?) : PRowN w' g N ps := by
  obtain ⟨h1, f, h2, h3⟩ := h
  exact ⟨h1, f, h2.of_block e, h3⟩
/-- The first i are marked. -/
def PMix (w : World) (g N k i : Nat) (f : Nat → Value) : Prop := w.rowIs g 78 N f ∧ ∀ j, j < i → PF f (j * 6) (mkP (k + 6 * j))

theorem PMix.step {w w1 w2 : World} {g N k i : Nat} {f : Nat → Value} (h : PMix w g N k i f) (hb1 : Below w.heap.size w w1) (K : Nat) (hK : k + 6 * i = K)
    (W1 : World) (hW1 : ((w1.setCell ⟨g, i * 6, none⟩ (.string (mT K))).setCell ⟨g, i * 6 + 1, none⟩ (.int .i64 ((K : Int) + 1))).setCell ⟨g, i * 6 + 2, none⟩ (.int .i64 ((K : Int) + 2)) = W1) (hb2 : Below W1.heap.size W1 w2)
    (W2 : World) (hW2 : ((w2.setCell ⟨g, i * 6 + 3, none⟩ (.string (mT (K + 3)))).setCell ⟨g, i * 6 + 4, none⟩ (.bool (b3 (K + 4)))).setCell ⟨g, i * 6 + 5, none⟩ (.bool (b3 (K + 5))) = W2) :
    ∃ f', PMix W2 g N k (i + 1) f' := by
  subst hW1 hW2
  have r1 := ((((Below.rowIs h.1 hb1).set (i * 6) (.string (mT K))).set (i * 6 + 1) (.int .i64 ((K : Int) + 1))).set (i * 6 + 2) (.int .i64 ((K : Int) + 2)))
  have r2 := ((((Below.rowIs r1 hb2).set (i * 6 + 3) (.string (mT (K + 3)))).set (i * 6 + 4) (.bool (b3 (K + 4)))).set (i * 6 + 5) (.bool (b3 (K + 5))))
  have key : ∃ F : Nat → Value, World.rowIs _ g 78 N F ∧ (F (i * 6) = .string (mT K) ∧ F (i * 6 + 1) = .int .i64 ((K : Int) + 1) ∧ F (i * 6 + 2) = .int .i64 ((K : Int) + 2) ∧ F (i * 6 + 3) = .string (mT (K + 3)) ∧ F (i * 6 + 4) = .bool (b3 (K + 4)) ∧ F (i * 6 + 5) = .bool (b3 (K + 5))) ∧ ∀ x, (∀ q, q < 6 → x ≠ i * 6 + q) → F x = f x :=
    ⟨_, r2, ⟨by simp, by simp, by simp, by simp, by simp, by simp⟩, fun x hx => by
      have h0 : ¬ x = i * 6 := hx 0 (by omega)
      have h1 := hx 1 (by omega)
      have h2 := hx 2 (by omega)
      have h3 := hx 3 (by omega)
      have h4 := hx 4 (by omega)
      have h5 := hx 5 (by omega)
      simp [h0, h1, h2, h3, h4, h5]⟩
  obtain ⟨F, hF, ⟨g0, g1, g2, g3, g4, g5⟩, hx⟩ := key
  refine ⟨F, hF, fun j hj => ?_⟩
  by_cases e : j = i
  · subst e
    subst hK
    exact ⟨g0, g1, g2, g3, g4, g5⟩
  · obtain ⟨a0, a1, a2, a3, a4, a5⟩ := h.2 j (by omega)
    exact ⟨(hx _ (fun q hq => by omega)).trans a0, (hx _ (fun q hq => by omega)).trans a1, (hx _ (fun q hq => by omega)).trans a2, (hx _ (fun q hq => by omega)).trans a3, (hx _ (fun q hq => by omega)).trans a4, (hx _ (fun q hq => by omega)).trans a5⟩

set_option maxHeartbeats 4000000 in
set_option maxRecDepth 100000 in
theorem lMarkPropS (g cap N k0 n : Nat) (f : Nat → Value) (w : World) (hn : n ≤ 1100000) (hk1 : 1 ≤ k0) (hk2 : k0 ≤ 50000000) (hN : n * 6 ≤ N) (hr : w.rowIs g 78 N f) :
    Calls Try.prog 80 #[.slice (some ⟨g, 0, none⟩) n cap, .int .i64 k0] w fun e w' => e = .returned (.int .i64 ((k0 + 6 * n : Nat) : Int)) ∧ PRowN w' g N (mkPs k0 n) ∧ Marks (fun q => q = g) w w' := by
  have CM : Hid (∀ (K : Nat) (W : World), 1 ≤ K → K ≤ 100000000 → Calls Try.prog 63 #[.int .i64 K] W fun e w' => e = .returned (.string (mT K)) ∧ Below W.heap.size W w') := fun K W h1 h2 => lMarkText K W h1 h2
  have HR : Hid (PMix w g N k0 0 f) := ⟨hr, fun j h => by omega⟩
  clear hr
  go_enter Try.func80, Try.ntmps80
  go_wp2_with fail
  go_loopw [1, 5] (fun vk vi wr => ∃ i : Nat, i ≤ n ∧ vi = .int .i64 i ∧ vk = .int .i64 ((k0 + 6 * i : Nat) : Int) ∧ Hid ((∃ f', PMix wr g N k0 i f') ∧ Marks (fun q => q = g) w wr)) (fun _ vi _ => n - (intOf vi).toNat)
  case atStart => exact ⟨0, Nat.zero_le _, rfl, rfl, ⟨f, HR.out⟩, Marks.refl _ _⟩
  case round =>
    obtain ⟨i, hi, rfl, rfl, HE⟩ := hrel
    obtain ⟨⟨f', hM⟩, hK⟩ := HE.out
    by_cases hlt : i < n
    case neg =>
      have hlt' : ¬ (i : Int) < (n : Int) := by omega
      obtain rfl : i = n := by omega
      have HFF : Hid (PRowN wr g N (mkPs k0 i) ∧ Marks (fun q => q = g) w wr) := ⟨⟨by rw [mkPs_len]; exact hN, f', hM.1, fun j hj => by rw [mkPs_at]; exact hM.2 j (by rw [mkPs_len] at hj; exact hj)⟩, hK⟩
      clear hM hK
      go_wp2_with fail
      go_ret
      exact ⟨rfl, HFF.out⟩
    have hlt' : (i : Int) < (n : Int) := by omega
    have HM : Hid (_ ∧ _) := ⟨hM, hK⟩
    clear hM hK HE
    obtain ⟨K, hK⟩ : ∃ K, k0 + 6 * i = K := ⟨_, rfl⟩
    rw [hK]
    have hKb : K ≤ 60000000 := by omega
    have hK1 : 1 ≤ K := by omega
    go_wp2_with fail
    refine (CM.out K wr hK1 (by omega)).mono ?_
    rintro e w1 ⟨rfl, hb1⟩
    have r1 := Below.rowIs HM.out.1.1 hb1
    have c0 := r1.cell (i := i * 6) (by omega)
    have c1 := r1.cell (i := i * 6 + 1) (by omega)
    have c2 := r1.cell (i := i * 6 + 2) (by omega)
    have f0 := r1.frozen (i * 6)
    have f1 := r1.frozen (i * 6 + 1)
    have f2 := r1.frozen (i * 6 + 2)
    have HB1 : Hid _ := hb1
    clear r1 hb1
    go_wp2_with fail
    have e3 : ((K : Int) + 1 + 1 + 1) = ((K + 3 : Nat) : Int) := by omega
    have e2 : ((K : Int) + 1 + 1) = (K : Int) + 2 := by omega
    rw [e3, e2]
    generalize hW1 : World.setCell _ _ _ = W1
    have hs1 : W1.heap.size = w1.heap.size := by rw [← hW1]; simp [World.setCell]
    have r1 := Below.rowIs HM.out.1.1 HB1.out
    have r2 : ∃ F, W1.rowIs g 78 N F := ⟨_, by rw [← hW1]; exact ((r1.set _ _).set _ _).set _ _⟩
    have HW1 : Hid _ := hW1
    clear hW1 r1 c0 c1 c2 f0 f1 f2
    refine (CM.out (K + 3) W1 (by omega) (by omega)).mono ?_
    rintro e w2 ⟨rfl, hb2⟩
    obtain ⟨F, r2⟩ := r2
    have r2 := Below.rowIs r2 hb2
    have c0 := r2.cell (i := i * 6 + 3) (by omega)
    have c1 := r2.cell (i := i * 6 + 4) (by omega)
    have c2 := r2.cell (i := i * 6 + 5) (by omega)
    have f0 := r2.frozen (i * 6 + 3)
    have f1 := r2.frozen (i * 6 + 4)
    have f2 := r2.frozen (i * 6 + 5)
    have HB2 : Hid _ := hb2
    clear r2 hb2
    go_wp2_with fail
    have b4 : (((K : Int) + 3 + 1) % 3 == 0) = b3 (K + 4) := by unfold b3; congr 2
    have b5 : (((K : Int) + 3 + 1 + 1) % 3 == 0) = b3 (K + 5) := by unfold b3; congr 2
    have o3 : i * 6 + 1 + 2 = i * 6 + 3 := by omega
    rw [b4, b5, o3]
    generalize hW2 : World.setCell (World.setCell (World.setCell w2 _ _) _ _) _ _ = W2
    have hst := PMix.step HM.out.1 HB1.out K hK W1 HW1.out HB2.out W2 hW2
    have hmk : Marks (fun q => q = g) w W2 := by
      have m1 : Marks (fun q => q = g) w W1 := by rw [← HW1.out]; exact (((HM.out.2.trans (.of_below HB1.out)).setCell (p := ⟨g, i * 6, none⟩) rfl _).setCell (p := ⟨g, i * 6 + 1, none⟩) rfl _).setCell (p := ⟨g, i * 6 + 2, none⟩) rfl _
      rw [← hW2]; exact (((m1.trans (.of_below HB2.out)).setCell (p := ⟨g, i * 6 + 3, none⟩) rfl _).setCell (p := ⟨g, i * 6 + 4, none⟩) rfl _).setCell (p := ⟨g, i * 6 + 5, none⟩) rfl _
    exact ⟨⟨i + 1, by omega, by go_num, congrArg (Value.int .i64) (by omega), hst, hmk⟩, by simp [intOf]; omega⟩

theorem lMarkPropS0 (a : Option Addr) (cap k0 : Nat) (w : World) (_ : k0 ≤ 50000000) :
    Calls Try.prog 80 #[.slice a 0 cap, .int .i64 k0] w fun e w' => e = .returned (.int .i64 (k0 : Int)) ∧ w' = w := by
  go_enter Try.func80, Try.ntmps80
  go_wp2_with fail
  go_loopw [1, 5] (fun vk vi wr => vi = .int .i64 0 ∧ vk = .int .i64 k0 ∧ wr = w) (fun _ _ _ => 0)
  case atStart => exact ⟨rfl, rfl, rfl⟩
  case round =>
    obtain ⟨rfl, rfl, rfl⟩ := hrel
    go_wp2_with fail
    go_ret
    exact ⟨rfl, rfl⟩

/-! ### Objects -/
def mkK (h : List OO) (j : Nat) : Nat := ((h.take j).map fun x => 2 + 6 * x.ps.length).sum
theorem mkK_succ (h : List OO) (j : Nat) (hj : j < h.length) : mkK h (j + 1) = mkK h j + (2 + 6 * h[j].ps.length) := sum_take (fun x : OO => 2 + 6 * x.ps.length) h j hj
theorem mkK_le (h : List OO) (j : Nat) : mkK h j ≤ 6 * szH h := by
  unfold mkK
  refine Nat.le_trans (sum_le (fun x : OO => 2 + 6 * x.ps.length) h j) ?_
  have : ∀ l : List OO, (l.map fun x => 2 + 6 * x.ps.length).sum ≤ 6 * szH l := by
    intro l
    induction l with
    | nil => simp
    | cons x r ih =>
      have e1 : szH (x :: r) = szH r + 1 + szPs x.ps := by unfold szH; simp; omega
      have e2 : x.ps.length ≤ szPs x.ps := by unfold szPs; omega
      simp only [List.map_cons, List.sum_cons]
      omega
  exact this h
/-- The mark of an object. -/
def mkO (k n : Nat) : OO := ⟨(k : Int), (k + 1 : Nat), mkPs (k + 2) n⟩
def mkH (k : Nat) (h : List OO) : List OO := (List.range h.length).map fun j => mkO (k + mkK h j) ((h[j]?).map (fun x => x.ps.length) |>.getD 0)
theorem mkH_len (k : Nat) (h : List OO) : (mkH k h).length = h.length := by simp [mkH]
theorem mkH_at (k : Nat) (h : List OO) (j : Nat) (hj : j < h.length) (hj' : j < (mkH k h).length) : (mkH k h)[j] = mkO (k + mkK h j) h[j].ps.length := by simp [mkH, hj]

/-- A heap whose rows lie apart: its objects in block g of N cells, the Props of each in a block of its own (if there are some). -/
structure GH (w : World) (g N : Nat) (h : List OO) (cs : Nat → OC) (gs Ns : Nat → Nat) : Prop where
  len : h.length * 3 ≤ N
  row : ∃ f, w.rowIs g 76 N f ∧ ∀ j (hj : j < h.length), OF f (j * 3) h[j] (cs j)
  props : ∀ j (hj : j < h.length), h[j].ps = [] ∨ ((cs j).pa = some ⟨gs j, 0, none⟩ ∧ PRowN w (gs j) (Ns j) h[j].ps)
  apart : ∀ j (hj : j < h.length), h[j].ps ≠ [] → gs j ≠ g
  apart2 : ∀ i j (hi : i < h.length) (hj : j < h.length), i ≠ j → h[i].ps ≠ [] → h[j].ps ≠ [] → gs i ≠ gs j
theorem HRow.gh {w : World} {g : Nat} {h : List OO} {cs : Nat → OC} {gs : Nat → Nat} (k : HRow w g h cs gs) : GH w g (h.length * 3) h cs gs (fun j => ((h[j]?).map (fun x => x.ps.length * 6)).getD 0) := by
  obtain ⟨f, k⟩ := k
  refine ⟨Nat.le_refl _, ⟨f, k.row, fun j hj => k.three j hj hj⟩, fun j hj => .inr ⟨(k.pa j hj).1, ?_⟩, fun j hj _ => by have := (k.pa j hj).2; omega, fun i j hi hj hne _ _ => ?_⟩
  · have := (k.props j hj hj).rowN
    simpa [hj] using this
  · rcases Nat.lt_or_gt_of_ne hne with e | e
    · have := k.mono i j e hj; omega
    · have := k.mono j i e hi; omega
/-- The first i objects are marked. -/
structure GMix (w : World) (g N k i : Nat) (h : List OO) (cs : Nat → OC) (gs Ns : Nat → Nat) : Prop where
  row : ∃ f, w.rowIs g 76 N f ∧ (∀ j (hj : j < h.length), j < i → OF f (j * 3) (mkO (k + mkK h j) h[j].ps.length) (cs j)) ∧ (∀ j (hj : j < h.length), i ≤ j → OF f (j * 3) h[j] (cs j))
  done : ∀ j (hj : j < h.length), j < i → h[j].ps = [] ∨ ((cs j).pa = some ⟨gs j, 0, none⟩ ∧ PRowN w (gs j) (Ns j) (mkPs (k + mkK h j + 2) h[j].ps.length))
  left : ∀ j (hj : j < h.length), i ≤ j → h[j].ps = [] ∨ ((cs j).pa = some ⟨gs j, 0, none⟩ ∧ PRowN w (gs j) (Ns j) h[j].ps)

theorem GMix.step {w w2 : World} {g N k i : Nat} {h : List OO} {cs : Nat → OC} {gs Ns : Nat → Nat} (M : GMix w g N k i h cs gs Ns) (hi : i < h.length) (ap : ∀ j (hj : j < h.length), h[j].ps ≠ [] → gs j ≠ g) (ap2 : ∀ i j (hi : i < h.length) (hj : j < h.length), i ≠ j → h[i].ps ≠ [] → h[j].ps ≠ [] → gs i ≠ gs j) (K : Nat) (hK : k + mkK h i = K)
    (W1 : World) (hW1 : (w.setCell ⟨g, i * 3, none⟩ (.int .i64 (K : Int))).setCell ⟨g, i * 3 + 1, none⟩ (.int .i64 ((K : Int) + 1)) = W1)
    (h2 : (h[i].ps = [] ∧ w2 = W1) ∨ (h[i].ps ≠ [] ∧ (cs i).pa = some ⟨gs i, 0, none⟩ ∧ Marks (fun q => q = gs i) W1 w2 ∧ PRowN w2 (gs i) (Ns i) (mkPs (K + 2) h[i].ps.length))) :
    GMix w2 g N k (i + 1) h cs gs Ns := by
  obtain ⟨f, hf, hd, hl⟩ := M.row
  have hblk : ∀ q, q ≠ g → W1.heap[q]? = w.heap[q]? := fun q hq => by
    rw [← hW1]; exact (Below.heap_setCell _ ⟨g, i * 3 + 1, none⟩ _ q hq).trans (Below.heap_setCell _ ⟨g, i * 3, none⟩ _ q hq)
  have key : ∃ F : Nat → Value, W1.rowIs g 76 N F ∧ (F (i * 3) = .int .i64 (K : Int) ∧ F (i * 3 + 1) = .int .i64 ((K : Int) + 1)) ∧ ∀ x, x ≠ i * 3 → x ≠ i * 3 + 1 → F x = f x :=
    ⟨_, by rw [← hW1]; exact (hf.set (i * 3) (.int .i64 (K : Int))).set (i * 3 + 1) (.int .i64 ((K : Int) + 1)), ⟨by simp, by simp⟩, fun x h0 h1 => by simp [h0, h1]⟩
  obtain ⟨F, hF, ⟨g0, g1⟩, hx⟩ := key
  have hrow2 : w2.rowIs g 76 N F := by
    rcases h2 with ⟨_, rfl⟩ | ⟨hne, _, hm, _⟩
    · exact hF
    · exact hF.of_block (hm.block g hF.lt (fun e => ap i hi hne e.symm))
  have hprops : ∀ j (hj : j < h.length) (ps : List PP), j ≠ i → h[j].ps ≠ [] → PRowN w (gs j) (Ns j) ps → PRowN w2 (gs j) (Ns j) ps := fun j hj ps hji hne hp => by
    have hp1 : PRowN W1 (gs j) (Ns j) ps := hp.of_block (hblk _ (ap j hj hne))
    rcases h2 with ⟨_, rfl⟩ | ⟨hne2, _, hm, _⟩
    · exact hp1
    · exact hp1.of_block (hm.block _ hp1.lt (ap2 j i hj hi hji hne hne2))
  refine ⟨⟨F, hrow2, fun j hj hji => ?_, fun j hj hji => ?_⟩, fun j hj hji => ?_, fun j hj hji => ?_⟩
  · by_cases e : j = i
    · subst e
      obtain ⟨_, _, a2⟩ := hl j hj (Nat.le_refl _)
      refine ⟨g0.trans (by rw [hK]; rfl), g1.trans (by rw [hK]; rfl), (hx _ (by omega) (by omega)).trans (a2.trans ?_)⟩
      unfold mkO; rw [mkPs_len]
    · obtain ⟨a0, a1, a2⟩ := hd j hj (by omega)
      exact ⟨(hx _ (by omega) (by omega)).trans a0, (hx _ (by omega) (by omega)).trans a1, (hx _ (by omega) (by omega)).trans a2⟩
  · obtain ⟨a0, a1, a2⟩ := hl j hj (by omega)
    exact ⟨(hx _ (by omega) (by omega)).trans a0, (hx _ (by omega) (by omega)).trans a1, (hx _ (by omega) (by omega)).trans a2⟩
  · by_cases e : j = i
    · subst e
      rcases h2 with ⟨he, _⟩ | ⟨_, hpa, _, hp⟩
      · exact .inl he
      · exact .inr ⟨hpa, by rw [hK]; exact hp⟩
    · rcases M.done j hj (by omega) with he | ⟨hpa, hp⟩
      · exact .inl he
      · by_cases hne : h[j].ps = []
        · exact .inl hne
        · exact .inr ⟨hpa, hprops j hj _ e hne hp⟩
  · rcases M.left j hj (by omega) with he | ⟨hpa, hp⟩
    · exact .inl he
    · by_cases hne : h[j].ps = []
      · exact .inl hne
      · exact .inr ⟨hpa, hprops j hj _ (by omega) hne hp⟩

/-- The blocks of a heap. -/
def Blks (g : Nat) (h : List OO) (gs : Nat → Nat) (q : Nat) : Prop := q = g ∨ ∃ j, ∃ hj : j < h.length, h[j].ps ≠ [] ∧ q = gs j

set_option maxHeartbeats 4000000 in
set_option maxRecDepth 100000 in
theorem lMarkObjectS (g cap N k0 : Nat) (h : List OO) (cs : Nat → OC) (gs Ns : Nat → Nat) (w : World) (hz : szH h ≤ 1100000) (hk1 : 1 ≤ k0) (hk2 : k0 ≤ 1000) (H : GH w g N h cs gs Ns) :
    Calls Try.prog 61 #[.slice (some ⟨g, 0, none⟩) h.length cap, .int .i64 k0] w fun e w' => e = .returned (.int .i64 ((k0 + mkK h h.length : Nat) : Int)) ∧ GH w' g N (mkH k0 h) cs gs Ns ∧ Marks (Blks g h gs) w w' := by
  have hlen : h.length ≤ 1100000 := by unfold szH at hz; omega
  have hN := H.len
  have HAP : Hid (_ ∧ _) := ⟨H.apart, H.apart2⟩
  have HM0 : Hid (GMix w g N k0 0 h cs gs Ns) := ⟨by obtain ⟨f, h1, h2⟩ := H.row; exact ⟨f, h1, fun j _ e => by omega, fun j hj _ => h2 j hj⟩, fun j _ e => by omega, fun j hj _ => H.props j hj⟩
  have HKL : Hid (∀ j, mkK h j ≤ 6 * 1100000) := fun j => Nat.le_trans (mkK_le h j) (by omega)
  have HPL : Hid (∀ j (hj : j < h.length), h[j].ps.length ≤ 1100000) := fun j hj => by
    have h1 : szPs h[j].ps ≤ (h.map fun o => szPs o.ps).sum := sum_mem (fun o : OO => szPs o.ps) h j hj
    have h2 : h[j].ps.length ≤ szPs h[j].ps := by unfold szPs; omega
    unfold szH at hz
    omega
  clear H
  go_enter Try.func61, Try.ntmps61
  go_wp2_with fail
  go_loopw [1, 5] (fun vk vi wr => ∃ i : Nat, i ≤ h.length ∧ vi = .int .i64 i ∧ vk = .int .i64 ((k0 + mkK h i : Nat) : Int) ∧ Hid (GMix wr g N k0 i h cs gs Ns ∧ Marks (Blks g h gs) w wr)) (fun _ vi _ => h.length - (intOf vi).toNat)
  case atStart => exact ⟨0, Nat.zero_le _, rfl, by simp [mkK], HM0.out, Marks.refl _ _⟩
  case round =>
    obtain ⟨i, hi, rfl, rfl, HE⟩ := hrel
    by_cases hlt : i < h.length
    case neg =>
      have hlt' : ¬ (i : Int) < (h.length : Int) := by omega
      have hil : i = h.length := by omega
      have HFF : Hid (GH wr g N (mkH k0 h) cs gs Ns ∧ Marks (Blks g h gs) w wr) := by
        obtain ⟨M, hm⟩ := HE.out
        refine ⟨⟨by rw [mkH_len]; exact hN, ?_, fun j hj => ?_, fun j hj hne => ?_, fun a b ha hb hab h1 h2 => ?_⟩, hm⟩
        · obtain ⟨f, h1, h2, _⟩ := M.row
          refine ⟨f, h1, fun j hj => ?_⟩
          have hj' : j < h.length := by rw [mkH_len] at hj; exact hj
          rw [mkH_at k0 h j hj' hj]
          exact h2 j hj' (by omega)
        · have hj' : j < h.length := by rw [mkH_len] at hj; exact hj
          rw [mkH_at k0 h j hj' hj]
          rcases M.done j hj' (by omega) with e | ⟨e1, e2⟩
          · left
            unfold mkO
            rw [e]; rfl
          · exact .inr ⟨e1, e2⟩
        · have hj' : j < h.length := by rw [mkH_len] at hj; exact hj
          rw [mkH_at k0 h j hj' hj] at hne
          exact HAP.out.1 j hj' fun e => hne (by unfold mkO; rw [e]; rfl)
        · have ha' : a < h.length := by rw [mkH_len] at ha; exact ha
          have hb' : b < h.length := by rw [mkH_len] at hb; exact hb
          rw [mkH_at k0 h a ha' ha] at h1
          rw [mkH_at k0 h b hb' hb] at h2
          exact HAP.out.2 a b ha' hb' hab (fun e => h1 (by unfold mkO; rw [e]; rfl)) (fun e => h2 (by unfold mkO; rw [e]; rfl))
      clear HE
      subst hil
      go_wp2_with fail
      go_ret
      exact ⟨rfl, HFF.out⟩
    have hlt' : (i : Int) < (h.length : Int) := by omega
    obtain ⟨K, hK⟩ : ∃ K, k0 + mkK h i = K := ⟨_, rfl⟩
    have hKb : K ≤ 7000000 := by have := HKL.out i; omega
    rw [hK]
    obtain ⟨f, hf, -, hl⟩ := HE.out.1.row
    have c0 := hf.cell (i := i * 3) (by omega)
    have c1 := hf.cell (i := i * 3 + 1) (by omega)
    have c2 := (hf.cell (i := i * 3 + 2) (by omega)).trans (congrArg some (hl i hlt (Nat.le_refl _)).2.2)
    have f0 := hf.frozen (i * 3)
    have f1 := hf.frozen (i * 3 + 1)
    have HF : Hid _ := hf
    clear hf hl
    have hpl := HPL.out i hlt
    have hKs : k0 + mkK h (i + 1) = K + 2 + 6 * h[i].ps.length := by rw [mkK_succ h i hlt]; omega
    go_wp2_with fail
    have e2 : ((K : Int) + 1 + 1) = ((K + 2 : Nat) : Int) := by omega
    rw [e2]
    generalize hW1 : World.setCell _ _ _ = W1
    have hmk1 : Marks (Blks g h gs) w W1 := by rw [← hW1]; exact (HE.out.2.setCell (p := ⟨g, i * 3, none⟩) (.inl rfl) _).setCell (p := ⟨g, i * 3 + 1, none⟩) (.inl rfl) _
    have HW1 : Hid _ := hW1
    by_cases hps : h[i].ps = []
    · have hst := GMix.step HE.out.1 hlt HAP.out.1 HAP.out.2 K hK W1 hW1 (.inl ⟨hps, rfl⟩)
      have hl0 : h[i].ps.length = 0 := by rw [hps]; rfl
      have HS : Hid (_ ∧ _) := ⟨hst, hmk1⟩
      rw [hl0] at hKs ⊢
      clear hst hmk1 c0 c1 c2 f0 f1 hW1
      refine (lMarkPropS0 _ _ (K + 2) W1 (by omega)).mono ?_
      rintro e w2 ⟨rfl, rfl⟩
      go_wp2_with fail
      exact ⟨⟨i + 1, by omega, by go_num, congrArg (Value.int .i64) (by omega), HS.out⟩, by simp [intOf]; omega⟩
    · obtain ⟨hpa, hpn, F, hr, -⟩ : (cs i).pa = some ⟨gs i, 0, none⟩ ∧ PRowN wr (gs i) (Ns i) h[i].ps := (HE.out.1.left i hlt (Nat.le_refl _)).resolve_left hps
      have hgi := HAP.out.1 i hlt hps
      have hr1 : W1.rowIs (gs i) 78 (Ns i) F := hr.of_block (by rw [← hW1]; exact (Below.heap_setCell _ ⟨g, i * 3 + 1, none⟩ _ _ hgi).trans (Below.heap_setCell _ ⟨g, i * 3, none⟩ _ _ hgi))
      have HH : Hid (_ ∧ _) := ⟨hmk1, hpa⟩
      rw [hpa]
      clear hmk1 c0 c1 c2 f0 f1 hW1
      refine (lMarkPropS (gs i) _ (Ns i) (K + 2) h[i].ps.length F W1 hpl (by omega) (by omega) hpn hr1).mono ?_
      rintro e w2 ⟨rfl, hp2, hm2⟩
      have hst := GMix.step HE.out.1 hlt HAP.out.1 HAP.out.2 K hK W1 HW1.out (.inr ⟨hps, HH.out.2, hm2, hp2⟩)
      have hmk2 : Marks (Blks g h gs) w w2 := HH.out.1.trans (hm2.mono fun q hq => .inr ⟨i, hlt, hps, hq⟩)
      have HS : Hid (_ ∧ _) := ⟨hst, hmk2⟩
      clear hst hmk2 hp2 hm2 hr hr1
      go_wp2_with fail
      exact ⟨⟨i + 1, by omega, by go_num, congrArg (Value.int .i64) (by omega), HS.out⟩, by simp [intOf]; omega⟩

set_option maxHeartbeats 4000000 in
theorem lMarkHeap (g cap N k0 : Nat) (h : List OO) (cs : Nat → OC) (gs Ns : Nat → Nat) (w : World) (hz : szH h ≤ 1100000) (hk1 : 1 ≤ k0) (hk2 : k0 ≤ 1000) (H : GH w g N h cs gs Ns) :
    Calls Try.prog 31 #[.agg #[.slice (some ⟨g, 0, none⟩) h.length cap], .int .i64 k0] w fun e w' => e = .returned (.int .i64 ((k0 + mkK h h.length : Nat) : Int)) ∧ GH w' g N (mkH k0 h) cs gs Ns ∧ Marks (Blks g h gs) w w' := by
  have HG : Hid (∀ o, GH (w.alloc o) g N h cs gs Ns ∧ Below w.heap.size w (w.alloc o)) := fun o => by
    have hb : Below w.heap.size w (w.alloc o) := (Below.refl _ _).alloc (Nat.le_refl _) o
    refine ⟨⟨H.len, ?_, fun j hj => ?_, H.apart, H.apart2⟩, hb⟩
    · obtain ⟨f, h1, h2⟩ := H.row
      exact ⟨f, Below.rowIs h1 hb, h2⟩
    · rcases H.props j hj with e | ⟨e1, e2⟩
      · exact .inl e
      · exact .inr ⟨e1, e2.of_block (hb.block _ e2.lt)⟩
  clear H
  go_enter Try.func31, Try.ntmps31
  go_wp2_with fail
  refine (lMarkObjectS g cap N k0 h cs gs Ns _ hz hk1 hk2 (HG.out _).1).mono ?_
  rintro e w2 ⟨rfl, h2, h3⟩
  have HS : Hid (_ ∧ _) := ⟨h2, (Marks.of_below (HG.out _).2).trans h3⟩
  clear h2 h3
  go_wp2_with fail
  go_ret
  exact ⟨rfl, HS.out⟩

end Go.Proofs.Ytlmlmdmechhalaa

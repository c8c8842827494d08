/-
  Rows of texts: the walks of the law's eqStringS, markStringS, heldStringS.
-/
import Derived.Test.YtlmlmdmechhalaaMkP
import Derived.Test.YtlmlmdmechhalaaHpQ
import Derived.Deep.RegionHeld3
namespace Go.Proofs.Ytlmlmdmechhalaa
open Go.RowKit
open Hp (PP OO propC)

theorem SRow.shape {w : World} {B : Nat} {v : Value} {l : List ByteArray} (h : SRow w B v l) : ∃ a cap, v = .slice a l.length cap := own_shape h
theorem SRow.cells {w : World} {B : Nat} {a : Option Addr} {cap : Nat} {l : List ByteArray} (h : SRow w B (.slice a l.length cap) l) : l = [] ∨ ∃ g, a = some ⟨g, 0, none⟩ ∧ ∀ i (hi : i < l.length), w.cell? ⟨g, i, none⟩ = some (.string l[i]) := by
  rcases h.2 with ⟨_, e⟩ | ⟨g, cap', cur, e, _⟩
  · exact .inl (List.length_eq_zero_iff.1 e)
  · injection e with e1 _ _
    subst e1
    refine .inr ⟨g, rfl, fun i hi => ?_⟩
    rw [World.ownsRow.cellAt h i (by omega), List.getElem?_map, List.getElem?_eq_getElem hi]
    rfl

set_option maxHeartbeats 2000000 in
theorem lEqStr (a1 a2 : Option Addr) (cap1 cap2 B1 B2 : Nat) (ns : List ByteArray) (w : World) (hn : ns.length ≤ 1048576) (h1 : SRow w B1 (.slice a1 ns.length cap1) ns) (h2 : SRow w B2 (.slice a2 ns.length cap2) ns) :
    Calls Try.prog 33 #[.slice a1 ns.length cap1, .slice a2 ns.length cap2] w fun e w' => e = .returned (.bool true) ∧ Below w.heap.size w w' := by
  rcases h1.cells with rfl | ⟨b1, rfl, hc1⟩
  · clear h2 hn h1
    simp only [List.length_nil]
    go_enter Try.func33, Try.ntmps33
    go_wp2
    refine wp_loop_rounds 1 ?_
    rw [rounds_succ]
    go_wp2
    go_ret
    exact ⟨rfl, Below.refl _ _⟩
  rcases h2.cells with rfl | ⟨b2, rfl, hc2⟩
  · clear hc1 hn h1 h2
    simp only [List.length_nil]
    go_enter Try.func33, Try.ntmps33
    go_wp2
    refine wp_loop_rounds 1 ?_
    rw [rounds_succ]
    go_wp2
    go_ret
    exact ⟨rfl, Below.refl _ _⟩
  have HC : Hid ((∀ i (h : i < ns.length), w.cell? ⟨b1, i, none⟩ = some (.string ns[i])) ∧ (∀ i (h : i < ns.length), w.cell? ⟨b2, i, none⟩ = some (.string ns[i]))) := ⟨hc1, hc2⟩
  clear hc1 hc2 h1 h2
  go_enter Try.func33, Try.ntmps33
  go_wp2
  go_loopw [5] (fun vi wr => ∃ i : Nat, i ≤ ns.length ∧ vi = .int .i64 i ∧ Below w.heap.size w wr) (fun vi _ => ns.length - (intOf vi).toNat)
  case atStart => exact ⟨0, Nat.zero_le _, rfl, Below.refl _ _⟩
  case round =>
    obtain ⟨i, hi, rfl, hb⟩ := hrel
    by_cases hlt : i < ns.length
    · have c1 := HC.out.1 i hlt
      have c2 := HC.out.2 i hlt
      replace c1 := (hb.cell (World.block_lt_of_cell? w _ c1)).trans c1
      replace c2 := (hb.cell (World.block_lt_of_cell? w _ c2)).trans c2
      have hlt' : (i : Int) < (ns.length : Int) := by omega
      go_wp2_with fail
      go_quiet (fail)
      have hb' : Below w.heap.size w (wr.drewN nq) := by exact ⟨hb.os, hb.tape, hb.output, hb.size, hb.block⟩
      generalize wr.drewN nq = W1 at *
      go_wp2_with fail
      exact ⟨⟨i + 1, by omega, by go_num, hb'⟩, by simp [intOf]; omega⟩
    · go_wp2_with fail
      go_ret
      exact ⟨rfl, hb⟩

def mkSs (k n : Nat) : List ByteArray := (List.range n).map fun j => mT (k + j)
theorem mkSs_len (k n : Nat) : (mkSs k n).length = n := by simp [mkSs]
theorem mkSs_at (k n j : Nat) (h : j < (mkSs k n).length) : (mkSs k n)[j] = mT (k + j) := by simp [mkSs]
/-- A row of texts whose first ones are marked. -/
def SMix (w : World) (g N k i : Nat) (f : Nat → Value) : Prop := w.rowIs g 9 N f ∧ ∀ j, j < i → f j = .string (mT (k + j))
theorem own_rowIs {w : World} {B : Nat} {e : TypeId} {g n cap : Nat} {xs : List Value} (h : w.ownsRow B e 1 (.slice (some ⟨g, 0, none⟩) n cap) n xs) : ∃ f, w.rowIs g e cap f ∧ n ≤ cap ∧ cap ≤ maxLen ∧ B ≤ g := by
  rcases h.2 with ⟨e, _⟩ | ⟨g', cap', cur, e, hB, hg, hn, hm, hs, _⟩
  · cases e
  · injection e with e1 _ e3
    injection e1 with e1
    injection e1 with e1 _ _
    subst e1 e3
    refine ⟨fun j => cur.getD j undef, ⟨cur, hg, by omega, fun i hi => ?_⟩, hn, hm, hB⟩
    have : i < cur.size := by omega
    simp [Array.getD, this]
theorem SMix.srow {w : World} {B g N k n : Nat} {f : Nat → Value} (h : SMix w g N k n f) (hn : n ≤ N) (hm : N ≤ maxLen) (hB : B ≤ g) : SRow w B (.slice (some ⟨g, 0, none⟩) n N) (mkSs k n) := by
  obtain ⟨⟨c, hc, hs, hf⟩, hk⟩ := h
  unfold SRow
  rw [mkSs_len]
  refine ⟨by simp [mkSs_len], .inr ⟨g, N, c, rfl, hB, hc, hn, hm, by omega, ?_⟩⟩
  apply List.ext_getElem
  · simp [mkSs_len]; omega
  · intro j h1 h2
    have hj : j < n := by simp [mkSs_len] at h2; exact h2
    have := hf j (by omega)
    rw [hk j hj] at this
    obtain ⟨hjc, this⟩ := Array.getElem?_eq_some_iff.1 this
    simp only [List.getElem_take, List.getElem_map, mkSs_at, Array.getElem_toList]
    exact this

set_option maxHeartbeats 4000000 in
set_option maxRecDepth 100000 in
theorem lMarkStr (a : Option Addr) (cap k0 B : Nat) (l : List ByteArray) (w : World) (hn : l.length ≤ 1048576) (hk1 : 1 ≤ k0) (hk2 : k0 ≤ 1000) (h : SRow w B (.slice a l.length cap) l) :
    Calls Try.prog 34 #[.slice a l.length cap, .int .i64 k0] w fun e w' => e = .returned (.int .i64 ((k0 + l.length : Nat) : Int)) ∧ SRow w' B (.slice a l.length cap) (mkSs k0 l.length) ∧ Marks (fun q => (Value.slice a l.length cap).ownBlock = some q) w w' := by
  have CM : Hid (∀ (K : Nat) (W : World), 1 ≤ K → K ≤ 100000000 → Calls Try.prog 63 #[.int .i64 K] W fun e w' => e = .returned (.string (mT K)) ∧ Below W.heap.size W w') := fun K W h1 h2 => lMarkText K W h1 h2
  rcases h.cells with rfl | ⟨g, rfl, -⟩
  · clear hn
    have HH : Hid _ := h
    simp only [List.length_nil] at *
    clear h
    go_enter Try.func34, Try.ntmps34
    go_wp2
    refine wp_loop_rounds 1 ?_
    rw [rounds_succ]
    go_wp2
    go_ret
    exact ⟨rfl, HH.out, Marks.refl _ _⟩
  obtain ⟨f, hf, hnc, hm, hB⟩ := own_rowIs h
  have HF : Hid (SMix w g cap k0 0 f ∧ cap ≤ maxLen) := ⟨⟨hf, fun j e => by omega⟩, hm⟩
  clear h hf hm
  generalize l.length = n at *
  go_enter Try.func34, Try.ntmps34
  go_wp2_with fail
  go_loopw [1, 5] (fun vk vi wr => ∃ i : Nat, i ≤ n ∧ vi = .int .i64 i ∧ vk = .int .i64 ((k0 + i : Nat) : Int) ∧ Hid ((∃ f, SMix wr g cap k0 i f) ∧ Marks (fun q => (Value.slice (some ⟨g, 0, none⟩) n cap).ownBlock = some q) w wr)) (fun _ vi _ => n - (intOf vi).toNat)
  case atStart => exact ⟨0, Nat.zero_le _, rfl, rfl, ⟨f, HF.out.1⟩, Marks.refl _ _⟩
  case round =>
    obtain ⟨i, hi, rfl, rfl, HE⟩ := hrel
    by_cases hlt : i < n
    case neg =>
      have hlt' : ¬ (i : Int) < (n : Int) := by omega
      obtain rfl : i = n := by omega
      have HFF : Hid (SRow wr B (.slice (some ⟨g, 0, none⟩) i cap) (mkSs k0 i) ∧ Marks (fun q => (Value.slice (some ⟨g, 0, none⟩) i cap).ownBlock = some q) w wr) := by
        obtain ⟨⟨f', hM⟩, hK⟩ := HE.out
        exact ⟨hM.srow hnc HF.out.2 hB, hK⟩
      clear HE
      go_wp2_with fail
      go_ret
      exact ⟨rfl, HFF.out⟩
    have hlt' : (i : Int) < (n : Int) := by omega
    obtain ⟨K, hK⟩ : ∃ K, k0 + i = K := ⟨_, rfl⟩
    rw [hK]
    have hKb : K ≤ 3000000 := by omega
    go_wp2_with fail
    refine (CM.out K wr (by omega) (by omega)).mono ?_
    rintro e w1 ⟨rfl, hb1⟩
    obtain ⟨⟨f', hM⟩, hmk⟩ := HE.out
    have r1 := Below.rowIs hM.1 hb1
    have c0 := r1.cell (i := i) (by omega)
    have f0 := r1.frozen i
    have HS : Hid (SMix (w1.setCell ⟨g, i, none⟩ (.string (mT K))) g cap k0 (i + 1) (fun j => if j = i then .string (mT K) else f' j) ∧ Marks (fun q => (Value.slice (some ⟨g, 0, none⟩) n cap).ownBlock = some q) w (w1.setCell ⟨g, i, none⟩ (.string (mT K)))) :=
      ⟨⟨r1.set i _, fun j hj => by
        by_cases e : j = i
        · subst e; simp only [if_true]; rw [hK]
        · simp only [if_neg e]; exact hM.2 j (by omega)⟩, (hmk.trans (.of_below hb1)).setCell (p := ⟨g, i, none⟩) rfl _⟩
    clear hM hmk hb1 r1
    go_wp2_with fail
    exact ⟨⟨i + 1, by omega, by go_num, congrArg (Value.int .i64) (by omega), ⟨_, HS.out.1⟩, HS.out.2⟩, by simp [intOf]; omega⟩

set_option maxHeartbeats 4000000 in
set_option maxRecDepth 100000 in
theorem lHeldStr (a : Option Addr) (cap k0 B n : Nat) (w : World) (hn : n ≤ 1048576) (hk1 : 1 ≤ k0) (hk2 : k0 ≤ 1000) (h : SRow w B (.slice a n cap) (mkSs k0 n)) :
    Calls Try.prog 35 #[.slice a n cap, .int .i64 k0] w fun e w' => e = .returned (.int .i64 ((k0 + n : Nat) : Int)) ∧ Below w.heap.size w w' := by
  have CM : Hid (∀ (K : Nat) (W : World), 1 ≤ K → K ≤ 100000000 → Calls Try.prog 63 #[.int .i64 K] W fun e w' => e = .returned (.string (mT K)) ∧ Below W.heap.size W w') := fun K W h1 h2 => lMarkText K W h1 h2
  have h' : SRow w B (.slice a (mkSs k0 n).length cap) (mkSs k0 n) := by rw [mkSs_len]; exact h
  rcases h'.cells with e | ⟨g, rfl, hc⟩
  · have e0 : n = 0 := by have := congrArg List.length e; simpa [mkSs_len] using this
    subst e0
    clear h h' e hn
    go_enter Try.func35, Try.ntmps35
    go_wp2
    refine wp_loop_rounds 1 ?_
    rw [rounds_succ]
    go_wp2
    go_ret
    exact ⟨rfl, Below.refl _ _⟩
  have HC : Hid (∀ i, i < n → w.cell? ⟨g, i, none⟩ = some (.string (mT (k0 + i)))) := fun i hi => by
    have := hc i (by rw [mkSs_len]; exact hi)
    rwa [mkSs_at] at this
  clear h h' hc
  go_enter Try.func35, Try.ntmps35
  go_wp2_with fail
  go_loopw [1, 5] (fun vk vi wr => ∃ i : Nat, i ≤ n ∧ vi = .int .i64 i ∧ vk = .int .i64 ((k0 + i : Nat) : Int) ∧ Below w.heap.size w wr) (fun _ vi _ => n - (intOf vi).toNat)
  case atStart => exact ⟨0, Nat.zero_le _, rfl, rfl, Below.refl _ _⟩
  case round =>
    obtain ⟨i, hi, rfl, rfl, hb⟩ := hrel
    by_cases hlt : i < n
    case neg =>
      have hlt' : ¬ (i : Int) < (n : Int) := by omega
      obtain rfl : i = n := by omega
      go_wp2_with fail
      go_ret
      exact ⟨rfl, hb⟩
    have hlt' : (i : Int) < (n : Int) := by omega
    have c0 := HC.out i hlt
    have hgl := World.block_lt_of_cell? w _ c0
    replace c0 := (hb.cell hgl).trans c0
    have hglr : g < wr.heap.size := by have := hb.size; have : g < w.heap.size := hgl; omega
    obtain ⟨K, hK⟩ : ∃ K, k0 + i = K := ⟨_, rfl⟩
    rw [hK] at c0 ⊢
    have hKb : K ≤ 3000000 := by omega
    have hK1 : 1 ≤ K := by omega
    go_wp2_with fail
    go_region_held3 (fun w' => w'.cell? ⟨g, i, none⟩ = some (.string (mT K))) (go_keep)
      (first | (go_at_call 63; refine (CM.out K _ (by omega) (by omega)).mono ?_; rintro e w1 ⟨rfl, hb1⟩; have hb2 : Below wr.heap.size wr w1 := (Below.refl wr.heap.size wr).drew.trans hb1; have c1 := (World.cell?_of_block (a := ⟨g, i, none⟩) (hb2.block g hglr)).trans c0))
    all_goals
      have hb3 := hb.trans (hb2.mono hb.size)
      go_wp2_with fail
      exact ⟨⟨i + 1, by omega, by go_num, congrArg (Value.int .i64) (by omega), hb3⟩, by simp [intOf]; omega⟩

end Go.Proofs.Ytlmlmdmechhalaa

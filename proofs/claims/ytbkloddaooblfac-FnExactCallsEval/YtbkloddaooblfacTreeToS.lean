/-
  The walk of the law's toNodeS.
-/
import Derived.Test.YtbkloddaooblfacTreeTo
namespace Go.Proofs.Ytbkloddaooblfac
open Go.RowKit

/-- What has been copied of a row of kids: the first i. -/
structure Done (wr : World) (g : Nat) (ks : List PT) (i : Nat) (f : Nat → Value) (cs : Nat → NC) (fs : Nat → List Nat) : Prop where
  row : wr.rowIs g 56 (ks.length * 6) f
  six : ∀ j (h : j < ks.length), j < i → SixF f (j * 6) ks[j] (cs j)
  kid : ∀ j (h : j < ks.length), j < i → NIn wr (g + 1) ks[j] (cs j) (fs j)
  nodup : ((List.range i).flatMap fs).Nodup
  bound : ∀ x ∈ (List.range i).flatMap fs, g < x ∧ Plain wr x

theorem madeRow (w : World) (n : Nat) : (w.alloc (.cells (madeCells zeroN.cells (n * 6)) 56)).rowIs w.heap.size 56 (n * 6) (fun j => (madeCells zeroN.cells (n * 6)).getD j (.int .i64 0)) := by
  refine ⟨_, heap_alloc_new w _, size_madeCells _ _, fun i hi => ?_⟩
  have : i < (madeCells zeroN.cells (n * 6)).size := by rw [size_madeCells]; exact hi
  simp [Array.getD, this]

theorem flat_congr (i : Nat) (fs gs : Nat → List Nat) (h : ∀ j, j < i → fs j = gs j) : (List.range i).flatMap fs = (List.range i).flatMap gs := by
  induction i with
  | zero => simp
  | succ n ih => rw [List.range_succ, List.flatMap_append, List.flatMap_append, ih (fun j hj => h j (by omega))]; simp [h n (by omega)]

theorem Done.step {wr w1 : World} {g : Nat} {ks : List PT} {i : Nat} {f : Nat → Value} {cs : Nat → NC} {fs : Nat → List Nat} (hD : Done wr g ks i f cs fs) (hb1 : Below wr.heap.size wr w1) (hlt : i < ks.length)
    {k : Int} {t : ByteArray} {n : Int} {ns : List ByteArray} {s : Bool} {ks' : List PT} (hx : ks[i] = .node k t n ns s ks') {c' : NC} {fp' : List Nat} (hin : NIn w1 wr.heap.size (.node k t n ns s ks') c' fp') (hnd : fp'.Nodup) (hbd : ∀ x ∈ fp', wr.heap.size ≤ x ∧ Plain w1 x) :
    ∃ f cs fs, Done ((((((w1.setCell ⟨g, i * 6, none⟩ (.int .i64 k)).setCell ⟨g, i * 6 + 1, none⟩ (.string t)).setCell ⟨g, i * 6 + 2, none⟩ (.int .i64 n)).setCell ⟨g, i * 6 + 3, none⟩ (.slice c'.na ns.length c'.nc)).setCell ⟨g, i * 6 + 4, none⟩ (.bool s)).setCell ⟨g, i * 6 + 5, none⟩ (.slice c'.ka ks'.length c'.kc)) g ks (i + 1) f cs fs := by
  have hg := hD.row.lt
  have hrow := ((((((Below.rowIs hD.row hb1).set (i * 6) (.int .i64 k)).set (i * 6 + 1) (.string t)).set (i * 6 + 2) (.int .i64 n)).set (i * 6 + 3) (.slice c'.na ns.length c'.nc)).set (i * 6 + 4) (.bool s)).set (i * 6 + 5) (.slice c'.ka ks'.length c'.kc)
  have hkeep : Keeps (g + 1) w1 ((((((w1.setCell ⟨g, i * 6, none⟩ (.int .i64 k)).setCell ⟨g, i * 6 + 1, none⟩ (.string t)).setCell ⟨g, i * 6 + 2, none⟩ (.int .i64 n)).setCell ⟨g, i * 6 + 3, none⟩ (.slice c'.na ns.length c'.nc)).setCell ⟨g, i * 6 + 4, none⟩ (.bool s)).setCell ⟨g, i * 6 + 5, none⟩ (.slice c'.ka ks'.length c'.kc)) :=
    (((((Keeps.setCell _ (Nat.lt_succ_self g) _).trans (Keeps.setCell _ (Nat.lt_succ_self g) _)).trans (Keeps.setCell _ (Nat.lt_succ_self g) _)).trans (Keeps.setCell _ (Nat.lt_succ_self g) _)).trans (Keeps.setCell _ (Nat.lt_succ_self g) _)).trans (Keeps.setCell _ (Nat.lt_succ_self g) _)
  have hfl : (List.range (i + 1)).flatMap (fun j => if j = i then fp' else fs j) = (List.range i).flatMap fs ++ fp' := by
    rw [List.range_succ, List.flatMap_append, flat_congr i _ fs (fun j hj => if_neg (by omega))]; simp
  have hsz1 := hb1.size
  refine ⟨_, fun j => if j = i then c' else cs j, fun j => if j = i then fp' else fs j, hrow, fun j hj hji => ?_, fun j hj hji => ?_, ?_, ?_⟩
  · by_cases e : j = i
    · subst e
      rw [hx]
      simp only [if_true]
      refine ⟨?_, ?_, ?_, ?_, ?_, ?_⟩ <;> simp
    · have h6 := hD.six j hj (by omega)
      simp only [if_neg e]
      have hne : ∀ p q, p < 6 → q < 6 → ¬ j * 6 + p = i * 6 + q := fun p q _ _ => by omega
      have hs : ∀ p, p < 6 → (fun j_1 => if j_1 = i * 6 + 5 then Value.slice c'.ka ks'.length c'.kc else if j_1 = i * 6 + 4 then .bool s else if j_1 = i * 6 + 3 then .slice c'.na ns.length c'.nc else if j_1 = i * 6 + 2 then .int .i64 n else if j_1 = i * 6 + 1 then .string t else if j_1 = i * 6 then .int .i64 k else f j_1) (j * 6 + p) = f (j * 6 + p) := fun p hp => by
        have h0 : ¬ j * 6 + p = i * 6 := hne p 0 hp (by omega)
        simp only [if_neg (hne p 5 hp (by omega)), if_neg (hne p 4 hp (by omega)), if_neg (hne p 3 hp (by omega)), if_neg (hne p 2 hp (by omega)), if_neg (hne p 1 hp (by omega)), if_neg h0]
      generalize ks[j] = x at h6 ⊢
      cases x
      obtain ⟨a0, a1, a2, a3, a4, a5⟩ := h6
      exact ⟨(hs 0 (by omega)).trans a0, (hs 1 (by omega)).trans a1, (hs 2 (by omega)).trans a2, (hs 3 (by omega)).trans a3, (hs 4 (by omega)).trans a4, (hs 5 (by omega)).trans a5⟩
  · by_cases e : j = i
    · subst e
      rw [hx]
      simp only [if_true]
      exact (hin.base (by omega)).keep hkeep
    · simp only [if_neg e]
      exact ((hD.kid j hj (by omega)).under hb1).keep hkeep
  · rw [hfl, List.nodup_append]
    refine ⟨hD.nodup, hnd, fun a ha b hb => ?_⟩
    have := (hD.bound a ha).2.lt
    have := (hbd b hb).1
    omega
  · intro x hx'
    rw [hfl, List.mem_append] at hx'
    rcases hx' with h | h
    · obtain ⟨h1, h2⟩ := hD.bound x h
      exact ⟨h1, ((((((h2.under hb1).set _ _).set _ _).set _ _).set _ _).set _ _).set _ _⟩
    · obtain ⟨h1, h2⟩ := hbd x h
      exact ⟨by omega, (((((h2.set _ _).set _ _).set _ _).set _ _).set _ _).set _ _⟩

set_option maxHeartbeats 2000000 in
theorem lToS (a : Option Addr) (cap B b o : Nat) (ks : List PT) (cs0 : Nat → NC) (fs0 : Nat → List Nat) (w : World) (hn : ks.length ≤ 1048576) (hz : ∀ x ∈ ks, szT x ≤ 1048576) (ha : ks = [] ∨ (a = some ⟨b, o, none⟩ ∧ B ≤ b))
    (hc : ∀ i (h : i < ks.length), SixAt w b (o + i * 6) ks[i] (cs0 i)) (hk : ∀ i (h : i < ks.length), NIn w B ks[i] (cs0 i) (fs0 i)) (ih : ∀ x ∈ ks, ToOK x) :
    Calls Try.prog 60 #[.slice a ks.length cap] w fun e w' => e = .returned (.slice (some ⟨w.heap.size, 0, none⟩) ks.length ks.length) ∧ Below w.heap.size w w' ∧ ∃ f cs fs, Done w' w.heap.size ks ks.length f cs fs := by
  have hmk := run_makeN ks.length hn
  have hb0 : ∀ o, Below w.heap.size w (w.alloc o) := fun o => (Below.refl _ _).alloc (Nat.le_refl _) o
  have HB0 : Hid (∀ o, Below w.heap.size w (w.alloc o)) := hb0
  have HD0 : Hid (Done (w.alloc (.cells (madeCells zeroN.cells (ks.length * 6)) 56)) w.heap.size ks 0 (fun j => (madeCells zeroN.cells (ks.length * 6)).getD j (.int .i64 0)) cs0 fs0) :=
    ⟨madeRow w ks.length, fun j _ h => by omega, fun j _ h => by omega, by simp, by simp⟩
  clear hb0
  generalize madeCells zeroN.cells (ks.length * 6) = mc at *
  rcases ha with rfl | ⟨rfl, hB⟩
  · clear hn
    simp only [List.length_nil, Int.natCast_zero] at hmk HD0 ⊢
    clear hc hk ih hz
    go_enter Try.func60, Try.ntmps60
    go_wp2
    refine wp_loop_rounds 1 ?_
    rw [rounds_succ]
    go_wp2
    go_ret
    exact ⟨rfl, HB0.out _, _, _, _, HD0.out⟩
  · have HC : Hid ((∀ i (h : i < ks.length), SixAt w b (o + i * 6) ks[i] (cs0 i)) ∧ (∀ i (h : i < ks.length), NIn w B ks[i] (cs0 i) (fs0 i)) ∧ (∀ x ∈ ks, szT x ≤ 1048576) ∧ (∀ x ∈ ks, ToOK x)) := ⟨hc, hk, hz, ih⟩
    clear hc hk hz ih
    go_enter Try.func60, Try.ntmps60
    go_wp2
    go_loopw [4] (fun vi wr => ∃ i : Nat, i ≤ ks.length ∧ vi = .int .i64 i ∧ Below w.heap.size w wr ∧ ∃ f cs fs, Done wr w.heap.size ks i f cs fs) (fun vi _ => ks.length - (intOf vi).toNat)
    case atStart => exact ⟨0, Nat.zero_le _, rfl, HB0.out _, _, _, _, HD0.out⟩
    case round =>
      obtain ⟨i, hi, rfl, hb, f, cs, fs, hD⟩ := hrel
      by_cases hlt : i < ks.length
      · obtain ⟨HC1, HC2, HC3, HC4⟩ := HC.out
        have h6 := (HC1 i hlt).keep hB (.of_below hb B)
        have hin := (HC2 i hlt).under hb
        have hcall := HC4 ks[i] (List.getElem_mem hlt) B (cs0 i) (fs0 i) wr (HC3 _ (List.getElem_mem hlt)) hin
        have hlt' : (i : Int) < (ks.length : Int) := by omega
        obtain ⟨x, hx⟩ : ∃ x, ks[i] = x := ⟨_, rfl⟩
        have HX : Hid (ks[i] = x) := hx
        rw [hx] at h6 hcall
        clear hin hx HC1 HC2 HC3 HC4
        generalize cs0 i = c at *
        cases x with
        | node k t n ns s ks' =>
        obtain ⟨h60, h61, h62, h63, h64, h65⟩ := h6
        have HCALL : Hid (Calls Try.prog 32 #[.agg #[.int .i64 k, .string t, .int .i64 n, .slice c.na ns.length c.nc, .bool s, .slice c.ka ks'.length c.kc]] wr fun e w' => ∃ c' fp', e = .returned (.agg #[.int .i64 k, .string t, .int .i64 n, .slice c'.na ns.length c'.nc, .bool s, .slice c'.ka ks'.length c'.kc]) ∧ NIn w' wr.heap.size (.node k t n ns s ks') c' fp' ∧ Below wr.heap.size wr w' ∧ fp'.Nodup ∧ (∀ x ∈ fp', wr.heap.size ≤ x ∧ Plain w' x)) := hcall
        have HDD : Hid (Done wr w.heap.size ks i f cs fs) := hD
        clear hcall hD
        go_wp2_with fail
        refine HCALL.out.mono ?_
        rintro e w1 ⟨c', fp', rfl, hin', hb1, hnd, hbd⟩
        have hrow := Below.rowIs HDD.out.row hb1
        have q0 := hrow.cell (i := i * 6) (by omega)
        have q1 := hrow.cell (i := i * 6 + 1) (by omega)
        have q2 := hrow.cell (i := i * 6 + 2) (by omega)
        have q3 := hrow.cell (i := i * 6 + 3) (by omega)
        have q4 := hrow.cell (i := i * 6 + 4) (by omega)
        have q5 := hrow.cell (i := i * 6 + 5) (by omega)
        have r0 := hrow.frozen (i * 6)
        have r1 := hrow.frozen (i * 6 + 1)
        have r2 := hrow.frozen (i * 6 + 2)
        have r3 := hrow.frozen (i * 6 + 3)
        have r4 := hrow.frozen (i * 6 + 4)
        have r5 := hrow.frozen (i * 6 + 5)
        clear h60 h61 h62 h63 h64 h65
        have HN : Hid (NIn w1 wr.heap.size (.node k t n ns s ks') c' fp' ∧ fp'.Nodup ∧ (∀ x ∈ fp', wr.heap.size ≤ x ∧ Plain w1 x)) := ⟨hin', hnd, hbd⟩
        have HRW : Hid (w1.rowIs w.heap.size 56 (ks.length * 6) f) := hrow
        clear hin' hnd hbd hrow
        go_wp2_with fail
        have hDn := HDD.out.step hb1 hlt HX.out HN.out.1 HN.out.2.1 HN.out.2.2
        have hbb : Below w.heap.size w w1 := hb.trans (hb1.mono hb.size)
        exact ⟨⟨i + 1, by omega, by go_num, (((((hbb.setCell (Nat.le_refl _) _).setCell (Nat.le_refl _) _).setCell (Nat.le_refl _) _).setCell (Nat.le_refl _) _).setCell (Nat.le_refl _) _).setCell (Nat.le_refl _) _, hDn⟩, by simp [intOf]; omega⟩
      · have hil : i = ks.length := by omega
        subst hil
        go_wp2_with fail
        go_ret
        exact ⟨rfl, hb, f, cs, fs, hD⟩

end Go.Proofs.Ytbkloddaooblfac

/-
  The walks of the law's functions that measure a tree: szStringS, szNodeS, szNode.
-/
import Derived.Test.YtbkloddaooblfacTree
namespace Go.Proofs.Ytbkloddaooblfac
open Go.RowKit

set_option maxHeartbeats 1000000 in
theorem lSzStr (a : Option Addr) (cap l B : Nat) (ns : List ByteArray) (w : World) (hl : l ≤ 1048576) (hn : ns.length ≤ 9223372036854775807) (hs : ∀ x ∈ ns, x.size ≤ 9223372036854775807) (h : StrsIn w B a ns) :
    Calls Try.prog 55 #[.slice a ns.length cap, .int .i64 l] w fun e w' => e = .returned (.int .i64 (subR l (ns.length + strsZ ns))) ∧ w' = w := by
  by_cases hbig : l < ns.length
  · rw [subR_gt (by omega)]
    have h1 : ((l : Int) - (ns.length : Int)) < 0 := by omega
    clear h hs
    go_enter Try.func55, Try.ntmps55
    go_wp2
    go_ret
    exact ⟨rfl, rfl⟩
  have h1 : ¬ ((l : Int) - (ns.length : Int)) < 0 := by omega
  rcases h with rfl | ⟨b, o, rfl, _, hc⟩
  · clear hs hn hbig
    rw [subR_le (by simp [strsZ])]
    simp only [List.length_nil] at h1 ⊢
    go_enter Try.func55, Try.ntmps55
    go_wp2
    refine wp_loop_rounds 1 ?_
    rw [rounds_succ]
    go_wp2
    go_ret
    exact ⟨rfl, rfl⟩
  · have HC : Hid (∀ i (h : i < ns.length), w.cell? ⟨b, o + i, none⟩ = some (.string ns[i])) := hc
    have HS : Hid (∀ x ∈ ns, x.size ≤ 9223372036854775807) := hs
    clear hc hs
    go_enter Try.func55, Try.ntmps55
    go_wp2
    go_loopw [1, 5] (fun vl vi wr => ∃ i m : Nat, i ≤ ns.length ∧ vi = .int .i64 i ∧ vl = .int .i64 m ∧ m ≤ l ∧ wr = w ∧ Hid (m + ns.length + strsZ (ns.take i) = l)) (fun _ vi _ => ns.length - (intOf vi).toNat)
    case atStart => exact ⟨0, l - ns.length, Nat.zero_le _, rfl, congrArg (Value.int .i64) (by omega), by omega, rfl, by show _ = _; simp [strsZ]; omega⟩
    case round =>
      obtain ⟨i, m, hi, rfl, rfl, hm, rfl, HM⟩ := hrel
      by_cases hlt : i < ns.length
      · have hcell := HC.out i hlt
        have hx := HS.out ns[i] (List.getElem_mem hlt)
        have hlt' : (i : Int) < (ns.length : Int) := by omega
        have HX : Hid (strsZ (ns.take (i + 1)) = strsZ (ns.take i) + ns[i].size ∧ strsZ (ns.take (i + 1)) ≤ strsZ ns) := ⟨strsZ_take ns i hlt, strsZ_le ns (i + 1)⟩
        generalize ns[i] = x at *
        by_cases hxm : x.size ≤ m
        · have h2 : ¬ ((m : Int) - (x.size : Int)) < 0 := by omega
          go_wp2_with fail
          refine ⟨⟨i + 1, m - x.size, by omega, by go_num, congrArg (Value.int .i64) (by omega), by omega, trivial, ?_⟩, by simp [intOf]; omega⟩
          have := HM.out; have := HX.out.1
          show _ = _; omega
        · have h2 : ((m : Int) - (x.size : Int)) < 0 := by omega
          go_wp2_with fail
          go_ret
          exact ⟨retT (subR_gt (by have := HM.out; have := HX.out; omega)).symm, rfl⟩
      · have hil : i = ns.length := by omega
        subst hil
        have HM2 := HM.out
        rw [List.take_length] at HM2
        have e : Hid ((m : Int) = subR l (ns.length + strsZ ns)) := by show _ = _; rw [subR_le (by omega)]; omega
        clear HM HM2
        go_wp2_with fail
        go_ret
        exact ⟨retT e.out, rfl⟩

def SzOK (t : PT) : Prop := ∀ (l B : Nat) (c : NC) (fp : List Nat) (w : World), l ≤ 1048576 → OkT t → NIn w B t c fp →
  Calls Try.prog 30 #[.agg (t.cells c), .int .i64 l] w fun e w' => e = .returned (.int .i64 (subR l (szT t))) ∧ Below w.heap.size w w'

set_option maxHeartbeats 1000000 in
theorem lSzS (a : Option Addr) (cap l B b o : Nat) (ks : List PT) (cs : Nat → NC) (fs : Nat → List Nat) (w : World) (hl : l ≤ 1048576) (hn : ks.length ≤ 9223372036854775807) (ha : ks = [] ∨ (a = some ⟨b, o, none⟩ ∧ B ≤ b))
    (hc : ∀ i (h : i < ks.length), SixAt w b (o + i * 6) ks[i] (cs i)) (hk : ∀ i (h : i < ks.length), NIn w B ks[i] (cs i) (fs i)) (hok : ∀ x ∈ ks, OkT x) (ih : ∀ x ∈ ks, SzOK x) :
    Calls Try.prog 56 #[.slice a ks.length cap, .int .i64 l] w fun e w' => e = .returned (.int .i64 (subR l (ks.length + szL ks))) ∧ Below w.heap.size w w' := by
  by_cases hbig : l < ks.length
  · rw [subR_gt (by omega)]
    have h1 : ((l : Int) - (ks.length : Int)) < 0 := by omega
    clear ha hc hk hok ih
    go_enter Try.func56, Try.ntmps56
    go_wp2
    go_ret
    exact ⟨rfl, Below.refl _ _⟩
  have h1 : ¬ ((l : Int) - (ks.length : Int)) < 0 := by omega
  rcases ha with rfl | ⟨rfl, hB⟩
  · clear hc hk hok ih hn hbig
    rw [subR_le (by simp [szL])]
    simp only [List.length_nil] at h1 ⊢
    have e : ((l - (0 + szL []) : Nat) : Int) = (l : Int) := by simp [szL]
    rw [e]
    go_enter Try.func56, Try.ntmps56
    go_wp2
    refine wp_loop_rounds 1 ?_
    rw [rounds_succ]
    go_wp2
    go_ret
    exact ⟨rfl, Below.refl _ _⟩
  · have HC : Hid ((∀ i (h : i < ks.length), SixAt w b (o + i * 6) ks[i] (cs i)) ∧ (∀ i (h : i < ks.length), NIn w B ks[i] (cs i) (fs i)) ∧ (∀ x ∈ ks, OkT x) ∧ (∀ x ∈ ks, SzOK x)) := ⟨hc, hk, hok, ih⟩
    clear hc hk hok ih
    go_enter Try.func56, Try.ntmps56
    go_wp2
    go_loopw [1, 5] (fun vl vi wr => ∃ i m : Nat, i ≤ ks.length ∧ vi = .int .i64 i ∧ vl = .int .i64 m ∧ m ≤ l ∧ Below w.heap.size w wr ∧ Hid (m + ks.length + szL (ks.take i) = l)) (fun _ vi _ => ks.length - (intOf vi).toNat)
    case atStart => exact ⟨0, l - ks.length, Nat.zero_le _, rfl, congrArg (Value.int .i64) (by omega), by omega, Below.refl _ _, by show _ = _; simp [szL]; omega⟩
    case round =>
      obtain ⟨i, m, hi, rfl, rfl, hm, hb, HM⟩ := hrel
      by_cases hlt : i < ks.length
      · obtain ⟨HC1, HC2, HC3, HC4⟩ := HC.out
        have h6 := (HC1 i hlt).keep hB (.of_below hb B)
        have hin := (HC2 i hlt).under hb
        have hcall := HC4 ks[i] (List.getElem_mem hlt) m B (cs i) (fs i) wr (by omega) (HC3 _ (List.getElem_mem hlt)) hin
        have HX : Hid (szL (ks.take (i + 1)) = szL (ks.take i) + szT ks[i] ∧ szL (ks.take (i + 1)) ≤ szL ks) := ⟨szL_take ks i hlt, szL_le ks (i + 1)⟩
        have hlt' : (i : Int) < (ks.length : Int) := by omega
        clear hin
        generalize cs i = c at *
        generalize szT ks[i] = z at *
        generalize ks[i] = x at *
        cases x with
        | node k t n ns s ks' =>
        obtain ⟨h60, h61, h62, h63, h64, h65⟩ := h6
        have HCALL : Hid (Calls Try.prog 30 #[.agg #[.int .i64 k, .string t, .int .i64 n, .slice c.na ns.length c.nc, .bool s, .slice c.ka ks'.length c.kc], .int .i64 m] wr fun e w' => e = .returned (.int .i64 (subR m z)) ∧ Below wr.heap.size wr w') := hcall
        clear hcall HC1 HC2 HC3 HC4
        go_wp2_with fail
        refine HCALL.out.mono ?_
        rintro e w1 ⟨rfl, hb1⟩
        have hb2 := hb.trans (hb1.mono hb.size)
        by_cases hz : z ≤ m
        · rw [subR_le hz]
          have h2 : ¬ (((m - z : Nat) : Int)) < 0 := by omega
          go_wp2_with fail
          refine ⟨⟨i + 1, m - z, by omega, by go_num, rfl, by omega, hb2, ?_⟩, by simp [intOf]; omega⟩
          have := HM.out; have := HX.out.1
          show _ = _; omega
        · rw [subR_gt (by omega)]
          go_wp2_with fail
          go_ret
          exact ⟨retT (subR_gt (by have := HM.out; have := HX.out; omega)).symm, hb2⟩
      · have hil : i = ks.length := by omega
        subst hil
        have HM2 := HM.out
        rw [List.take_length] at HM2
        have e : Hid ((m : Int) = subR l (ks.length + szL ks)) := by show _ = _; rw [subR_le (by omega)]; omega
        clear HM HM2
        go_wp2_with fail
        go_ret
        exact ⟨retT e.out, hb⟩

set_option maxHeartbeats 1000000 in
theorem lSz (t : PT) : SzOK t := by
  induction t using PT.ind with
  | h k t n ns s ks ih =>
  intro l B c fp w hl hok hin
  cases hok with
  | mk _ _ _ _ _ _ ht hn hs hkl hkk =>
  cases hin with
  | mk _ _ _ _ _ _ _ b o cs fs hns ha hc hk =>
  have C1 := fun W (h : StrsIn W B c.na ns) (m : Nat) (hm : m ≤ 1048576) => lSzStr c.na c.nc m B ns W hm hn hs h
  have C2 := fun W (h : Below w.heap.size w W) (m : Nat) (hm : m ≤ 1048576) => lSzS c.ka c.kc m B b o ks cs fs W hm hkl ha (fun i hi => by
    rcases ha with rfl | ⟨_, hB⟩
    · simp at hi
    · exact (hc i hi).keep hB (.of_below h B)) (fun i hi => (hk i hi).under h) hkk ih
  have H1 : Hid (∀ W, StrsIn W B c.na ns → ∀ m : Nat, m ≤ 1048576 → Calls Try.prog 55 #[.slice c.na ns.length c.nc, .int .i64 m] W fun e w' => e = .returned (.int .i64 (subR m (ns.length + strsZ ns))) ∧ w' = W) := C1
  have H2 : Hid (∀ W, Below w.heap.size w W → ∀ m : Nat, m ≤ 1048576 → Calls Try.prog 56 #[.slice c.ka ks.length c.kc, .int .i64 m] W fun e w' => e = .returned (.int .i64 (subR m (ks.length + szL ks))) ∧ Below W.heap.size W w') := C2
  have HN : Hid (StrsIn w B c.na ns) := hns
  clear C1 C2 hns ha hc hk ih hkk hs
  rw [szT]
  unfold PT.cells nodeC
  dsimp only
  generalize c.na = na at *
  generalize c.nc = nc at *
  generalize c.ka = ka at *
  generalize c.kc = kc at *
  generalize hz1 : ns.length + strsZ ns = z1 at *
  generalize hz2 : ks.length + szL ks = z2 at *
  clear hz1 hz2
  by_cases h1 : l < t.size
  · have h1' : ((l : Int) - (t.size : Int)) < 0 := by omega
    go_enter Try.func30, Try.ntmps30
    go_wp2_with fail
    go_ret
    exact ⟨retT (subR_gt (by omega)).symm, (Below.refl _ _).alloc (Nat.le_refl _) _⟩
  have h1' : ¬ ((l : Int) - (t.size : Int)) < 0 := by omega
  have e1 : ((l : Int) - (t.size : Int)) = ((l - t.size : Nat) : Int) := by omega
  have hb0 : ∀ o, Below w.heap.size w (w.alloc o) := fun o => (Below.refl _ _).alloc (Nat.le_refl _) o
  have HB0 : Hid (∀ o, Below w.heap.size w (w.alloc o)) := hb0
  clear hb0
  go_enter Try.func30, Try.ntmps30
  go_wp2_with fail
  refine (H1.out _ (HN.out.keep (.of_below (HB0.out _) B)) _ (by omega)).mono ?_
  rintro e w1 ⟨rfl, rfl⟩
  by_cases h2 : l - t.size < z1
  · rw [subR_gt h2]
    go_wp2_with fail
    go_ret
    exact ⟨retT (subR_gt (by omega)).symm, HB0.out _⟩
  rw [subR_le (by omega)]
  have h2' : ¬ (((l - t.size - z1 : Nat) : Int)) < 0 := by omega
  go_wp2_with fail
  refine (H2.out _ (HB0.out _) _ (by omega)).mono ?_
  rintro e w2 ⟨rfl, hb2⟩
  have hbf := (HB0.out _).trans (hb2.mono (HB0.out _).size)
  by_cases h3 : l - t.size - z1 < z2
  · rw [subR_gt h3]
    go_wp2_with fail
    go_ret
    exact ⟨retT (subR_gt (by omega)).symm, hbf⟩
  rw [subR_le (by omega)]
  have h3' : ¬ (((l - t.size - z1 - z2 : Nat) : Int)) < 0 := by omega
  go_wp2_with fail
  go_ret
  exact ⟨retT (by rw [subR_le (by omega)]; omega), hbf⟩

end Go.Proofs.Ytbkloddaooblfac

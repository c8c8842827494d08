/-
  The iterator over a session's programs: what it hands on, and in which order.
-/
import Derived.Test.YtncljjcmdgakhaaSpC
import Derived.RangeFuncNested
import Derived.RangeFuncBound
import Derived.RangeFuncCalls
import Derived.RangeFuncLeaves
import Derived.Shelf.Abstract
import Derived.Shelf.RegionOpen
import Derived.OwnWalkIn
import Derived.TacticsInMore
import Derived.LoopNIn
import Derived.LoopIn
namespace Go.Proofs.Ytncljjcmdgakhaa
open Go.RowKit Go.Shelf

attribute [local go_sem] Oper.semAt_some

/-- A text of at most 4000 bytes. -/
abbrev T4 := { x : ByteArray // x.size ≤ 4000 }
def raw (l : List T4) : List ByteArray := l.map Subtype.val
theorem raw_snoc (l : List T4) (x : T4) : raw (l ++ [x]) = raw l ++ [x.1] := by simp [raw]
theorem raw_len (l : List T4) : (raw l).length = l.length := by simp [raw]
theorem cut_size (t : ByteArray) : (cutT t).size ≤ t.size := by
  unfold cutT
  split
  · split
    · rw [ByteArray.size_extract]; omega
    · exact Nat.le_refl _
  · exact Nat.le_refl _

set_option maxRecDepth 100000 in
set_option maxHeartbeats 4000000 in
theorem iProg1 (n l Bs : Nat) (s : ByteArray) (hs : s.size ≤ 4000) (J Jx : List T4 → World → Prop) (B : Nat) (hJ : AbidesFrom B J)
    (hY : ∀ pre x W, J pre W → pre.length < (partsV s).length → YieldAt Fence.wide (n - 1) Try.prog l #[.string x.1] W fun e W' =>
      (e = .returned (.bool true) ∧ J (pre ++ [x]) W' ∧ W'.heap[Bs]? = W.heap[Bs]?) ∨ (e = .returned (.bool false) ∧ Jx (pre ++ [x]) W'))
    (W : World) (hBs : W.cell? ⟨Bs, 0, none⟩ = some (.string s)) (h0 : J [] W) :
    CallsIn Fence.wide n Try.prog 16 #[.func (.yield l) #[] #[], .pointer (some ⟨Bs, 0, none⟩)] W fun e W' => (∃ v, e = .returned v) ∧
      ((∃ ys, raw ys = partsV s ∧ J ys W') ∨ (∃ pre, raw pre <+: partsV s ∧ Jx pre W')) := by
  have hdd : ∀ k : Nat, (Fence.wide.depth.isSome = true → 1 ≤ k) := fun k h => by cases h
  have HC : Hid (∀ wr : World, wr.heap[Bs]? = W.heap[Bs]? → wr.cell? ⟨Bs, 0, none⟩ = some (.string s)) := fun wr h => (World.cell?_of_block (a := ⟨Bs, 0, none⟩) h).trans hBs
  have HY : Hid (∀ pre x W, J pre W → pre.length < (partsV s).length → YieldAt Fence.wide (n - 1) Try.prog l #[.string x.1] W fun e W' =>
      (e = .returned (.bool true) ∧ J (pre ++ [x]) W' ∧ W'.heap[Bs]? = W.heap[Bs]?) ∨ (e = .returned (.bool false) ∧ Jx (pre ++ [x]) W')) := hY
  have HCU : Hid (∀ t V, t.size ≤ 4000 → CallsIn Fence.wide (n - 1) Try.prog 17 #[.string t, .string ⟨#[10]⟩] V fun e w' => ∃ x y n, e = .returned (.tuple #[.string (t.extract 0 (len1 t)), x, y]) ∧ w' = V.drewN n) := fun t V ht => callsIn_wide.2 (iCut t V ht)
  have HTR : Hid (∀ t V, t.size ≤ 4000 → CallsIn Fence.wide (n - 1) Try.prog 18 #[.string t, .string ⟨#[10]⟩] V fun e w' => e = .returned (.string (cutT t)) ∧ w' = V) := fun t V ht => callsIn_wide.2 (iTrim t V ht)
  have HJ : Hid (∀ pre V k, J pre V → J pre (V.drewN k)) := fun pre V k h => hJ pre V _ none h ⟨rfl, rfl, rfl, Nat.le_refl _, fun _ _ _ => rfl⟩ (fun r e => by cases e)
  have HP : Hid (∀ P0, P0 = partsV s → P0 = partsV s) := fun _ h => h
  obtain ⟨V, hV⟩ : ∃ V, V = partsV s := ⟨_, rfl⟩
  have HV : Hid (V = PR s 0 0) := by show _ = _; rw [PR_start]; exact hV
  rw [← hV] at HY ⊢
  clear hY hJ hBs HP hV
  refine callsIn_of_wp Try.func16 rfl trivial ?_ rfl
  simp only [Try.ntmps16, List.size_toArray, List.length_cons, List.length_nil, Nat.reduceAdd, Nat.reduceSub, Array.replicate_succ, Array.replicate_zero, List.push_toArray, List.append_toArray, List.nil_append, List.cons_append]
  gi_wp2
  gi_loopw [3, 4] (fun vb va wr => ∃ (b a : Nat) (pre : List T4), b ≤ a ∧ a ≤ s.size ∧ vb = .int .i64 b ∧ va = .int .i64 a ∧ Hid (J pre wr ∧ V = raw pre ++ PR s b a ∧ wr.heap[Bs]? = W.heap[Bs]?)) (fun _ va _ => s.size - (intOf va).toNat)
  case atStart => exact ⟨0, 0, [], Nat.le_refl _, Nat.zero_le _, rfl, rfl, h0, HV.out, rfl⟩
  case round =>
    obtain ⟨b, a, pre, hb, ha, rfl, rfl, HE⟩ := hrel
    have hcl := HC.out wr HE.out.2.2
    by_cases hlt : a < s.size
    · have hlt' : (a : Int) < (s.size : Int) := by omega
      have hle' : (a : Int) ≤ (s.size : Int) := by omega
      have hts : (s.extract a s.size).size ≤ 4000 := by rw [ext_size_le s a ha]; omega
      obtain ⟨m, hm⟩ : ∃ m, m = len1 (s.extract a s.size) := ⟨_, rfl⟩
      have hml : a + m ≤ s.size := by rw [hm]; have := len1_le (s.extract a s.size); rw [ext_size_le s a ha] at this; omega
      have HST : Hid _ := PR_step s b a m hb hlt hm
      have hC := HCU.out (s.extract a s.size) wr hts
      rw [← hm, ext_ext s a m hml] at hC
      obtain ⟨L, hL⟩ : ∃ L, L = s.extract a (a + m) := ⟨_, rfl⟩
      have hLs : L.size = m := by rw [hL, ByteArray.size_extract]; omega
      rw [← hL] at hC
      clear hm
      gi_wp2
      refine ⟨trivial, hdd _, hC.mono ?_⟩
      rintro e w2 ⟨x, y, k, rfl, rfl⟩
      have hcl2 : (wr.drewN k).cell? ⟨Bs, 0, none⟩ = some (.string s) := hcl
      have HE2 : Hid (J pre (wr.drewN k) ∧ (wr.drewN k).heap[Bs]? = W.heap[Bs]?) := ⟨HJ.out _ _ _ HE.out.1, HE.out.2.2⟩
      have HVV : Hid (V = raw pre ++ PR s b a) := HE.out.2.1
      clear HE hcl hC
      generalize wr.drewN k = W2 at *
      clear HJ HCU
      obtain ⟨z, hz⟩ : ∃ z, z = min (a + m + 1) s.size := ⟨_, rfl⟩
      rw [← hz, ← hL] at HST
      have hza : a < z := by omega
      have hzs : z ≤ s.size := by omega
      have hmin : min ((a : Int) + (m : Int) + 1) (s.size : Int) = (z : Int) := by omega
      clear hz
      have hbl : (b : Int) ≤ (a : Int) := by omega
      by_cases hd : L = dashes
      · have hlist : (L.toList == [45, 45, 45]) = true := by rw [hd, dashes_list]; rfl
        have hts2 : (s.extract b a).size ≤ 4000 := by rw [ByteArray.size_extract]; omega
        have hx : (cutT (s.extract b a)).size ≤ 4000 := Nat.le_trans (cut_size _) hts2
        have HN : Hid (V = raw (pre ++ [⟨cutT (s.extract b a), hx⟩]) ++ PR s z z) := by show _ = _; rw [raw_snoc, HVV.out, HST.out, if_pos hd]; simp
        have hTR := HTR.out (s.extract b a) W2 hts2
        obtain ⟨fn, tmps, assign, body, hy, hR⟩ := HY.out pre ⟨cutT (s.extract b a), hx⟩ W2 HE2.out.1 (by rw [HN.out, List.length_append, raw_len]; simp; omega)
        clear hd HST HVV hL
        dsimp only at hy
        generalize cutT (s.extract b a) = X at *
        gi_wp2
        refine ⟨trivial, hdd _, hTR.mono ?_⟩
        rintro e w3 ⟨rfl, rfl⟩
        gi_wp2
        refine ⟨hdd _, hR.mono ?_⟩
        rintro e W3 (⟨rfl, hJ3, hk3⟩ | ⟨rfl, hJx3⟩)
        · gi_wp2
          go_roundw
          case rel => exact ⟨z, z, _, Nat.le_refl _, hzs, rfl, rfl, hJ3, HN.out, hk3.trans HE2.out.2⟩
          case measure => simp [intOf]; omega
        · gi_wp2
          refine bodyPost_ret (results_none rfl _ _ _) rfl ?_
          exact ⟨⟨_, rfl⟩, .inr ⟨_, ⟨_, HN.out.symm⟩, hJx3⟩⟩
      · have hlist : (L.toList == [45, 45, 45]) = false := by have := (bytes_ne hd).2.1; rwa [dashes_list] at this
        have HN : Hid (V = raw pre ++ PR s b z) := by show _ = _; rw [HVV.out, HST.out, if_neg hd]
        clear hd HST HVV hL
        gi_wp2
        exact ⟨⟨b, z, pre, by omega, hzs, rfl, rfl, HE2.out.1, HN.out, HE2.out.2⟩, by simp [intOf]; omega⟩
    · have hlt' : ¬ (a : Int) < (s.size : Int) := by omega
      obtain rfl : a = s.size := by omega
      have hbl : (b : Int) ≤ (s.size : Int) := by omega
      have hx : (s.extract b s.size).size ≤ 4000 := by rw [ext_size_le s b hb]; omega
      have HN : Hid (V = raw (pre ++ [⟨s.extract b s.size, hx⟩])) := by show _ = _; rw [raw_snoc, HE.out.2.1, PR_end]
      obtain ⟨fn, tmps, assign, body, hy, hR⟩ := HY.out pre ⟨s.extract b s.size, hx⟩ wr HE.out.1 (by rw [HN.out, raw_len]; simp)
      gi_wp2
      refine ⟨hdd _, hR.mono ?_⟩
      rintro e W3 (⟨rfl, hJ3, hk3⟩ | ⟨rfl, hJx3⟩)
      · gi_wp2
        go_end0
        exact ⟨⟨_, rfl⟩, .inl ⟨_, HN.out.symm, hJ3⟩⟩
      · gi_wp2
        go_end0
        exact ⟨⟨_, rfl⟩, .inr ⟨_, by rw [← HN.out]; exact List.prefix_refl _, hJx3⟩⟩

end Go.Proofs.Ytncljjcmdgakhaa

/-
  slices.Backward over a row of kids: what it hands on, and in which order.
-/
import Derived.Test.YtbkloddaooblfacEvN
import Derived.RangeFuncNested
import Derived.RangeFuncBound
import Derived.RangeFuncCalls
import Derived.RangeFuncLeaves
import Derived.Shelf.Abstract
import Derived.Shelf.RegionOpen
import Derived.OwnWalkIn
import Derived.TacticsInMore
import Derived.LoopNIn
import Derived.LoopIn
namespace Go.Proofs.Ytbkloddaooblfac
open Go.RowKit Go.Shelf

attribute [local go_sem] Oper.semAt_some

def ptD : PT := .node 0 ⟨#[]⟩ 0 [] false []
theorem getD_at (ks : List PT) (i : Nat) (h : i < ks.length) : ks.getD i ptD = ks[i] := by simp [List.getD, h]
/-- What a round is handed. -/
def encB (ks : List PT) (cs : Nat → NC) (j : Nat) : Array Value := #[.int .i64 (j : Int), .agg ((ks.getD j ptD).cells (cs j))]
/-- What a round keeps: the box of the row, and the row. -/
def BwK (Bs b : Nat) (W W' : World) : Prop := W'.heap[Bs]? = W.heap[Bs]? ∧ W'.heap[b]? = W.heap[b]?
theorem BwK.refl (Bs b : Nat) (W : World) : BwK Bs b W W := ⟨rfl, rfl⟩
theorem BwK.trans {Bs b : Nat} {A B C : World} (h : BwK Bs b A B) (k : BwK Bs b B C) : BwK Bs b A C := ⟨k.1.trans h.1, k.2.trans h.2⟩
/-- From the last one down to this. -/
def dn (n k : Nat) : List Nat := (List.range' k (n - k)).reverse
theorem dn_top (n : Nat) : dn n n = [] := by simp [dn]
theorem dn_succ {n k : Nat} (h : k < n) : dn n k = dn n (k + 1) ++ [k] := by
  unfold dn
  rw [show n - k = (n - (k + 1)) + 1 by omega, List.range'_succ]
  simp
theorem dn_len (n k : Nat) : (dn n k).length = n - k := by simp [dn]

set_option maxRecDepth 100000 in
set_option maxHeartbeats 2000000 in
theorem iBack1 (n l Bs b o kc : Nat) (ka : Option Addr) (ks : List PT) (cs : Nat → NC) (hlen : ks.length ≤ 1048576) (J Jx : List Nat → World → Prop)
    (hY : ∀ pre x W, J pre W → pre.length < ks.length → YieldAt Fence.wide (n - 1) Try.prog l (encB ks cs x) W fun e W' =>
      (e = .returned (.bool true) ∧ J (pre ++ [x]) W' ∧ BwK Bs b W W') ∨ (e = .returned (.bool false) ∧ Jx (pre ++ [x]) W'))
    (W : World) (hBs : W.heap[Bs]? = some (.cells #[.slice ka ks.length kc] 54 (0, 0))) (ha : ks = [] ∨ ka = some ⟨b, o, none⟩) (hc : ∀ i (h : i < ks.length), SixAt W b (o + i * 6) ks[i] (cs i)) (h0 : J [] W) :
    CallsIn Fence.wide n Try.prog 93 #[.func (.yield l) #[] #[], .pointer (some ⟨Bs, 0, none⟩)] W fun e W' => (∃ v, e = .returned v) ∧
      ((∃ ys, ys = dn ks.length 0 ∧ J ys W') ∨ (∃ pre, True ∧ Jx pre W')) := by
  have hdd : ∀ k : Nat, (Fence.wide.depth.isSome = true → 1 ≤ k) := fun k h => by cases h
  have hcell : ∀ wr, BwK Bs b W wr → wr.cell? ⟨Bs, 0, none⟩ = some (.slice ka ks.length kc) := fun wr h => by simp [World.cell?, h.1, hBs]
  have HC : Hid (∀ wr, BwK Bs b W wr → wr.cell? ⟨Bs, 0, none⟩ = some (.slice ka ks.length kc) ∧ ∀ i (h : i < ks.length), SixAt wr b (o + i * 6) ks[i] (cs i)) := fun wr hk => by
    refine ⟨hcell wr hk, fun i h => ?_⟩
    have h6 := hc i h
    have he : ∀ j, wr.cell? ⟨b, j, none⟩ = W.cell? ⟨b, j, none⟩ := fun j => World.cell?_of_block (w := W) hk.2
    generalize ks[i] = x at h6 ⊢
    cases x
    obtain ⟨a0, a1, a2, a3, a4, a5⟩ := h6
    exact ⟨(he _).trans a0, (he _).trans a1, (he _).trans a2, (he _).trans a3, (he _).trans a4, (he _).trans a5⟩
  have hs0 := hcell W (BwK.refl _ _ _)
  have HA : Hid (ks = [] ∨ ka = some ⟨b, o, none⟩) := ha
  have HY : Hid (∀ pre x W, J pre W → pre.length < ks.length → YieldAt Fence.wide (n - 1) Try.prog l (encB ks cs x) W fun e W' =>
      (e = .returned (.bool true) ∧ J (pre ++ [x]) W' ∧ BwK Bs b W W') ∨ (e = .returned (.bool false) ∧ Jx (pre ++ [x]) W')) := hY
  clear hcell hc hBs ha hY
  refine callsIn_of_wp Try.func93 rfl trivial ?_ rfl
  simp only [Try.ntmps93, List.size_toArray, List.length_cons, List.length_nil, Nat.reduceAdd, Nat.reduceSub, Array.replicate_succ, Array.replicate_zero, List.push_toArray, List.append_toArray, List.nil_append, List.cons_append]
  gi_wp2
  gi_loopw [3] (fun vi wr => ∃ k : Nat, k ≤ ks.length ∧ vi = .int .i64 ((k : Int) - 1) ∧ J (dn ks.length k) wr ∧ BwK Bs b W wr) (fun vi _ => (intOf vi + 1).toNat)
  case atStart => exact ⟨ks.length, Nat.le_refl _, rfl, by rw [dn_top]; exact h0, BwK.refl _ _ _⟩
  case round =>
    obtain ⟨k, hk, rfl, hJs, hnx⟩ := hrel
    cases k with
    | zero =>
      simp only [Int.natCast_zero, Int.zero_sub]
      gi_wp2
      go_end0
      exact ⟨⟨_, rfl⟩, .inl ⟨_, rfl, hJs⟩⟩
    | succ j =>
      have hj : j < ks.length := by omega
      obtain ⟨hcl, h6⟩ := HC.out wr hnx
      replace h6 := h6 j hj
      have eka := HA.out.resolve_left (fun e => by simp [e] at hj)
      obtain ⟨fn, tmps, assign, body, hy, hR⟩ := HY.out _ j wr hJs (by rw [dn_len]; omega)
      unfold encB at hy
      rw [getD_at ks j hj] at hy
      rw [eka] at hcl
      have e1 : (((j + 1 : Nat) : Int) - 1) = (j : Int) := by omega
      rw [e1]
      have hlt' : (j : Int) < (ks.length : Int) := by omega
      have hge : (0 : Int) ≤ (j : Int) := by omega
      generalize ks[j] = x at *
      generalize cs j = d at *
      cases x with
      | node kx tx nx nsx sx ksx =>
      obtain ⟨h60, h61, h62, h63, h64, h65⟩ := h6
      unfold PT.cells nodeC at hy
      dsimp only at hy
      clear e1 eka
      gi_wp2
      refine ⟨hdd _, hR.mono ?_⟩
      rintro e W3 (⟨rfl, hJ3, hk3⟩ | ⟨rfl, hJx3⟩)
      · gi_wp2
        go_roundw
        case rel => exact ⟨j, by omega, rfl, by rw [dn_succ hj]; exact hJ3, hnx.trans hk3⟩
        case measure => simp [intOf]
      · gi_wp2
        refine bodyPost_ret (results_none rfl _ _ _) rfl ?_
        exact ⟨⟨_, rfl⟩, .inr ⟨_, trivial, hJx3⟩⟩

set_option maxHeartbeats 1000000 in
theorem iBack (a : Option Addr) (len cap : Nat) (w : World) :
    Calls Try.prog 87 #[.slice a len cap] w fun e w' => e = .returned (.func (.func 93) #[] #[.pointer (some ⟨w.heap.size, 0, none⟩)]) ∧ w' = w.alloc (.cells #[.slice a len cap] 54) := by
  go_enter Try.func87, Try.ntmps87
  go_wp2
  go_ret
  exact ⟨rfl, rfl⟩

end Go.Proofs.Ytbkloddaooblfac

/-
  Calls of eval in trees, in plain words; the smallest functions of both sides.
-/
import Derived.Test.YtbkloddaooblfacTreeEq
namespace Go.Proofs.Ytbkloddaooblfac
open Go.RowKit

def fnK (k : Int) : Bool := decide (k = 5) || decide (k = 22)
def PT.kind : PT → Int
  | .node k _ _ _ _ _ => k
def PT.text : PT → ByteArray
  | .node _ t _ _ _ _ => t
def PT.kids : PT → List PT
  | .node _ _ _ _ _ ks => ks
def evalW : ByteArray := ⟨#[101, 118, 97, 108]⟩
def evalH (k : Int) : List PT → Bool
  | [] => false
  | x :: _ => decide (k = 9) && decide (x.kind = 4) && decide (x.text = evalW)
def evalT (t : PT) : Bool := evalH t.kind t.kids
mutual
def callsT : PT → Bool
  | .node k _ _ _ _ ks => evalH k ks || callsL ks
def callsL : List PT → Bool
  | [] => false
  | x :: r => (!fnK x.kind && callsT x) || callsL r
end
/-- What a stack of trees still tells. -/
def subC (x : PT) : Bool := !fnK x.kind && callsT x
theorem callsL_any (ks : List PT) : callsL ks = ks.any subC := by
  induction ks with
  | nil => rfl
  | cons x r ih => rw [callsL, ih]; rfl
theorem evalH_ne {k : Int} (h : k ≠ 9) (ks : List PT) : evalH k ks = false := by
  cases ks with
  | nil => rfl
  | cons x r => simp [evalH, h]
theorem evalH_kind {k : Int} {x : PT} (r : List PT) (h : x.kind ≠ 4) : evalH k (x :: r) = false := by simp [evalH, h]
theorem evalH_text {k : Int} {x : PT} (r : List PT) (h : x.text ≠ evalW) : evalH k (x :: r) = false := by simp [evalH, h]
theorem evalH_yes {x : PT} (r : List PT) (h1 : x.kind = 4) (h2 : x.text = evalW) : evalH 9 (x :: r) = true := by simp [evalH, h1, h2]

theorem evalW_list : evalW.toList = [101, 118, 97, 108] := by simp [evalW, ByteArray.toList_eq]
theorem text_inj' {a b : ByteArray} (h : a.toList = b.toList) : a = b := by
  rw [ByteArray.toList_eq, ByteArray.toList_eq] at h
  cases a; cases b; simpa using h
theorem text_ne' {a b : ByteArray} (h : ¬ a = b) : (a.toList != b.toList) = true ∧ (a.toList == b.toList) = false ∧ ¬ a.toList = b.toList := by
  have : ¬ a.toList = b.toList := fun e => h (text_inj' e)
  simp [this]

set_option maxHeartbeats 1000000 in
theorem iFn (t : PT) (c : NC) (w : World) :
    Calls Try.prog 77 #[.agg (t.cells c)] w fun e w' => e = .returned (.bool (fnK t.kind)) ∧ Below w.heap.size w w' := by
  cases t with
  | node k x n ns s ks =>
  have hb0 : ∀ o, Below w.heap.size w (w.alloc o) := fun o => (Below.refl _ _).alloc (Nat.le_refl _) o
  have HB0 : Hid (∀ o, Below w.heap.size w (w.alloc o)) := hb0
  clear hb0
  unfold PT.cells nodeC PT.kind fnK
  dsimp only
  by_cases h5 : k = 5
  · subst h5
    go_enter Try.func77, Try.ntmps77
    go_wp2_with fail
    go_ret
    exact ⟨rfl, HB0.out _⟩
  · have e5 : (k == 5) = false := by simp [h5]
    by_cases h22 : k = 22
    · subst h22
      go_enter Try.func77, Try.ntmps77
      go_wp2_with fail
      go_ret
      exact ⟨rfl, HB0.out _⟩
    · have e22 : (k == 22) = false := by simp [h22]
      have e : (decide (k = 5) || decide (k = 22)) = false := by simp [h5, h22]
      rw [e]
      clear e
      go_enter Try.func77, Try.ntmps77
      go_wp2_with fail
      go_ret
      exact ⟨rfl, HB0.out _⟩

set_option maxHeartbeats 1000000 in
theorem sFn (k : Int) (w : World) :
    Calls Try.prog 57 #[.int .i64 k] w fun e w' => e = .returned (.bool (fnK k)) ∧ w' = w := by
  unfold fnK
  by_cases h5 : k = 5
  · subst h5
    go_enter Try.func57, Try.ntmps57
    go_wp2_with fail
    go_ret
    exact ⟨rfl, rfl⟩
  · have e5 : (k == 5) = false := by simp [h5]
    by_cases h22 : k = 22
    · subst h22
      go_enter Try.func57, Try.ntmps57
      go_wp2_with fail
      go_ret
      exact ⟨rfl, rfl⟩
    · have e22 : (k == 22) = false := by simp [h22]
      have e : (decide (k = 5) || decide (k = 22)) = false := by simp [h5, h22]
      rw [e]
      clear e
      go_enter Try.func57, Try.ntmps57
      go_wp2_with fail
      go_ret
      exact ⟨rfl, rfl⟩

set_option maxHeartbeats 2000000 in
theorem iEval (t : PT) (B : Nat) (c : NC) (fp : List Nat) (w : World) (hz : szT t ≤ 1048576) (hin : NIn w B t c fp) :
    Calls Try.prog 62 #[.agg (t.cells c)] w fun e w' => e = .returned (.bool (evalT t)) ∧ Below w.heap.size w w' := by
  have hb0 : ∀ o, Below w.heap.size w (w.alloc o) := fun o => (Below.refl _ _).alloc (Nat.le_refl _) o
  have HB0 : Hid (∀ o, Below w.heap.size w (w.alloc o)) := hb0
  clear hb0
  cases hin with
  | mk k x n ns s ks c b o cs fs hns ha hc hk =>
  rw [szT] at hz
  unfold PT.cells nodeC evalT PT.kind PT.kids
  dsimp only
  by_cases h9 : k = 9
  · subst h9
    cases ks with
    | nil =>
      go_enter Try.func62, Try.ntmps62
      go_wp2_with fail
      go_ret
      exact ⟨rfl, HB0.out _⟩
    | cons y r =>
      obtain ⟨eka, _⟩ := ha.resolve_left (fun e => by cases e)
      have h6 := hc 0 (by simp)
      rw [eka]
      simp only [Nat.zero_mul, Nat.add_zero, List.getElem_cons_zero] at h6
      clear hc hk hns ha
      cases y with
      | node ky ty ny nsy sy ksy =>
      obtain ⟨q0, q1, q2, q3, q4, q5⟩ := h6
      have hpos : (0 : Int) < ((PT.node ky ty ny nsy sy ksy :: r).length : Int) := by simp
      have hlen : (PT.node ky ty ny nsy sy ksy :: r).length ≤ 1048576 := by omega
      have hb1 : b < w.heap.size := World.block_lt_of_cell? w _ q0
      have hcc : ∀ (ob : Obj) (j : Nat), (w.alloc ob).cell? ⟨b, j, none⟩ = w.cell? ⟨b, j, none⟩ := fun ob j => ((Below.refl w.heap.size w).alloc (Nat.le_refl _) ob).cell hb1
      have q0' := fun ob => (hcc ob o).trans q0
      have q1' := fun ob => (hcc ob (o + 1)).trans q1
      clear q2 q3 q4 q5 hcc
      by_cases h4 : ky = 4
      · subst h4
        by_cases ht : ty = evalW
        · rw [evalH_yes (x := .node 4 ty ny nsy sy ksy) r rfl ht]
          subst ht
          unfold evalW at q1 q1'
          generalize (PT.node 4 evalW ny nsy sy ksy :: r).length = L at *
          go_enter Try.func62, Try.ntmps62
          go_wp2_with fail
          go_ret
          exact ⟨rfl, HB0.out _⟩
        · rw [evalH_text (x := .node 4 ty ny nsy sy ksy) r ht]
          obtain ⟨y1, y2, y3⟩ := text_ne' ht
          rw [evalW_list] at y1 y2 y3
          generalize (PT.node 4 ty ny nsy sy ksy :: r).length = L at *
          go_enter Try.func62, Try.ntmps62
          go_wp2_with fail
          go_ret
          exact ⟨rfl, HB0.out _⟩
      · rw [evalH_kind (x := .node ky ty ny nsy sy ksy) r h4]
        have e4 : (ky == 4) = false := by simp [h4]
        generalize (PT.node ky ty ny nsy sy ksy :: r).length = L at *
        go_enter Try.func62, Try.ntmps62
        go_wp2_with fail
        go_ret
        exact ⟨rfl, HB0.out _⟩
  · rw [evalH_ne h9]
    have e9 : (k == 9) = false := by simp [h9]
    go_enter Try.func62, Try.ntmps62
    go_wp2_with fail
    go_ret
    exact ⟨rfl, HB0.out _⟩

end Go.Proofs.Ytbkloddaooblfac

/-
  The law's functions on TokensOut.
-/
import Derived.Test.YtgdiohnpaldeiaaDoorLawD
namespace Go.Proofs.YtgdiohnpaldeiaaDoor
open Go.RowKit

set_option maxHeartbeats 1000000 in
theorem lEqOut (a1 a2 : Option Addr) (c1 c2 B1 B2 : Nat) (l : List Lex.TokF) (p q : Int) (w : World) (hl : l.length ≤ 1000) (h1 : OwnT w B1 (.slice a1 l.length c1) l) (h2 : OwnT w B2 (.slice a2 l.length c2) l) :
    Calls Tryd.prog 12 #[.agg #[.slice a1 l.length c1, .int .i64 p, .int .i64 q], .agg #[.slice a2 l.length c2, .int .i64 p, .int .i64 q]] w fun e w' => e = .returned (.bool true) ∧ Below w.heap.size w w' := by
  have C := fun o1 o2 => lEqTokenS (.slice a1 l.length c1) (.slice a2 l.length c2) B1 B2 l ((w.alloc o1).alloc o2) hl ((h1.alloc o1).alloc o2) ((h2.alloc o1).alloc o2)
  have HC : Hid (∀ o1 o2, Calls Tryd.prog 27 #[.slice a1 l.length c1, .slice a2 l.length c2] ((w.alloc o1).alloc o2) fun e w' => e = .returned (.bool true) ∧ Below ((w.alloc o1).alloc o2).heap.size ((w.alloc o1).alloc o2) w') := C
  clear C h1 h2
  go_enter Tryd.func12, Tryd.ntmps12
  go_wp2_with fail
  refine (HC.out _ _).mono ?_
  rintro e w1 ⟨rfl, hb⟩
  obtain ⟨hcc, hff⟩ := old_cells hb
  have hz : w.heap.size + 1 < w1.heap.size := by have := hb.size; simp at this; omega
  go_wp2_with fail
  go_ret
  refine ⟨rfl, ?_⟩
  exact (((Below.refl _ _).alloc (Nat.le_refl _) _).alloc (by simp) _).trans (hb.mono (by simp; omega))

set_option maxHeartbeats 1000000 in
theorem lMarkOut0 (a : Option Addr) (c k0 : Nat) (p q : Int) (w : World) :
    Calls Tryd.prog 13 #[.agg #[.slice a 0 c, .int .i64 p, .int .i64 q], .int .i64 k0] w fun e w' => e = .returned (.int .i64 k0) ∧ Below w.heap.size w w' := by
  have C : ∀ W : World, Calls Tryd.prog 28 #[.slice a 0 c, .int .i64 k0] W fun e w' => e = .returned (.int .i64 k0) ∧ w' = W := by
    intro W
    go_enter Tryd.func28, Tryd.ntmps28
    go_wp2_with fail
    refine wp_loop_rounds 1 ?_
    rw [rounds_succ]
    go_wp2
    go_ret
    exact ⟨rfl, rfl⟩
  have HC : Hid (∀ W : World, Calls Tryd.prog 28 #[.slice a 0 c, .int .i64 k0] W fun e w' => e = .returned (.int .i64 k0) ∧ w' = W) := C
  clear C
  go_enter Tryd.func13, Tryd.ntmps13
  go_wp2_with fail
  refine (HC.out _).mono ?_
  rintro e w1 ⟨rfl, rfl⟩
  go_wp2_with fail
  go_ret
  exact ⟨rfl, (Below.refl _ _).alloc (Nat.le_refl _) _⟩

set_option maxHeartbeats 1000000 in
theorem lMarkOut (g cap k0 B : Nat) (l : List Lex.TokF) (p q : Int) (w : World) (hl : l.length ≤ 1000) (hk1 : 1 ≤ k0) (hk2 : k0 ≤ 1000) (h : OwnT w B (.slice (some ⟨g, 0, none⟩) l.length cap) l) :
    Calls Tryd.prog 13 #[.agg #[.slice (some ⟨g, 0, none⟩) l.length cap, .int .i64 p, .int .i64 q], .int .i64 k0] w fun e w' => e = .returned (.int .i64 ((k0 + 5 * l.length : Nat) : Int)) ∧ OwnT w' B (.slice (some ⟨g, 0, none⟩) l.length cap) (mkToks k0 l.length) ∧ Keep g w w' := by
  have C := fun o => lMarkS g cap k0 B l (w.alloc o) hl hk1 hk2 (h.alloc o)
  have HC : Hid (∀ o, Calls Tryd.prog 28 #[.slice (some ⟨g, 0, none⟩) l.length cap, .int .i64 k0] (w.alloc o) fun e w' => e = .returned (.int .i64 ((k0 + 5 * l.length : Nat) : Int)) ∧ OwnT w' B (.slice (some ⟨g, 0, none⟩) l.length cap) (mkToks k0 l.length) ∧ Keep g (w.alloc o) w') := C
  clear C h
  go_enter Tryd.func13, Tryd.ntmps13
  go_wp2_with fail
  refine (HC.out _).mono ?_
  rintro e w1 ⟨rfl, ho, hk⟩
  go_wp2_with fail
  go_ret
  exact ⟨rfl, ho, ((Keep.refl g w).alloc _).trans hk⟩

set_option maxHeartbeats 1000000 in
theorem lHeldOut0 (a : Option Addr) (c k0 : Nat) (p q : Int) (w : World) (hk1 : 1 ≤ k0) :
    Calls Tryd.prog 14 #[.agg #[.slice a 0 c, .int .i64 p, .int .i64 q], .int .i64 k0] w fun e w' => e = .returned (.int .i64 k0) ∧ Below w.heap.size w w' := by
  have C : ∀ W : World, Calls Tryd.prog 29 #[.slice a 0 c, .int .i64 k0] W fun e w' => e = .returned (.int .i64 k0) ∧ w' = W := by
    intro W
    go_enter Tryd.func29, Tryd.ntmps29
    go_wp2_with fail
    refine wp_loop_rounds 1 ?_
    rw [rounds_succ]
    go_wp2
    go_ret
    exact ⟨rfl, rfl⟩
  have HC : Hid (∀ W : World, Calls Tryd.prog 29 #[.slice a 0 c, .int .i64 k0] W fun e w' => e = .returned (.int .i64 k0) ∧ w' = W) := C
  have hk' : ¬ (k0 : Int) < 0 := by omega
  clear C
  go_enter Tryd.func14, Tryd.ntmps14
  go_wp2_with fail
  refine (HC.out _).mono ?_
  rintro e w1 ⟨rfl, rfl⟩
  go_wp2_with fail
  go_ret
  exact ⟨rfl, (Below.refl _ _).alloc (Nat.le_refl _) _⟩

set_option maxHeartbeats 1000000 in
theorem lHeldOut (g cap k0 B n : Nat) (p q : Int) (w : World) (hl : n ≤ 1000) (hk1 : 1 ≤ k0) (hk2 : k0 ≤ 1000) (hg : g < w.heap.size) (h : OwnT w B (.slice (some ⟨g, 0, none⟩) n cap) (mkToks k0 n)) :
    Calls Tryd.prog 14 #[.agg #[.slice (some ⟨g, 0, none⟩) n cap, .int .i64 p, .int .i64 q], .int .i64 k0] w fun e w' => e = .returned (.int .i64 ((k0 + 5 * n : Nat) : Int)) ∧ Below w.heap.size w w' := by
  have C := fun o => lHeldS g cap k0 B n (w.alloc o) hl hk1 hk2 (by rw [World.size_alloc]; omega) (h.alloc o)
  have HC : Hid (∀ o, Calls Tryd.prog 29 #[.slice (some ⟨g, 0, none⟩) n cap, .int .i64 k0] (w.alloc o) fun e w' => e = .returned (.int .i64 ((k0 + 5 * n : Nat) : Int)) ∧ Below (w.alloc o).heap.size (w.alloc o) w') := C
  obtain ⟨K, hK⟩ : ∃ K, K = k0 + 5 * n := ⟨_, rfl⟩
  rw [← hK] at HC ⊢
  clear C h hK
  have hk' : ¬ (K : Int) < 0 := by omega
  go_enter Tryd.func14, Tryd.ntmps14
  go_wp2_with fail
  refine (HC.out _).mono ?_
  rintro e w1 ⟨rfl, hb⟩
  go_wp2_with fail
  go_ret
  exact ⟨rfl, ((Below.refl _ _).alloc (Nat.le_refl _) _).trans (hb.mono (by simp))⟩

end Go.Proofs.YtgdiohnpaldeiaaDoor

/-
  The walk of eqTokenS: two rows of the same tokens.
-/
import Derived.Test.YtpabbadngpjgoaaDoorLawA
namespace Go.Proofs.YtpabbadngpjgoaaDoor
open Go.RowKit

theorem flat_len (l : List Lex.TokF) : (l.flatMap tfC).length = 5 * l.length := by
  induction l with
  | nil => rfl
  | cons a r ih => rw [List.flatMap_cons, List.length_append, ih, List.length_cons]; simp [tfC]; omega
theorem flat_at (l : List Lex.TokF) (k : Nat) (h : k < l.length) (o : Nat) (ho : o < 5) : (l.flatMap tfC)[k * 5 + o]? = (tfC l[k])[o]? := by
  induction l generalizing k with
  | nil => simp at h
  | cons a r ih =>
    rw [List.flatMap_cons]
    cases k with
    | zero =>
      rw [List.getElem?_append_left (by simp [tfC]; omega)]
      simp
    | succ k =>
      rw [List.getElem?_append_right (by simp [tfC]; omega)]
      have e : (k + 1) * 5 + o - (tfC a).length = k * 5 + o := by simp [tfC]; omega
      rw [e, ih k (by simpa using h)]
      simp
/-- What is owned is read cell by cell. -/
theorem OwnT.cell {w : World} {B g cap : Nat} {l : List Lex.TokF} {n : Nat} (h : OwnT w B (.slice (some ⟨g, 0, none⟩) n cap) l) (k : Nat) (hk : k < l.length) (o : Nat) (ho : o < 5) : w.cell? ⟨g, k * 5 + o, none⟩ = (tfC l[k])[o]? := by
  have h1 := World.ownsRow.cells h (g := g) rfl (k * 5 + o)
  rw [flat_at l k hk o ho, add_none] at h1
  have h2 : ∃ u, (tfC l[k])[o]? = some u := by
    have : o < (tfC l[k]).length := by simp [tfC]; omega
    exact ⟨_, List.getElem?_eq_getElem this⟩
  obtain ⟨u, hu⟩ := h2
  rw [hu]; exact h1 u hu
theorem OwnT.five {w : World} {B g cap : Nat} {l : List Lex.TokF} {n : Nat} (h : OwnT w B (.slice (some ⟨g, 0, none⟩) n cap) l) (k : Nat) (hk : k < l.length) :
    w.cell? ⟨g, k * 5, none⟩ = some (.int .i64 l[k].kind) ∧ w.cell? ⟨g, k * 5 + 1, none⟩ = some (.string l[k].text) ∧ w.cell? ⟨g, k * 5 + 2, none⟩ = some (.int .i64 l[k].num) ∧ w.cell? ⟨g, k * 5 + 3, none⟩ = some (.bool l[k].line) ∧ w.cell? ⟨g, k * 5 + 4, none⟩ = some (.int .i64 l[k].at') :=
  ⟨h.cell k hk 0 (by omega), h.cell k hk 1 (by omega), h.cell k hk 2 (by omega), h.cell k hk 3 (by omega), h.cell k hk 4 (by omega)⟩
theorem OwnT.place {w : World} {B : Nat} {v : Value} {l : List Lex.TokF} (h : OwnT w B v l) (hl : l ≠ []) : ∃ g cap, v = .slice (some ⟨g, 0, none⟩) l.length cap ∧ B ≤ g ∧ g < w.heap.size := by
  rcases h.2 with ⟨rfl, h0⟩ | ⟨g, cap, cur, rfl, hb, hg, _⟩
  · exact absurd (List.length_eq_zero_iff.1 h0) hl
  · exact ⟨g, cap, rfl, hb, (Array.getElem?_eq_some_iff.1 hg).1⟩

set_option maxHeartbeats 2000000 in
set_option maxRecDepth 100000 in
theorem lEqTokenS (v1 v2 : Value) (B1 B2 : Nat) (l : List Lex.TokF) (w : World) (hl : l.length ≤ 1000) (h1 : OwnT w B1 v1 l) (h2 : OwnT w B2 v2 l) :
    Calls Tryd.prog 27 #[v1, v2] w fun e w' => e = .returned (.bool true) ∧ Below w.heap.size w w' := by
  by_cases hnil : l = []
  · obtain ⟨a1, c1, e1⟩ := h1.shape
    obtain ⟨a2, c2, e2⟩ := h2.shape
    subst hnil
    rw [List.length_nil] at e1 e2
    subst e1 e2
    clear h1 h2
    go_enter Tryd.func27, Tryd.ntmps27
    go_wp2
    refine wp_loop_rounds 1 ?_
    rw [rounds_succ]
    go_wp2
    go_ret
    exact ⟨rfl, Below.refl _ _⟩
  · obtain ⟨g1, cap1, e1, hB1, hg1⟩ := h1.place hnil
    obtain ⟨g2, cap2, e2, hB2, hg2⟩ := h2.place hnil
    subst e1 e2
    have H1 : Hid (OwnT w B1 (.slice (some ⟨g1, 0, none⟩) l.length cap1) l) := h1
    have H2 : Hid (OwnT w B2 (.slice (some ⟨g2, 0, none⟩) l.length cap2) l) := h2
    clear h1 h2 hnil
    go_enter Tryd.func27, Tryd.ntmps27
    go_wp2
    go_loopw [5] (fun vi wr => ∃ k : Nat, k ≤ l.length ∧ vi = .int .i64 k ∧ Below w.heap.size w wr) (fun vi _ => l.length - (intOf vi).toNat)
    case atStart => exact ⟨0, Nat.zero_le _, rfl, Below.refl _ _⟩
    case round =>
      obtain ⟨k, hk, rfl, hb⟩ := hrel
      by_cases hlt : k < l.length
      · obtain ⟨p0, p1, p2, p3, p4⟩ := (H1.out.keep hb).five k hlt
        obtain ⟨q0, q1, q2, q3, q4⟩ := (H2.out.keep hb).five k hlt
        have hlt' : (k : Int) < (l.length : Int) := by omega
        have hsz := hb.size
        go_wp2_with fail
        go_region_with (go_at_call 47; refine (lEqToken _ _ _ _ _ _).mono ?_; rintro e w' ⟨rfl, rfl⟩)
        all_goals
          go_wp2_with fail
        all_goals
          exact ⟨⟨k + 1, by omega, by go_num, by exact ((hb.alloc hsz _).alloc (by simp; omega) _).drew⟩, by simp [intOf]; omega⟩
      · go_wp2_with fail
        go_ret
        exact ⟨rfl, hb⟩

end Go.Proofs.YtpabbadngpjgoaaDoor

/-
  An argument that is a tree, opened: what it holds, and that it lies in memory.
-/
import Derived.Test.YtbkloddaooblfacTree
import Derived.ProofKit
import Derived.ChangeArms
import Derived.Deep.Strs
import Derived.DataReads
namespace Go.Proofs.Ytbkloddaooblfac
open Go.RowKit

theorem Try.nodeFields : (Try.prog.fieldsOf 51).toList.map (fun f => (f.type, f.offset)) = [(2, 0), (9, 1), (2, 2), (44, 3), (4, 4), (49, 5)] := by kernel_rfl
theorem Try.nodeUnd : Try.prog.underlying 51 = some (.struct (Try.prog.fieldsOf 51)) := by kernel_rfl
theorem Try.nodeCells : Try.prog.cellsOf 51 = 6 := by kernel_rfl
theorem Try.oneCells : Try.prog.cellsOf 2 = 1 ∧ Try.prog.cellsOf 9 = 1 ∧ Try.prog.cellsOf 44 = 1 ∧ Try.prog.cellsOf 4 = 1 ∧ Try.prog.cellsOf 49 = 1 := ⟨by kernel_rfl, by kernel_rfl, by kernel_rfl, by kernel_rfl, by kernel_rfl⟩

theorem spot_none {w : World} {a : Addr} {v : Value} (h : w.cell? a = some v) : a = ⟨a.block, a.off, none⟩ := by
  have := World.cell?_spot h
  cases a; simp_all
theorem add_at (b o j : Nat) : (⟨b, o, none⟩ : Addr).add j = ⟨b, o + j, none⟩ := by unfold Addr.add; split <;> simp_all

section
variable {H : Type} {enc : TypeId × Value → H} {w : World} {spare : Nat → Bool} {held : Bool}

set_option maxRecDepth 100000 in
/-- A struct of six fields of one cell each. -/
theorem six_fields {fuel : Nat} {cs : List Value} {x : DataW H × List MemPlace} (h : DataW.trod enc Try.prog w 0 spare held fuel 51 cs = some x) :
    ∃ n v0 v1 v2 v3 v4 v5 y0 y1 y2 y3 y4 y5, n < fuel ∧ cs = [v0, v1, v2, v3, v4, v5] ∧
      DataW.trod enc Try.prog w 0 spare held n 2 [v0] = some y0 ∧ DataW.trod enc Try.prog w 0 spare held n 9 [v1] = some y1 ∧ DataW.trod enc Try.prog w 0 spare held n 2 [v2] = some y2 ∧
      DataW.trod enc Try.prog w 0 spare held n 44 [v3] = some y3 ∧ DataW.trod enc Try.prog w 0 spare held n 4 [v4] = some y4 ∧ DataW.trod enc Try.prog w 0 spare held n 49 [v5] = some y5 := by
  obtain ⟨xs, n, rfl, _, hl, hxl, hf⟩ := DataW.trod_struct Try.nodeUnd h
  rw [Try.nodeCells] at hl
  obtain ⟨v0, v1, v2, v3, v4, v5, rfl⟩ : ∃ v0 v1 v2 v3 v4 v5, cs = [v0, v1, v2, v3, v4, v5] := by
    match cs, hl with
    | [a, b, c, d, e, f], _ => exact ⟨a, b, c, d, e, f, rfl⟩
  have hF := Try.nodeFields
  have hlen : (Try.prog.fieldsOf 51).size = 6 := by
    have := congrArg List.length hF
    simpa using this
  rw [hlen] at hxl
  obtain ⟨o1, o2, o3, o4, o5⟩ := Try.oneCells
  have key : ∀ i t, ((Try.prog.fieldsOf 51).toList.map (fun f => (f.type, f.offset)))[i]? = some (t, i) → Try.prog.cellsOf t = 1 → i < 6 → ∃ y, DataW.trod enc Try.prog w 0 spare held n t (([v0, v1, v2, v3, v4, v5].drop i).take 1) = some y := by
    intro i t hi hc hi6
    rw [List.getElem?_map] at hi
    obtain ⟨f, hfi, hft⟩ := Option.map_eq_some_iff.1 hi
    simp only [Prod.mk.injEq] at hft
    have := hf i f (by simpa using hfi)
    rw [hft.1, hft.2, hc] at this
    rw [this]
    exact ⟨xs[i]'(by omega), List.getElem?_eq_getElem (by omega)⟩
  rw [hF] at key
  obtain ⟨y0, k0⟩ := key 0 2 rfl o1 (by omega)
  obtain ⟨y1, k1⟩ := key 1 9 rfl o2 (by omega)
  obtain ⟨y2, k2⟩ := key 2 2 rfl o1 (by omega)
  obtain ⟨y3, k3⟩ := key 3 44 rfl o3 (by omega)
  obtain ⟨y4, k4⟩ := key 4 4 rfl o4 (by omega)
  obtain ⟨y5, k5⟩ := key 5 49 rfl o5 (by omega)
  exact ⟨n, v0, v1, v2, v3, v4, v5, y0, y1, y2, y3, y4, y5, Nat.lt_succ_self n, rfl, k0, k1, k2, k3, k4, k5⟩

theorem open_names {fuel : Nat} {v : Value} {x : DataW H × List MemPlace} (h : DataW.trod enc Try.prog w 0 spare held fuel 44 [v] = some x) :
    ∃ na nc ns, v = .slice na (List.length ns) nc ∧ StrsIn w 0 na ns ∧ ns.length ≤ 9223372036854775807 ∧ ∀ s ∈ ns, s.size ≤ 9223372036854775807 := by
  rcases Go.Deep.open_strs Try.underlying44 Try.underlying9 Try.oneCells.2.1 h with ⟨e, _⟩ | ⟨a, len, cap, m, Sx, e, _, hl, hm, hmm, _, hc⟩
  · simp only [List.cons.injEq, and_true] at e
    exact ⟨none, 0, [], e, .inl rfl, by simp, by simp⟩
  · simp only [List.cons.injEq, and_true] at e
    have hlm : len ≤ m := by rw [hmm]; split <;> omega
    unfold maxLen at hm hc
    refine ⟨some a, cap, (List.range len).map Sx, by rw [e]; simp, ?_, by simp; omega, fun s hs => ?_⟩
    · by_cases h0 : len = 0
      · left; simp [h0]
      · right
        have hs := spot_none (by have := (hc 0 (by omega)).1; simpa [Addr.add] using this)
        refine ⟨a.block, a.off, by rw [← hs], Nat.zero_le _, fun i hi => ?_⟩
        have hi' : i < len := by simpa using hi
        have := (hc i (by omega)).1
        rw [hs, add_at] at this
        simpa using this
    · obtain ⟨i, hi, rfl⟩ := List.mem_map.1 hs
      have := (hc i (by have : i < len := by simpa using hi
                        omega)).2
      omega

theorem open_node : ∀ (fuel : Nat) {cs : List Value} {x : DataW H × List MemPlace}, DataW.trod enc Try.prog w 0 spare held fuel 51 cs = some x → ∃ t c fp, cs = (PT.cells t c).toList ∧ NIn w 0 t c fp ∧ OkT t := by
  intro fuel
  induction fuel using Nat.strongRecOn with
  | ind fuel ih =>
  intro cs x h
  obtain ⟨n, v0, v1, v2, v3, v4, v5, y0, y1, y2, y3, y4, y5, hn, rfl, k0, k1, k2, k3, k4, k5⟩ := six_fields h
  obtain ⟨a0, e0, _, _⟩ := DataW.trod_int Try.underlying2 k0
  obtain ⟨a1, e1, _, w1⟩ := DataW.trod_string Try.underlying9 k1
  obtain ⟨a2, e2, _, _⟩ := DataW.trod_int Try.underlying2 k2
  obtain ⟨na, nc, ns, e3, hns, hnl, hnz⟩ := open_names k3
  obtain ⟨a4, e4, _⟩ := DataW.trod_bool Try.underlying4 k4
  simp only [List.cons.injEq, and_true] at e0 e1 e2 e4
  subst e0 e1 e2 e3 e4
  unfold maxLen at w1
  rcases DataW.trod_slice Try.underlying49 k5 with ⟨e5, _⟩ | ⟨a, len, cap, elems, rest, n', hn', e5, _, _, hlc, hcm, hel, helem, _, _⟩
  · simp only [List.cons.injEq, and_true] at e5
    subst e5
    exact ⟨.node a0 a1 a2 ns a4 [], ⟨na, nc, none, 0⟩, _, rfl, .mk a0 a1 a2 ns a4 [] _ 0 0 (fun _ => ⟨none, 0, none, 0⟩) (fun _ => []) hns (.inl rfl) (fun i h => by simp at h) (fun i h => by simp at h), .mk a0 a1 a2 ns a4 [] (by omega) hnl hnz (by simp) (by simp)⟩
  · simp only [List.cons.injEq, and_true] at e5
    subst e5
    unfold maxLen at hcm
    rw [Try.nodeCells] at helem
    have each : ∀ i, ∃ y : PT × NC × List Nat, i < len → (∃ cs', w.cells? 0 (a.add (i * 6)) 6 = some cs' ∧ cs' = (PT.cells y.1 y.2.1).toList) ∧ NIn w 0 y.1 y.2.1 y.2.2 ∧ OkT y.1 := by
      intro i
      by_cases hi : i < len
      · have h1 := helem i hi
        rw [List.getElem?_eq_getElem (by omega)] at h1
        obtain ⟨cs', hcs, ht⟩ := Option.bind_eq_some_iff.1 h1
        obtain ⟨t, c, fp, q1, q2, q3⟩ := ih n' (by omega) ht
        exact ⟨(t, c, fp), fun _ => ⟨⟨cs', hcs, q1⟩, q2, q3⟩⟩
      · exact ⟨(.node 0 ⟨#[]⟩ 0 [] false [], ⟨none, 0, none, 0⟩, []), fun h => absurd h hi⟩
    obtain ⟨Y, hY⟩ := Classical.axiomOfChoice each
    have hat : ∀ i (h : i < ((List.range len).map fun i => (Y i).1).length), ((List.range len).map fun i => (Y i).1)[i] = (Y i).1 := fun i h => by simp
    have hsp : 0 < len → a = ⟨a.block, a.off, none⟩ := fun h0 => by
      obtain ⟨⟨cs', hcs, _⟩, _⟩ := hY 0 h0
      obtain ⟨_, hl6, hc⟩ := World.cells?_some hcs
      have h1 := hc 0 (by omega)
      rw [List.getElem?_eq_getElem (by omega)] at h1
      have h2 : w.cell? a = some cs'[0] := by simpa [Addr.add] using h1
      exact spot_none h2
    refine ⟨.node a0 a1 a2 ns a4 ((List.range len).map fun i => (Y i).1), ⟨na, nc, some a, cap⟩, _, by simp [PT.cells, nodeC], .mk a0 a1 a2 ns a4 _ _ a.block a.off (fun i => (Y i).2.1) (fun i => (Y i).2.2) hns ?_ (fun i hi => ?_) (fun i hi => ?_), .mk a0 a1 a2 ns a4 _ (by omega) hnl hnz (by simp; omega) (fun x hx => ?_)⟩
    · by_cases h0 : len = 0
      · left; simp [h0]
      · right; exact ⟨by rw [← hsp (by omega)], Nat.zero_le _⟩
    · have hi' : i < len := by simpa using hi
      rw [hat i hi]
      obtain ⟨⟨cs', hcs, hcc⟩, _⟩ := hY i hi'
      obtain ⟨_, hl6, hc⟩ := World.cells?_some hcs
      rw [hsp (by omega), add_at] at hc
      generalize (Y i).1 = t at *
      generalize (Y i).2.1 = c at *
      cases t
      simp only [PT.cells, nodeC] at hcc
      subst hcc
      have hc' : ∀ j u, j < 6 → _ = some u → w.cell? ⟨a.block, a.off + i * 6 + j, none⟩ = some u := fun j u hj hu => by
        have := hc j hj
        rw [add_at] at this
        exact this.trans hu
      exact ⟨hc' 0 _ (by omega) rfl, hc' 1 _ (by omega) rfl, hc' 2 _ (by omega) rfl, hc' 3 _ (by omega) rfl, hc' 4 _ (by omega) rfl, hc' 5 _ (by omega) rfl⟩
    · have hi' : i < len := by simpa using hi
      rw [hat i hi]
      exact (hY i hi').2.1
    · obtain ⟨i, hi, rfl⟩ := List.mem_map.1 hx
      exact (hY i (by simpa using hi)).2.2
end

end Go.Proofs.Ytbkloddaooblfac

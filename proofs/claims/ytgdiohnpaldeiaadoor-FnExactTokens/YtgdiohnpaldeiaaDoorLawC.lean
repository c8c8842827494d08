/-
  The walk of markTokenS: every cell of a row of tokens is written.
-/
import Derived.Test.YtgdiohnpaldeiaaDoorLawB
import Derived.Test.YtgdiohnpaldeiaaDoorSpecA
namespace Go.Proofs.YtgdiohnpaldeiaaDoor
open Go.RowKit

def b3 (k : Nat) : Bool := ((k : Int) % 3) == 0
def mkTok (k : Nat) : Lex.TokF := ⟨k, mT (k + 1), (k + 2 : Nat), b3 (k + 3), k + 4⟩
def mkToks (k n : Nat) : List Lex.TokF := (List.range n).map fun j => mkTok (k + 5 * j)
theorem mkToks_len (k n : Nat) : (mkToks k n).length = n := by simp [mkToks]
theorem mkToks_succ (k n : Nat) : mkToks k (n + 1) = mkToks k n ++ [mkTok (k + 5 * n)] := by simp [mkToks, List.range_succ]
theorem mkToks_at (k n j : Nat) (h : j < n) : (mkToks k n)[j]'(by rw [mkToks_len]; exact h) = mkTok (k + 5 * j) := by simp [mkToks]

theorem set5 (S : List Value) (a b c d e a' b' c' d' e' : Value) : ∀ (P : List Value) (j : Nat), j = P.length →
    (((((P ++ [a, b, c, d, e] ++ S).set j a').set (j + 1) b').set (j + 2) c').set (j + 3) d').set (j + 4) e' = P ++ [a', b', c', d', e'] ++ S
  | [], _, rfl => rfl
  | x :: P, _, rfl => by
    have ih := set5 S a b c d e a' b' c' d' e' P P.length rfl
    show (((((x :: (P ++ [a, b, c, d, e] ++ S)).set (P.length + 1) a').set (P.length + 1 + 1) b').set (P.length + 1 + 2) c').set (P.length + 1 + 3) d').set (P.length + 1 + 4) e' = x :: (P ++ [a', b', c', d', e'] ++ S)
    rw [← ih]; rfl

theorem mark_list (l : List Lex.TokF) (k0 i K : Nat) (hi : i < l.length) (hK : k0 + 5 * i = K) :
    ((((((mkToks k0 i ++ l.drop i).flatMap tfC).set (i * 5) (.int .i64 (K : Int))).set (i * 5 + 1) (.string (mT (K + 1)))).set (i * 5 + 2) (.int .i64 ((K : Int) + 1 + 1))).set (i * 5 + 3) (.bool (((K : Int) + 1 + 1 + 1) % 3 == 0))).set (i * 5 + 4) (.int .i64 ((K : Int) + 1 + 1 + 1 + 1))
      = (mkToks k0 (i + 1) ++ l.drop (i + 1)).flatMap tfC := by
  have e1 : (mkToks k0 i ++ l.drop i).flatMap tfC = (mkToks k0 i).flatMap tfC ++ [.int .i64 l[i].kind, .string l[i].text, .int .i64 l[i].num, .bool l[i].line, .int .i64 l[i].at'] ++ (l.drop (i + 1)).flatMap tfC := by
    rw [List.flatMap_append, List.drop_eq_getElem_cons hi, List.flatMap_cons, List.append_assoc]; rfl
  have e2 : (mkToks k0 (i + 1) ++ l.drop (i + 1)).flatMap tfC = (mkToks k0 i).flatMap tfC ++ [.int .i64 (K : Int), .string (mT (K + 1)), .int .i64 ((K : Int) + 1 + 1), .bool (((K : Int) + 1 + 1 + 1) % 3 == 0), .int .i64 ((K : Int) + 1 + 1 + 1 + 1)] ++ (l.drop (i + 1)).flatMap tfC := by
    rw [List.flatMap_append, mkToks_succ, List.flatMap_append, hK, List.flatMap_singleton]; rfl
  rw [e1, e2]
  exact set5 _ _ _ _ _ _ _ _ _ _ _ _ (i * 5) (by rw [flat_len, mkToks_len]; omega)

/-- One cell of an owned row is written. -/
theorem ownsRow_put {w : World} {B n g cap : Nat} {xs : List Value} (h : w.ownsRow B 30 5 (.slice (some ⟨g, 0, none⟩) n cap) n xs) (j : Nat) (u : Value) :
    (w.setCell ⟨g, j, none⟩ u).ownsRow B 30 5 (.slice (some ⟨g, 0, none⟩) n cap) n (xs.set j u) := by
  refine ⟨by rw [List.length_set]; exact h.1, ?_⟩
  rcases h.2 with ⟨hv, _⟩ | ⟨g', cap', cur, hv, hb, hg, h1, h2, h3, h4⟩
  · cases hv
  · simp only [Value.slice.injEq, Option.some.injEq, Addr.mk.injEq, and_true, true_and] at hv
    obtain ⟨rfl, rfl⟩ := hv
    refine .inr ⟨g, cap, cur.setIfInBounds j u, rfl, hb, ?_, h1, h2, by simpa using h3, ?_⟩
    · simp [World.setCell, Array.getElem?_modify, hg]
    · rw [← h4, Array.toList_setIfInBounds, List.take_set]
theorem ownsRow_free {w : World} {B n g cap : Nat} {xs : List Value} (h : w.ownsRow B 30 5 (.slice (some ⟨g, 0, none⟩) n cap) n xs) (j : Nat) : w.frozen? ⟨g, j, none⟩ = false := by
  rcases h.2 with ⟨hv, _⟩ | ⟨g', cap', cur, hv, hb, hg, _⟩
  · cases hv
  · simp only [Value.slice.injEq, Option.some.injEq, Addr.mk.injEq, and_true, true_and] at hv
    obtain ⟨rfl, rfl⟩ := hv
    simp [World.frozen?, hg]
theorem ownsRow_keep {w w' : World} {B n g cap : Nat} {xs : List Value} (h : w.ownsRow B 30 5 (.slice (some ⟨g, 0, none⟩) n cap) n xs) (hk : Below w.heap.size w w') : w'.ownsRow B 30 5 (.slice (some ⟨g, 0, none⟩) n cap) n xs := by
  refine ⟨h.1, ?_⟩
  rcases h.2 with ⟨hv, _⟩ | ⟨g', cap', cur, hv, hb, hg, rest⟩
  · cases hv
  · exact .inr ⟨g', cap', cur, hv, hb, (hk.block g' (Array.getElem?_eq_some_iff.1 hg).1).trans hg, rest⟩
theorem ownsRow_at {w : World} {B n g cap : Nat} {xs : List Value} (h : w.ownsRow B 30 5 (.slice (some ⟨g, 0, none⟩) n cap) n xs) (j : Nat) (hj : j < xs.length) : ∃ u, w.cell? ⟨g, j, none⟩ = some u := by
  have := World.ownsRow.cells h (g := g) rfl j xs[j] (List.getElem?_eq_getElem hj)
  rw [add_none] at this
  exact ⟨_, this⟩

set_option maxHeartbeats 4000000 in
set_option maxRecDepth 100000 in
theorem lMarkS (g cap k0 B : Nat) (l : List Lex.TokF) (w : World) (hl : l.length ≤ 1000) (hk1 : 1 ≤ k0) (hk2 : k0 ≤ 1000) (h : OwnT w B (.slice (some ⟨g, 0, none⟩) l.length cap) l) :
    Calls Tryd.prog 28 #[.slice (some ⟨g, 0, none⟩) l.length cap, .int .i64 k0] w fun e w' => e = .returned (.int .i64 ((k0 + 5 * l.length : Nat) : Int)) ∧ OwnT w' B (.slice (some ⟨g, 0, none⟩) l.length cap) (mkToks k0 l.length) ∧ Keep g w w' := by
  have H : Hid (OwnT w B (.slice (some ⟨g, 0, none⟩) l.length cap) l) := h
  clear h
  go_enter Tryd.func28, Tryd.ntmps28
  go_wp2_with fail
  go_loopw [1, 5] (fun vk vi wr => ∃ i : Nat, i ≤ l.length ∧ vi = .int .i64 i ∧ vk = .int .i64 ((k0 + 5 * i : Nat) : Int) ∧ wr.ownsRow B 30 5 (.slice (some ⟨g, 0, none⟩) l.length cap) l.length ((mkToks k0 i ++ l.drop i).flatMap tfC) ∧ Keep g w wr) (fun _ vi _ => l.length - (intOf vi).toNat)
  case atStart => exact ⟨0, Nat.zero_le _, rfl, rfl, H.out, Keep.refl _ _⟩
  case round =>
    obtain ⟨i, hi, rfl, rfl, hown, hkeep⟩ := hrel
    by_cases hlt : i < l.length
    · have hlt' : (i : Int) < (l.length : Int) := by omega
      have hxl : ((mkToks k0 i ++ l.drop i).flatMap tfC).length = l.length * 5 := hown.1
      obtain ⟨x0, z0⟩ := ownsRow_at hown (i * 5) (by omega)
      obtain ⟨x1, z1⟩ := ownsRow_at hown (i * 5 + 1) (by omega)
      have y0 := ownsRow_free hown (i * 5)
      have hown1 := ownsRow_put hown (i * 5) (.int .i64 ((k0 + 5 * i : Nat) : Int))
      generalize hK : k0 + 5 * i = K at *
      have hKb : K ≤ 10000 := by omega
      have HKK : Hid (k0 + 5 * i = K) := hK
      clear hK
      go_wp2_with fail
      rw [show ((K : Int) + 1) = ((K + 1 : Nat) : Int) from by omega]
      refine (lMarkText (K + 1) _ (by omega) (by omega)).mono ?_
      rintro e w1 ⟨rfl, hb1⟩
      have hown2 := ownsRow_keep hown1 hb1
      have hx2 : (((mkToks k0 i ++ l.drop i).flatMap tfC).set (i * 5) (.int .i64 (K : Int))).length = l.length * 5 := hown2.1
      have hkeep1 : Keep g w w1 := (hkeep.set _ _).below hb1 (by simpa [World.setCell] using hkeep.size)
      obtain ⟨x1, z1⟩ := ownsRow_at hown2 (i * 5 + 1) (by omega)
      obtain ⟨x2, z2⟩ := ownsRow_at hown2 (i * 5 + 2) (by omega)
      obtain ⟨x3, z3⟩ := ownsRow_at hown2 (i * 5 + 3) (by omega)
      obtain ⟨x4, z4⟩ := ownsRow_at hown2 (i * 5 + 4) (by omega)
      have y1 := ownsRow_free hown2 (i * 5 + 1)
      have y2 := ownsRow_free hown2 (i * 5 + 2)
      have y3 := ownsRow_free hown2 (i * 5 + 3)
      have y4 := ownsRow_free hown2 (i * 5 + 4)
      clear z0 y0 hown1
      have HO2 : Hid (w1.ownsRow B 30 5 (.slice (some ⟨g, 0, none⟩) l.length cap) l.length (((mkToks k0 i ++ l.drop i).flatMap tfC).set (i * 5) (.int .i64 (K : Int)))) := hown2
      clear hown2 hb1
      go_wp2_with fail
      have hfin := ownsRow_put (ownsRow_put (ownsRow_put (ownsRow_put HO2.out (i * 5 + 1) (.string (mT (K + 1)))) (i * 5 + 2) (.int .i64 ((K : Int) + 1 + 1))) (i * 5 + 3) (.bool (((K : Int) + 1 + 1 + 1) % 3 == 0))) (i * 5 + 4) (.int .i64 ((K : Int) + 1 + 1 + 1 + 1))
      rw [mark_list l k0 i K hlt HKK.out] at hfin
      exact ⟨⟨i + 1, by omega, by go_num, congrArg (Value.int .i64) (by have := HKK.out; omega), hfin, (((hkeep1.set _ _).set _ _).set _ _).set _ _⟩, by simp [intOf]; omega⟩
    · go_wp2_with fail
      go_ret
      have hil : i = l.length := by omega
      subst hil
      refine ⟨rfl, ?_, hkeep⟩
      rw [List.drop_length, List.append_nil] at hown
      unfold OwnT
      rw [mkToks_len]; exact hown

end Go.Proofs.YtgdiohnpaldeiaaDoor

/-
  The walk of the law FnExactTokens.
-/
import Derived.Test.YtgdiohnpaldeiaaDoorLawE
import Derived.Test.YtgdiohnpaldeiaaDoorImplH
import Derived.Test.YtgdiohnpaldeiaaDoorSpecU
namespace Go.Proofs.YtgdiohnpaldeiaaDoor
open Go.RowKit

theorem lex_len (s : ByteArray) (i : Nat) (acc : List Lex.TokF) (h : acc.length ≤ 600) : (Lex.lexFrom s i acc).toks.length ≤ 601 := by
  rw [Lex.lexFrom]
  split
  · simp; omega
  · split
    · simp
    · split
      · simp
      · split
        · rename_i hh
          exact lex_len s _ _ (by simp; omega)
        · simp
termination_by s.size - i
decreasing_by omega
theorem lexOut_len (s : ByteArray) : (Lex.lexOut s).toks.length ≤ 1000 := by
  unfold Lex.lexOut
  split
  · simp
  · have := lex_len s 0 [] (by simp); omega

/-- What the law holds in memory: the specification's answer, the program's, their tokens, the table of marks. -/
structure FSt (W w : World) (A C B1 B2 : Nat) (v1 v2 : Value) (T1 T2 : List Lex.TokF) (p q : Int) : Prop where
  a : W.heap[A]? = some (.cells #[v1, .int .i64 p, .int .i64 q] 27 (0, 0))
  c : W.heap[C]? = some (.cells #[v2, .int .i64 p, .int .i64 q] 27 (0, 0))
  o1 : OwnT W B1 v1 T1
  o2 : OwnT W B2 v2 T2
  m : MarksIn W
  b : Below w.heap.size w W
section
variable {W W' w : World} {A C B1 B2 : Nat} {v1 v2 : Value} {T1 T2 : List Lex.TokF} {p q : Int}
theorem FSt.below (h : FSt W w A C B1 B2 v1 v2 T1 T2 p q) (hb : Below W.heap.size W W') : FSt W' w A C B1 B2 v1 v2 T1 T2 p q :=
  ⟨(hb.block A (Array.getElem?_eq_some_iff.1 h.a).1).trans h.a, (hb.block C (Array.getElem?_eq_some_iff.1 h.c).1).trans h.c, h.o1.keep hb, h.o2.keep hb, h.m.below hb (marks_heap h.m), h.b.trans (hb.mono h.b.size)⟩
theorem FSt.mark {g : Nat} {T2' : List Lex.TokF} (h : FSt W w A C B1 B2 v1 v2 T1 T2 p q) (hk : Keep g W W') (ho : OwnT W' B2 v2 T2') (hA : A ≠ g) (hC : C ≠ g) (h1 : ∀ g1, v1.ownBlock = some g1 → g1 ≠ g) (hg : w.heap.size ≤ g) (hw : 0 < w.heap.size) : FSt W' w A C B1 B2 v1 v2 T1 T2' p q := by
  refine ⟨(hk.block A (Array.getElem?_eq_some_iff.1 h.a).1 hA).trans h.a, (hk.block C (Array.getElem?_eq_some_iff.1 h.c).1 hC).trans h.c, ?_, ho, ?_, ?_⟩
  · refine ⟨h.o1.1, ?_⟩
    rcases h.o1.2 with hn | ⟨g1, cap, cur, rfl, hb, hg1, rest⟩
    · exact .inl hn
    · exact .inr ⟨g1, cap, cur, rfl, hb, (hk.block g1 (Array.getElem?_eq_some_iff.1 hg1).1 (h1 g1 rfl)).trans hg1, rest⟩
  · intro j hj
    have e : W'.heap[0]? = W.heap[0]? := hk.block 0 (marks_heap h.m) (by omega)
    exact (World.cell?_of_block (a := ⟨0, j, none⟩) e).trans (h.m j hj)
  · exact ⟨hk.os.trans h.b.os, hk.tape.trans h.b.tape, hk.output.trans h.b.output, Nat.le_trans h.b.size hk.size, fun k hkk => (hk.block k (Nat.lt_of_lt_of_le hkk h.b.size) (by omega)).trans (h.b.block k hkk)⟩
end

/-- Two answers of Tokens lie in memory, one behind the other: how the law's state begins. -/
theorem FSt.start {w w1 w3 : World} {v1 v2 : Value} {T : List Lex.TokF} {p q : Int} (hm : MarksIn w) (o1 : OwnT w1 w.heap.size v1 T) (b1 : Below w.heap.size w w1)
    (o2 : OwnT w3 (w1.heap.size + 1) v2 T) (b3 : Below (w1.heap.size + 1) (w1.alloc (.cells #[v1, .int .i64 p, .int .i64 q] 27)) w3) :
    FSt (w3.alloc (.cells #[v2, .int .i64 p, .int .i64 q] 27)) w w1.heap.size w3.heap.size w.heap.size (w1.heap.size + 1) v1 v2 T T p q := by
  have hw := marks_heap hm
  have hs3 := b3.size
  rw [World.size_alloc] at hs3
  have hs1 := b1.size
  have bb : Below w.heap.size w w3 := (b1.alloc hs1 _).trans (b3.mono (by omega))
  refine ⟨?_, heap_alloc_new w3 _, ?_, o2.alloc _, (hm.below bb hw).below ((Below.refl w3.heap.size w3).alloc (Nat.le_refl _) _) (by omega), bb.alloc (by omega) _⟩
  · rw [Below.heap_alloc _ _ _ (by omega), b3.block _ (by omega)]
    exact heap_alloc_new w1 _
  · refine OwnT.alloc ?_ _
    exact (o1.alloc _).keep (by rw [World.size_alloc]; exact b3)

set_option maxHeartbeats 4000000 in
set_option maxRecDepth 100000 in
theorem tokens_walk (s : ByteArray) (hs : s.size ≤ maxLen) (w : World) (hM : MarksIn w) :
    Calls Tryd.prog 4 #[.string s] w fun e w' => e = .returned (.bool true) ∧ Below w.heap.size w w' := by
  have hs' := hs
  unfold maxLen at hs'
  have hw0 := marks_heap hM
  have HM : Hid (MarksIn w) := hM
  clear hM
  by_cases hbig : 1048576 < s.size
  · go_enter Tryd.func4, Tryd.ntmps4
    go_wp2_with fail
    go_ret
    exact ⟨rfl, Below.refl _ _⟩
  have hlen := lexOut_len s
  have ST := fun W => sTokens s W hs
  have IT := fun W hm => iTokens s W hs hm
  generalize (Lex.lexOut s).toks = T at *
  generalize (Lex.lexOut s).code = q at *
  generalize (Lex.lexOut s).at' = p at *
  have HST : Hid (∀ W : World, Calls Tryd.prog 10 #[.string s] W fun e w' => ∃ v, e = .returned (.agg #[v, .int .i64 p, .int .i64 q]) ∧ OwnT w' W.heap.size v T ∧ Below W.heap.size W w') := ST
  have HIT : Hid (∀ W : World, MarksIn W → Calls Tryd.prog 8 #[.string s] W fun e w' => ∃ v, e = .returned (.agg #[v, .int .i64 p, .int .i64 q]) ∧ OwnT w' W.heap.size v T ∧ Below W.heap.size W w') := IT
  clear ST IT
  go_enter Tryd.func4, Tryd.ntmps4
  go_wp2_with fail
  refine (HST.out w).mono ?_
  rintro e w1 ⟨v1, rfl, ho1, hb1⟩
  obtain ⟨a1, c1, hv1⟩ := ho1.shape
  subst hv1
  have hs1 := hb1.size
  go_wp2_with fail
  have hMW : MarksIn (w1.alloc (.cells #[.slice a1 T.length c1, .int .i64 p, .int .i64 q] 27)) := HM.out.below (hb1.alloc hs1 _) hw0
  refine (HIT.out _ hMW).mono ?_
  rintro e w3 ⟨v2, rfl, ho2, hb3⟩
  clear hMW
  obtain ⟨a2, c2, hv2⟩ := ho2.shape
  subst hv2
  rw [World.size_alloc] at ho2 hb3
  have st := FSt.start HM.out ho1 hb1 ho2 hb3
  have hs3 := hb3.size
  rw [World.size_alloc] at hs3
  obtain ⟨⟨x0, x1, x2⟩, _⟩ := cells3 st.a
  have hg1 : ∀ g, (Value.slice a1 T.length c1).ownBlock = some g → g < w1.heap.size := fun g hg => (World.ownsRow.lt ho1 g hg).2
  have hg2 : ∀ g, (Value.slice a2 T.length c2).ownBlock = some g → w1.heap.size + 1 ≤ g ∧ g < w3.heap.size := fun g hg => World.ownsRow.lt ho2 g hg
  have HG1 : Hid (∀ g, (Value.slice a1 T.length c1).ownBlock = some g → g < w1.heap.size) := hg1
  have HG2 : Hid (∀ g, (Value.slice a2 T.length c2).ownBlock = some g → w1.heap.size + 1 ≤ g ∧ g < w3.heap.size) := hg2
  clear ho1 hb1 ho2 hb3 hg1 hg2
  go_wp2_with fail
  generalize w3.alloc (.cells #[.slice a2 T.length c2, .int .i64 p, .int .i64 q] 27) = W4 at st x0 x1 x2 ⊢
  generalize w3.heap.size = C at *
  generalize w1.heap.size = A at *
  refine (lEqOut a2 a1 c2 c1 _ _ T p q W4 hlen st.o2 st.o1).mono ?_
  rintro e W5 ⟨rfl, hb5⟩
  have st5 := st.below hb5
  clear st hb5 x0 x1 x2
  obtain ⟨⟨x0, x1, x2⟩, _⟩ := cells3 st5.a
  obtain ⟨⟨y0, y1, y2⟩, _⟩ := cells3 st5.c
  by_cases hT : T = []
  · subst hT
    have M : Calls Tryd.prog 13 #[.agg #[.slice a2 0 c2, .int .i64 p, .int .i64 q], .int .i64 1] W5 fun e w' => e = .returned (.int .i64 1) ∧ Below W5.heap.size W5 w' := lMarkOut0 a2 c2 1 p q W5
    have HMM : Hid (Calls Tryd.prog 13 #[.agg #[.slice a2 0 c2, .int .i64 p, .int .i64 q], .int .i64 1] W5 fun e w' => e = .returned (.int .i64 1) ∧ Below W5.heap.size W5 w') := M
    clear M
    go_wp2_with fail
    refine HMM.out.mono ?_
    rintro e W6 ⟨rfl, hb6⟩
    have st6 := st5.below hb6
    clear HMM hb6 x0 x1 x2 y0 y1 y2 st5
    obtain ⟨⟨x0, x1, x2⟩, _⟩ := cells3 st6.a
    obtain ⟨⟨y0, y1, y2⟩, _⟩ := cells3 st6.c
    have HD : Hid (∀ W : World, Calls Tryd.prog 14 #[.agg #[.slice a2 0 c2, .int .i64 p, .int .i64 q], .int .i64 1] W fun e w' => e = .returned (.int .i64 1) ∧ Below W.heap.size W w') := fun W => lHeldOut0 a2 c2 1 p q W (by omega)
    go_wp2_with fail
    refine (HD.out W6).mono ?_
    rintro e W7 ⟨rfl, hb7⟩
    have st7 := st6.below hb7
    clear hb7 x0 x1 x2 y0 y1 y2 st6
    go_wp2_with fail
    refine (HIT.out W7 st7.m).mono ?_
    rintro e W8 ⟨v3, rfl, ho8, hb8⟩
    obtain ⟨a3, c3, hv3⟩ := ho8.shape
    rw [List.length_nil] at hv3
    subst hv3
    have st8 := (st7.below hb8).below ((Below.refl W8.heap.size W8).alloc (Nat.le_refl _) (.cells #[.slice a3 0 c3, .int .i64 p, .int .i64 q] 27))
    have ho9 := ho8.alloc (.cells #[.slice a3 0 c3, .int .i64 p, .int .i64 q] 27)
    clear ho8 hb8 st7
    obtain ⟨⟨x0, x1, x2⟩, _⟩ := cells3 st8.a
    obtain ⟨⟨y0, y1, y2⟩, _⟩ := cells3 st8.c
    go_wp2_with fail
    generalize W8.alloc (.cells #[.slice a3 0 c3, .int .i64 p, .int .i64 q] 27) = W9 at st8 ho9 x0 x1 x2 y0 y1 y2 ⊢
    refine (lEqOut a3 a1 c3 c1 _ _ [] p q W9 hlen ho9 st8.o1).mono ?_
    rintro e W10 ⟨rfl, hb10⟩
    have st10 := st8.below hb10
    clear hb10 st8 ho9 x0 x1 x2 y0 y1 y2
    obtain ⟨⟨y0, y1, y2⟩, _⟩ := cells3 st10.c
    go_wp2_with fail
    refine (HD.out W10).mono ?_
    rintro e W11 ⟨rfl, hb11⟩
    have st11 := st10.below hb11
    clear hb11 st10 y0 y1 y2
    go_wp2_with fail
    go_ret
    exact ⟨rfl, st11.b⟩
  · obtain ⟨g, cap, hv, hgB, hgW⟩ := st5.o2.place hT
    simp only [Value.slice.injEq, true_and] at hv
    obtain ⟨rfl, rfl⟩ := hv
    obtain ⟨hgA, hgC⟩ := HG2.out g rfl
    have M : Calls Tryd.prog 13 #[.agg #[.slice (some ⟨g, 0, none⟩) T.length c2, .int .i64 p, .int .i64 q], .int .i64 1] W5 fun e w' => e = .returned (.int .i64 ((1 + 5 * T.length : Nat) : Int)) ∧ OwnT w' (A + 1) (.slice (some ⟨g, 0, none⟩) T.length c2) (mkToks 1 T.length) ∧ Keep g W5 w' := lMarkOut g c2 1 (A + 1) T p q W5 hlen (by omega) (by omega) st5.o2
    have HMM : Hid (Calls Tryd.prog 13 #[.agg #[.slice (some ⟨g, 0, none⟩) T.length c2, .int .i64 p, .int .i64 q], .int .i64 1] W5 fun e w' => e = .returned (.int .i64 ((1 + 5 * T.length : Nat) : Int)) ∧ OwnT w' (A + 1) (.slice (some ⟨g, 0, none⟩) T.length c2) (mkToks 1 T.length) ∧ Keep g W5 w') := M
    clear M
    go_wp2_with fail
    refine HMM.out.mono ?_
    rintro e W6 ⟨rfl, ho6, hk6⟩
    have st6 := st5.mark hk6 ho6 (by omega) (by omega) (fun g1 h1 => by have := HG1.out g1 h1; omega) (by omega) hw0
    have hgW6 : g < W6.heap.size := Nat.lt_of_lt_of_le hgW hk6.size
    clear HMM ho6 hk6 x0 x1 x2 y0 y1 y2 st5
    obtain ⟨⟨x0, x1, x2⟩, _⟩ := cells3 st6.a
    obtain ⟨⟨y0, y1, y2⟩, _⟩ := cells3 st6.c
    have HD : Hid (∀ W : World, g < W.heap.size → OwnT W (A + 1) (.slice (some ⟨g, 0, none⟩) T.length c2) (mkToks 1 T.length) → Calls Tryd.prog 14 #[.agg #[.slice (some ⟨g, 0, none⟩) T.length c2, .int .i64 p, .int .i64 q], .int .i64 1] W fun e w' => e = .returned (.int .i64 ((1 + 5 * T.length : Nat) : Int)) ∧ Below W.heap.size W w') := fun W hgw ho => lHeldOut g c2 1 (A + 1) T.length p q W hlen (by omega) (by omega) hgw ho
    generalize hK : 1 + 5 * T.length = K at *
    clear hK
    have hK0 : ¬ (K : Int) < 0 := by omega
    go_wp2_with fail
    refine (HD.out W6 hgW6 st6.o2).mono ?_
    rintro e W7 ⟨rfl, hb7⟩
    have st7 := st6.below hb7
    have hgW7 : g < W7.heap.size := Nat.lt_of_lt_of_le hgW6 hb7.size
    clear hb7 x0 x1 x2 y0 y1 y2 st6
    go_wp2_with fail
    refine (HIT.out W7 st7.m).mono ?_
    rintro e W8 ⟨v3, rfl, ho8, hb8⟩
    obtain ⟨a3, c3, hv3⟩ := ho8.shape
    subst hv3
    have st8 := (st7.below hb8).below ((Below.refl W8.heap.size W8).alloc (Nat.le_refl _) (.cells #[.slice a3 T.length c3, .int .i64 p, .int .i64 q] 27))
    have ho9 := ho8.alloc (.cells #[.slice a3 T.length c3, .int .i64 p, .int .i64 q] 27)
    have hgW9 : g < (W8.alloc (.cells #[.slice a3 T.length c3, .int .i64 p, .int .i64 q] 27)).heap.size := by rw [World.size_alloc]; have := hb8.size; omega
    clear ho8 hb8 st7
    obtain ⟨⟨x0, x1, x2⟩, _⟩ := cells3 st8.a
    obtain ⟨⟨y0, y1, y2⟩, _⟩ := cells3 st8.c
    go_wp2_with fail
    generalize W8.alloc (.cells #[.slice a3 T.length c3, .int .i64 p, .int .i64 q] 27) = W9 at st8 ho9 hgW9 x0 x1 x2 y0 y1 y2 ⊢
    refine (lEqOut a3 a1 c3 c1 _ _ T p q W9 hlen ho9 st8.o1).mono ?_
    rintro e W10 ⟨rfl, hb10⟩
    have st10 := st8.below hb10
    have hgW10 : g < W10.heap.size := Nat.lt_of_lt_of_le hgW9 hb10.size
    clear hb10 st8 ho9 x0 x1 x2 y0 y1 y2
    obtain ⟨⟨y0, y1, y2⟩, _⟩ := cells3 st10.c
    go_wp2_with fail
    refine (HD.out W10 hgW10 st10.o2).mono ?_
    rintro e W11 ⟨rfl, hb11⟩
    have st11 := st10.below hb11
    clear hb11 st10 y0 y1 y2
    go_wp2_with fail
    go_ret
    exact ⟨rfl, st11.b⟩

end Go.Proofs.YtgdiohnpaldeiaaDoor

/-
  The loop over slices.Backward within through: the kids go on the stack. (Written by wip/tools/mkEvI.py.)
-/
import Derived.Test.YtbkloddaooblfacEvT
namespace Go.Proofs.Ytbkloddaooblfac
open Go.RowKit Go.Shelf

attribute [local go_sem] Oper.semAt_some

def asgOps : Array Oper := #[{ dst := some 10, op := Op.alloc 56, type := 0, pos := "l06_scope.go:156", after := #[], guard := none },
  { dst := none, op := Op.store 56 (Operand.tmp 10) (Operand.tmp 42), type := 0, pos := "l06_scope.go:156", after := #[{ on := 0, ground := Ground.data }, { on := 0, ground := Ground.phase }], guard := none }]

set_option maxRecDepth 100000 in
set_option maxHeartbeats 4000000 in
theorem iInner (O s Bs b o kc : Nat) (ks : List PT) (cs : Nat → NC) (fs : Nat → List Nat) (hkl : ks.length ≤ 1048576) (L' : List SE) (hL : L'.length ≤ 1048577) (v0 : Value) (W5 : World) (Q : Exit → Act → World → Prop) (x0 x1 x2 x3 x4 x5 x6 x8 x9 x10 x11 x12 x13 x14 x15 x16 x17 x18 x19 x20 x21 x22 x23 x24 x25 x26 x27 x28 x29 x30 x31 x32 x33 x34 x35 x36 x37 x38 x39 x41 x42 x43 x44 x45 x46 x47 x48 : Value) (ds : List Deferred)
    (hBs : W5.heap[Bs]? = some (.cells #[.slice (some ⟨b, o, none⟩) ks.length kc] 54 (0, 0))) (hc : ∀ i (h : i < ks.length), SixAt W5 b (o + i * 6) ks[i] (cs i)) (hb : b < s) (hPb : Plain W5 b) (hsO : s ≤ O) (hOBs : O ≠ Bs) (hs : s ≤ W5.heap.size)
    (hBox : Boxed W5 O 54 v0) (hown : OwnN W5 s v0 L')
    (hQ : ∀ D W v, W5.heap.size ≤ D → Boxed W O 54 v → OwnN W s v (L' ++ (dn ks.length 0).map (kidE ks cs fs)) → KO O s W5 W → W.heap[D]? = some (.deferred (some [])) → Q .normal { tmps := #[x0, x1, x2, x3, x4, x5, x6, .pointer (some ⟨O, 0, none⟩), x8, x9, x10, x11, x12, x13, x14, x15, x16, x17, x18, x19, x20, x21, x22, x23, x24, x25, x26, x27, x28, x29, x30, x31, x32, x33, x34, x35, x36, x37, x38, x39, .func (.func 93) #[] #[.pointer (some ⟨Bs, 0, none⟩)], x41, x42, x43, x44, x45, x46, x47, x48], defers := dmk D :: ds } W) :
    (Code.rangeFunc (.tmp 40) #[41, 42] (Code.region 10 asgOps false) (Code.block 3 (Code.region 11 appOps true))).wpIn Fence.wide 9 Try.prog Q { tmps := #[x0, x1, x2, x3, x4, x5, x6, .pointer (some ⟨O, 0, none⟩), x8, x9, x10, x11, x12, x13, x14, x15, x16, x17, x18, x19, x20, x21, x22, x23, x24, x25, x26, x27, x28, x29, x30, x31, x32, x33, x34, x35, x36, x37, x38, x39, .func (.func 93) #[] #[.pointer (some ⟨Bs, 0, none⟩)], x41, x42, x43, x44, x45, x46, x47, x48], defers := ds } W5 := by
  obtain ⟨cb, tb, eb⟩ := hPb
  have hbO : b ≠ O := by omega
  have hBsl := (Array.getElem?_eq_some_iff.1 hBs).1
  have hbl := (Array.getElem?_eq_some_iff.1 eb).1
  have hseq : SeqStopsK Fence.wide (9 - 1) Try.prog 93 #[.pointer (some ⟨Bs, 0, none⟩)] (encB ks cs) (BwK Bs b) (fun ys => ys = dn ks.length 0) (fun _ => True) ks.length W5 := fun l J Jx W hW _ _ hYy h0 =>
    iBack1 (9 - 1) l Bs b o kc (some ⟨b, o, none⟩) ks cs hkl J Jx hYy W ((hW.block Bs hBsl).trans hBs) (.inr rfl) (fun i h => (hc i h).keep (B := 0) (Nat.zero_le _) (.of_below hW 0)) h0
  refine wpIn_rangeFunc_ownH (F := Fence.wide) rfl (by omega) (gf := 93) (lb := #[.pointer (some ⟨Bs, 0, none⟩)]) rfl trivial (enters_of Try.func93 (by kernel_rfl) rfl) hseq (fun h k => h.trans k)
    (fun W l ob o' hl _ _ _ => ⟨World.putObj_heap_other (by omega), World.putObj_heap_other (by omega)⟩) (Below.refl _ _) (fun _ => rfl)
    (fun pre W => ∃ v, Boxed W O 54 v ∧ OwnN W s v (L' ++ pre.map (kidE ks cs fs)) ∧ KO O s W5 W) (fun _ _ _ => False) ?own (fun _ _ _ _ _ h _ _ => h) ⟨v0, hBox, by rw [List.map_nil, List.append_nil]; exact hown, KO.refl _ _ _⟩
    (fun j a' W => ∃ Xk, W.heap[Xk]? = some (.cells ((ks.getD j ptD).cells (cs j)) 56 (0, 0)) ∧ a' = { tmps := #[x0, x1, x2, x3, x4, x5, x6, .pointer (some ⟨O, 0, none⟩), x8, x9, .pointer (some ⟨Xk, 0, none⟩), x11, x12, x13, x14, x15, x16, x17, x18, x19, x20, x21, x22, x23, x24, x25, x26, x27, x28, x29, x30, x31, x32, x33, x34, x35, x36, x37, x38, x39, .func (.func 93) #[] #[.pointer (some ⟨Bs, 0, none⟩)], .int .i64 (j : Int), .agg ((ks.getD j ptD).cells (cs j)), x43, x44, x45, x46, x47, x48], defers := [] }) ?ax ?assign ?body ?done ?stop
  case own =>
    rintro pre X Y row ⟨v, h1, h2, h3⟩ hg hr
    refine ⟨v, h1.kept hg (fun e => ?_), World.ownsRow.kept h2 hg ?_, ⟨hg.os.trans h3.os, hg.tape.trans h3.tape, hg.output.trans h3.output, Nat.le_trans h3.size hg.size, fun k ob hk q1 q2 => ?_⟩⟩
    · obtain ⟨_, ob, ho, hc'⟩ := hr O e.symm
      rw [show X.heap[O]? = _ from h1] at ho; cases ho; cases hc'
    · rcases h2.2 with ⟨e, _⟩ | ⟨g, cap, cur, e, _, hgb, _⟩
      · exact .inl (by rw [e]; rfl)
      · refine .inr fun e' => ?_
        rw [e] at e'
        obtain ⟨_, ob, ho, hc'⟩ := hr g (by simpa [Value.ownBlock] using e'.symm)
        rw [hgb] at ho; cases ho; cases hc'
    · have h4 := h3.block k ob hk q1 q2
      refine (hg.block k (Array.getElem?_eq_some_iff.1 h4).1 (fun e => ?_)).trans h4
      have := (hr k e.symm).1
      have := (Array.getElem?_eq_some_iff.1 hk).1
      omega
  case ax =>
    rintro j a' _ X Y row ⟨Xk, h1, h2⟩ hg hr
    refine ⟨Xk, (hg.block Xk (Array.getElem?_eq_some_iff.1 h1).1 (fun e => ?_)).trans h1, h2⟩
    obtain ⟨_, ob, ho, hc'⟩ := hr Xk e.symm
    rw [h1] at ho; cases ho; cases hc'
  case assign =>
    rintro l pre j W K ⟨v, h1, h2, h3⟩ hK
    have hKK : Hid (∀ a' W', KeepsFrom W5.heap.size W W' → BwK Bs b W W' → (∃ v, Boxed W' O 54 v ∧ OwnN W' s v (L' ++ pre.map (kidE ks cs fs)) ∧ KO O s W5 W') → (∃ Xk, W'.heap[Xk]? = some (.cells ((ks.getD j ptD).cells (cs j)) 56 (0, 0)) ∧ a' = { tmps := #[x0, x1, x2, x3, x4, x5, x6, .pointer (some ⟨O, 0, none⟩), x8, x9, .pointer (some ⟨Xk, 0, none⟩), x11, x12, x13, x14, x15, x16, x17, x18, x19, x20, x21, x22, x23, x24, x25, x26, x27, x28, x29, x30, x31, x32, x33, x34, x35, x36, x37, x38, x39, .func (.func 93) #[] #[.pointer (some ⟨Bs, 0, none⟩)], .int .i64 (j : Int), .agg ((ks.getD j ptD).cells (cs j)), x43, x44, x45, x46, x47, x48], defers := [] }) → K a' W') := hK
    have hsz := h3.size
    have HH : Hid (∀ ob, KeepsFrom W5.heap.size W (W.alloc ob) ∧ BwK Bs b W (W.alloc ob) ∧ (∃ v, Boxed (W.alloc ob) O 54 v ∧ OwnN (W.alloc ob) s v (L' ++ pre.map (kidE ks cs fs)) ∧ KO O s W5 (W.alloc ob))) := fun ob =>
      ⟨(KeepsOthers.alloc _ _).from _, ⟨Below.heap_alloc _ _ _ (by omega), Below.heap_alloc _ _ _ (by omega)⟩, v, h1.alloc ob, World.ownsRow.alloc h2 ob, h3.alloc ob⟩
    clear hK h1 h2 h3
    unfold encB asgOps
    generalize hx : ks.getD j ptD = x at *
    cases x with
    | node kk tt nn nns ss kks =>
    unfold PT.cells nodeC at hKK ⊢
    dsimp only at hKK ⊢
    gi_wp2
    obtain ⟨g1, g2, g3⟩ := HH.out (.cells #[.int .i64 kk, .string tt, .int .i64 nn, .slice (cs j).na nns.length (cs j).nc, .bool ss, .slice (cs j).ka kks.length (cs j).kc] 56)
    exact hKK.out _ _ g1 g2 g3 ⟨W.heap.size, World.alloc_heap_new W _, rfl⟩
  case body =>
    rintro l pre j a' W hl' ⟨r, hr⟩ ⟨v, h1, h2, h3⟩ ⟨Xk, hXk, rfl⟩ hlt
    obtain ⟨va, vc, rfl⟩ : ∃ va vc, v = .slice va (L' ++ pre.map (kidE ks cs fs)).length vc := by
      rcases h2.2 with ⟨rfl, h0⟩ | ⟨g, cap, _, rfl, _⟩
      · exact ⟨none, 0, by rw [h0]⟩
      · exact ⟨_, _, rfl⟩
    have hll : (L' ++ pre.map (kidE ks cs fs)).length ≤ 3000000 := by rw [List.length_append, List.length_map]; omega
    have hflat : (L' ++ (pre ++ [j]).map (kidE ks cs fs)).flatMap seC = (L' ++ pre.map (kidE ks cs fs)).flatMap seC ++ ((ks.getD j ptD).cells (cs j)).toList := by
      rw [List.map_append, List.map_singleton, ← List.append_assoc, List.flatMap_append, List.flatMap_singleton]; rfl
    have hlen : (L' ++ (pre ++ [j]).map (kidE ks cs fs)).length = (L' ++ pre.map (kidE ks cs fs)).length + 1 := by simp; omega
    have HQ : Hid (∀ a' W', AppFin W.drew O s (L' ++ pre.map (kidE ks cs fs)).length ((L' ++ pre.map (kidE ks cs fs)).flatMap seC ++ ((ks.getD j ptD).cells (cs j)).toList) W' → ownPostG W5.heap.size (BwK Bs b) (fun pre W => ∃ v, Boxed W O 54 v ∧ OwnN W s v (L' ++ pre.map (kidE ks cs fs)) ∧ KO O s W5 W) (fun _ _ _ => False) (pre ++ [j]) W .normal a' W') := by
      rintro a' W' ⟨v', k1, k2, k3⟩
      have k3' : KO O s W W' := ⟨k3.os, k3.tape, k3.output, k3.size, k3.block⟩
      refine ⟨⟨k3'.size, fun k ob _ hk ho => k3'.block k ob hk (fun e => ?_) (.inr fun c e => ?_)⟩, ⟨?_, ?_⟩, v', k1, ?_, h3.trans k3'⟩
      · rw [e, show W.heap[O]? = _ from h1] at hk; cases hk; cases ho
      · subst e; cases ho
      · have e1 := h3.block _ _ hBs (Ne.symm hOBs) (.inr fun c e => by simp at e)
        exact (k3'.block _ _ e1 (Ne.symm hOBs) (.inr fun c e => by simp at e)).trans e1.symm
      · have e1 := h3.block _ _ eb hbO (.inl hb)
        exact (k3'.block _ _ e1 hbO (.inl hb)).trans e1.symm
      · unfold OwnN
        rw [hlen, hflat]
        exact k2
    clear hflat hlen hlt hr
    generalize hx : ks.getD j ptD = x at *
    cases x with
    | node kk tt nn nns ss kks =>
    unfold PT.cells nodeC at hXk HQ ⊢
    dsimp only at hXk HQ ⊢
    refine wpIn_block ?_
    exact appRound l _ O Xk va _ vc kk tt nn (cs j).na nns.length (cs j).nc ss (cs j).ka kks.length (cs j).kc s _ W _ _ _ _ _ _ _ _ _ _ _ _ _ _ _ _ _ _ _ _ _ _ _ _ _ _ _ _ _ _ _ _ _ _ _ _ _ _ _ _ _ _ _ _ _ _ _ _ [] h1 h2 (Nat.le_trans hs h3.size) hll hXk (fun a' W' h => HQ.out a' W' h)
  case done =>
    rintro D ys W hD rfl ⟨v, h1, h2, h3⟩ hK
    exact hQ D W v hD h1 h2 h3 hK
  case stop =>
    rintro D c pre W _ _ h _
    exact h.elim

end Go.Proofs.Ytbkloddaooblfac

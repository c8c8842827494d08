/-
  The walks of impl's programs, programsOf and SessionParts.
-/
import Derived.Test.YtncljjcmdgakhaaSpA
import Derived.RangeFuncWrites
import Derived.RangeFuncBox
import Derived.Test.YtncljjcmdgakhaaSpL
namespace Go.Proofs.Ytncljjcmdgakhaa
open Go.RowKit Go.Shelf

attribute [local go_sem] Oper.semAt_some

set_option maxHeartbeats 1000000 in
theorem iPrograms (s : ByteArray) (w : World) :
    Calls Try.prog 14 #[.string s] w fun e w' => e = .returned (.func (.func 16) #[] #[.pointer (some ⟨w.heap.size, 0, none⟩)]) ∧ w' = w.alloc (.cells #[.string s] 9) := by
  go_enter Try.func14, Try.ntmps14
  go_wp2
  go_ret
  exact ⟨rfl, rfl⟩

theorem prog_stops (n Bs : Nat) (s : ByteArray) (hs : s.size ≤ 4000) (w : World) (hBs : w.cell? ⟨Bs, 0, none⟩ = some (.string s)) (hBn : Bs < w.heap.size) :
    SeqStopsK Fence.wide n Try.prog 16 #[.pointer (some ⟨Bs, 0, none⟩)] (fun x : T4 => #[.string x.1]) (fun W W' => W'.heap[Bs]? = W.heap[Bs]?) (fun ys => raw ys = partsV s) (fun pre => raw pre <+: partsV s) (partsV s).length w :=
  fun l J Jx W hW hJ _ hY h0 => iProg1 n l Bs s hs J Jx W.heap.size hJ hY W ((hW.cell (p := ⟨Bs, 0, none⟩) hBn).trans hBs) h0

/-- What lies between two rounds: the programs so far in the box r, the two results in theirs. -/
structure PI (w : World) (r : Nat) (pre : List T4) (W : World) : Prop where
  row : ∃ v, Boxed W (r + 1 + 1) 22 v ∧ SRow W (r + 1 + 1 + 1 + 1) v (raw pre)
  sz : r + 1 + 1 + 1 + 1 ≤ W.heap.size
  r0 : Boxed W r 22 (.slice none 0 0)
  r1 : Boxed W (r + 1) 4 (.bool false)
  le : pre.length ≤ 10
  bel : Below w.heap.size w W

theorem PI.own (w : World) (r B0 : Nat) (h0 : w.heap.size ≤ B0) : OwnFrom B0 (PI w r) := fun pre X Y row h hg hr => by
  have hne : ∀ {b t v}, Boxed X b t v → some b ≠ row := fun hb e => by
    obtain ⟨_, o, ho, hc⟩ := hr _ e.symm
    rw [show X.heap[_]? = _ from hb] at ho; cases ho; cases hc
  refine ⟨?_, Nat.le_trans h.sz hg.size, h.r0.kept hg (hne h.r0), h.r1.kept hg (hne h.r1), h.le, ?_⟩
  · obtain ⟨v, hv, hrow⟩ := h.row
    refine ⟨v, hv.kept hg (hne hv), row_same hrow fun q hq => hg.block q (World.ownsRow.lt hrow q hq).2 fun e => ?_⟩
    obtain ⟨_, o, ho, hc⟩ := hr _ e.symm
    rcases hrow.2 with ⟨rfl, _⟩ | ⟨g, cap, cur, rfl, _, hgb, _⟩
    · simp [Value.ownBlock] at hq
    · obtain rfl : g = q := by simpa [Value.ownBlock] using hq
      rw [hgb] at ho; cases ho; cases hc
  · exact h.bel.trans ((Below.refl _ X).grown hg h.bel.size fun k e => Nat.le_trans h0 (hr k e).1)
/-- What lies where a round has left: more programs than may be. -/
structure PX (w : World) (r : Nat) (c : Code) (pre : List T4) (W : World) : Prop where
  isRet : c = .ret
  r0 : Boxed W r 22 (.slice none 0 0)
  r1 : Boxed W (r + 1) 4 (.bool false)
  gt : 10 < pre.length
  bel : Below w.heap.size w W
theorem PX.own (w : World) (r B0 : Nat) (h0 : w.heap.size ≤ B0) (c : Code) : OwnFrom B0 (PX w r c) := fun pre X Y row h hg hr => by
  have hne : ∀ {b t v}, Boxed X b t v → some b ≠ row := fun hb e => by
    obtain ⟨_, o, ho, hc⟩ := hr _ e.symm
    rw [show X.heap[_]? = _ from hb] at ho; cases ho; cases hc
  exact ⟨h.isRet, h.r0.kept hg (hne h.r0), h.r1.kept hg (hne h.r1), h.gt, h.bel.trans ((Below.refl _ X).grown hg h.bel.size fun k e => Nat.le_trans h0 (hr k e).1)⟩

set_option maxHeartbeats 4000000 in
set_option maxRecDepth 100000 in
theorem iProgOf (s : ByteArray) (w : World) (hs : s.size ≤ 4000) :
    Calls Try.prog 10 #[.string s] w fun e w' => ∃ v b, e = .returned (.tuple #[v, b]) ∧ Below w.heap.size w w' ∧ SRow w' w.heap.size v (if 10 < (partsV s).length then [] else partsV s) := by
  obtain ⟨i0, hi, hz0, hz1, hz2⟩ := info_parts Try.infoStr
  refine (callsIn_wide (n := 9)).1 ?_
  refine callsIn_of_wp_marks Try.func10 rfl trivial ?_ rfl
  simp only [Try.ntmps10, List.size_toArray, List.length_cons, List.length_nil, Nat.reduceAdd, Nat.reduceSub, Array.replicate_succ, Array.replicate_zero, List.push_toArray, List.append_toArray, List.nil_append, List.cons_append]
  gi_wp2
  refine ⟨trivial, (callsIn_wide.2 (iPrograms s _)).mono ?_⟩
  rintro e w' ⟨rfl, rfl⟩
  gi_wp2
  have b0 := ((Boxed.new w 22 (.slice none 0 0)).alloc (.cells #[.bool false] 4)).alloc (.cells #[.slice none 0 0] 22)
  have b1 := (Boxed.new (w.alloc (.cells #[.slice none 0 0] 22)) 4 (.bool false)).alloc (.cells #[.slice none 0 0] 22)
  have b2 := Boxed.new ((w.alloc (.cells #[.slice none 0 0] 22)).alloc (.cells #[.bool false] 4)) 22 (.slice none 0 0)
  have hB0 : Below w.heap.size w (((w.alloc (.cells #[.slice none 0 0] 22)).alloc (.cells #[.bool false] 4)).alloc (.cells #[.slice none 0 0] 22)) := (((Below.refl _ w).alloc (Nat.le_refl _) _).alloc (by simp) _).alloc (by simp; omega) _
  have hsz : (((w.alloc (.cells #[.slice none 0 0] 22)).alloc (.cells #[.bool false] 4)).alloc (.cells #[.slice none 0 0] 22)).heap.size = w.heap.size + 1 + 1 + 1 := by simp
  simp only [World.size_alloc] at b1 b2
  generalize ((w.alloc _).alloc _).alloc _ = W0 at b0 b1 b2 hB0 hsz ⊢
  have bS := Boxed.new W0 9 (.string s)
  rw [hsz] at bS
  have hsz1 : (W0.alloc (.cells #[.string s] 9)).heap.size = w.heap.size + 1 + 1 + 1 + 1 := by simp [hsz]
  have hI0 : PI w w.heap.size [] (W0.alloc (.cells #[.string s] 9)) := ⟨⟨_, b2.alloc _, World.ownsRow_nil _ _ _ _⟩, by omega, b0.alloc _, b1.alloc _, by simp, hB0.alloc (by omega) _⟩
  generalize W0.alloc (.cells #[.string s] 9) = W1 at bS hsz1 hI0 ⊢
  clear b0 b1 b2 hB0 hsz W0
  refine wpIn_rangeFunc_ownG rfl (by omega) (gf := 16) (lb := #[.pointer (some ⟨w.heap.size + 1 + 1 + 1, 0, none⟩)]) rfl trivial (enters_of Try.func16 (by kernel_rfl) rfl)
    (prog_stops (9 - 1) (w.heap.size + 1 + 1 + 1) s hs W1 bS.cell (by omega)) (fun h k => k.trans h) (fun W l o o' hl _ _ _ => World.putObj_heap_other (by omega)) (Below.refl _ _) (fun _ => rfl)
    (PI w w.heap.size) (PX w w.heap.size) (PI.own w _ _ (by omega)) (PX.own w _ _ (by omega)) hI0
    (fun x => { tmps := #[.string s, undef, .pointer (some ⟨w.heap.size, 0, none⟩), .pointer (some ⟨w.heap.size + 1, 0, none⟩), .pointer (some ⟨w.heap.size + 1 + 1, 0, none⟩), .string x.1, .string s, .func (.func 16) #[] #[.pointer (some ⟨w.heap.size + 1 + 1 + 1, 0, none⟩)], .string x.1, undef, undef, undef, undef, undef, undef, undef, undef, undef], defers := [] }) ?assign ?body ?done ?stop
  case assign =>
    intro l x W K hK
    gi_wp2
    exact hK
  case body =>
    rintro l pre x W hp hlt
    obtain ⟨⟨v, hv, hrow⟩, hsz, h0, h1, hle, hB⟩ := hp
    have hc := hv.cell
    obtain ⟨va, vc, rfl⟩ := hrow.shape
    rw [raw_len] at hv hrow hc
    by_cases h10 : pre.length = 10
    · have h10' : ((pre.length : Int) == 10) = true := by simp [h10]
      have c0 := h0.cell
      have f0 := h0.frozen
      have k1 := h1.other (B' := w.heap.size) (by omega) (.slice none 0 0)
      have c1 := k1.cell
      have f1 := k1.frozen
      gi_wp2
      exact ⟨((KeepsOthers.setCell _ _ _).trans (KeepsOthers.setCell _ _ _)).from _, ⟨rfl, (h0.set _).other (by omega) _, k1.set _, by simp; omega, (hB.setCell (p := ⟨w.heap.size, 0, none⟩) (Nat.le_refl _) _).setCell (p := ⟨w.heap.size + 1, 0, none⟩) (by simp) _⟩⟩
    · have h10' : ((pre.length : Int) == 10) = false := by simp; omega
      have hvl := hv.lt
      have hmx : Try.prog.follows .mixedOrders = true := by kernel_rfl
      gi_wp2
      refine wpIn_region_any hmx ?_
      change wpAnyIn _ _ _ _ spOps _ _ _ _ W.drew
      refine spApp l (9 - 1 - 1) (w.heap.size + 1 + 1) (w.heap.size + 1 + 1 + 1 + 1) x.1 x.2 va pre.length vc ((raw pre).map Value.string) W.drew _ _ _ _ _ _ _ _ _ _ _ _ _ _ _ _ _ _ hv (by have := hrow; unfold SRow at this; rw [raw_len] at this; exact this) hsz (by omega) ?_
      intro w2 v2 w3 a hb2 hr3 hg3 hb3
      have hb2' : Below W.heap.size W w2 := ⟨hb2.os, hb2.tape, hb2.output, hb2.size, hb2.block⟩
      have hsz2 := hb2'.size
      have hrow' : W.ownsRow (w.heap.size + 1 + 1 + 1 + 1) 9 1 (.slice va pre.length vc) pre.length ((raw pre).map Value.string) := by have := hrow; unfold SRow at this; rw [raw_len] at this; exact this
      have hblk : ∀ q, q < w.heap.size + 1 + 1 + 1 + 1 → q ≠ w.heap.size + 1 + 1 → (w3.setCell ⟨w.heap.size + 1 + 1, 0, none⟩ v2).heap[q]? = W.heap[q]? := fun q hq hne => by
        rw [Below.heap_setCell _ _ _ _ hne, hg3.block q (by simp; omega) (fun e => by have := (World.ownsRow.lt hrow' q e.symm).1; omega), Below.heap_alloc _ _ _ (by omega), hb2'.block q (by omega)]
      have hkeep : KeepsOthers W (w3.setCell ⟨w.heap.size + 1 + 1, 0, none⟩ v2) := by
        have k2 : KeepsOthers W w2 := ⟨hb2'.size, fun k o hk _ => (hb2'.block k (Array.getElem?_eq_some_iff.1 hk).1).trans hk⟩
        refine ((k2.trans (KeepsOthers.alloc w2 _)).trans (KeepsOthers.of_grownBy hg3 fun j o ej hj => ?_)).trans (KeepsOthers.setCell _ _ _)
        have hjl := (World.ownsRow.lt hrow' j ej).2
        rw [Below.heap_alloc _ _ _ (by omega), hb2'.block j hjl] at hj
        rcases hrow'.2 with ⟨e, _⟩ | ⟨g, cap, cur, e, _, hgb, _⟩
        · rw [e] at ej; simp [Value.ownBlock] at ej
        · rw [e] at ej
          obtain rfl : g = j := by simpa [Value.ownBlock] using ej
          rw [hgb] at hj; cases hj; rfl
      have hbel : Below w.heap.size W (w3.setCell ⟨w.heap.size + 1 + 1, 0, none⟩ v2) := by
        refine ((((hb2'.mono hB.size).alloc (by omega) _).grown hg3 (by simp; omega) (fun k e => by have := (World.ownsRow.lt hrow' k e).1; omega))).setCell (p := ⟨w.heap.size + 1 + 1, 0, none⟩) (by simp; omega) _
      refine ⟨hkeep.from _, hblk _ (by omega) (by omega), ⟨⟨v2, hb3.set v2, ?_⟩, ?_, ?_, ?_, by simp; omega, hB.trans hbel⟩⟩
      · have h4 := hr3.kept (grownBy_setCell' w3 (w.heap.size + 1 + 1) v2) (.inr (hb3.not_row (by decide) hr3).symm)
        unfold SRow
        rw [raw_len, raw_snoc, List.map_append]
        simpa using h4
      · have := hg3.size; simp [World.setCell] at this ⊢; omega
      · exact (hblk _ (by omega) (by omega)).trans h0
      · exact (hblk _ (by omega) (by omega)).trans h1
  case done =>
    rintro D ys W hD hys hp hK
    obtain ⟨⟨v, hv, hrow⟩, hsz, h0, h1, hle, hB⟩ := hp
    have hnot : ¬ 10 < (partsV s).length := by rw [← hys, raw_len]; omega
    obtain ⟨v, va, vc, hv0, hv, hrow⟩ : ∃ v va vc, v = .slice va ys.length vc ∧ Boxed W (w.heap.size + 1 + 1) 22 v ∧ SRow W (w.heap.size + 1 + 1 + 1 + 1) v (raw ys) := by
      obtain ⟨va, vc, rfl⟩ := hrow.shape
      exact ⟨_, va, vc, by rw [raw_len], hv, hrow⟩
    have hc := hv.cell
    have c0 := h0.cell
    have f0 := h0.frozen
    have k1 := h1.other (B' := w.heap.size) (by omega) v
    have c1 := k1.cell
    have f1 := k1.frozen
    have hDr : ∀ q t u, Boxed W q t u → q ≠ D := fun q t u hb e => by subst e; rw [show W.heap[_]? = _ from hb] at hK; cases hK
    have n0 := hDr _ _ _ h0
    have n1 := hDr _ _ _ h1
    have hK' : ((W.setCell ⟨w.heap.size, 0, none⟩ v).setCell ⟨w.heap.size + 1, 0, none⟩ (.bool true)).heap[D]? = some (.deferred (some [])) := by
      rw [Below.heap_setCell _ _ _ _ (fun e => n1 e.symm), Below.heap_setCell _ _ _ _ (fun e => n0 e.symm)]; exact hK
    have d0 : Boxed (((W.setCell ⟨w.heap.size, 0, none⟩ v).setCell ⟨w.heap.size + 1, 0, none⟩ (.bool true)).putObj D (.deferred none)) w.heap.size 22 v := (World.putObj_heap_other n0).trans ((h0.set v).other (by omega) _)
    have d1 : Boxed (((W.setCell ⟨w.heap.size, 0, none⟩ v).setCell ⟨w.heap.size + 1, 0, none⟩ (.bool true)).putObj D (.deferred none)) (w.heap.size + 1) 4 (.bool true) := (World.putObj_heap_other n1).trans (k1.set _)
    have dB : Below w.heap.size w (((W.setCell ⟨w.heap.size, 0, none⟩ v).setCell ⟨w.heap.size + 1, 0, none⟩ (.bool true)).putObj D (.deferred none)) :=
      ((hB.setCell (p := ⟨w.heap.size, 0, none⟩) (Nat.le_refl _) _).setCell (p := ⟨w.heap.size + 1, 0, none⟩) (by simp) _).grown (grownBy_putObj' _ D _) (by have := hB.size; simpa [World.setCell] using this) (fun k e => by cases e; omega)
    have dR : SRow (((W.setCell ⟨w.heap.size, 0, none⟩ v).setCell ⟨w.heap.size + 1, 0, none⟩ (.bool true)).putObj D (.deferred none)) w.heap.size v (if 10 < (partsV s).length then [] else partsV s) := by
      rw [if_neg hnot, ← hys]
      have hr2 : SRow (((W.setCell ⟨w.heap.size, 0, none⟩ v).setCell ⟨w.heap.size + 1, 0, none⟩ (.bool true)).putObj D (.deferred none)) (w.heap.size + 1 + 1 + 1 + 1) v (raw ys) := row_same hrow fun q hq => by
        have hl := World.ownsRow.lt hrow q hq
        have hqD : q ≠ D := fun e => by
          subst e
          rcases hrow.2 with ⟨e, _⟩ | ⟨g, cap, cur, e, _, hgb, _⟩
          · rw [e] at hq; simp [Value.ownBlock] at hq
          · rw [e] at hq
            obtain rfl : g = q := by simpa [Value.ownBlock] using hq
            rw [hgb] at hK; cases hK
        rw [World.putObj_heap_other hqD, Below.heap_setCell _ _ _ _ (by show q ≠ w.heap.size + 1; omega), Below.heap_setCell _ _ _ _ (by show q ≠ w.heap.size; omega)]
      refine ⟨hr2.1, hr2.2.imp id ?_⟩
      rintro ⟨g, cap, cur, e, hg, rest⟩
      exact ⟨g, cap, cur, e, by omega, rest⟩
    have e0 := d0.cell
    have e1 := d1.cell
    clear hrow
    subst hv0
    gi_wp2
    refine ⟨by simp, .inl ⟨_, _, rfl, run_takeDeferred hK', ?_⟩⟩
    refine ⟨.tuple #[.slice va ys.length vc, .bool true], by simp [results, Try.results10, go_sem, e0, e1], ?_⟩
    rw [if_neg hnot] at dR
    exact ⟨_, ⟨_, rfl⟩, dB, dR⟩
  case stop =>
    rintro D c pre W hD hpre hx hK
    obtain ⟨rfl, h0, h1, hgt, hB⟩ := hx
    have hyes : 10 < (partsV s).length := by have := hpre.length_le; rw [raw_len] at this; omega
    have hDr : ∀ q t u, Boxed W q t u → q ≠ D := fun q t u hb e => by subst e; rw [show W.heap[_]? = _ from hb] at hK; cases hK
    have d0 : Boxed (W.putObj D (.deferred none)) w.heap.size 22 (.slice none 0 0) := (World.putObj_heap_other (hDr _ _ _ h0)).trans h0
    have d1 : Boxed (W.putObj D (.deferred none)) (w.heap.size + 1) 4 (.bool false) := (World.putObj_heap_other (hDr _ _ _ h1)).trans h1
    have dB : Below w.heap.size w (W.putObj D (.deferred none)) := hB.grown (grownBy_putObj' _ D _) hB.size (fun k e => by cases e; omega)
    have e0 := d0.cell
    have e1 := d1.cell
    gi_wp2
    refine ⟨by simp, .inl ⟨_, _, rfl, run_takeDeferred hK, ?_⟩⟩
    have dR : SRow (W.putObj D (.deferred none)) w.heap.size (.slice none 0 0) (if 10 < (partsV s).length then [] else partsV s) := by rw [if_pos hyes]; exact World.ownsRow_nil _ _ _ _
    refine ⟨.tuple #[.slice none 0 0, .bool false], by simp [results, Try.results10, go_sem, e0, e1], ?_⟩
    rw [if_pos hyes] at dR
    exact ⟨_, ⟨_, rfl⟩, dB, dR⟩

set_option maxHeartbeats 2000000 in
theorem iSession (s : ByteArray) (W : World) (hs : s.size ≤ 1048576) :
    Calls Try.prog 5 #[.string s] W fun e w' => ∃ v, e = .returned v ∧ Below W.heap.size W w' ∧ SRow w' W.heap.size v (sessionV s) := by
  by_cases h4 : 4000 < s.size
  · have e : sessionV s = [] := by unfold sessionV; rw [if_pos h4]
    rw [e]
    have h4' : (4000 : Int) < (s.size : Int) := by omega
    clear e
    go_enter Try.func5, Try.ntmps5
    go_wp2_with fail
    go_ret
    exact ⟨_, rfl, Below.refl _ _, World.ownsRow_nil _ _ _ _⟩
  · have h4' : ¬ (4000 : Int) < (s.size : Int) := by omega
    have HP : Hid (∀ V, Calls Try.prog 10 #[.string s] V fun e w' => ∃ v b, e = .returned (.tuple #[v, b]) ∧ Below V.heap.size V w' ∧ SRow w' V.heap.size v (if 10 < (partsV s).length then [] else partsV s)) := fun V => iProgOf s V (by omega)
    have e : sessionV s = if 10 < (partsV s).length then [] else partsV s := by unfold sessionV; rw [if_neg h4]
    rw [← e] at HP
    clear e
    generalize sessionV s = V at *
    go_enter Try.func5, Try.ntmps5
    go_wp2_with (go_at_call 10; refine (HP.out _).mono ?_; rintro e w2 ⟨v, b, rfl, hb, hr⟩)
    go_ret
    exact ⟨_, rfl, hb, hr⟩

end Go.Proofs.Ytncljjcmdgakhaa

/-
  The walk of impl's through. (Written by wip/tools/mkEvT2.py.)
-/
import Derived.Test.YtbkloddaooblfacEvI
import Derived.Deep.CutRange
import Derived.Deep.LoopGhost
namespace Go.Proofs.Ytbkloddaooblfac
open Go.RowKit Go.Shelf

attribute [local go_sem] Oper.semAt_some

/-- What holds as the loop goes round. -/
structure Th (w : World) (M : Nat) (R : World → Prop) (v : Value) (L : List SE) (Ds : List Nat) (es : Array MapEntry) (clock : Nat) (wr : World) : Prop where
  box : Boxed wr (w.heap.size + 1 + 1 + 1) 54 v
  own : OwnN wr w.heap.size v L
  way : wr.heap[w.heap.size]? = some (.cells #[.map (some M)] 119 (0, 0))
  map : wr.heap[M]? = some (.map es clock)
  kx : KX M w wr
  mks : Marks w.heap.size wr Ds
  r : R wr
theorem Th.step {w : World} {M : Nat} {R : World → Prop} {v : Value} {L : List SE} {Ds : List Nat} {es es' : Array MapEntry} {clock clock' : Nat} {wr wr' : World} (h : Th w M R v L Ds es clock wr) (hk : KX M wr wr') (hr : R wr') (hm : wr'.heap[M]? = some (.map es' clock')) : Th w M R v L Ds es' clock' wr' :=
  ⟨boxed_kx h.box hk h.map, h.own.kx hk h.map, hk.block _ _ h.way (fun r e => by cases e) (fun e => by have := h.way; rw [e, h.map] at this; cases this), hm, h.kx.trans hk, h.mks.kx hk h.map, hr⟩
theorem KX.belowS {M : Nat} {w a b : World} (h : KX M w a) (hb : Below w.heap.size a b) : KX M w b :=
  ⟨hb.os.trans h.os, hb.tape.trans h.tape, hb.output.trans h.output, by have := hb.size; have := h.size; omega, fun k o hk h1 h2 => (hb.block k (Array.getElem?_eq_some_iff.1 hk).1).trans (h.block k o hk h1 h2)⟩
theorem OwnN.shape {w : World} {B : Nat} {v : Value} {l : List SE} (h : OwnN w B v l) : ∃ a cap, v = .slice a l.length cap := by
  rcases h.2 with ⟨rfl, h0⟩ | ⟨g, cap, _, rfl, _⟩
  · exact ⟨none, 0, by rw [h0]⟩
  · exact ⟨_, _, rfl⟩
theorem OwnN.top {w : World} {B : Nat} {v : Value} {L : List SE} {e : SE} (h : OwnN w B v (L ++ [e])) :
    ∃ g cap, v = .slice (some ⟨g, 0, none⟩) (L.length + 1) cap ∧ B ≤ g ∧ g < w.heap.size ∧ L.length + 1 ≤ cap ∧ (∀ r u, (seC e)[r]? = some u → w.cell? ⟨g, L.length * 6 + r, none⟩ = some u) ∧ OwnN w B (.slice (some ⟨g, 0, none⟩) L.length cap) L := by
  obtain ⟨h1, h2⟩ := h
  rw [List.length_append, List.length_singleton] at h1 h2
  rcases h2 with ⟨_, h0⟩ | ⟨g, cap, cur, rfl, hb, hg, hc1, hc2, hc3, hc4⟩
  · omega
  rw [List.flatMap_append, List.flatMap_singleton] at hc4
  have hgs := (Array.getElem?_eq_some_iff.1 hg).1
  refine ⟨g, cap, rfl, hb, hgs, hc1, fun r u hu => ?_, ⟨flatN_len _, .inr ⟨g, cap, cur, rfl, hb, hg, by omega, hc2, hc3, ?_⟩⟩⟩
  · have hr : r < 6 := by
      have := (List.getElem?_eq_some_iff.1 hu).1
      rw [seC_len] at this; exact this
    have e1 : (cur.toList.take ((L.length + 1) * 6))[L.length * 6 + r]? = some u := by
      rw [hc4, List.getElem?_append_right (by rw [flatN_len]; omega), flatN_len, Nat.add_sub_cancel_left]; exact hu
    rw [List.getElem?_take, if_pos (by omega)] at e1
    have e2 : cur[L.length * 6 + r]? = some u := by simpa using e1
    simp [World.cell?, hg, e2]
  · have e1 := congrArg (List.take (L.length * 6)) hc4
    rw [List.take_take, Nat.min_eq_left (by omega), List.take_append_of_le_length (by rw [flatN_len]; omega)] at e1
    rw [e1, List.take_of_length_le (by rw [flatN_len]; omega)]
theorem cells6 {w : World} {g o : Nat} {e : SE} (h : ∀ r u, (seC e)[r]? = some u → w.cell? ⟨g, o + r, none⟩ = some u) : SixAt w g o e.t e.c := by
  obtain ⟨t, c, f⟩ := e
  cases t
  exact ⟨h 0 _ rfl, h 1 _ rfl, h 2 _ rfl, h 3 _ rfl, h 4 _ rfl, h 5 _ rfl⟩
/-- The top is taken off: its cells in a box of their own, the slice shorter. -/
theorem Th.pop {w : World} {M B : Nat} {R Rx : World → Prop} {l : Nat} (hY : YOK l B R Rx) (hB : B ≤ w.heap.size) {v : Value} {L : List SE} {e : SE} {Ds : List Nat} {es : Array MapEntry} {clock : Nat} {wr : World} {g cap : Nat} (h : Th w M R v (L ++ [e]) Ds es clock wr) (ho : OwnN wr w.heap.size (.slice (some ⟨g, 0, none⟩) L.length cap) L) (ob : Obj) :
    Th w M R (.slice (some ⟨g, 0, none⟩) L.length cap) L Ds es clock ((wr.alloc ob).setCell ⟨w.heap.size + 1 + 1 + 1, 0, none⟩ (.slice (some ⟨g, 0, none⟩) L.length cap)) := by
  have hlt := h.box.lt
  have hO : ∀ k, k ≠ w.heap.size + 1 + 1 + 1 → ∀ o, wr.heap[k]? = some o → ((wr.alloc ob).setCell ⟨w.heap.size + 1 + 1 + 1, 0, none⟩ (.slice (some ⟨g, 0, none⟩) L.length cap)).heap[k]? = some o := fun k hk o ho => by
    rw [Below.heap_setCell _ _ _ _ hk, Below.heap_alloc _ _ _ (Array.getElem?_eq_some_iff.1 ho).1]; exact ho
  have hbB : Below w.heap.size wr ((wr.alloc ob).setCell ⟨w.heap.size + 1 + 1 + 1, 0, none⟩ (.slice (some ⟨g, 0, none⟩) L.length cap)) := ((Below.refl _ wr).alloc (by omega) ob).setCell (by simp; omega) _
  have hMs : M ≠ w.heap.size + 1 + 1 + 1 := fun e' => by have := h.map; rw [e', show wr.heap[w.heap.size + 1 + 1 + 1]? = _ from h.box] at this; cases this
  refine ⟨(h.box.alloc ob).set _, (World.ownsRow.alloc ho ob).kept (grownBy_setCell' _ _ _) (.inr ((h.box.alloc ob).not_row (by decide) (World.ownsRow.alloc ho ob)).symm), hO _ (by omega) _ h.way, hO _ hMs _ h.map, h.kx.belowS hbB, ⟨h.mks.nodup, fun D hD => ⟨(h.mks.at_ D hD).1, hO _ (fun e' => ?_) _ (h.mks.at_ D hD).2⟩⟩, hY.keep _ _ h.r (hbB.mono hB)⟩
  have := (h.mks.at_ D hD).2
  rw [e', show wr.heap[w.heap.size + 1 + 1 + 1]? = _ from h.box] at this
  cases this

theorem KO.below {O s B : Nat} {a b : World} (h : KO O s a b) (h1 : B ≤ s) (h2 : B ≤ O) (h3 : B ≤ a.heap.size) : Below B a b :=
  ⟨h.os, h.tape, h.output, h.size, fun k hk => by
    have hlt : k < a.heap.size := by omega
    have e : a.heap[k]? = some a.heap[k] := Array.getElem?_eq_getElem hlt
    rw [e]
    exact h.block k _ e (by omega) (.inl (by omega))⟩
/-- The kids have gone on the stack. -/
theorem Th.kids {w : World} {M B l : Nat} {R Rx : World → Prop} (hY : YOK l B R Rx) (hB : B ≤ w.heap.size) {v v' : Value} {L L2 : List SE} {Ds : List Nat} {es : Array MapEntry} {clock : Nat} {W5 W : World} {D : Nat} (h : Th w M R v L Ds es clock W5) (hM : M < w.heap.size) (hD : W5.heap.size ≤ D) (k1 : Boxed W (w.heap.size + 1 + 1 + 1) 54 v') (k2 : OwnN W w.heap.size v' L2) (k3 : KO (w.heap.size + 1 + 1 + 1) w.heap.size W5 W) (hK : W.heap[D]? = some (.deferred (some []))) : Th w M R v' L2 (D :: Ds) es clock W := by
  have hsz := h.kx.size
  refine ⟨k1, k2, k3.block _ _ h.way (by omega) (.inr fun c e => by simp at e), k3.block _ _ h.map (by omega) (.inl hM), h.kx.belowS (k3.below (Nat.le_refl _) (by omega) hsz), (h.mks.ko k3 h.box).cons (by omega) hK (fun hm => ?_), hY.keep _ _ h.r (k3.below hB (by omega) (by omega))⟩
  have := (Array.getElem?_eq_some_iff.1 (h.mks.at_ D hm).2).1
  omega

set_option maxHeartbeats 4000000 in
set_option maxRecDepth 100000 in
theorem iThrough (l B M : Nat) (R Rx : World → Prop) (hY : YOK l B R Rx) (t : PT) (c : NC) (fp : List Nat) (w : World) (es : Array MapEntry) (clock : Nat) (met : List Nat) (hR : R w) (hM : w.heap[M]? = some (.map es clock)) (hBM : B ≤ M) (hBw : B ≤ w.heap.size) (hG : Good w [⟨t, c, fp⟩] met) (hK : KeysIn es clock met) :
    Calls Try.prog 78 #[.agg #[.map (some M)], .agg (t.cells c), .func (.yield l) #[] #[]] w fun e w' =>
      (e = .returned (.bool true) ∧ subC t = false ∧ R w' ∧ KX M w w' ∧ ∃ es' clock' met', w'.heap[M]? = some (.map es' clock') ∧ KeysIn es' clock' met' ∧ met'.Nodup ∧ ∀ x ∈ met', x ∈ fp ++ met) ∨ (e = .returned (.bool false) ∧ subC t = true ∧ Rx w') := by
  have hcnt : cntT t ≤ 1048577 := by have := cnt_le t; have h2 : szT t ≤ 1048576 := hG.sz ⟨t, c, fp⟩ (by simp); omega
  have HY : Hid (YOK l B R Rx) := hY
  have HM0 : Hid (w.heap[M]? = some (.map es clock)) := hM
  have HM : Hid (M < w.heap.size) := (Array.getElem?_eq_some_iff.1 hM).1
  obtain ⟨P0, hP0⟩ : ∃ P0 : Ending → World → Prop, P0 = fun e w' =>
      (e = .returned (.bool true) ∧ subC t = false ∧ R w' ∧ KX M w w' ∧ ∃ es' clock' met', w'.heap[M]? = some (.map es' clock') ∧ KeysIn es' clock' met' ∧ met'.Nodup ∧ ∀ x ∈ met', x ∈ fp ++ met) ∨ (e = .returned (.bool false) ∧ subC t = true ∧ Rx w') := ⟨_, rfl⟩
  rw [← hP0]
  obtain ⟨RR, hRR⟩ : ∃ RR, RR = subC t := ⟨_, rfl⟩
  rw [← hRR] at hP0
  have HP0 : Hid (P0 = fun e w' =>
      (e = .returned (.bool true) ∧ RR = false ∧ R w' ∧ KX M w w' ∧ ∃ es' clock' met', w'.heap[M]? = some (.map es' clock') ∧ KeysIn es' clock' met' ∧ met'.Nodup ∧ ∀ x ∈ met', x ∈ fp ++ met) ∨ (e = .returned (.bool false) ∧ RR = true ∧ Rx w')) := hP0
  have HG : Hid (Good w [⟨t, c, fp⟩] met ∧ KeysIn es clock met ∧ RR = anyS [⟨t, c, fp⟩] ∧ cntS [⟨t, c, fp⟩] = cntT t ∧ (∀ x ∈ ([⟨t, c, fp⟩] : List SE).flatMap SE.f ++ met, x ∈ fp ++ met)) := ⟨hG, hK, by rw [hRR]; simp [anyS], by simp [cntS], fun x hx => by simpa using hx⟩
  have HT0 : Hid (∀ ob1, Th w M R (.slice (some ⟨w.heap.size + 1 + 1, 0, none⟩) 1 1) [⟨t, c, fp⟩] [] es clock ((((w.alloc (.cells #[.map (some M)] 119)).alloc ob1).alloc (.cells (t.cells c) 56)).alloc (.cells #[.slice (some ⟨w.heap.size + 1 + 1, 0, none⟩) 1 1] 54))) := fun ob1 => (by
    have hb : Below w.heap.size w ((((w.alloc (.cells #[.map (some M)] 119)).alloc ob1).alloc (.cells (t.cells c) 56)).alloc (.cells #[.slice (some ⟨w.heap.size + 1 + 1, 0, none⟩) 1 1] 54)) := ((((Below.refl _ _).alloc (Nat.le_refl _) _).alloc (by simp) _).alloc (by simp; omega) _).alloc (by simp; omega) _
    refine ⟨?_, ?_, ?_, (hb.block M HM.out).trans hM, .of_below hb, Marks.nil _ _, hY.keep _ _ hR (hb.mono hBw)⟩
    · have := World.alloc_heap_new (((w.alloc (.cells #[.map (some M)] 119)).alloc ob1).alloc (.cells (t.cells c) 56)) (.cells #[.slice (some ⟨w.heap.size + 1 + 1, 0, none⟩) 1 1] 54)
      unfold Boxed
      simpa only [World.size_alloc] using this
    · refine ⟨by cases t; rfl, .inr ⟨w.heap.size + 1 + 1, 1, t.cells c, rfl, by omega, ?_, Nat.le_refl _, by unfold maxLen; omega, by cases t; rfl, by cases t; rfl⟩⟩
      rw [Below.heap_alloc _ _ _ (by simp)]
      have := World.alloc_heap_new ((w.alloc (.cells #[.map (some M)] 119)).alloc ob1) (.cells (t.cells c) 56)
      simpa only [World.size_alloc] using this
    · rw [Below.heap_alloc _ _ _ (by simp; omega), Below.heap_alloc _ _ _ (by simp; omega), Below.heap_alloc _ _ _ (by simp)]
      exact World.alloc_heap_new w _)
  clear hG hK hY hM hR hP0 hRR
  generalize hct : cntT t = ct at *
  clear hct
  cases t with
  | node k x n ns s ks =>
  unfold PT.cells nodeC at HT0 ⊢
  dsimp only at HT0 ⊢
  refine (callsIn_wide (n := 0)).1 ?_
  refine callsIn_of_wp_marks Try.func78 rfl trivial ?_ rfl
  simp only [Try.ntmps78, List.size_toArray, List.length_cons, List.length_nil, Nat.reduceAdd, Nat.reduceSub, Array.replicate_succ, Array.replicate_zero, List.push_toArray, List.append_toArray, List.nil_append, List.cons_append]
  refine wpIn_wide.2 ?_
  go_wp2_with fail
  have hT0 := HT0.out (.cells #[.int .i64 k, .string x, .int .i64 n, .slice c.na ns.length c.nc, .bool s, .slice c.ka ks.length c.kc] 56)
  clear HT0
  generalize hnd : (Value.agg #[.int .i64 k, .string x, .int .i64 n, .slice c.na ns.length c.nc, .bool s, .slice c.ka ks.length c.kc]) = nd
  generalize (((w.alloc _).alloc _).alloc _).alloc _ = W0 at hT0 ⊢
  clear hnd
  refine wp_loop_ghost_k (fun kk a wr => ∃ (u8 u13 u14 u15 u16 u17 u18 u19 u20 u21 u22 u23 u24 u25 u26 u27 u28 u29 u30 u31 u32 u33 u34 u35 u36 u37 u38 u39 u40 : Value) (Ds : List Nat) (v : Value) (L : List SE) (mt : List Nat) (es : Array MapEntry) (clock : Nat), a = { tmps := #[.agg #[.map (some M)], nd, .func (.yield l) #[] #[], .pointer (some ⟨w.heap.size, 0, none⟩), .pointer (some ⟨w.heap.size + 1, 0, none⟩), undef, .bool false, .pointer (some ⟨w.heap.size + 1 + 1 + 1, 0, none⟩), u8, undef, undef, nd, .slice (some ⟨w.heap.size + 1 + 1, 0, none⟩) 1 1, u13, u14, u15, u16, u17, u18, u19, u20, u21, u22, u23, u24, u25, u26, u27, u28, u29, u30, u31, u32, u33, u34, u35, u36, u37, u38, u39, u40, undef, undef, undef, undef, undef, undef, undef, undef], defers := Ds.map dmk } ∧ Th w M R v L Ds es clock wr ∧ Hid (Good w L mt ∧ KeysIn es clock mt ∧ RR = anyS L ∧ cntS L ≤ kk ∧ kk ≤ 1048577 ∧ (∀ x ∈ L.flatMap SE.f ++ mt, x ∈ fp ++ met))) ct ?_ ?_
  · exact ⟨undef, undef, undef, undef, undef, undef, undef, undef, undef, undef, undef, undef, undef, undef, undef, undef, undef, undef, undef, undef, undef, undef, undef, undef, undef, undef, undef, undef, undef, [], _, _, met, es, clock, rfl, hT0, HG.out.1, HG.out.2.1, HG.out.2.2.1, Nat.le_of_eq HG.out.2.2.2.1, hcnt, HG.out.2.2.2.2⟩
  clear hT0 HG hcnt
  intro gk a wr hrel J K hJ hKK
  obtain ⟨u8, u13, u14, u15, u16, u17, u18, u19, u20, u21, u22, u23, u24, u25, u26, u27, u28, u29, u30, u31, u32, u33, u34, u35, u36, u37, u38, u39, u40, Ds, v, L, mt, es', clock', rfl, hT, HG⟩ := hrel
  have HJ : Hid (∀ k' a' w', (∃ (u8 u13 u14 u15 u16 u17 u18 u19 u20 u21 u22 u23 u24 u25 u26 u27 u28 u29 u30 u31 u32 u33 u34 u35 u36 u37 u38 u39 u40 : Value) (Ds : List Nat) (v : Value) (L : List SE) (mt : List Nat) (es : Array MapEntry) (clock : Nat), a' = { tmps := #[.agg #[.map (some M)], nd, .func (.yield l) #[] #[], .pointer (some ⟨w.heap.size, 0, none⟩), .pointer (some ⟨w.heap.size + 1, 0, none⟩), undef, .bool false, .pointer (some ⟨w.heap.size + 1 + 1 + 1, 0, none⟩), u8, undef, undef, nd, .slice (some ⟨w.heap.size + 1 + 1, 0, none⟩) 1 1, u13, u14, u15, u16, u17, u18, u19, u20, u21, u22, u23, u24, u25, u26, u27, u28, u29, u30, u31, u32, u33, u34, u35, u36, u37, u38, u39, u40, undef, undef, undef, undef, undef, undef, undef, undef], defers := Ds.map dmk } ∧ Th w M R v L Ds es clock w' ∧ Hid (Good w L mt ∧ KeysIn es clock mt ∧ RR = anyS L ∧ cntS L ≤ k' ∧ k' ≤ 1048577 ∧ (∀ x ∈ L.flatMap SE.f ++ mt, x ∈ fp ++ met))) → J k' a' w') := hJ
  clear hJ
  rcases List.eq_nil_or_concat L with rfl | ⟨L', e, eL⟩
  · obtain ⟨a, cap, ev⟩ := hT.own.shape
    rw [List.length_nil] at ev
    subst ev
    have hcell := hT.box.cell
    have hRf : Hid (RR = false) := by show _ = _; rw [HG.out.2.2.1]; rfl
    go_wp2_with fail
    refine leavesM w.heap.size Ds wr hT.mks (by have := hT.box.lt; omega) (fun w' hb => ?_)
    refine ⟨_, results_tmp rfl _ _ _, ?_⟩
    rw [HP0.out]
    exact .inl ⟨rfl, hRf.out, HY.out.keep _ _ hT.r (hb.mono hBw), hT.kx.belowS hb, es', clock', mt, (hb.block M HM.out).trans hT.map, HG.out.2.1, by simpa using HG.out.1.nodup, fun x hx => HG.out.2.2.2.2.2 x (by simp [hx])⟩
  · rw [List.concat_eq_append] at eL
    subst eL
    obtain ⟨g, cap, ev, hg1, hg2, hcap, hcells, hO'⟩ := hT.own.top
    subst ev
    have h6 := cells6 hcells
    obtain ⟨t', d, f'⟩ := e
    have hcell := hT.box.cell
    have hfrz := hT.box.frozen
    have hPOP : Hid (∀ ob, Th w M R (.slice (some ⟨g, 0, none⟩) L'.length cap) L' Ds es' clock' ((wr.alloc ob).setCell ⟨w.heap.size + 1 + 1 + 1, 0, none⟩ (.slice (some ⟨g, 0, none⟩) L'.length cap))) := fun ob => hT.pop HY.out hBw hO' ob
    clear hcells hO' hT
    have hlen : L'.length ≤ 1048577 := by
      have h1 := HG.out.2.2.2
      have h2 := cntS_len (L' ++ [⟨t', d, f'⟩])
      rw [List.length_append, List.length_singleton] at h2
      omega
    cases t' with
    | node ka ta na nsa sa ksa =>
    obtain ⟨h60, h61, h62, h63, h64, h65⟩ := h6
    generalize hn : L'.length = nn at *
    have hn1 : ((nn : Int) + 1 - 1) = (nn : Int) := by omega
    have hn2 : (nn : Int) < (nn : Int) + 1 := by omega
    have hn3 : (0 : Int) < (nn : Int) + 1 := by omega
    have hO1 : ∀ ob, (wr.alloc ob).cell? ⟨w.heap.size + 1 + 1 + 1, 0, none⟩ = some (.slice (some ⟨g, 0, none⟩) (nn + 1) cap) := fun ob => (((Below.refl wr.heap.size wr).alloc (Nat.le_refl _) ob).cell (World.block_lt_of_cell? wr _ hcell)).trans hcell
    have hO2 : ∀ ob, (wr.alloc ob).frozen? ⟨w.heap.size + 1 + 1 + 1, 0, none⟩ = false := fun ob => (((Below.refl wr.heap.size wr).alloc (Nat.le_refl _) ob).frozen (World.block_lt_of_cell? wr _ hcell)).trans hfrz
    go_upto_region 5 with fail
    have hTh := hPOP.out (.cells #[.int .i64 ka, .string ta, .int .i64 na, .slice d.na nsa.length d.nc, .bool sa, .slice d.ka ksa.length d.kc] 56)
    have hsX : w.heap.size + 1 + 1 + 1 < wr.heap.size := World.block_lt_of_cell? wr _ hcell
    have hX1 : ((wr.alloc (.cells #[.int .i64 ka, .string ta, .int .i64 na, .slice d.na nsa.length d.nc, .bool sa, .slice d.ka ksa.length d.kc] 56)).setCell ⟨w.heap.size + 1 + 1 + 1, 0, none⟩ (.slice (some ⟨g, 0, none⟩) nn cap)).heap[wr.heap.size]? = some (.cells #[.int .i64 ka, .string ta, .int .i64 na, .slice d.na nsa.length d.nc, .bool sa, .slice d.ka ksa.length d.kc] 56 (0, 0)) :=
      (Below.heap_setCell _ _ _ _ (by simp; omega)).trans (World.alloc_heap_new wr _)
    generalize (wr.alloc _).setCell _ _ = W1 at hTh hX1 ⊢
    clear hPOP h60 h61 h62 h63 h64 h65 hO1 hO2 hcell hfrz hn1 hn2 hn3 hg2
    generalize wr.heap.size = X at *
    clear wr
    have HTOP : Hid (NIn w 0 (.node ka ta na nsa sa ksa) d f' ∧ szT (.node ka ta na nsa sa ksa) ≤ 1048576) := HG.out.1.top
    have HF : Hid (∀ W, Calls Try.prog 77 #[.agg #[.int .i64 ka, .string ta, .int .i64 na, .slice d.na nsa.length d.nc, .bool sa, .slice d.ka ksa.length d.kc]] W fun e w' => e = .returned (.bool (fnK ka)) ∧ Below W.heap.size W w') := fun W => iFn (.node ka ta na nsa sa ksa) d W
    have hfin : Hid (subC (.node ka ta na nsa sa ksa) = false → 1 ≤ gk ∧ Hid (Good w L' mt ∧ KeysIn es' clock' mt ∧ RR = anyS L' ∧ cntS L' ≤ gk - 1 ∧ gk - 1 ≤ 1048577 ∧ (∀ x ∈ L'.flatMap SE.f ++ mt, x ∈ fp ++ met))) := by
      intro hs
      obtain ⟨q1, q2, q3, q4, q5, q6⟩ := HG.out
      have hc1 : cntS (L' ++ [(⟨.node ka ta na nsa sa ksa, d, f'⟩ : SE)]) = cntS L' + (1 + cntL ksa) := by rw [cntS_append]; simp [cntS, cntT]
      refine ⟨by omega, q1.pop, q2, by rw [q3, anyS_snoc, hs, Bool.or_false], by omega, by omega, fun x hx => q6 x ?_⟩
      simp only [List.flatMap_append, List.mem_append] at hx ⊢
      rcases hx with hx | hx
      · exact .inl (.inl hx)
      · exact .inr hx
    obtain ⟨⟨p0, p1, p2, p3, p4, p5⟩, -⟩ := six_of hX1
    go_wp2_with fail
    refine (HF.out _).mono ?_
    rintro e W2 ⟨rfl, hb2⟩
    clear HF
    have hTh2 := hTh.step (.of_below hb2) (HY.out.keep _ _ hTh.r (hb2.mono (by have := hTh.kx.size; omega))) ((hb2.block M (by have := HM.out; have := hTh.kx.size; omega)).trans hTh.map)
    have hX2 := (hb2.block X (Array.getElem?_eq_some_iff.1 hX1).1).trans hX1
    clear hTh hX1 hb2 W1 p0 p1 p2 p3 p4 p5
    cases hfk : fnK ka with
    | true =>
      obtain ⟨hg1', hfin'⟩ := hfin.out (by show (!fnK ka && _) = false; rw [hfk]; rfl)
      go_wp2_with fail
      refine Handed.intro (gk - 1) (by omega) (HJ.out _ _ _ ⟨_, _, _, _, _, _, _, _, _, _, _, _, _, _, _, _, _, _, _, _, _, _, _, _, _, _, _, _, _, Ds, _, L', mt, es', clock', rfl, hn ▸ hTh2, hfin'⟩)
    | false =>
      go_upto_region 6 with fail
      obtain ⟨fn, tmps, assign, body, hy, hRd⟩ := HY.out.call 0 (.node ka ta na nsa sa ksa) d f' W2 hTh2.r HTOP.out.2 (HTOP.out.1.keep (hTh2.kx.cells HM0.out))
      unfold PT.cells nodeC at hy
      dsimp only at hy
      obtain ⟨⟨p0, p1, p2, p3, p4, p5⟩, -⟩ := six_of hX2
      refine (wpIn_wide (n := 1)).1 ?_
      gi_wp2
      refine hRd.mono ?_
      clear hRd hy p0 p1 p2 p3 p4 p5
      rintro e W3 (⟨rfl, hev, hR3, hk3⟩ | ⟨rfl, hev, hR3, hz3⟩)
      rotate_left
      · -- yield wants no more
        have hRt : Hid (RR = true) := by
          show _ = _
          rw [HG.out.2.2.1, anyS_snoc]
          have : subC (.node ka ta na nsa sa ksa) = true := by
            show (!fnK ka && callsT (.node ka ta na nsa sa ksa)) = true
            rw [hfk, callsT, show evalH ka ksa = true from hev]; rfl
          rw [this, Bool.or_true]
        gi_wp2
        go_wp2_with fail
        refine leavesM w.heap.size Ds W3 (hTh2.mks.kz hz3 hBw) (by have := hz3.size; have := hTh2.kx.size; omega) (fun w' hb => ?_)
        refine ⟨_, results_tmp rfl _ _ _, ?_⟩
        rw [HP0.out]
        exact .inr ⟨rfl, hRt.out, HY.out.keepx _ _ hR3 (hb.mono hBw)⟩
      have hTh3 := hTh2.step hk3.kx hR3 (hk3.block _ _ hTh2.map (fun r e => by cases e))
      have hX3 := hk3.block _ _ hX2 (fun r e => by cases e)
      clear hTh2 hX2 hk3 hR3
      obtain ⟨⟨p0, p1, p2, p3, p4, p5⟩, -⟩ := six_of hX3
      have hway : W3.cell? ⟨w.heap.size, 0, none⟩ = some (.map (some M)) := by simp [World.cell?, hTh3.way]
      gi_wp2
      go_wp2_with fail
      by_cases hk0 : ksa.length = 0
      · obtain rfl := List.length_eq_zero_iff.1 hk0
        obtain ⟨hg1', hfin'⟩ := hfin.out (by
          show (!fnK ka && callsT (.node ka ta na nsa sa [])) = false
          rw [callsT, show evalH ka [] = false from rfl, callsL]; simp)
        rw [hk0]
        refine (iNew0 _ _ _ _).mono ?_
        rintro e W4 ⟨rfl, hb4⟩
        have hTh4 := hTh3.step (.of_below hb4) (HY.out.keep _ _ hTh3.r (hb4.mono (by have := hTh3.kx.size; omega))) ((hb4.block M (by have := HM.out; have := hTh3.kx.size; omega)).trans hTh3.map)
        go_wp2_with fail
        refine Handed.intro (gk - 1) (by omega) (HJ.out _ _ _ ⟨_, _, _, _, _, _, _, _, _, _, _, _, _, _, _, _, _, _, _, _, _, _, _, _, _, _, _, _, _, Ds, _, L', mt, es', clock', rfl, hn ▸ hTh4, hfin'⟩)
      · obtain ⟨T1, hszt⟩ := HTOP.out
        cases T1 with
        | mk _ _ _ _ _ _ _ b o cs fs hns ha hc hkk =>
        obtain ⟨eka, _⟩ := ha.resolve_left (fun e => hk0 (by rw [e]; rfl))
        have hkl : ksa.length ≤ 1048576 := by simp only [szT] at hszt; omega
        have hzk : ∀ x ∈ ksa, szT x ≤ 1048576 := fun x hx => by
          obtain ⟨i, hi, rfl⟩ := List.getElem_of_mem hx
          have h1 := szT_mem ksa i hi
          simp only [szT] at hszt; omega
        obtain ⟨GK, hPb, hbm⟩ := HG.out.1.kids (by omega) hkk hzk
        have hPW := hTh3.kx.plain HM0.out hPb
        have hpm : ∀ y ∈ mt, Plain W3 y := fun y hy => hTh3.kx.plain HM0.out (HG.out.1.pl y (by simp [hy]))
        have HKM := HG.out.2.1
        have hfin2 : Hid (1 ≤ gk ∧ Hid (Good w (L' ++ (dn ksa.length 0).map (kidE ksa cs fs)) (b :: mt) ∧ KeysIn (es'.push ⟨klV b o ksa.length, .int .i64 1, clock'⟩) (clock' + 1) (b :: mt) ∧ RR = anyS (L' ++ (dn ksa.length 0).map (kidE ksa cs fs)) ∧ cntS (L' ++ (dn ksa.length 0).map (kidE ksa cs fs)) ≤ gk - 1 ∧ gk - 1 ≤ 1048577 ∧ (∀ x ∈ (L' ++ (dn ksa.length 0).map (kidE ksa cs fs)).flatMap SE.f ++ (b :: mt), x ∈ fp ++ met))) := by
          obtain ⟨q1, q2, q3, q4, q5, q6⟩ := HG.out
          have hc1 : cntS (L' ++ [(⟨.node ka ta na nsa sa ksa, d, fpOf b ksa.length fs⟩ : SE)]) = cntS L' + (1 + cntL ksa) := by rw [cntS_append]; simp [cntS, cntT]
          refine ⟨by omega, GK, q2.push b o ksa.length _, ?_, by rw [cntS_append, kids_cnt]; omega, by omega, fun y hy => q6 y ?_⟩
          · rw [q3, anyS_snoc, anyS_append, kids_any]
            show (_ || (!fnK ka && callsT (.node ka ta na nsa sa ksa))) = _
            rw [hfk, callsT, show evalH ka ksa = false from hev]; simp
          · have hpm : ((dn ksa.length 0).map (kidE ksa cs fs)).flatMap SE.f = (List.range ksa.length).reverse.flatMap fs := by
              rw [List.flatMap_map, dn_eq]; rfl
            simp only [List.flatMap_append, hpm, List.mem_append, List.mem_cons, List.flatMap_cons, List.flatMap_nil, List.append_nil, fpOf, if_neg hk0] at hy ⊢
            rcases hy with (hy | hy) | rfl | hy
            · exact .inl (.inl hy)
            · refine .inl (.inr (.inr ?_))
              rw [List.mem_flatMap] at hy ⊢
              obtain ⟨i, hi, hy⟩ := hy
              exact ⟨i, by simpa using hi, hy⟩
            · exact .inl (.inr (.inl rfl))
            · exact .inr hy
        rw [eka] at hX3 p5 ⊢
        refine (iNew M b o ksa.length d.kc es' clock' mt W3 (by omega) hkl hTh3.map HKM hpm hPW hbm).mono ?_
        rintro e W4 ⟨rfl, hb4, hm4⟩
        have hTh4 := hTh3.step (.of_but hb4) (HY.out.keep _ _ hTh3.r (hb4.below hBM (by have := hTh3.kx.size; omega))) hm4
        have hX4 := (hb4.block X (Array.getElem?_eq_some_iff.1 hX3).1 (fun e => by have := hTh3.map; rw [← e, hX3] at this; cases this)).trans hX3
        clear hTh3 hX3 p0 p1 p2 p3 p4 p5 hway hb4 hm4 hPW hpm HKM GK hfin HTOP
        obtain ⟨⟨p0, p1, p2, p3, p4, p5⟩, -⟩ := six_of hX4
        have HBK : Hid (∀ W, Calls Try.prog 87 #[.slice (some ⟨b, o, none⟩) ksa.length d.kc] W fun e w' => e = .returned (.func (.func 93) #[] #[.pointer (some ⟨W.heap.size, 0, none⟩)]) ∧ w' = W.alloc (.cells #[.slice (some ⟨b, o, none⟩) ksa.length d.kc] 54)) := fun W => iBack (some ⟨b, o, none⟩) ksa.length d.kc W
        go_wp2_with (go_at_call 87; refine (HBK.out _).mono ?_; rintro e w9 ⟨rfl, rfl⟩)
        have hTh5 : Th w M R (.slice (some ⟨g, 0, none⟩) nn cap) L' Ds _ _ (W4.alloc (.cells #[.slice (some ⟨b, o, none⟩) ksa.length d.kc] 54)) := hTh4.step (KX.alloc W4 _) (HY.out.keep _ _ hTh4.r ((Below.refl B W4).alloc (by have := hTh4.kx.size; omega) _)) ((Below.heap_alloc _ _ _ (Array.getElem?_eq_some_iff.1 hTh4.map).1).trans hTh4.map)
        have hBs : (W4.alloc (.cells #[.slice (some ⟨b, o, none⟩) ksa.length d.kc] 54)).heap[W4.heap.size]? = some (.cells #[.slice (some ⟨b, o, none⟩) ksa.length d.kc] 54 (0, 0)) := World.alloc_heap_new W4 _
        have hOB : w.heap.size + 1 + 1 + 1 ≠ W4.heap.size := by have := hTh4.box.lt; omega
        generalize W4.alloc (.cells #[.slice (some ⟨b, o, none⟩) ksa.length d.kc] 54) = W5 at *
        generalize W4.heap.size = Bs at *
        have hc5 : ∀ i (h : i < ksa.length), SixAt W5 b (o + i * 6) ksa[i] (cs i) := fun i h => (hc i h).keep (B := 0) (Nat.zero_le _) (hTh5.kx.cells HM0.out)
        have hbs : b < w.heap.size := hPb.lt
        refine (wpIn_wide (n := 9)).1 ?_
        refine iInner (w.heap.size + 1 + 1 + 1) w.heap.size Bs b o d.kc ksa cs fs hkl L' (by omega) _ W5 _ _ _ _ _ _ _ _ _ _ _ _ _ _ _ _ _ _ _ _ _ _ _ _ _ _ _ _ _ _ _ _ _ _ _ _ _ _ _ _ _ _ _ _ _ _ _ _ _ hBs hc5 hbs (hTh5.kx.plain HM0.out hPb) (by omega) hOB hTh5.kx.size hTh5.box hTh5.own ?_
        intro D W v' hD k1 k2 k3 hKd
        obtain ⟨hg1', hfin'⟩ := hfin2.out
        have hThE := Th.kids HY.out hBw hTh5 HM.out hD k1 k2 k3 hKd
        clear hTh5 hBs hc5 p0 p1 p2 p3 p4 p5 hTh4 hX4 hfin2 k1 k2 k3
        show Exit.inBlock _ _ _ _ _
        go_wp2_with fail
        refine Handed.intro (gk - 1) (by omega) (HJ.out _ _ _ ⟨_, _, _, _, _, _, _, _, _, _, _, _, _, _, _, _, _, _, _, _, _, _, _, _, _, _, _, _, _, D :: Ds, _, _, b :: mt, _, _, rfl, hThE, hfin'⟩)

end Go.Proofs.Ytbkloddaooblfac

/-
  The walk of the specification's l05Delete.
-/
import Derived.Test.YtlmlmdmechhalaaHpSP
import Derived.Test.YtlmlmdmechhalaaHpRD
import Derived.Deep.CutRange
namespace Go.Proofs.Ytlmlmdmechhalaa
open Go.RowKit
open Hp (PP OO propC)

theorem PsIn.drop {w : World} {B b o : Nat} {ps : List PP} (h : PsIn w B (some ⟨b, o, none⟩) ps) (k : Nat) : PsIn w B (some ⟨b, o + k * 6, none⟩) (ps.drop k) := by
  rcases h with rfl | ⟨b', o', e, hB, hc⟩
  · exact .inl (by simp)
  · injection e with e
    injection e with e1 e2 _
    subst e1 e2
    refine .inr ⟨b, o + k * 6, rfl, hB, fun i hi => ?_⟩
    rw [List.getElem_drop]
    have := hc (k + i) (by simp at hi; omega)
    rwa [show o + (k + i) * 6 = o + k * 6 + i * 6 by omega] at this

/-- 'append(qs, ps...)', qs a row of the call's own, in a region that draws. -/
theorem app_props {ops : Array Oper} {o : Oper} {a : Act} {w : World} {K : Act → World → Prop} {Q : Exit → Act → World → Prop} {E : Prop}
    (hg : o.guard = none) (s x : Operand) (hop : o.op = Op.call { callee := Callee.builtin Builtin.append, args := #[s, x], argTypes := #[74, 74] })
    (B : Nat) (v : Value) (n : Nat) (qs : List PP) (hn : qs.length = n) (hs : a.eval s = v) (hown : POwn w B v qs) (ad : Addr) (m c : Nat) (ps : List PP) (hm : ps.length = m) (hx : a.eval x = .slice (some ad) m c) (hnews : ∀ j u, (ps.flatMap propL)[j]? = some u → w.cell? (ad.add j) = some u)
    (nm : Nat) (hnm : n + m = nm) (hl : nm ≤ 1100000) (hB : B ≤ w.heap.size)
    (hK : ∀ a' c' w', POwn w' B (.slice a' nm c') (qs ++ ps) → w.grownBy w' v.ownBlock → K (a.put o.dst (.slice a' nm c')) w') :
    if Region.wanted o (yielded ops a.tmps) = true then Oper.wp Try.prog o a w K Q else E := by
  subst hn hm hnm
  obtain ⟨i0, hi, hz0, hz1, hz2⟩ := info_parts Try.infoProp
  exact step_append_own hg s x 74 hop B 78 i0 zeroPr 6 56 Try.underlying74 hi hz0 hz1 hz2 rfl (by decide) v qs.length (qs.flatMap propL) hs hown ad ps.length c (ps.flatMap propL) hx (flatP_len ps) hnews
    (flatP_one ps) (by unfold maxLen; omega) (by omega) hB (fun v' w' h1 h2 => by
      obtain ⟨a', c', rfl⟩ := own_shape h1
      exact hK a' c' w' (by unfold POwn; rw [List.length_append, List.flatMap_append]; exact h1) h2)

set_option maxHeartbeats 8000000 in
set_option maxRecDepth 100000 in
theorem sDelete (w : World) (Y lo g cap : Nat) (h : List OO) (cs : Nat → OC) (i : Nat) (key : ByteArray) (hi : i < h.length) (hpl : h[i].ps.length ≤ 1048576) (hY : w.heap[Y]? = some (.cells #[.slice (some ⟨g, 0, none⟩) h.length cap] 25 (0, 0))) (hlo : lo ≤ w.heap.size) (k : HOwn w lo (.slice (some ⟨g, 0, none⟩) h.length cap) h h.length cs) :
    Calls Try.prog 57 #[.pointer (some ⟨Y, 0, none⟩), .int .i64 i, .string key] w fun e w' => ∃ r, e = .returned (.bool r) ∧ (∃ ds, HOwn w' lo (.slice (some ⟨g, 0, none⟩) h.length cap) (h.set i (delO h[i] key)) (h.set i (delO h[i] key)).length ds) ∧ Marks (fun q => q = g) w w' := by
  have hgl := (World.ownsRow.lt k.1 g rfl)
  have hYl : Y < w.heap.size := (Array.getElem?_eq_some_iff.1 hY).1
  have hYg : Y ≠ g := fun e => by
    obtain ⟨_, c, hcc⟩ := own_apart k.1 (k := g) rfl
    rw [← e, hY] at hcc
    injection hcc with hcc
    injection hcc with _ ht _
    exact absurd ht (by decide)
  have hcc : ∀ o, o < 3 → w.cell? ⟨g, i * 3 + o, none⟩ = (objL h[i] (cs i))[o]? := fun o ho => by
    rw [World.ownsRow.cellAt k.1 (i * 3 + o) (by omega), rowO_at h cs h.length i hi hi o ho]
  have q0 : w.cell? ⟨g, i * 3, none⟩ = some (.int .i64 h[i].cls) := hcc 0 (by omega)
  have q1 : w.cell? ⟨g, i * 3 + 1, none⟩ = some (.int .i64 h[i].pro) := hcc 1 (by omega)
  have q2 : w.cell? ⟨g, i * 3 + 2, none⟩ = some (.slice (cs i).pa h[i].ps.length (cs i).pc) := hcc 2 (by omega)
  have HFZ : Hid (∀ W' : World, Below w.heap.size w W' → (W'.cell? ⟨g, i * 3, none⟩ = some (.int .i64 h[i].cls) ∧ W'.cell? ⟨g, i * 3 + 1, none⟩ = some (.int .i64 h[i].pro) ∧ W'.cell? ⟨g, i * 3 + 2, none⟩ = some (.slice (cs i).pa h[i].ps.length (cs i).pc)) ∧ W'.frozen? ⟨g, i * 3, none⟩ = false ∧ W'.frozen? ⟨g, i * 3 + 1, none⟩ = false ∧ W'.frozen? ⟨g, i * 3 + 2, none⟩ = false) := fun W' hW => by
    obtain ⟨_, c, hc⟩ := own_apart (k.under hW).1 (k := g) rfl
    have e := fun o => World.cell?_of_block (w := w) (w' := W') (a := ⟨g, o, none⟩) (hW.block g hgl.2)
    exact ⟨⟨(e _).trans q0, (e _).trans q1, (e _).trans q2⟩, by simp [World.frozen?, hc], by simp [World.frozen?, hc], by simp [World.frozen?, hc]⟩
  have HPO : Hid (∀ W' : World, Below w.heap.size w W' → POwn W' lo (.slice (cs i).pa h[i].ps.length (cs i).pc) h[i].ps) := fun W' hW => (k.under hW).2.1 i hi hi
  have HSAME : Hid (∀ W' : World, Below w.heap.size w W' → delO h[i] key = h[i] → (∃ ds, HOwn W' lo (.slice (some ⟨g, 0, none⟩) h.length cap) (h.set i (delO h[i] key)) (h.set i (delO h[i] key)).length ds) ∧ Marks (fun q => q = g) w W') := fun W' hW e => by
    rw [e, List.set_getElem_self]
    exact ⟨⟨cs, k.under hW⟩, Marks.of_below hW⟩
  have HEND : Hid (∀ (W' : World) (L : Nat) (a3 : Option Addr) (cap3 : Nat), Below w.heap.size w W' → w.heap.size ≤ L → POwn W' L (.slice a3 (delO h[i] key).ps.length cap3) (delO h[i] key).ps → (∃ ds, HOwn (setO W' g (i * 3) (delO h[i] key) ⟨a3, cap3⟩) lo (.slice (some ⟨g, 0, none⟩) h.length cap) (h.set i (delO h[i] key)) (h.set i (delO h[i] key)).length ds) ∧ Marks (fun q => q = g) w (setO W' g (i * 3) (delO h[i] key) ⟨a3, cap3⟩)) := fun W' L a3 cap3 hW hL hp =>
    ⟨⟨_, HOwn.turn (x := delO h[i] key) (c := ⟨a3, cap3⟩) k hi hW hL (by omega) hp⟩, (((Marks.of_below (Q := fun q => q = g) hW).setCell (p := ⟨g, i * 3, none⟩) rfl _).setCell (p := ⟨g, i * 3 + 1, none⟩) rfl _).setCell (p := ⟨g, i * 3 + 2, none⟩) rfl _⟩
  have HN : Hid (∀ o, (w.alloc o).heap[w.heap.size]? = some o ∧ Below w.heap.size w (w.alloc o) ∧ (w.alloc o).heap.size = w.heap.size + 1) := fun o => ⟨heap_alloc_new _ _, (Below.refl _ _).alloc (Nat.le_refl _) o, World.size_alloc _ _⟩
  have hi' : (i : Int) < (h.length : Int) := by omega
  obtain ⟨y0, -⟩ := one_of hY
  have HYK : Hid (∀ W' : World, Below w.heap.size w W' → W'.cell? ⟨Y, 0, none⟩ = some (.slice (some ⟨g, 0, none⟩) h.length cap)) := fun W' hW => (World.cell?_of_block (w := w) (hW.block Y hYl)).trans y0
  have C1 := fun (W' : World) (hW : Below w.heap.size w W') => sOwn h[i].cls h[i].pro (cs i).pa (cs i).pc lo h[i].ps key W' (by omega) (HPO.out W' hW).psIn
  clear hcc k hY
  generalize hx : h[i] = x at *
  generalize (cs i).pa = pa at *
  generalize (cs i).pc = pc at *
  have HD1 : Hid (¬ Hp.fi x.ps key < x.ps.length → delO x key = x) := fun k => by
    unfold delO Hp.delPs
    rw [dif_neg k]
  have HD2 : Hid (∀ hf : Hp.fi x.ps key < x.ps.length, x.ps[Hp.fi x.ps key].fix = true → delO x key = x) := fun hf k => by
    unfold delO Hp.delPs
    rw [dif_pos hf, if_pos k]
  have HD3 : Hid (∀ hf : Hp.fi x.ps key < x.ps.length, x.ps[Hp.fi x.ps key].fix = false → delO x key = ⟨x.cls, x.pro, x.ps.take (Hp.fi x.ps key) ++ x.ps.drop (Hp.fi x.ps key + 1)⟩) := fun hf k => by
    unfold delO Hp.delPs
    rw [dif_pos hf, if_neg (by rw [k]; simp), List.eraseIdx_eq_take_drop_succ]
  generalize hxd : delO x key = xd at *
  clear hxd
  obtain ⟨cls, pro, ps⟩ := x
  dsimp only at *
  have H1 : Hid _ := C1
  clear C1 hx
  go_enter Try.func57, Try.ntmps57
  go_wp2_with fail
  have hn := HN.out (.cells #[.int .i64 cls, .int .i64 pro, .slice pa ps.length pc] 76)
  generalize World.alloc _ _ = W0 at hn ⊢
  obtain ⟨n1, n2, n3⟩ := hn
  refine (H1.out W0 n2).mono ?_
  rintro e w2 ⟨rfl, hb2⟩
  have k1 := (hb2.block w.heap.size (by omega)).trans n1
  have k4 : Below w.heap.size w w2 := n2.trans (hb2.mono (by omega))
  have k5 : w.heap.size + 1 ≤ w2.heap.size := by have := hb2.size; omega
  clear n1 n2 n3 hb2 HN H1 q0 q1 q2 y0
  obtain ⟨⟨z0, z1, z2⟩, z3, z4, z5⟩ := three_all k1
  have HK1 : Hid (w2.heap[w.heap.size]? = some (.cells #[.int .i64 cls, .int .i64 pro, .slice pa ps.length pc] 76 (0, 0))) := k1
  have HK4 : Hid (Below w.heap.size w w2) := k4
  clear k1 k4
  by_cases hf : Hp.fi ps key < ps.length
  case neg =>
    have hown : Hp.ownI ps key = -1 := by unfold Hp.ownI; rw [if_neg hf]
    rw [hown]
    have he := HD1.out hf
    subst he
    clear hown HD1 HD2 HD3
    go_wp2_with fail
    go_ret
    exact ⟨true, rfl, HSAME.out w2 HK4.out trivial⟩
  have hown : Hp.ownI ps key = (Hp.fi ps key : Int) := by unfold Hp.ownI; rw [if_pos hf]
  have hPW := HPO.out w2 HK4.out
  obtain ⟨q, rfl⟩ : ∃ q, pa = some ⟨q, 0, none⟩ := by
    rcases hPW.2 with ⟨_, e⟩ | ⟨q, cap', _, e, _⟩
    · omega
    · injection e with e1 _ _; exact ⟨q, e1⟩
  have hql := World.ownsRow.lt hPW q rfl
  have hqn : ps.length ≤ pc ∧ pc ≤ 9223372036854775807 := by
    rcases hPW.2 with ⟨e, _⟩ | ⟨q', cap', _, e, _, _, e2, e3, _⟩
    · cases e
    · injection e with _ _ e4
      subst e4
      unfold maxLen at e3
      exact ⟨e2, by omega⟩
  have hfx : w2.cell? ⟨q, Hp.fi ps key * 6 + 5, none⟩ = some (.bool ps[Hp.fi ps key].fix) := by
    rw [World.ownsRow.cellAt hPW (Hp.fi ps key * 6 + 5) (by omega), flatP_at ps _ hf 5 (by omega)]
    rfl
  rw [hown]
  have HD2' := HD2.out hf
  have HD3' := HD3.out hf
  have HP2 : Hid (PsIn w2 lo (some ⟨q, 0, none⟩) ps) := hPW.psIn
  clear hown HD1 HD2 HD3 hPW HPO
  generalize ps[Hp.fi ps key].fix = fx at *
  have hf' : (Hp.fi ps key : Int) < (ps.length : Int) := by omega
  have hf0 : ¬ (Hp.fi ps key : Int) < 0 := by omega
  generalize Hp.fi ps key = f at *
  cases fx
  case true =>
    have he := HD2' rfl
    subst he
    clear HD2' HD3'
    go_wp2_with fail
    go_ret
    exact ⟨false, rfl, HSAME.out w2 HK4.out trivial⟩
  case false =>
  have he := HD3' rfl
  subst he
  clear HD2' HD3' HSAME
  obtain ⟨A, hA, hsrc⟩ : ∃ A : Addr, (if pc = f + 1 then some (⟨q, 0, none⟩ : Addr) else some ⟨q, (f + 1) * 6, none⟩) = some A ∧ Hid (∀ W' : World, Below w2.heap.size w2 W' → ∀ t u, ((ps.drop (f + 1)).flatMap propL)[t]? = some u → W'.cell? (A.add t) = some u) := by
    by_cases e : pc = f + 1
    · refine ⟨⟨q, 0, none⟩, by simp [e], fun W' hW t u hu => ?_⟩
      rw [List.drop_eq_nil_of_le (by omega)] at hu
      simp at hu
    · refine ⟨⟨q, (f + 1) * 6, none⟩, by simp [e], fun W' hW => ?_⟩
      have := ((HP2.out.under hW).drop (f + 1))
      rw [Nat.zero_add] at this
      exact news_prop this
  have HS1 : Hid (∀ W' : World, Below w2.heap.size w2 W' → ∀ t u, ((ps.take f).flatMap propL)[t]? = some u → W'.cell? ((⟨q, 0, none⟩ : Addr).add t) = some u) := fun W' hW => news_prop ((HP2.out.under hW).take f)
  have hl1 : (ps.take f).length = f := by simp; omega
  have hl2 : (ps.drop (f + 1)).length = ps.length - (f + 1) := by simp
  have HE0 : Hid (POwn ((w2.alloc (.cells #[] 78)).drew) w2.heap.size (.slice (some ⟨w2.heap.size, 0, none⟩) 0 0) [] ∧ Below w2.heap.size w2 ((w2.alloc (.cells #[] 78)).drew) ∧ w2.heap.size ≤ ((w2.alloc (.cells #[] 78)).drew).heap.size) :=
    ⟨⟨rfl, .inr ⟨w2.heap.size, 0, #[], rfl, Nat.le_refl _, heap_alloc_new w2 _, Nat.le_refl _, Nat.zero_le _, rfl, rfl⟩⟩, ((Below.refl _ _).alloc (Nat.le_refl _) _).drew, by show w2.heap.size ≤ (w2.alloc _).heap.size; simp⟩
  have hwl : w.heap.size < w2.heap.size := by omega
  have hwr : IntKind.i64.wrap ((f : Int) + 1) = (f : Int) + 1 := by rw [IntKind.wrap_i64]; omega
  have hp0 : (0 : Int) ≤ (f : Int) + 1 := by omega
  have hp1 : (f : Int) + 1 ≤ (ps.length : Int) := by omega
  have hp2 : ((f : Int) + 1).toNat = f + 1 := by omega
  have hfc : f ≤ pc := by omega
  have hf1c : f + 1 ≤ pc := by omega
  have HXX : Hid (∀ W' : World, Below w2.heap.size w2 W' → W'.heap[w.heap.size]? = some (.cells #[.int .i64 cls, .int .i64 pro, .slice (some ⟨q, 0, none⟩) ps.length pc] 76 (0, 0))) := fun W' hW => (hW.block _ (by omega)).trans HK1.out
  go_wp2_with fail
  go_cut [38] from 27 to 46 (fun _ W => ∃ a4 cap4, Hid (Below w.heap.size w W ∧ W.heap[w.heap.size]? = some (.cells #[.int .i64 cls, .int .i64 pro, .slice a4 (ps.length - 1) cap4] 76 (0, 0)) ∧ POwn W w2.heap.size (.slice a4 (ps.length - 1) cap4) (ps.take f ++ ps.drop (f + 1))))
  case first =>
    go_region_law (first
      | (refine app_props rfl (.tmp 27) (.tmp 31) rfl w2.heap.size (.slice (some ⟨w2.heap.size, 0, none⟩) 0 0) 0 [] rfl (by rfl) HE0.out.1 ⟨q, 0, none⟩ f pc (ps.take f) hl1 (by rfl) (HS1.out _ HE0.out.2.1) f (by omega) (by omega) HE0.out.2.2 ?_; intro a3 cap3 w3 hown3 hgrow3; have hB3 : Below w2.heap.size w2 w3 := HE0.out.2.1.grown hgrow3 HE0.out.2.2 (fun q hq => by simp [Value.ownBlock] at hq; omega); have hs3 := hB3.size; have g3 := three_all (HXX.out w3 hB3); obtain ⟨⟨y0, y1, y2⟩, y3, y4, y5⟩ := g3; have HO3 : Hid (POwn w3 w2.heap.size (.slice a3 f cap3) (ps.take f) ∧ Below w2.heap.size w2 w3) := ⟨hown3, hB3⟩; clear hown3 hgrow3 hB3)
      | (refine app_props rfl (.tmp 32) (.tmp 37) rfl w2.heap.size (.slice a3 f cap3) f (ps.take f) hl1 (by rfl) HO3.out.1 A (ps.length - (f + 1)) (pc - (f + 1)) (ps.drop (f + 1)) hl2 (by rfl) (hsrc.out _ HO3.out.2) (ps.length - 1) (by omega) (by omega) hs3 ?_; intro a4 cap4 w4 hown4 hgrow4; have hB4 : Below w2.heap.size w2 w4 := HO3.out.2.grown hgrow4 hs3 (fun q hq => (World.ownsRow.lt HO3.out.1 q hq).1); have g4 := three_all (HXX.out w4 hB4); obtain ⟨⟨x0, x1, x2⟩, x3, x4, x5⟩ := g4; have HO4 : Hid (POwn w4 w2.heap.size (.slice a4 (ps.length - 1) cap4) (ps.take f ++ ps.drop (f + 1)) ∧ Below w2.heap.size w2 w4) := ⟨hown4, hB4⟩; clear hown4 hgrow4 hB4))
    all_goals
      go_wp2_with fail
      go_meet
      refine ⟨a4, cap4, ?_⟩
      exact ⟨(HK4.out.trans (HO4.out.2.mono HK4.out.size)).setCell (p := ⟨w.heap.size, 2, none⟩) (Nat.le_refl _) _, blk_set (HXX.out w4 HO4.out.2) 2 _, row_same HO4.out.1 fun q hq => Below.heap_setCell _ ⟨w.heap.size, 2, none⟩ _ q (by have := (World.ownsRow.lt HO4.out.1 q hq).1; show q ≠ w.heap.size; omega)⟩
  case rest =>
  obtain ⟨a4, cap4, HW⟩ := hcut
  clear z0 z1 z2 z3 z4 z5 hfx
  obtain ⟨⟨t0, t1, t2⟩, -⟩ := three_all HW.out.2.1
  have y3 := HYK.out wc HW.out.1
  have hPl : w.heap.size < wc.heap.size := (Array.getElem?_eq_some_iff.1 HW.out.2.1).1
  have HLEN : Hid ((ps.take f ++ ps.drop (f + 1)).length = ps.length - 1) := by
    show _ = _
    rw [List.length_append, hl1, hl2]
    omega
  go_wp2_with fail
  refine wp_region_held_drew (S := fun w' => w'.cell? ⟨Y, 0, none⟩ = some (.slice (some ⟨g, 0, none⟩) h.length cap) ∧ w'.cell? ⟨w.heap.size, 0, none⟩ = some (.int .i64 cls) ∧ w'.cell? ⟨w.heap.size, 1, none⟩ = some (.int .i64 pro) ∧ w'.cell? ⟨w.heap.size, 2, none⟩ = some (.slice a4 (ps.length - 1) cap4)) (by kernel_rfl) ⟨y3, t0, t1, t2⟩ (fun hHeld => ?_)
  refine takeIn 0 (v := ?ve0) rfl (by kernel_rfl) (by kernel_rfl) (by kernel_rfl) (fun _ _ _ h => h) ?we0 (by assumption) ?ye0 ?re0
  case we0 => rfl
  case ye0 => (intro w hSw; (try dsimp only at hSw); go_simp; first | done | with_reducible rfl)
  simp only [Act.put, List.setIfInBounds_toArray, List.set_cons_zero, List.set_cons_succ]
  refine takeIn 1 (v := ?ve1) rfl (by kernel_rfl) (by kernel_rfl) (by kernel_rfl) (fun _ _ _ h => h) ?we1 (by assumption) ?ye1 ?re1
  case we1 => rfl
  case ye1 => (intro w hSw; (try dsimp only at hSw); go_simp; first | done | with_reducible rfl)
  simp only [Act.put, List.setIfInBounds_toArray, List.set_cons_zero, List.set_cons_succ]
  refine takeIn 2 (v := ?ve2) rfl (by kernel_rfl) (by kernel_rfl) (by kernel_rfl) (fun _ _ _ h => h) ?we2 (by assumption) ?ye2 ?re2
  case we2 => rfl
  case ye2 => (intro w hSw; (try dsimp only at hSw); go_simp; first | done | with_reducible rfl)
  simp only [Act.put, List.setIfInBounds_toArray, List.set_cons_zero, List.set_cons_succ]
  refine takeIn 3 (v := ?ve3) rfl (by kernel_rfl) (by kernel_rfl) (by kernel_rfl) (fun _ _ _ h => h) ?we3 (by assumption) ?ye3 ?re3
  case we3 => rfl
  case ye3 => (intro w hSw; (try dsimp only at hSw); go_simp; first | done | with_reducible rfl)
  simp only [Act.put, List.setIfInBounds_toArray, List.set_cons_zero, List.set_cons_succ]
  refine takeIn 4 (v := ?ve4) rfl (by kernel_rfl) (by kernel_rfl) (by kernel_rfl) (fun _ _ _ h => h) ?we4 (by assumption) ?ye4 ?re4
  case we4 => rfl
  case ye4 => (intro w hSw; (try dsimp only at hSw); go_simp; first | done | with_reducible rfl)
  simp only [Act.put, List.setIfInBounds_toArray, List.set_cons_zero, List.set_cons_succ]
  refine takeIn 5 (v := ?ve5) rfl (by kernel_rfl) (by kernel_rfl) (by kernel_rfl) (fun _ _ _ h => h) ?we5 (by assumption) ?ye5 ?re5
  case we5 => rfl
  case ye5 => (intro w hSw; (try dsimp only at hSw); go_simp; first | done | with_reducible rfl)
  simp only [Act.put, List.setIfInBounds_toArray, List.set_cons_zero, List.set_cons_succ]
  refine takeIn 6 (v := ?ve6) rfl (by kernel_rfl) (by kernel_rfl) (by kernel_rfl) (fun _ _ _ h => h) ?we6 (by assumption) ?ye6 ?re6
  case we6 => rfl
  case ye6 => (intro w hSw; (try dsimp only at hSw); go_simp; first | done | with_reducible rfl)
  simp only [Act.put, List.setIfInBounds_toArray, List.set_cons_zero, List.set_cons_succ]
  obtain ⟨⟨f0, f1, f2⟩, f3, f4, f5⟩ := HFZ.out wc HW.out.1
  refine oneUp 7 rfl (by kernel_rfl) (by rfl) (fun K hK => ?_)
  go_simp
  have hoth := three_other wc.drew g (i * 3) (.int .i64 cls) (.int .i64 pro) (.slice a4 (ps.length - 1) cap4)
  refine hK.out _ _ ⟨(World.cell?_of_block (w := wc.drew) (hoth Y hYg)).trans hHeld.1, (World.cell?_of_block (w := wc.drew) (hoth w.heap.size (by omega))).trans hHeld.2.1, (World.cell?_of_block (w := wc.drew) (hoth w.heap.size (by omega))).trans hHeld.2.2.1, (World.cell?_of_block (w := wc.drew) (hoth w.heap.size (by omega))).trans hHeld.2.2.2⟩ (fun _ => ?_)
  clear hK K hoth hHeld f0 f1 f2 f3 f4 f5 t0 t1 t2 y3
  have hE := HEND.out wc.drew w2.heap.size a4 cap4 HW.out.1.drew (by omega) (by rw [HLEN.out]; exact row_same HW.out.2.2 fun _ _ => rfl)
  unfold setO at hE
  dsimp only at hE
  rw [HLEN.out] at hE
  have HE2 : Hid (_ ∧ _) := hE
  clear hE
  refine wpAnyH_done (by kernel_rfl) ?_ _
  go_wp2_with fail
  go_ret
  exact ⟨true, rfl, HE2.out.1, HE2.out.2⟩

end Go.Proofs.Ytlmlmdmechhalaa

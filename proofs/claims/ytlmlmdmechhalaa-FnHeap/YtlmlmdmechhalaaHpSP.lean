/-
  The walk of the specification's l05Put.
-/
import Derived.Test.YtlmlmdmechhalaaHpY
import Derived.Test.YtlmlmdmechhalaaHpS
import Derived.Test.YtlmlmdmechhalaaRegL
import Derived.Laws.AppendOwnNone
namespace Go.Proofs.Ytlmlmdmechhalaa
open Go.RowKit
open Hp (PP OO propC)

/-- 'append([]Prop{}, o.Props...)', of a row of the call's own. -/
theorem appN_own {w : World} {ops : Array Oper} {rest : List Oper} {o : Oper} {a : Act} {Q : Exit → Act → World → Prop} (hgd : o.guard = none) (s x : Operand)
    (ho : o.op = .call { callee := .builtin .append, args := #[s, x], argTypes := #[74, 74] })
    (B : Nat) (v : Value) (hs : a.eval s = v) (hown : POwn w B v [])
    (B' : Nat) (u : Value) (ps : List PP) (hx : a.eval x = u) (hsrc : POwn w B' u ps)
    (hlen : ps.length ≤ 1100000) (hB : B ≤ w.heap.size)
    (hK : ∀ v' w', POwn w' B v' ps → w.grownBy w' v.ownBlock → wpList Try.prog ops Q rest (a.put o.dst v') w') : wpList Try.prog ops Q (o :: rest) a w := by
  obtain ⟨i0, hi, hz0, hz1, hz2⟩ := info_parts Try.infoProp
  have hsrc' := hsrc
  rcases hsrc'.2 with ⟨e, h0⟩ | ⟨g, cap, cur, e, _⟩
  · have hps : ps = [] := List.length_eq_zero_iff.1 h0
    subst hps
    subst e
    exact wpList_append_own_none hgd s x 74 ho B 78 i0 6 Try.underlying74 hi v 0 [] hs hown hx (hK v w hown ⟨rfl, rfl, rfl, Nat.le_refl _, fun _ _ _ => rfl⟩)
  · subst e
    refine wpList_append_own w hgd s x 74 ho B 78 i0 zeroPr 6 56 Try.underlying74 hi hz0 hz1 hz2 rfl (by decide) v 0 [] hs hown ⟨g, 0, none⟩ ps.length cap (ps.flatMap propL) hx (flatP_len ps) (news_prop hsrc.psIn)
      (flatP_one ps) (by unfold maxLen; omega) (by omega) hB (fun v' w' h1 h2 _ => hK v' w' ?_ h2)
    rw [Nat.zero_add, List.nil_append] at h1
    exact h1

theorem three_other (w : World) (g o : Nat) (a b c : Value) (q : Nat) (hq : q ≠ g) : (((w.setCell ⟨g, o, none⟩ a).setCell ⟨g, o + 1, none⟩ b).setCell ⟨g, o + 2, none⟩ c).heap[q]? = w.heap[q]? :=
  (Below.heap_setCell _ ⟨g, o + 2, none⟩ _ q hq).trans ((Below.heap_setCell _ ⟨g, o + 1, none⟩ _ q hq).trans (Below.heap_setCell _ ⟨g, o, none⟩ _ q hq))

set_option maxHeartbeats 8000000 in
set_option maxRecDepth 100000 in
theorem sPut (w : World) (Y lo g cap : Nat) (h : List OO) (cs : Nat → OC) (i : Nat) (key : ByteArray) (v : Val.VV) (hi : i < h.length) (hpl : h[i].ps.length ≤ 1048576) (hY : w.heap[Y]? = some (.cells #[.slice (some ⟨g, 0, none⟩) h.length cap] 25 (0, 0))) (hlo : lo ≤ w.heap.size) (k : HOwn w lo (.slice (some ⟨g, 0, none⟩) h.length cap) h h.length cs) :
    Calls Try.prog 51 #[.pointer (some ⟨Y, 0, none⟩), .int .i64 i, .string key, .agg (vC v)] w fun e w' => e = .returned (.tuple #[]) ∧ (∃ ds, HOwn w' lo (.slice (some ⟨g, 0, none⟩) h.length cap) (h.set i (putO h[i] key v)) (h.set i (putO h[i] key v)).length ds) ∧ Marks (fun q => q = g) w w' := by
  have hgl := (World.ownsRow.lt k.1 g rfl)
  have hYl : Y < w.heap.size := (Array.getElem?_eq_some_iff.1 hY).1
  have hYg : Y ≠ g := fun e => by
    obtain ⟨_, c, hcc⟩ := own_apart k.1 (k := g) rfl
    rw [← e, hY] at hcc
    injection hcc with hcc
    injection hcc with _ ht _
    exact absurd ht (by decide)
  have hcc : ∀ o, o < 3 → w.cell? ⟨g, i * 3 + o, none⟩ = (objL h[i] (cs i))[o]? := fun o ho => by
    rw [World.ownsRow.cellAt k.1 (i * 3 + o) (by omega), rowO_at h cs h.length i hi hi o ho]
  have q0 : w.cell? ⟨g, i * 3, none⟩ = some (.int .i64 h[i].cls) := hcc 0 (by omega)
  have q1 : w.cell? ⟨g, i * 3 + 1, none⟩ = some (.int .i64 h[i].pro) := hcc 1 (by omega)
  have q2 : w.cell? ⟨g, i * 3 + 2, none⟩ = some (.slice (cs i).pa h[i].ps.length (cs i).pc) := hcc 2 (by omega)
  have HFZ : Hid (∀ W' : World, Below w.heap.size w W' → (W'.cell? ⟨g, i * 3, none⟩ = some (.int .i64 h[i].cls) ∧ W'.cell? ⟨g, i * 3 + 1, none⟩ = some (.int .i64 h[i].pro) ∧ W'.cell? ⟨g, i * 3 + 2, none⟩ = some (.slice (cs i).pa h[i].ps.length (cs i).pc)) ∧ W'.frozen? ⟨g, i * 3, none⟩ = false ∧ W'.frozen? ⟨g, i * 3 + 1, none⟩ = false ∧ W'.frozen? ⟨g, i * 3 + 2, none⟩ = false) := fun W' hW => by
    obtain ⟨_, c, hc⟩ := own_apart (k.under hW).1 (k := g) rfl
    have e := fun o => World.cell?_of_block (w := w) (w' := W') (a := ⟨g, o, none⟩) (hW.block g hgl.2)
    exact ⟨⟨(e _).trans q0, (e _).trans q1, (e _).trans q2⟩, by simp [World.frozen?, hc], by simp [World.frozen?, hc], by simp [World.frozen?, hc]⟩
  have HPO : Hid (∀ W' : World, Below w.heap.size w W' → POwn W' lo (.slice (cs i).pa h[i].ps.length (cs i).pc) h[i].ps) := fun W' hW => (k.under hW).2.1 i hi hi
  have HEND : Hid (∀ (W' : World) (L : Nat) (a3 : Option Addr) (cap3 : Nat), Below w.heap.size w W' → w.heap.size ≤ L → POwn W' L (.slice a3 (Hp.putPs h[i].ps key v).length cap3) (Hp.putPs h[i].ps key v) → (∃ ds, HOwn (setO W' g (i * 3) (putO h[i] key v) ⟨a3, cap3⟩) lo (.slice (some ⟨g, 0, none⟩) h.length cap) (h.set i (putO h[i] key v)) (h.set i (putO h[i] key v)).length ds) ∧ Marks (fun q => q = g) w (setO W' g (i * 3) (putO h[i] key v) ⟨a3, cap3⟩)) := fun W' L a3 cap3 hW hL hp =>
    ⟨⟨_, HOwn.turn (x := putO h[i] key v) (c := ⟨a3, cap3⟩) k hi hW hL (by omega) hp⟩, (((Marks.of_below (Q := fun q => q = g) hW).setCell (p := ⟨g, i * 3, none⟩) rfl _).setCell (p := ⟨g, i * 3 + 1, none⟩) rfl _).setCell (p := ⟨g, i * 3 + 2, none⟩) rfl _⟩
  have HN : Hid (∀ o1 o2 o3, (((w.alloc o1).alloc o2).alloc o3).heap[w.heap.size]? = some o1 ∧ (((w.alloc o1).alloc o2).alloc o3).heap[w.heap.size + 1]? = some o2 ∧ (((w.alloc o1).alloc o2).alloc o3).heap[w.heap.size + 1 + 1]? = some o3 ∧ Below w.heap.size w (((w.alloc o1).alloc o2).alloc o3) ∧ (((w.alloc o1).alloc o2).alloc o3).heap.size = w.heap.size + 1 + 1 + 1) := fun o1 o2 o3 => by
    refine ⟨?_, ?_, ?_, (((Below.refl _ _).alloc (Nat.le_refl _) o1).alloc (by simp) o2).alloc (by simp; omega) o3, by simp⟩
    · exact (Below.heap_alloc _ _ _ (by simp; omega)).trans ((Below.heap_alloc _ _ _ (by simp)).trans (heap_alloc_new _ _))
    · have := heap_alloc_new (w.alloc o1) o2
      rw [World.size_alloc] at this
      exact (Below.heap_alloc _ _ _ (by simp)).trans this
    · have := heap_alloc_new ((w.alloc o1).alloc o2) o3
      rw [World.size_alloc, World.size_alloc] at this
      exact this
  have hi' : (i : Int) < (h.length : Int) := by omega
  obtain ⟨y0, -⟩ := one_of hY
  have HYK : Hid (∀ W' : World, Below w.heap.size w W' → W'.cell? ⟨Y, 0, none⟩ = some (.slice (some ⟨g, 0, none⟩) h.length cap)) := fun W' hW => (World.cell?_of_block (w := w) (hW.block Y hYl)).trans y0
  have HR0 : Hid (∀ W : World, W.heap[w.heap.size + 1 + 1]? = some (.cells #[] 78 (0, 0)) → POwn W (w.heap.size + 1 + 1) (.slice (some ⟨w.heap.size + 1 + 1, 0, none⟩) 0 0) []) := fun W e => ⟨rfl, .inr ⟨w.heap.size + 1 + 1, 0, #[], rfl, Nat.le_refl _, e, Nat.le_refl _, Nat.zero_le _, rfl, rfl⟩⟩
  have C1 := fun (W' : World) (hW : Below w.heap.size w W') => sOwn h[i].cls h[i].pro (cs i).pa (cs i).pc lo h[i].ps key W' (by omega) (HPO.out W' hW).psIn
  clear hcc k hY
  obtain ⟨vk, vn, vt⟩ := v
  unfold vC
  dsimp only
  unfold putO at HEND ⊢
  generalize hx : h[i] = x at *
  generalize (cs i).pa = pa at *
  generalize (cs i).pc = pc at *
  obtain ⟨cls, pro, ps⟩ := x
  dsimp only at *
  have H1 : Hid _ := C1
  clear C1 hx
  go_enter Try.func51, Try.ntmps51
  go_wp2_with (have hn := HN.out (.cells #[.int .i64 vk, .int .i64 vn, .string vt] 27) (.cells #[.int .i64 cls, .int .i64 pro, .slice pa ps.length pc] 76) (.cells #[] 78); generalize World.alloc (World.alloc (World.alloc w _) _) _ = W0 at hn ⊢; have hn' := hn; obtain ⟨n1, n2, n3, n4, n5⟩ := hn'; refine appN_own rfl (.tmp 18) (.tmp 20) rfl (w.heap.size + 1 + 1) _ (by rfl) (HR0.out W0 n3) lo (.slice pa ps.length pc) ps (by rfl) (HPO.out W0 n4) (by omega) (by omega) ?_; intro v' w' hown' hgrow'; have hsh := own_shape hown'; obtain ⟨a2, cap2, rfl⟩ := hsh; have g1 := (hgrow'.block w.heap.size (by omega) (fun e => by simp [Value.ownBlock] at e; omega)).trans n1; have g2 := (hgrow'.block (w.heap.size + 1) (by omega) (fun e => by simp [Value.ownBlock] at e)).trans n2; have g4 : Below w.heap.size w w' := n4.grown hgrow' (by omega) (fun q hq => by simp [Value.ownBlock] at hq; omega); have g5 : w.heap.size + 1 + 1 + 1 ≤ w'.heap.size := (by have := hgrow'.size; omega); have g6 := three_all g1; obtain ⟨⟨z0, z1, z2⟩, -⟩ := g6; have g7 := three_all g2; obtain ⟨⟨t0, t1, t2⟩, -⟩ := g7)
  refine (H1.out w' g4).mono ?_
  rintro e w2 ⟨rfl, hb2⟩
  have k1 := (hb2.block w.heap.size (by omega)).trans g1
  have k2 := (hb2.block (w.heap.size + 1) (by omega)).trans g2
  have k4 : Below w.heap.size w w2 := g4.trans (hb2.mono (by omega))
  have k5 : w.heap.size + 1 + 1 + 1 ≤ w2.heap.size := by have := hb2.size; omega
  have k6 : POwn w2 (w.heap.size + 1 + 1) (.slice a2 ps.length cap2) ps := POwn.under hown' hb2
  clear z0 z1 z2 t0 t1 t2 g1 g2 g4 g5 hb2 hown' hgrow' n1 n2 n3 n4 n5 hn HN HR0 H1 HPO q0 q1 q2 y0
  obtain ⟨⟨z0, z1, z2⟩, -⟩ := three_all k1
  obtain ⟨⟨t0, t1, t2⟩, t3, t4, t5⟩ := three_all k2
  by_cases hf : Hp.fi ps key < ps.length
  · have hpu : Hp.putPs ps key ⟨vk, vn, vt⟩ = ps.set (Hp.fi ps key) { ps[Hp.fi ps key] with v := ⟨vk, vn, vt⟩ } := by unfold Hp.putPs; rw [dif_pos hf]
    have HLEN : Hid ((Hp.putPs ps key ⟨vk, vn, vt⟩).length = ps.length) := by show _ = _; rw [hpu, List.length_set]
    have hown : Hp.ownI ps key = (Hp.fi ps key : Int) := by unfold Hp.ownI; rw [if_pos hf]
    obtain ⟨g3, rfl⟩ : ∃ g3, a2 = some ⟨g3, 0, none⟩ := by
      rcases k6.2 with ⟨_, e⟩ | ⟨g, cap', _, e, _⟩
      · omega
      · injection e with e1 _ _; exact ⟨g, e1⟩
    rw [hown]
    have hsv := POwn.setV k6 hf ⟨vk, vn, vt⟩
    rw [← hpu] at hsv
    have hg3 := (World.ownsRow.lt k6 g3 rfl)
    have hfz : (∀ o, o < 6 → w2.cell? ⟨g3, Hp.fi ps key * 6 + o, none⟩ = (propL ps[Hp.fi ps key])[o]?) ∧ ∀ o, w2.frozen? ⟨g3, o, none⟩ = false := by
      obtain ⟨_, c, hc⟩ := own_apart k6 (k := g3) rfl
      exact ⟨fun o ho => by rw [World.ownsRow.cellAt k6 (Hp.fi ps key * 6 + o) (by omega), flatP_at ps _ hf o ho], fun o => by simp [World.frozen?, hc]⟩
    have f1 : w2.cell? ⟨g3, Hp.fi ps key * 6 + 1, none⟩ = some (.int .i64 ps[Hp.fi ps key].v.kind) := hfz.1 1 (by omega)
    have f2 : w2.cell? ⟨g3, Hp.fi ps key * 6 + 2, none⟩ = some (.int .i64 ps[Hp.fi ps key].v.num) := hfz.1 2 (by omega)
    have f3 : w2.cell? ⟨g3, Hp.fi ps key * 6 + 3, none⟩ = some (.string ps[Hp.fi ps key].v.text) := hfz.1 3 (by omega)
    have e1 := hfz.2 (Hp.fi ps key * 6 + 1)
    have e2 := hfz.2 (Hp.fi ps key * 6 + 2)
    have e3 := hfz.2 (Hp.fi ps key * 6 + 3)
    have hne : w.heap.size + 1 ≠ g3 := by omega
    have hq3 : ∀ q, (Value.slice (some ⟨g3, 0, none⟩) ps.length cap2).ownBlock = some q → q ≠ w.heap.size + 1 := fun q hq => by
      have e : g3 = q := by simpa [Value.ownBlock] using hq
      omega
    have hW3 : Below w.heap.size w ((setV w2 g3 (Hp.fi ps key * 6 + 1) ⟨vk, vn, vt⟩).setCell ⟨w.heap.size + 1, 2, none⟩ (.slice (some ⟨g3, 0, none⟩) ps.length cap2)) ∧ ((setV w2 g3 (Hp.fi ps key * 6 + 1) ⟨vk, vn, vt⟩).setCell ⟨w.heap.size + 1, 2, none⟩ (.slice (some ⟨g3, 0, none⟩) ps.length cap2)).heap[w.heap.size + 1]? = some (.cells #[.int .i64 cls, .int .i64 pro, .slice (some ⟨g3, 0, none⟩) ps.length cap2] 76 (0, 0)) ∧ POwn ((setV w2 g3 (Hp.fi ps key * 6 + 1) ⟨vk, vn, vt⟩).setCell ⟨w.heap.size + 1, 2, none⟩ (.slice (some ⟨g3, 0, none⟩) ps.length cap2)) (w.heap.size + 1 + 1) (.slice (some ⟨g3, 0, none⟩) ps.length cap2) (Hp.putPs ps key ⟨vk, vn, vt⟩) :=
      ⟨(setV_below k4 _ _ (by omega)).setCell (p := ⟨w.heap.size + 1, 2, none⟩) (by show w.heap.size ≤ w.heap.size + 1; omega) _, blk_set ((setV_other w2 g3 _ _ _ hne).trans k2) 2 _, row_same hsv fun q hq => Below.heap_setCell _ ⟨w.heap.size + 1, 2, none⟩ _ q (hq3 q hq)⟩
    unfold setV at hW3
    dsimp only at hW3
    clear hsv hfz hown hpu k1 k2 k4 k6
    have hf' : (Hp.fi ps key : Int) < (ps.length : Int) := by omega
    have hf0 : (0 : Int) ≤ (Hp.fi ps key : Int) := by omega
    generalize Hp.fi ps key = f at *
    have HW : Hid (_ ∧ _ ∧ _) := hW3
    clear hW3
    go_wp2_with fail
    generalize World.setCell _ _ _ = W3 at HW ⊢
    clear t0 t1 t2 t3 t4 t5 z0 z1 z2 f1 f2 f3 e1 e2 e3
    obtain ⟨⟨t0, t1, t2⟩, -⟩ := three_all HW.out.2.1
    have y3 := HYK.out W3 HW.out.1
    have hPl : w.heap.size + 1 < W3.heap.size := (Array.getElem?_eq_some_iff.1 HW.out.2.1).1
    refine wp_region_held_drew (S := fun w' => w'.cell? ⟨Y, 0, none⟩ = some (.slice (some ⟨g, 0, none⟩) h.length cap) ∧ w'.cell? ⟨w.heap.size + 1, 0, none⟩ = some (.int .i64 cls) ∧ w'.cell? ⟨w.heap.size + 1, 1, none⟩ = some (.int .i64 pro) ∧ w'.cell? ⟨w.heap.size + 1, 2, none⟩ = some (.slice (some ⟨g3, 0, none⟩) (ps.length) cap2)) (by kernel_rfl) ⟨y3, t0, t1, t2⟩ (fun hHeld => ?_)
    refine takeIn 0 (v := ?va0) rfl (by kernel_rfl) (by kernel_rfl) (by kernel_rfl) (fun _ _ _ h => h) ?wa0 (by assumption) ?ya0 ?ra0
    case wa0 => rfl
    case ya0 => (intro w hSw; (try dsimp only at hSw); go_simp; first | done | with_reducible rfl)
    simp only [Act.put, List.setIfInBounds_toArray, List.set_cons_zero, List.set_cons_succ]
    refine takeIn 1 (v := ?va1) rfl (by kernel_rfl) (by kernel_rfl) (by kernel_rfl) (fun _ _ _ h => h) ?wa1 (by assumption) ?ya1 ?ra1
    case wa1 => rfl
    case ya1 => (intro w hSw; (try dsimp only at hSw); go_simp; first | done | with_reducible rfl)
    simp only [Act.put, List.setIfInBounds_toArray, List.set_cons_zero, List.set_cons_succ]
    refine takeIn 2 (v := ?va2) rfl (by kernel_rfl) (by kernel_rfl) (by kernel_rfl) (fun _ _ _ h => h) ?wa2 (by assumption) ?ya2 ?ra2
    case wa2 => rfl
    case ya2 => (intro w hSw; (try dsimp only at hSw); go_simp; first | done | with_reducible rfl)
    simp only [Act.put, List.setIfInBounds_toArray, List.set_cons_zero, List.set_cons_succ]
    refine takeIn 3 (v := ?va3) rfl (by kernel_rfl) (by kernel_rfl) (by kernel_rfl) (fun _ _ _ h => h) ?wa3 (by assumption) ?ya3 ?ra3
    case wa3 => rfl
    case ya3 => (intro w hSw; (try dsimp only at hSw); go_simp; first | done | with_reducible rfl)
    simp only [Act.put, List.setIfInBounds_toArray, List.set_cons_zero, List.set_cons_succ]
    refine takeIn 4 (v := ?va4) rfl (by kernel_rfl) (by kernel_rfl) (by kernel_rfl) (fun _ _ _ h => h) ?wa4 (by assumption) ?ya4 ?ra4
    case wa4 => rfl
    case ya4 => (intro w hSw; (try dsimp only at hSw); go_simp; first | done | with_reducible rfl)
    simp only [Act.put, List.setIfInBounds_toArray, List.set_cons_zero, List.set_cons_succ]
    refine takeIn 5 (v := ?va5) rfl (by kernel_rfl) (by kernel_rfl) (by kernel_rfl) (fun _ _ _ h => h) ?wa5 (by assumption) ?ya5 ?ra5
    case wa5 => rfl
    case ya5 => (intro w hSw; (try dsimp only at hSw); go_simp; first | done | with_reducible rfl)
    simp only [Act.put, List.setIfInBounds_toArray, List.set_cons_zero, List.set_cons_succ]
    refine takeIn 6 (v := ?va6) rfl (by kernel_rfl) (by kernel_rfl) (by kernel_rfl) (fun _ _ _ h => h) ?wa6 (by assumption) ?ya6 ?ra6
    case wa6 => rfl
    case ya6 => (intro w hSw; (try dsimp only at hSw); go_simp; first | done | with_reducible rfl)
    simp only [Act.put, List.setIfInBounds_toArray, List.set_cons_zero, List.set_cons_succ]
    obtain ⟨⟨f0, f1, f2⟩, f3, f4, f5⟩ := HFZ.out W3 HW.out.1
    refine oneUp 7 rfl (by kernel_rfl) (by rfl) (fun K hK => ?_)
    go_simp
    have hoth := three_other W3.drew g (i * 3) (.int .i64 cls) (.int .i64 pro) (.slice (some ⟨g3, 0, none⟩) (ps.length) cap2)
    refine hK.out _ _ ⟨(World.cell?_of_block (w := W3.drew) (hoth Y hYg)).trans hHeld.1, (World.cell?_of_block (w := W3.drew) (hoth (w.heap.size + 1) (by omega))).trans hHeld.2.1, (World.cell?_of_block (w := W3.drew) (hoth (w.heap.size + 1) (by omega))).trans hHeld.2.2.1, (World.cell?_of_block (w := W3.drew) (hoth (w.heap.size + 1) (by omega))).trans hHeld.2.2.2⟩ (fun _ => ?_)
    clear hK K hoth hHeld f0 f1 f2 f3 f4 f5 t0 t1 t2 y3
    have hE := HEND.out W3.drew (w.heap.size + 1 + 1) (some ⟨g3, 0, none⟩) cap2 HW.out.1.drew (by omega) (by rw [HLEN.out]; exact row_same HW.out.2.2 fun _ _ => rfl)
    unfold setO at hE
    dsimp only at hE
    rw [HLEN.out] at hE
    have HE2 : Hid (_ ∧ _) := hE
    clear hE
    refine wpAnyH_done (by kernel_rfl) ?_ _
    go_wp2_with fail
    exact bodyPost_end (v := .tuple #[]) (by simp [results, Try.results51, go_sem]) rfl ⟨rfl, HE2.out.1, HE2.out.2⟩
  · have hpu : Hp.putPs ps key ⟨vk, vn, vt⟩ = ps ++ [⟨key, ⟨vk, vn, vt⟩, false, false⟩] := by unfold Hp.putPs; rw [dif_neg hf]
    have HLEN : Hid ((Hp.putPs ps key ⟨vk, vn, vt⟩).length = ps.length + 1) := by show _ = _; rw [hpu, List.length_append]; rfl
    have HPU : Hid _ := hpu
    have hown : Hp.ownI ps key = -1 := by unfold Hp.ownI; rw [if_neg hf]
    rw [hown]
    have HK : Hid (POwn w2 (w.heap.size + 1 + 1) (.slice a2 ps.length cap2) ps ∧ Below w.heap.size w w2 ∧ w2.heap[w.heap.size + 1]? = some (.cells #[.int .i64 cls, .int .i64 pro, .slice pa ps.length pc] 76 (0, 0))) := ⟨k6, k4, k2⟩
    have HNW : Hid (∀ j u, (propL ⟨key, ⟨vk, vn, vt⟩, false, false⟩)[j]? = some u → (w2.alloc (.cells #[.string key, .int .i64 vk, .int .i64 vn, .string vt, .bool false, .bool false] 78)).cell? ((⟨w2.heap.size, 0, none⟩ : Addr).add j) = some u) := fun j u hu => new_cells w2 (propC ⟨key, ⟨vk, vn, vt⟩, false, false⟩) 78 j u hu
    clear t0 t1 t2 t3 t4 t5 k1 k2 k4 k6 hpu hown
    go_wp2_with (refine app_prop rfl (.tmp 32) (.tmp 36) rfl (w.heap.size + 1 + 1) _ ps (by rfl) (World.ownsRow.alloc HK.out.1 _) ⟨w2.heap.size, 0, none⟩ ⟨key, ⟨vk, vn, vt⟩, false, false⟩ (by rfl) HNW.out (by omega) (by simp; omega) ?_; intro v' w3 hown3 hgrow3; have hsh := own_shape hown3; obtain ⟨a3, cap3, rfl⟩ := hsh; have g2 : w3.heap[w.heap.size + 1]? = some (.cells #[.int .i64 cls, .int .i64 pro, .slice pa ps.length pc] 76 (0, 0)) := ((hgrow3.block (w.heap.size + 1) (by simp; omega) (fun e => by have := (World.ownsRow.lt HK.out.1 _ e.symm).1; omega)).trans ((Below.heap_alloc w2 _ _ (by omega)).trans HK.out.2.2)); have g4 : Below w.heap.size w w3 := (HK.out.2.1.alloc (by omega) _).grown hgrow3 (by simp; omega) (fun q hq => by have := (World.ownsRow.lt HK.out.1 q hq).1; omega); have HG : Hid (_ ∧ _ ∧ _) := ⟨hown3, g2, g4⟩; have g7 := three_all g2; obtain ⟨⟨t0, t1, t2⟩, t3, t4, t5⟩ := g7; clear g2 g4 hown3 hgrow3)
    have hW3 : Below w.heap.size w (w3.setCell ⟨w.heap.size + 1, 2, none⟩ (.slice a3 (ps.length + 1) cap3)) ∧ (w3.setCell ⟨w.heap.size + 1, 2, none⟩ (.slice a3 (ps.length + 1) cap3)).heap[w.heap.size + 1]? = some (.cells #[.int .i64 cls, .int .i64 pro, .slice a3 (ps.length + 1) cap3] 76 (0, 0)) ∧ POwn (w3.setCell ⟨w.heap.size + 1, 2, none⟩ (.slice a3 (ps.length + 1) cap3)) (w.heap.size + 1 + 1) (.slice a3 (ps.length + 1) cap3) (Hp.putPs ps key ⟨vk, vn, vt⟩) := by
      obtain ⟨hown3, g2, g4⟩ := HG.out
      rw [List.length_append, List.length_singleton] at hown3
      refine ⟨g4.setCell (p := ⟨w.heap.size + 1, 2, none⟩) (by show w.heap.size ≤ w.heap.size + 1; omega) _, blk_set g2 2 _, ?_⟩
      rw [HPU.out]
      exact row_same hown3 fun q hq => Below.heap_setCell _ ⟨w.heap.size + 1, 2, none⟩ _ q (by show q ≠ w.heap.size + 1; have := (World.ownsRow.lt hown3 q hq).1; omega)
    have HW : Hid (_ ∧ _ ∧ _) := hW3
    clear hW3 HG
    generalize World.setCell _ _ _ = W3 at HW ⊢
    clear t0 t1 t2 t3 t4 t5 z0 z1 z2
    obtain ⟨⟨t0, t1, t2⟩, -⟩ := three_all HW.out.2.1
    have y3 := HYK.out W3 HW.out.1
    have hPl : w.heap.size + 1 < W3.heap.size := (Array.getElem?_eq_some_iff.1 HW.out.2.1).1
    refine wp_region_held_drew (S := fun w' => w'.cell? ⟨Y, 0, none⟩ = some (.slice (some ⟨g, 0, none⟩) h.length cap) ∧ w'.cell? ⟨w.heap.size + 1, 0, none⟩ = some (.int .i64 cls) ∧ w'.cell? ⟨w.heap.size + 1, 1, none⟩ = some (.int .i64 pro) ∧ w'.cell? ⟨w.heap.size + 1, 2, none⟩ = some (.slice a3 (ps.length + 1) cap3)) (by kernel_rfl) ⟨y3, t0, t1, t2⟩ (fun hHeld => ?_)
    refine takeIn 0 (v := ?vb0) rfl (by kernel_rfl) (by kernel_rfl) (by kernel_rfl) (fun _ _ _ h => h) ?wb0 (by assumption) ?yb0 ?rb0
    case wb0 => rfl
    case yb0 => (intro w hSw; (try dsimp only at hSw); go_simp; first | done | with_reducible rfl)
    simp only [Act.put, List.setIfInBounds_toArray, List.set_cons_zero, List.set_cons_succ]
    refine takeIn 1 (v := ?vb1) rfl (by kernel_rfl) (by kernel_rfl) (by kernel_rfl) (fun _ _ _ h => h) ?wb1 (by assumption) ?yb1 ?rb1
    case wb1 => rfl
    case yb1 => (intro w hSw; (try dsimp only at hSw); go_simp; first | done | with_reducible rfl)
    simp only [Act.put, List.setIfInBounds_toArray, List.set_cons_zero, List.set_cons_succ]
    refine takeIn 2 (v := ?vb2) rfl (by kernel_rfl) (by kernel_rfl) (by kernel_rfl) (fun _ _ _ h => h) ?wb2 (by assumption) ?yb2 ?rb2
    case wb2 => rfl
    case yb2 => (intro w hSw; (try dsimp only at hSw); go_simp; first | done | with_reducible rfl)
    simp only [Act.put, List.setIfInBounds_toArray, List.set_cons_zero, List.set_cons_succ]
    refine takeIn 3 (v := ?vb3) rfl (by kernel_rfl) (by kernel_rfl) (by kernel_rfl) (fun _ _ _ h => h) ?wb3 (by assumption) ?yb3 ?rb3
    case wb3 => rfl
    case yb3 => (intro w hSw; (try dsimp only at hSw); go_simp; first | done | with_reducible rfl)
    simp only [Act.put, List.setIfInBounds_toArray, List.set_cons_zero, List.set_cons_succ]
    refine takeIn 4 (v := ?vb4) rfl (by kernel_rfl) (by kernel_rfl) (by kernel_rfl) (fun _ _ _ h => h) ?wb4 (by assumption) ?yb4 ?rb4
    case wb4 => rfl
    case yb4 => (intro w hSw; (try dsimp only at hSw); go_simp; first | done | with_reducible rfl)
    simp only [Act.put, List.setIfInBounds_toArray, List.set_cons_zero, List.set_cons_succ]
    refine takeIn 5 (v := ?vb5) rfl (by kernel_rfl) (by kernel_rfl) (by kernel_rfl) (fun _ _ _ h => h) ?wb5 (by assumption) ?yb5 ?rb5
    case wb5 => rfl
    case yb5 => (intro w hSw; (try dsimp only at hSw); go_simp; first | done | with_reducible rfl)
    simp only [Act.put, List.setIfInBounds_toArray, List.set_cons_zero, List.set_cons_succ]
    refine takeIn 6 (v := ?vb6) rfl (by kernel_rfl) (by kernel_rfl) (by kernel_rfl) (fun _ _ _ h => h) ?wb6 (by assumption) ?yb6 ?rb6
    case wb6 => rfl
    case yb6 => (intro w hSw; (try dsimp only at hSw); go_simp; first | done | with_reducible rfl)
    simp only [Act.put, List.setIfInBounds_toArray, List.set_cons_zero, List.set_cons_succ]
    obtain ⟨⟨f0, f1, f2⟩, f3, f4, f5⟩ := HFZ.out W3 HW.out.1
    refine oneUp 7 rfl (by kernel_rfl) (by rfl) (fun K hK => ?_)
    go_simp
    have hoth := three_other W3.drew g (i * 3) (.int .i64 cls) (.int .i64 pro) (.slice a3 (ps.length + 1) cap3)
    refine hK.out _ _ ⟨(World.cell?_of_block (w := W3.drew) (hoth Y hYg)).trans hHeld.1, (World.cell?_of_block (w := W3.drew) (hoth (w.heap.size + 1) (by omega))).trans hHeld.2.1, (World.cell?_of_block (w := W3.drew) (hoth (w.heap.size + 1) (by omega))).trans hHeld.2.2.1, (World.cell?_of_block (w := W3.drew) (hoth (w.heap.size + 1) (by omega))).trans hHeld.2.2.2⟩ (fun _ => ?_)
    clear hK K hoth hHeld f0 f1 f2 f3 f4 f5 t0 t1 t2 y3
    have hE := HEND.out W3.drew (w.heap.size + 1 + 1) a3 cap3 HW.out.1.drew (by omega) (by rw [HLEN.out]; exact row_same HW.out.2.2 fun _ _ => rfl)
    unfold setO at hE
    dsimp only at hE
    rw [HLEN.out] at hE
    have HE2 : Hid (_ ∧ _) := hE
    clear hE
    refine wpAnyH_done (by kernel_rfl) ?_ _
    go_wp2_with fail
    exact bodyPost_end (v := .tuple #[]) (by simp [results, Try.results51, go_sem]) rfl ⟨rfl, HE2.out.1, HE2.out.2⟩

end Go.Proofs.Ytlmlmdmechhalaa

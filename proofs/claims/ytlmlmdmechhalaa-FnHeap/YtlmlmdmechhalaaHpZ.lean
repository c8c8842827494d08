/-
  The walk of the specification's l05Copy.
-/
import Derived.Test.YtlmlmdmechhalaaHpE
import Derived.Test.YtlmlmdmechhalaaRegL
import Derived.Test.YtlmlmdmechhalaaHpD
namespace Go.Proofs.Ytlmlmdmechhalaa
open Go.RowKit
open Hp (PP OO propC)

set_option maxHeartbeats 8000000 in
set_option maxRecDepth 100000 in
theorem sCopy (b o cap B : Nat) (h : List OO) (cs : Nat → OC) (w : World) (hl : h.length ≤ 1048576) (hps : ∀ i (hi : i < h.length), h[i].ps.length ≤ 1048576) (hsome : ∀ i (_ : i < h.length), ((cs i).pa = none ∧ h[i].ps = []) ∨ ∃ pb po, (cs i).pa = some ⟨pb, po, none⟩) (hh : HIn w B (some ⟨b, o, none⟩) h cs) :
    Calls Try.prog 49 #[.agg #[.slice (some ⟨b, o, none⟩) h.length cap]] w fun e w' => ∃ a cap, e = .returned (.agg #[.slice a h.length cap]) ∧ Below w.heap.size w w' ∧ ∃ ds, HOwn w' w.heap.size (.slice a h.length cap) h h.length ds := by
  have HH : Hid (HIn w B (some ⟨b, o, none⟩) h cs) := hh
  have HP : Hid (∀ i (hi : i < h.length), h[i].ps.length ≤ 1048576) := hps
  have HSM : Hid (∀ i (_ : i < h.length), ((cs i).pa = none ∧ h[i].ps = []) ∨ ∃ pb po, (cs i).pa = some ⟨pb, po, none⟩) := hsome
  have HN : Hid (∀ o1 o2 o3, (((w.alloc o1).alloc o2).alloc o3).heap[w.heap.size]? = some o1 ∧ (((w.alloc o1).alloc o2).alloc o3).heap[w.heap.size + 1]? = some o2 ∧ (((w.alloc o1).alloc o2).alloc o3).heap[w.heap.size + 1 + 1]? = some o3 ∧ Below w.heap.size w (((w.alloc o1).alloc o2).alloc o3) ∧ (((w.alloc o1).alloc o2).alloc o3).heap.size = w.heap.size + 1 + 1 + 1) := fun o1 o2 o3 => by
    refine ⟨?_, ?_, ?_, (((Below.refl _ _).alloc (Nat.le_refl _) o1).alloc (by simp) o2).alloc (by simp; omega) o3, by simp⟩
    · exact (Below.heap_alloc _ _ _ (by simp; omega)).trans ((Below.heap_alloc _ _ _ (by simp)).trans (heap_alloc_new _ _))
    · have := heap_alloc_new (w.alloc o1) o2
      rw [World.size_alloc] at this
      exact (Below.heap_alloc _ _ _ (by simp)).trans this
    · have := heap_alloc_new ((w.alloc o1).alloc o2) o3
      rw [World.size_alloc, World.size_alloc] at this
      exact this
  have HR0 : Hid (∀ W : World, w.heap.size + 1 + 1 ≤ W.heap.size → W.heap[w.heap.size + 1 + 1]? = some (.cells #[] 76 (0, 0)) → W.ownsRow (w.heap.size + 1 + 1) 76 3 (.slice (some ⟨w.heap.size + 1 + 1, 0, none⟩) 0 0) 0 []) := fun W _ e => ⟨rfl, .inr ⟨w.heap.size + 1 + 1, 0, #[], rfl, Nat.le_refl _, e, Nat.le_refl _, Nat.zero_le _, rfl, rfl⟩⟩
  clear hh hps hsome
  go_enter Try.func49, Try.ntmps49
  go_wp2_with (have hn := HN.out (.cells #[.slice (some ⟨b, o, none⟩) h.length cap] 25) (.cells #[.slice none 0 0] 25) (.cells #[] 76); generalize World.alloc (World.alloc (World.alloc w _) _) _ = W0 at hn ⊢; have hn' := hn; obtain ⟨n1, n2, n3, n4, n5⟩ := hn'; refine appN_obj rfl (.tmp 5) (.tmp 7) rfl (w.heap.size + 1 + 1) _ (by rfl) (HR0.out W0 (by omega) n3) b o cap B h cs (by rfl) (HH.out.under n4).1 (by omega) (by omega) ?_; intro v' w' hown' hgrow'; have hsh := own_shape hown'; obtain ⟨a2, cap2, rfl⟩ := hsh)
  have hY3 : w.heap.size + 1 + 1 + 1 ≤ w'.heap.size := by have := hgrow'.size; omega
  have hY1 : w'.heap.size < w'.heap.size + 1 := Nat.lt_succ_self _
  have g1 := (hgrow'.block w.heap.size (by omega) (fun e => by simp [Value.ownBlock] at e; omega)).trans n1
  have g2 := (hgrow'.block (w.heap.size + 1) (by omega) (fun e => by simp [Value.ownBlock] at e)).trans n2
  have g4 : Below w.heap.size w w' := n4.grown hgrow' (by omega) (fun q hq => by simp [Value.ownBlock] at hq; omega)
  have m1 := (Below.heap_alloc w' (.cells #[.slice a2 h.length cap2] 25) w.heap.size (by omega)).trans g1
  have m2 := (Below.heap_alloc w' (.cells #[.slice a2 h.length cap2] 25) (w.heap.size + 1) (by omega)).trans g2
  have m3 := heap_alloc_new w' (.cells #[.slice a2 h.length cap2] 25)
  have m4 : Below w.heap.size w (w'.alloc (.cells #[.slice a2 h.length cap2] 25)) := g4.alloc (by omega) _
  have m5 : HHalf (w'.alloc (.cells #[.slice a2 h.length cap2] 25)) (w.heap.size + 1 + 1) (.slice a2 h.length cap2) h 0 (fun _ => ⟨none, 0⟩) cs := by
    refine ⟨World.ownsRow.alloc ?_ _, fun j _ hj => absurd hj (by omega), fun i' j _ _ _ hj => absurd hj (by omega)⟩
    rw [rowO_congr h h.length (g := cs) fun j _ => if_neg (by omega)]
    exact hown'
  clear g1 g2 g4 n1 n2 n3 n4 n5 hn hown' hgrow' HR0 HN
  generalize World.alloc _ _ = W1 at m1 m2 m3 m4 m5 ⊢
  generalize w'.heap.size = Y at *
  have HY : Hid (w.heap.size + 1 + 1 + 1 ≤ Y) := hY3
  clear hY1
  go_loopw [4] (fun vi wr => ∃ i : Nat, i ≤ h.length ∧ vi = .int .i64 i ∧ Hid (Below w.heap.size w wr ∧ wr.heap[w.heap.size]? = some (.cells #[.slice (some ⟨b, o, none⟩) h.length cap] 25 (0, 0)) ∧ wr.heap[w.heap.size + 1]? = some (.cells #[.slice none 0 0] 25 (0, 0)) ∧ wr.heap[Y]? = some (.cells #[.slice a2 h.length cap2] 25 (0, 0)) ∧ ∃ ds, HHalf wr (w.heap.size + 1 + 1) (.slice a2 h.length cap2) h i ds cs)) (fun vi _ => h.length - (intOf vi).toNat)
  case atStart => exact ⟨0, Nat.zero_le _, rfl, m4, m1, m2, m3, _, m5⟩
  case round =>
    clear m1 m2 m3 m4 m5
    obtain ⟨i, hi, rfl, HE⟩ := hrel
    obtain ⟨hb, x1, x2, x3, ds, hO⟩ := HE.out
    obtain ⟨y0, -⟩ := one_of x1
    obtain ⟨y1, y1f⟩ := one_of x2
    obtain ⟨y2, -⟩ := one_of x3
    by_cases hlt : i < h.length
    case neg =>
      have hlt' : ¬ (i : Int) < (h.length : Int) := by omega
      have hie : i = h.length := by omega
      subst hie
      have HG : Hid (_ ∧ _ ∧ _) := ⟨x2, hb, hO.done⟩
      clear hO x1 x2 x3 hb HE
      go_wp2_with fail
      have hE := endHeap HG.out.1 (by omega) (by omega) HG.out.2.1 HG.out.2.2
      clear y1 y1f
      generalize World.setCell _ _ _ = W9 at hE ⊢
      have t0 := hE.1
      exact bodyPost_ret (v := .agg #[.slice a2 h.length cap2]) (by simp [results, Try.results49, go_sem, t0]) rfl ⟨a2, cap2, rfl, hE.2.1, ds, hE.2.2⟩
    have hlt' : (i : Int) < (h.length : Int) := by omega
    obtain ⟨g, rfl⟩ : ∃ g, a2 = some ⟨g, 0, none⟩ := by
      rcases hO.1.2 with ⟨_, e⟩ | ⟨g, cap', _, e, _⟩
      · omega
      · injection e with e1 _ _; exact ⟨g, e1⟩
    have hgl := (World.ownsRow.lt hO.1 g rfl)
    have hgY : Y ≠ g := fun e => by
      obtain ⟨_, c, hcc⟩ := own_apart hO.1 (k := g) rfl
      rw [← e, x3] at hcc
      injection hcc with hcc
      injection hcc with _ ht _
      exact absurd ht (by decide)
    have hYl : Y < wr.heap.size := (Array.getElem?_eq_some_iff.1 x3).1
    have hHi := HH.out.under hb
    obtain ⟨b', o', hab, hB', hc'⟩ := hHi.1.resolve_left (fun e => by rw [e] at hlt; simp at hlt)
    injection hab with hab
    injection hab with e1 e2 _
    subst e1 e2
    have q2 := (hc' i hlt).2.2
    have hbl : b < w.heap.size := by
      obtain ⟨b', o', hab, _, hc'⟩ := HH.out.1.resolve_left (fun e => by rw [e] at hlt; simp at hlt)
      injection hab with hab
      injection hab with e1 e2 _
      subst e1 e2
      exact World.block_lt_of_cell? w _ (hc' i hlt).1
    have hPi := hHi.2 i hlt
    have hpl := HP.out i hlt
    have HSW : Hid (∀ W' : World, Below wr.heap.size wr W' → W'.cell? ⟨w.heap.size, 0, none⟩ = some (.slice (some ⟨b, o, none⟩) h.length cap) ∧ W'.cell? ⟨Y, 0, none⟩ = some (.slice (some ⟨g, 0, none⟩) h.length cap2) ∧ W'.cell? ⟨b, o + i * 3 + 2, none⟩ = some (.slice (cs i).pa h[i].ps.length (cs i).pc)) := fun W' hW => ⟨(World.cell?_of_block (w := wr) (hW.block _ (World.block_lt_of_cell? wr _ y0))).trans y0, (World.cell?_of_block (w := wr) (hW.block _ hYl)).trans y2, (World.cell?_of_block (w := wr) (hW.block _ (World.block_lt_of_cell? wr _ q2))).trans q2⟩
    have HSS : Hid (∀ (W' : World) (u : Value), Below wr.heap.size wr W' → (W'.setCell ⟨g, i * 3 + 2, none⟩ u).cell? ⟨w.heap.size, 0, none⟩ = some (.slice (some ⟨b, o, none⟩) h.length cap) ∧ (W'.setCell ⟨g, i * 3 + 2, none⟩ u).cell? ⟨Y, 0, none⟩ = some (.slice (some ⟨g, 0, none⟩) h.length cap2) ∧ (W'.setCell ⟨g, i * 3 + 2, none⟩ u).cell? ⟨b, o + i * 3 + 2, none⟩ = some (.slice (cs i).pa h[i].ps.length (cs i).pc)) := fun W' u hW => ⟨(World.cell?_of_block (w := W') (Below.heap_setCell W' ⟨g, i * 3 + 2, none⟩ u _ (by show w.heap.size ≠ g; omega))).trans (HSW.out W' hW).1, (World.cell?_of_block (w := W') (Below.heap_setCell W' ⟨g, i * 3 + 2, none⟩ u _ hgY)).trans (HSW.out W' hW).2.1, (World.cell?_of_block (w := W') (Below.heap_setCell W' ⟨g, i * 3 + 2, none⟩ u _ (by show b ≠ g; omega))).trans (HSW.out W' hW).2.2⟩
    have HEND : Hid (∀ (W' : World) (c : OC), Below wr.heap.size wr W' → POwn W' wr.heap.size (.slice c.pa h[i].ps.length c.pc) h[i].ps → (Below w.heap.size w (W'.setCell ⟨g, i * 3 + 2, none⟩ (.slice c.pa h[i].ps.length c.pc)) ∧ (W'.setCell ⟨g, i * 3 + 2, none⟩ (.slice c.pa h[i].ps.length c.pc)).heap[w.heap.size]? = some (.cells #[.slice (some ⟨b, o, none⟩) h.length cap] 25 (0, 0)) ∧ (W'.setCell ⟨g, i * 3 + 2, none⟩ (.slice c.pa h[i].ps.length c.pc)).heap[w.heap.size + 1]? = some (.cells #[.slice none 0 0] 25 (0, 0)) ∧ (W'.setCell ⟨g, i * 3 + 2, none⟩ (.slice c.pa h[i].ps.length c.pc)).heap[Y]? = some (.cells #[.slice (some ⟨g, 0, none⟩) h.length cap2] 25 (0, 0)) ∧ ∃ ds, HHalf (W'.setCell ⟨g, i * 3 + 2, none⟩ (.slice c.pa h[i].ps.length c.pc)) (w.heap.size + 1 + 1) (.slice (some ⟨g, 0, none⟩) h.length cap2) h (i + 1) ds cs)) := fun W' c hW hp => by
      have hs := hb.size
      refine ⟨(hb.trans (hW.mono hs)).setCell (p := ⟨g, i * 3 + 2, none⟩) (by show w.heap.size ≤ g; omega) _, (Below.heap_setCell W' ⟨g, i * 3 + 2, none⟩ _ _ (by show w.heap.size ≠ g; omega)).trans ((hW.block _ (by omega)).trans x1), (Below.heap_setCell W' ⟨g, i * 3 + 2, none⟩ _ _ (by show w.heap.size + 1 ≠ g; omega)).trans ((hW.block _ (by omega)).trans x2), (Below.heap_setCell W' ⟨g, i * 3 + 2, none⟩ _ _ hgY).trans ((hW.block _ hYl).trans x3), _, hO.step hlt hW (Nat.le_refl _) (by omega) hp⟩
    have HGC : Hid (∀ W' : World, Below wr.heap.size wr W' → (∃ u, W'.cell? ⟨g, i * 3 + 2, none⟩ = some u) ∧ W'.frozen? ⟨g, i * 3 + 2, none⟩ = false) := fun W' hW => by
      have k1 := row_same (w' := W') hO.1 fun q hq => hW.block q (World.ownsRow.lt hO.1 q hq).2
      obtain ⟨_, c, hcc⟩ := own_apart k1 (k := g) rfl
      refine ⟨⟨_, (World.ownsRow.cellAt k1 (i * 3 + 2) (by omega)).trans (rowO_at h _ h.length i hlt hlt 2 (by omega))⟩, by simp [World.frozen?, hcc]⟩
    rcases HSM.out i hlt with ⟨hpa, hps0⟩ | ⟨pb, po, hpa⟩
    · rw [hpa] at HSW HSS q2
      have hwl := hb.size
      clear x1 x2 x3 hO hb hHi hc' hPi HE hpa HSM HP hpl
      generalize h[i].ps = ps at *
      generalize (cs i).pc = pc at *
      subst hps0
      simp only [List.length_nil] at HSW HSS HEND q2
      go_wp2_with fail
      refine wp_region_held_drew (S := fun w' => w'.cell? ⟨w.heap.size, 0, none⟩ = some (.slice (some ⟨b, o, none⟩) h.length cap) ∧ w'.cell? ⟨Y, 0, none⟩ = some (.slice (some ⟨g, 0, none⟩) h.length cap2) ∧ w'.cell? ⟨b, o + i * 3 + 2, none⟩ = some (.slice none 0 pc)) (by kernel_rfl) (HSW.out _ (Below.refl wr.heap.size wr).drew) (fun hHeld => ?_)
      refine takeIn 0 (v := ?vn0) rfl (by kernel_rfl) (by kernel_rfl) (by kernel_rfl) (fun _ _ _ h => h) ?wn0 (by assumption) ?yn0 ?rn0
      case wn0 => rfl
      case yn0 => (intro w hSw; (try dsimp only at hSw); go_simp; first | done | with_reducible rfl)
      simp only [Act.put, List.setIfInBounds_toArray, List.set_cons_zero, List.set_cons_succ]
      refine takeIn 1 (v := ?vn1) rfl (by kernel_rfl) (by kernel_rfl) (by kernel_rfl) (fun _ _ _ h => h) ?wn1 (by assumption) ?yn1 ?rn1
      case wn1 => rfl
      case yn1 => (intro w hSw; (try dsimp only at hSw); go_simp; first | done | with_reducible rfl)
      simp only [Act.put, List.setIfInBounds_toArray, List.set_cons_zero, List.set_cons_succ]
      refine takeIn 2 (v := ?vn2) rfl (by kernel_rfl) (by kernel_rfl) (by kernel_rfl) (fun _ _ _ h => h) ?wn2 (by assumption) ?yn2 ?rn2
      case wn2 => rfl
      case yn2 => (intro w hSw; (try dsimp only at hSw); go_simp; first | done | with_reducible rfl)
      simp only [Act.put, List.setIfInBounds_toArray, List.set_cons_zero, List.set_cons_succ]
      refine takeIn 4 (v := ?vn4) rfl (by kernel_rfl) (by kernel_rfl) (by kernel_rfl) (fun _ _ _ h => h) ?wn4 (by assumption) ?yn4 ?rn4
      case wn4 => rfl
      case yn4 => (intro w hSw; (try dsimp only at hSw); go_simp; first | done | with_reducible rfl)
      simp only [Act.put, List.setIfInBounds_toArray, List.set_cons_zero, List.set_cons_succ]
      refine takeIn 5 (v := ?vn5) rfl (by kernel_rfl) (by kernel_rfl) (by kernel_rfl) (fun _ _ _ h => h) ?wn5 (by assumption) ?yn5 ?rn5
      case wn5 => rfl
      case yn5 => (intro w hSw; (try dsimp only at hSw); go_simp; first | done | with_reducible rfl)
      simp only [Act.put, List.setIfInBounds_toArray, List.set_cons_zero, List.set_cons_succ]
      refine takeIn 6 (v := ?vn6) rfl (by kernel_rfl) (by kernel_rfl) (by kernel_rfl) (fun _ _ _ h => h) ?wn6 (by assumption) ?yn6 ?rn6
      case wn6 => rfl
      case yn6 => (intro w hSw; (try dsimp only at hSw); go_simp; first | done | with_reducible rfl)
      simp only [Act.put, List.setIfInBounds_toArray, List.set_cons_zero, List.set_cons_succ]
      refine takeIn 7 (v := ?vn7) rfl (by kernel_rfl) (by kernel_rfl) (by kernel_rfl) (fun _ _ _ h => h) ?wn7 (by assumption) ?yn7 ?rn7
      case wn7 => rfl
      case yn7 => (intro w hSw; (try dsimp only at hSw); go_simp; first | done | with_reducible rfl)
      simp only [Act.put, List.setIfInBounds_toArray, List.set_cons_zero, List.set_cons_succ]
      refine takeIn 8 (v := ?vn8) rfl (by kernel_rfl) (by kernel_rfl) (by kernel_rfl) (fun _ _ _ h => h) ?wn8 (by assumption) ?yn8 ?rn8
      case wn8 => rfl
      case yn8 => (intro w hSw; (try dsimp only at hSw); go_simp; first | done | with_reducible rfl)
      simp only [Act.put, List.setIfInBounds_toArray, List.set_cons_zero, List.set_cons_succ]
      refine takeIn 9 (v := ?vn9) rfl (by kernel_rfl) (by kernel_rfl) (by kernel_rfl) (fun _ _ _ h => h) ?wn9 (by assumption) ?yn9 ?rn9
      case wn9 => rfl
      case yn9 => (intro w hSw; (try dsimp only at hSw); go_simp; first | done | with_reducible rfl)
      simp only [Act.put, List.setIfInBounds_toArray, List.set_cons_zero, List.set_cons_succ]
      refine oneUp 3 rfl (by kernel_rfl) (by rfl) (fun K hK => ?_)
      go_simp
      have hA : Below wr.heap.size wr (wr.drew.alloc (.cells #[] 78)) := (Below.refl wr.heap.size wr).drew.alloc (Nat.le_refl _) _
      have hPO : POwn (wr.drew.alloc (.cells #[] 78)) wr.heap.size (.slice (some ⟨wr.heap.size, 0, none⟩) 0 0) [] := ⟨rfl, .inr ⟨wr.heap.size, 0, #[], rfl, Nat.le_refl _, heap_alloc_new wr.drew _, Nat.le_refl _, Nat.zero_le _, rfl, rfl⟩⟩
      show K _ (wr.drew.alloc (.cells #[] 78))
      generalize wr.drew.alloc _ = w2 at hA hPO ⊢
      refine hK.out _ _ (HSW.out _ hA) (fun hHeld2 => ?_)
      clear hK K
      (try simp only [Act.put, List.setIfInBounds_toArray, List.set_cons_zero, List.set_cons_succ])
      refine oneUp 10 rfl (by kernel_rfl) (by rfl) (fun K hK => ?_)
      go_simp
      refine hK.out _ _ (HSW.out _ hA) (fun hHeld3 => ?_)
      clear hK K hHeld hHeld2
      (try simp only [Act.put, List.setIfInBounds_toArray, List.set_cons_zero, List.set_cons_succ])
      refine takeIn 11 (v := ?vn11) rfl (by kernel_rfl) (by kernel_rfl) (by kernel_rfl) (fun _ _ _ h => h) ?wn11 (by assumption) ?yn11 ?rn11
      case wn11 => rfl
      case yn11 => (intro w hSw; (try dsimp only at hSw); go_simp; first | done | with_reducible rfl)
      simp only [Act.put, List.setIfInBounds_toArray, List.set_cons_zero, List.set_cons_succ]
      refine takeIn 12 (v := ?vn12) rfl (by kernel_rfl) (by kernel_rfl) (by kernel_rfl) (fun _ _ _ h => h) ?wn12 (by assumption) ?yn12 ?rn12
      case wn12 => rfl
      case yn12 => (intro w hSw; (try dsimp only at hSw); go_simp; first | done | with_reducible rfl)
      simp only [Act.put, List.setIfInBounds_toArray, List.set_cons_zero, List.set_cons_succ]
      obtain ⟨⟨u0, f1⟩, f2⟩ := HGC.out w2 hA
      have HOW : Hid (_ ∧ _) := ⟨hA, hPO⟩
      clear hA hPO
      refine oneUp 13 rfl (by kernel_rfl) (by rfl) (fun K hK => ?_)
      go_simp
      refine hK.out _ _ (HSS.out w2 _ HOW.out.1) (fun hHeld4 => ?_)
      clear hK K hHeld3 hHeld4
      refine wpAnyH_done (by kernel_rfl) ?_ _
      go_wp2_with fail
      exact ⟨⟨i + 1, by omega, by go_num, HEND.out w2 ⟨some ⟨wr.heap.size, 0, none⟩, 0⟩ HOW.out.1 HOW.out.2⟩, by simp [intOf]; omega⟩
    · have HPI : Hid (∀ W' : World, Below wr.heap.size wr W' → PsIn W' B (some ⟨pb, po, none⟩) h[i].ps) := fun W' hW => by
        have := (hHi.under hW).2 i hlt
        rwa [hpa] at this
      rw [hpa] at HSW HSS q2
      have hwl := hb.size
      clear x1 x2 x3 hO hb hHi hc' hPi HE hpa
      generalize h[i].ps = ps at *
      generalize (cs i).pc = pc at *
      go_wp2_with fail
      refine wp_region_held_drew (S := fun w' => w'.cell? ⟨w.heap.size, 0, none⟩ = some (.slice (some ⟨b, o, none⟩) h.length cap) ∧ w'.cell? ⟨Y, 0, none⟩ = some (.slice (some ⟨g, 0, none⟩) h.length cap2) ∧ w'.cell? ⟨b, o + i * 3 + 2, none⟩ = some (.slice (some ⟨pb, po, none⟩) ps.length pc)) (by kernel_rfl) (HSW.out _ (Below.refl wr.heap.size wr).drew) (fun hHeld => ?_)
      refine takeIn 0 (v := ?va0) rfl (by kernel_rfl) (by kernel_rfl) (by kernel_rfl) (fun _ _ _ h => h) ?wa0 (by assumption) ?ya0 ?ra0
      case wa0 => rfl
      case ya0 => (intro w hSw; (try dsimp only at hSw); go_simp; first | done | with_reducible rfl)
      simp only [Act.put, List.setIfInBounds_toArray, List.set_cons_zero, List.set_cons_succ]
      refine takeIn 1 (v := ?va1) rfl (by kernel_rfl) (by kernel_rfl) (by kernel_rfl) (fun _ _ _ h => h) ?wa1 (by assumption) ?ya1 ?ra1
      case wa1 => rfl
      case ya1 => (intro w hSw; (try dsimp only at hSw); go_simp; first | done | with_reducible rfl)
      simp only [Act.put, List.setIfInBounds_toArray, List.set_cons_zero, List.set_cons_succ]
      refine takeIn 2 (v := ?va2) rfl (by kernel_rfl) (by kernel_rfl) (by kernel_rfl) (fun _ _ _ h => h) ?wa2 (by assumption) ?ya2 ?ra2
      case wa2 => rfl
      case ya2 => (intro w hSw; (try dsimp only at hSw); go_simp; first | done | with_reducible rfl)
      simp only [Act.put, List.setIfInBounds_toArray, List.set_cons_zero, List.set_cons_succ]
      refine takeIn 4 (v := ?va4) rfl (by kernel_rfl) (by kernel_rfl) (by kernel_rfl) (fun _ _ _ h => h) ?wa4 (by assumption) ?ya4 ?ra4
      case wa4 => rfl
      case ya4 => (intro w hSw; (try dsimp only at hSw); go_simp; first | done | with_reducible rfl)
      simp only [Act.put, List.setIfInBounds_toArray, List.set_cons_zero, List.set_cons_succ]
      refine takeIn 5 (v := ?va5) rfl (by kernel_rfl) (by kernel_rfl) (by kernel_rfl) (fun _ _ _ h => h) ?wa5 (by assumption) ?ya5 ?ra5
      case wa5 => rfl
      case ya5 => (intro w hSw; (try dsimp only at hSw); go_simp; first | done | with_reducible rfl)
      simp only [Act.put, List.setIfInBounds_toArray, List.set_cons_zero, List.set_cons_succ]
      refine takeIn 6 (v := ?va6) rfl (by kernel_rfl) (by kernel_rfl) (by kernel_rfl) (fun _ _ _ h => h) ?wa6 (by assumption) ?ya6 ?ra6
      case wa6 => rfl
      case ya6 => (intro w hSw; (try dsimp only at hSw); go_simp; first | done | with_reducible rfl)
      simp only [Act.put, List.setIfInBounds_toArray, List.set_cons_zero, List.set_cons_succ]
      refine takeIn 7 (v := ?va7) rfl (by kernel_rfl) (by kernel_rfl) (by kernel_rfl) (fun _ _ _ h => h) ?wa7 (by assumption) ?ya7 ?ra7
      case wa7 => rfl
      case ya7 => (intro w hSw; (try dsimp only at hSw); go_simp; first | done | with_reducible rfl)
      simp only [Act.put, List.setIfInBounds_toArray, List.set_cons_zero, List.set_cons_succ]
      refine takeIn 8 (v := ?va8) rfl (by kernel_rfl) (by kernel_rfl) (by kernel_rfl) (fun _ _ _ h => h) ?wa8 (by assumption) ?ya8 ?ra8
      case wa8 => rfl
      case ya8 => (intro w hSw; (try dsimp only at hSw); go_simp; first | done | with_reducible rfl)
      simp only [Act.put, List.setIfInBounds_toArray, List.set_cons_zero, List.set_cons_succ]
      refine takeIn 9 (v := ?va9) rfl (by kernel_rfl) (by kernel_rfl) (by kernel_rfl) (fun _ _ _ h => h) ?wa9 (by assumption) ?ya9 ?ra9
      case wa9 => rfl
      case ya9 => (intro w hSw; (try dsimp only at hSw); go_simp; first | done | with_reducible rfl)
      simp only [Act.put, List.setIfInBounds_toArray, List.set_cons_zero, List.set_cons_succ]
      refine oneUp 3 rfl (by kernel_rfl) (by rfl) (fun K hK => ?_)
      go_simp
      have hA : Below wr.heap.size wr (wr.drew.alloc (.cells #[] 78)) := (Below.refl wr.heap.size wr).drew.alloc (Nat.le_refl _) _
      have hPO : POwn (wr.drew.alloc (.cells #[] 78)) wr.heap.size (.slice (some ⟨wr.heap.size, 0, none⟩) 0 0) [] := ⟨rfl, .inr ⟨wr.heap.size, 0, #[], rfl, Nat.le_refl _, heap_alloc_new wr.drew _, Nat.le_refl _, Nat.zero_le _, rfl, rfl⟩⟩
      have hAs : wr.heap.size ≤ (wr.drew.alloc (.cells #[] 78)).heap.size := hA.size
      refine hK.out _ _ (HSW.out _ hA) (fun hHeld2 => ?_)
      clear hK K
      refine oneUp 10 rfl (by kernel_rfl) (by rfl) (fun K hK => ?_)
      refine stepN_prop rfl (.tmp 20) (.tmp 26) rfl wr.heap.size _ (by rfl) hPO pb po pc B ps (by rfl) (HPI.out _ hA) (by omega) hAs ?_
      intro v' w2 hown2 hgrow2
      obtain ⟨a3, cap3, rfl⟩ := own_shape hown2
      have hB2 : Below wr.heap.size wr w2 := hA.grown hgrow2 hAs (fun q hq => by simp [Value.ownBlock] at hq; omega)
      refine hK.out _ _ (HSW.out _ hB2) (fun hHeld3 => ?_)
      clear hK K hHeld hHeld2 hPO hA hAs hgrow2
      simp only [Act.put, List.setIfInBounds_toArray, List.set_cons_zero, List.set_cons_succ]
      refine takeIn 11 (v := ?va11) rfl (by kernel_rfl) (by kernel_rfl) (by kernel_rfl) (fun _ _ _ h => h) ?wa11 (by assumption) ?ya11 ?ra11
      case wa11 => rfl
      case ya11 => (intro w hSw; (try dsimp only at hSw); go_simp; first | done | with_reducible rfl)
      simp only [Act.put, List.setIfInBounds_toArray, List.set_cons_zero, List.set_cons_succ]
      refine takeIn 12 (v := ?va12) rfl (by kernel_rfl) (by kernel_rfl) (by kernel_rfl) (fun _ _ _ h => h) ?wa12 (by assumption) ?ya12 ?ra12
      case wa12 => rfl
      case ya12 => (intro w hSw; (try dsimp only at hSw); go_simp; first | done | with_reducible rfl)
      simp only [Act.put, List.setIfInBounds_toArray, List.set_cons_zero, List.set_cons_succ]
      obtain ⟨⟨u0, f1⟩, f2⟩ := HGC.out w2 hB2
      have HOW : Hid (_ ∧ _) := ⟨hB2, hown2⟩
      clear hB2 hown2
      refine oneUp 13 rfl (by kernel_rfl) (by rfl) (fun K hK => ?_)
      go_simp
      refine hK.out _ _ (HSS.out w2 _ HOW.out.1) (fun hHeld4 => ?_)
      clear hK K hHeld3 hHeld4
      refine wpAnyH_done (by kernel_rfl) ?_ _
      go_wp2_with fail
      exact ⟨⟨i + 1, by omega, by go_num, HEND.out w2 ⟨a3, cap3⟩ HOW.out.1 HOW.out.2⟩, by simp [intOf]; omega⟩

end Go.Proofs.Ytlmlmdmechhalaa

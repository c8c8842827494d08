/-
  The walks of the program's put (of all holders) and HeapPut.
-/
import Derived.Test.YtlmlmdmechhalaaHpB
import Derived.Test.YtlmlmdmechhalaaRegL
namespace Go.Proofs.Ytlmlmdmechhalaa
open Go.RowKit
open Hp (PP OO propC rP kl encP putAll)

theorem Try.mPutH (b : Nat) (w : World) : (Go.method 271 135 (.pointer (some ⟨b, 0, none⟩)) "loop.example/g00317/impl.put").run Try.prog w = .ok (117, .pointer (some ⟨b, 0, none⟩)) w := by kernel_rfl
theorem Try.mPutA (b : Nat) (w : World) : (Go.method 271 126 (.pointer (some ⟨b, 0, none⟩)) "loop.example/g00317/impl.put").run Try.prog w = .ok (113, .pointer (some ⟨b, 0, none⟩)) w := by kernel_rfl

/-- All holders behind the change of one of them. -/
theorem AllAt.turn {w w' : World} {lo : Nat} {v : Value} {h : List OO} {ds : Nat → HC} (k : AllAt w lo v h h.length ds) {i : Nat} (hi : i < h.length) {x' : OO} (t : Turned w w' lo h[i] x' (ds i)) :
    (∃ ds', AllW w' lo v (h.set i x') ds') ∧ ∀ B a, Below B a w → B ≤ lo → B ≤ w.heap.size → Below B a w' := by
  obtain ⟨c', hc, hb, hT, hm⟩ := t
  have hHi := k.2.1 i hi hi
  refine ⟨⟨fun j => if j = i then c' else ds j, ?_, fun j hj => ?_⟩, fun B a h1 h2 h3 => Marks.below h1 hm (fun q hq => Nat.le_trans h2 (hHi.mine hq).1) h3⟩
  · have e : rowV (fun j => if j = i then c' else ds j) (h.set i x').length = rowV ds h.length := by
      rw [List.length_set]
      unfold rowV
      refine List.map_congr_left fun j _ => ?_
      by_cases e : j = i
      · subst e
        simp only [if_true]
        unfold hV
        rw [hb, hT]
      · simp only [if_neg e]
    rw [e, List.length_set]
    refine row_same k.1 fun q hq => hm.block q (World.ownsRow.lt k.1 q hq).2 (fun hq2 => ?_)
    obtain ⟨_, cc, hcc⟩ := own_apart k.1 hq
    exact hHi.apart hq2 hcc
  · have hj' : j < h.length := by rw [List.length_set] at hj; exact hj
    by_cases e : j = i
    · subst e
      simp only [if_true, List.getElem_set_self]
      exact hc
    · simp only [if_neg e, List.getElem_set_ne (fun e2 => e e2.symm)]
      have hHj := k.2.1 j hj' hj'
      refine hHj.same fun q hq => hm.block q (hHj.mine hq).2 (fun hq2 => ?_)
      rcases Nat.lt_or_gt_of_ne e with e | e
      · exact k.2.2 j i hj' hi e hi q hq hq2
      · exact k.2.2 i j hi hj' e hj' q hq2 hq

set_option maxHeartbeats 4000000 in
set_option maxRecDepth 100000 in
theorem iPutAll (w : World) (lo g cap : Nat) (h : List OO) (ds : Nat → HC) (i : Nat) (key : ByteArray) (v : Val.VV) (hi : i < h.length) (hpl : h[i].ps.length ≤ 1048576) (hk : key.size ≤ 9223372036854775807) (hall : AllAt w lo (.slice (some ⟨g, 0, none⟩) h.length cap) h h.length ds) :
    Calls Try.prog 43 #[.slice (some ⟨g, 0, none⟩) h.length cap, .int .i64 i, .string key, .agg (vC v)] w fun e w' => e = .returned (.tuple #[]) ∧ (∃ ds', AllW w' lo (.slice (some ⟨g, 0, none⟩) h.length cap) (if prB h.length ⟨key, v, false, false⟩ then h.set i (putO h[i] key v) else h) ds') ∧ ∀ B a, Below B a w → B ≤ lo → B ≤ w.heap.size → Below B a w' := by
  have C1 := fun (W : World) => iRightProp ⟨key, v, false, false⟩ h.length W
  have C2 := fun (W : World) (hW : Below w.heap.size w W) => iPut W lo h[i] (ds i) key v hk hpl ((hall.2.1 i hi hi).under hW)
  have C2A := fun (ht : (ds i).t = 133) (W : World) (hW : Below w.heap.size w W) => iPutA W lo h[i] (ds i) key v hk hpl ((hall.2.1 i hi hi).under hW) ht
  have HT : Hid (∀ W W' x', Below w.heap.size w W → Turned W W' lo h[i] x' (ds i) → (∃ ds', AllW W' lo (.slice (some ⟨g, 0, none⟩) h.length cap) (h.set i x') ds') ∧ ∀ B a, Below B a w → B ≤ lo → B ≤ w.heap.size → Below B a W') := fun W W' x' hW t => ⟨((hall.under hW).turn hi t).1, fun B a h1 h2 h3 => ((hall.under hW).turn hi t).2 B a (h1.trans (hW.mono h3)) h2 (Nat.le_trans h3 hW.size)⟩
  have HS : Hid (∀ W W' x', Below w.heap.size w W → Turned W W' lo h[i] x' (ds i) → ∀ q c, (q = g ∨ w.heap.size ≤ q) → q < W.heap.size → W'.cell? ⟨q, c, none⟩ = W.cell? ⟨q, c, none⟩) := fun W W' x' hW t q c hq hl2 => by
    obtain ⟨c', hc, hb, hT, hm⟩ := t
    have hHi := hall.2.1 i hi hi
    refine World.cell?_of_block (w := W) (hm.block q hl2 (fun hq2 => ?_))
    rcases hq with rfl | hq
    · obtain ⟨_, cc, hcc⟩ := own_apart (hall.under hW).1 (k := q) (by simp [Value.ownBlock])
      exact (hHi.under hW).apart hq2 hcc
    · exact absurd (hHi.mine hq2).2 (by omega)
  have HN : Hid (∀ W, Below w.heap.size w W → (∃ ds', AllW W lo (.slice (some ⟨g, 0, none⟩) h.length cap) h ds') ∧ ∀ B a, Below B a w → B ≤ lo → B ≤ w.heap.size → Below B a W) := fun W hW => ⟨⟨ds, (hall.under hW).allW⟩, fun B a h1 _ h3 => h1.trans (hW.mono h3)⟩
  have HCE : Hid (∀ W, Below w.heap.size w W → W.cell? ⟨g, i, none⟩ = some (.iface (ds i).T (.pointer (some ⟨(ds i).b, 0, none⟩)))) := fun W hW => (((hall.under hW).1).cellAt i (by omega)).trans (rowV_get ds h.length i hi)
  have hTT := (hall.2.1 i hi hi).1
  unfold hTy at hTT
  have m1 := Try.mPutH
  have m2 := Try.mPutA
  have HB0 : Hid (∀ o, Below w.heap.size w (w.alloc o)) := fun o => (Below.refl _ _).alloc (Nat.le_refl _) o
  obtain ⟨vk, vn, vt⟩ := v
  generalize putO h[i] key ⟨vk, vn, vt⟩ = x' at *
  generalize prB h.length ⟨key, ⟨vk, vn, vt⟩, false, false⟩ = pb at *
  unfold vC at C2 C2A ⊢
  unfold propC at C1
  dsimp only at C1 C2 C2A ⊢
  have H1 : Hid _ := C1
  have H2 : Hid _ := C2
  have H2A : Hid _ := C2A
  have hi' : (i : Int) < (h.length : Int) := by omega
  clear C1 C2 C2A hall
  generalize (ds i).T = TY at *
  generalize (ds i).b = bb at *
  go_enter Try.func43, Try.ntmps43
  go_wp2_with fail
  refine (H1.out _).mono ?_
  rintro e w1 ⟨rfl, hb1⟩
  have hbw := (HB0.out (.cells #[.int .i64 vk, .int .i64 vn, .string vt] 27)).trans (hb1.mono (HB0.out _).size)
  have hX := (hb1.block w.heap.size (by simp)).trans (heap_alloc_new w (.cells #[.int .i64 vk, .int .i64 vn, .string vt] 27))
  obtain ⟨z0, z1, z2⟩ := three_ofF hX
  have HBW : Hid (Below w.heap.size w w1) := hbw
  have hcell := HCE.out w1 hbw
  have hgl : g < w1.drew.heap.size := World.block_lt_of_cell? w1 _ hcell
  have hXs : w.heap.size < w1.drew.heap.size := World.block_lt_of_cell? w1 _ z0
  clear hX hbw hb1
  cases pb
  · go_wp2_with fail
    exact bodyPost_end (v := .tuple #[]) (by simp [results, Try.results43, go_sem]) rfl ⟨rfl, HN.out w1 HBW.out⟩
  · generalize hX : w.heap.size = X at z0 z1 z2 hXs ⊢
    have hXl : w.heap.size ≤ X := by omega
    clear hX
    go_wp2_with fail
    rcases hTT with ⟨rfl, -⟩ | ⟨rfl, hte⟩
    · refine wp_region_held_drew (S := fun w' => w'.cell? ⟨g, i, none⟩ = some (.iface 135 (.pointer (some ⟨bb, 0, none⟩))) ∧ w'.cell? ⟨X, 0, none⟩ = some (.int .i64 vk) ∧ w'.cell? ⟨X, 1, none⟩ = some (.int .i64 vn) ∧ w'.cell? ⟨X, 2, none⟩ = some (.string vt)) (by kernel_rfl) ⟨hcell, z0, z1, z2⟩ (fun hHeld => ?_)
      refine takeIn 0 (v := ?va0) rfl (by kernel_rfl) (by kernel_rfl) (by kernel_rfl) (fun _ _ _ h => h) ?wa0 (by assumption) ?ya0 ?ra0
      case wa0 => rfl
      case ya0 => (intro w hSw; (try dsimp only at hSw); go_simp; first | done | with_reducible rfl)
      simp only [Act.put, List.setIfInBounds_toArray, List.set_cons_zero, List.set_cons_succ]
      refine takeIn 1 (v := ?va1) rfl (by kernel_rfl) (by kernel_rfl) (by kernel_rfl) (fun _ _ _ h => h) ?wa1 (by assumption) ?ya1 ?ra1
      case wa1 => rfl
      case ya1 => (intro w hSw; (try dsimp only at hSw); go_simp; first | done | with_reducible rfl)
      simp only [Act.put, List.setIfInBounds_toArray, List.set_cons_zero, List.set_cons_succ]
      refine takeIn 2 (v := ?va2) rfl (by kernel_rfl) (by kernel_rfl) (by kernel_rfl) (fun _ _ _ h => h) ?wa2 (by assumption) ?ya2 ?ra2
      case wa2 => rfl
      case ya2 => (intro w hSw; (try dsimp only at hSw); go_simp; first | done | with_reducible rfl)
      simp only [Act.put, List.setIfInBounds_toArray, List.set_cons_zero, List.set_cons_succ]
      refine takeIn 3 (v := ?va3) rfl (by kernel_rfl) (by kernel_rfl) (by kernel_rfl) (fun _ _ _ h => h) ?wa3 (by assumption) ?ya3 ?ra3
      case wa3 => rfl
      case ya3 => (intro w hSw; (try dsimp only at hSw); go_simp; first | done | with_reducible rfl)
      simp only [Act.put, List.setIfInBounds_toArray, List.set_cons_zero, List.set_cons_succ]
      refine takeIn 4 (v := ?va4) rfl (by kernel_rfl) (by kernel_rfl) (by kernel_rfl) (fun _ _ _ h => h) ?wa4 (by assumption) ?ya4 ?ra4
      case wa4 => rfl
      case ya4 => (intro w hSw; (try dsimp only at hSw); go_simp; first | done | with_reducible rfl)
      simp only [Act.put, List.setIfInBounds_toArray, List.set_cons_zero, List.set_cons_succ]
      refine takeIn 5 (v := ?va5) rfl (by kernel_rfl) (by kernel_rfl) (by kernel_rfl) (fun _ _ _ h => h) ?wa5 (by assumption) ?ya5 ?ra5
      case wa5 => rfl
      case ya5 => (intro w hSw; (try dsimp only at hSw); go_simp; first | done | with_reducible rfl)
      simp only [Act.put, List.setIfInBounds_toArray, List.set_cons_zero, List.set_cons_succ]
      refine oneUp 6 rfl (by kernel_rfl) (by rfl) (fun K hK => ?_)
      go_simp
      refine (H2.out _ HBW.out.drew).mono ?_
      rintro e w2 ⟨rfl, ht⟩
      have hS2 := HS.out _ _ _ HBW.out.drew ht
      refine hK.out _ _ ⟨(hS2 g i (.inl rfl) hgl).trans hHeld.1, (hS2 X 0 (.inr hXl) hXs).trans hHeld.2.1, (hS2 X 1 (.inr hXl) hXs).trans hHeld.2.2.1, (hS2 X 2 (.inr hXl) hXs).trans hHeld.2.2.2⟩ (fun _ => ?_)
      refine wpAnyH_done (by kernel_rfl) ?_ _
      go_wp2_with fail
      exact bodyPost_end (v := .tuple #[]) (by simp [results, Try.results43, go_sem]) rfl ⟨rfl, HT.out _ _ _ HBW.out.drew ht⟩
    · refine wp_region_held_drew (S := fun w' => w'.cell? ⟨g, i, none⟩ = some (.iface 126 (.pointer (some ⟨bb, 0, none⟩))) ∧ w'.cell? ⟨X, 0, none⟩ = some (.int .i64 vk) ∧ w'.cell? ⟨X, 1, none⟩ = some (.int .i64 vn) ∧ w'.cell? ⟨X, 2, none⟩ = some (.string vt)) (by kernel_rfl) ⟨hcell, z0, z1, z2⟩ (fun hHeld => ?_)
      refine takeIn 0 (v := ?vb0) rfl (by kernel_rfl) (by kernel_rfl) (by kernel_rfl) (fun _ _ _ h => h) ?wb0 (by assumption) ?yb0 ?rb0
      case wb0 => rfl
      case yb0 => (intro w hSw; (try dsimp only at hSw); go_simp; first | done | with_reducible rfl)
      simp only [Act.put, List.setIfInBounds_toArray, List.set_cons_zero, List.set_cons_succ]
      refine takeIn 1 (v := ?vb1) rfl (by kernel_rfl) (by kernel_rfl) (by kernel_rfl) (fun _ _ _ h => h) ?wb1 (by assumption) ?yb1 ?rb1
      case wb1 => rfl
      case yb1 => (intro w hSw; (try dsimp only at hSw); go_simp; first | done | with_reducible rfl)
      simp only [Act.put, List.setIfInBounds_toArray, List.set_cons_zero, List.set_cons_succ]
      refine takeIn 2 (v := ?vb2) rfl (by kernel_rfl) (by kernel_rfl) (by kernel_rfl) (fun _ _ _ h => h) ?wb2 (by assumption) ?yb2 ?rb2
      case wb2 => rfl
      case yb2 => (intro w hSw; (try dsimp only at hSw); go_simp; first | done | with_reducible rfl)
      simp only [Act.put, List.setIfInBounds_toArray, List.set_cons_zero, List.set_cons_succ]
      refine takeIn 3 (v := ?vb3) rfl (by kernel_rfl) (by kernel_rfl) (by kernel_rfl) (fun _ _ _ h => h) ?wb3 (by assumption) ?yb3 ?rb3
      case wb3 => rfl
      case yb3 => (intro w hSw; (try dsimp only at hSw); go_simp; first | done | with_reducible rfl)
      simp only [Act.put, List.setIfInBounds_toArray, List.set_cons_zero, List.set_cons_succ]
      refine takeIn 4 (v := ?vb4) rfl (by kernel_rfl) (by kernel_rfl) (by kernel_rfl) (fun _ _ _ h => h) ?wb4 (by assumption) ?yb4 ?rb4
      case wb4 => rfl
      case yb4 => (intro w hSw; (try dsimp only at hSw); go_simp; first | done | with_reducible rfl)
      simp only [Act.put, List.setIfInBounds_toArray, List.set_cons_zero, List.set_cons_succ]
      refine takeIn 5 (v := ?vb5) rfl (by kernel_rfl) (by kernel_rfl) (by kernel_rfl) (fun _ _ _ h => h) ?wb5 (by assumption) ?yb5 ?rb5
      case wb5 => rfl
      case yb5 => (intro w hSw; (try dsimp only at hSw); go_simp; first | done | with_reducible rfl)
      simp only [Act.put, List.setIfInBounds_toArray, List.set_cons_zero, List.set_cons_succ]
      refine oneUp 6 rfl (by kernel_rfl) (by rfl) (fun K hK => ?_)
      go_simp
      refine (H2A.out hte _ HBW.out.drew).mono ?_
      rintro e w2 ⟨rfl, ht⟩
      have hS2 := HS.out _ _ _ HBW.out.drew ht
      refine hK.out _ _ ⟨(hS2 g i (.inl rfl) hgl).trans hHeld.1, (hS2 X 0 (.inr hXl) hXs).trans hHeld.2.1, (hS2 X 1 (.inr hXl) hXs).trans hHeld.2.2.1, (hS2 X 2 (.inr hXl) hXs).trans hHeld.2.2.2⟩ (fun _ => ?_)
      refine wpAnyH_done (by kernel_rfl) ?_ _
      go_wp2_with fail
      exact bodyPost_end (v := .tuple #[]) (by simp [results, Try.results43, go_sem]) rfl ⟨rfl, HT.out _ _ _ HBW.out.drew ht⟩

end Go.Proofs.Ytlmlmdmechhalaa

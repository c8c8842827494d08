/-
  The walks of the specification's DrawHeapHas and DrawHeapPut.
-/
import Derived.Test.YtlmlmdmechhalaaHpDh
import Derived.Test.YtlmlmdmechhalaaHpDr
import Derived.Test.YtlmlmdmechhalaaVDrawV
namespace Go.Proofs.Ytlmlmdmechhalaa
open Go.RowKit
open Hp (PP OO propC)

theorem bytes_under {w w' : World} {a : Option Addr} {cs : List UInt8} (h : BytesIn w a cs) (hb : Below w.heap.size w w') : BytesIn w' a cs := by
  rcases h with h | ⟨b, o, e, hc⟩
  · exact .inl h
  · exact .inr ⟨b, o, e, fun i hi => by rw [hb.cell (World.block_lt_of_cell? w _ (hc i hi))]; exact hc i hi⟩
theorem HIn.keepK {W W' : World} {S B : Nat} {a : Option Addr} {h : List OO} {cs : Nat → OC} (k : HIn W B a h cs) (hk : Keep S W W') (hS : S < B) : HIn W' B a h cs := by
  refine ⟨?_, fun i hi => ?_⟩
  · rcases k.1 with e | ⟨b, o, e, hB, hc⟩
    · exact .inl e
    · refine .inr ⟨b, o, e, hB, fun i hi => ?_⟩
      obtain ⟨c0, c1, c2⟩ := hc i hi
      have t := fun x => World.cell?_of_block (w := W) (w' := W') (a := ⟨b, x, none⟩) (hk.block b (World.block_lt_of_cell? W _ c0) (by omega))
      exact ⟨(t _).trans c0, (t _).trans c1, (t _).trans c2⟩
  · by_cases he : h[i].ps = []
    · exact .inl he
    · rcases k.2 i hi with e | ⟨b, o, e, hB, hc⟩
      · exact absurd e he
      · refine (k.2 i hi).same fun b' o' e' => ?_
        rw [e] at e'
        injection e' with e'
        injection e' with e1 _ _
        subst e1
        have hpos : 0 < h[i].ps.length := List.length_pos_iff.2 he
        exact hk.block b (World.block_lt_of_cell? W _ (hc 0 hpos).1) (by omega)
theorem HIn.low {W : World} {B B' : Nat} {a : Option Addr} {h : List OO} {cs : Nat → OC} (k : HIn W B a h cs) (hB : B' ≤ B) : HIn W B' a h cs := by
  refine ⟨?_, fun i hi => ?_⟩
  · rcases k.1 with e | ⟨b, o, e, hb, hc⟩
    · exact .inl e
    · exact .inr ⟨b, o, e, by omega, hc⟩
  · rcases k.2 i hi with e | ⟨b, o, e, hb, hc⟩
    · exact .inl e
    · exact .inr ⟨b, o, e, by omega, hc⟩

set_option maxHeartbeats 8000000 in
set_option maxRecDepth 100000 in
theorem sDrawHas (a0 : Option Addr) (len cap0 : Nat) (bs : List UInt8) (w : World) (hl : bs.length = len) (hlb : len ≤ 1048576) (hB : BytesIn w a0 bs) :
    Calls Try.prog 45 #[.slice a0 len cap0] w fun e w' => ∃ a cap hs cs ref key, e = .returned (.tuple #[.agg #[.slice a hs.length cap], .int .i64 ref, .string key]) ∧ SmallD hs ∧ key.size ≤ 6 ∧ Below w.heap.size w w' ∧ HIn w' w.heap.size a hs cs ∧ CapH hs cs := by
  have C1 := fun (W : World) (hW : Below w.heap.size w W) => sSource a0 len cap0 bs W hl hlb (bytes_under hB hW)
  have H2 : Hid _ := fun (S : Nat) (W : World) (h : Src W S) => sHeapD S W h
  have H3 : Hid _ := fun (S : Nat) (a : Option Addr) (n cap : Nat) (W : World) (h1 : 1 ≤ n) (h4 : n ≤ 4) (h : Src W S) => sRefD S a n cap W h1 h4 h
  have H4 : Hid _ := fun (S : Nat) (W : World) (h : Src W S) => sKey S W h
  have HB0 : Hid (∀ o, Below w.heap.size w (w.alloc o)) := fun o => (Below.refl _ _).alloc (Nat.le_refl _) o
  have H1 : Hid _ := C1
  clear C1 hB
  go_enter Try.func45, Try.ntmps45
  go_wp2_with fail
  refine (H1.out _ (HB0.out _)).mono ?_
  rintro e W1 ⟨rfl, hs1, hb1⟩
  rw [World.size_alloc] at hs1 ⊢
  have hR1 : W1.heap[w.heap.size]? = some (.cells #[.slice none 0 0] 25 (0, 0)) := (hb1.block w.heap.size (by simp)).trans (heap_alloc_new w _)
  have hbw1 : Below w.heap.size w W1 := (HB0.out (.cells #[.slice none 0 0] 25)).trans (hb1.mono (HB0.out _).size)
  have HS1 : Hid (Src W1 (w.heap.size + 1) ∧ Below w.heap.size w W1 ∧ W1.heap[w.heap.size]? = some (.cells #[.slice none 0 0] 25 (0, 0))) := ⟨hs1, hbw1, hR1⟩
  clear hs1 hb1 hR1 hbw1
  generalize hSe : w.heap.size + 1 = S at *
  go_wp2_with fail
  refine (H2.out S W1 HS1.out.1).mono ?_
  rintro e W2 ⟨a, cap, hs, cs, rfl, hsm, hs2, hk2, hin, hcp⟩
  have HCP : Hid (CapH hs cs) := hcp
  clear hcp
  have hS1 := HS1.out.1.lt
  have HW2 : Hid (Src W2 S ∧ Below w.heap.size w W2 ∧ W2.heap[w.heap.size]? = some (.cells #[.slice none 0 0] 25 (0, 0)) ∧ HIn W2 W1.heap.size a hs cs ∧ S < W1.heap.size ∧ W1.heap.size ≤ W2.heap.size) := ⟨hs2, ⟨hk2.os.trans HS1.out.2.1.os, hk2.tape.trans HS1.out.2.1.tape, hk2.output.trans HS1.out.2.1.output, Nat.le_trans HS1.out.2.1.size hk2.size, fun q hq => (hk2.block q (Nat.lt_of_lt_of_le hq HS1.out.2.1.size) (by omega)).trans (HS1.out.2.1.block q hq)⟩, (hk2.block _ (by omega) (by omega)).trans HS1.out.2.2, hin, hS1, hk2.size⟩
  clear hs2 hk2 hin
  go_wp2_with fail
  generalize hG : W2.alloc _ = W3
  have HW3 : Hid (Src W3 S ∧ Below w.heap.size w W3 ∧ W3.heap[w.heap.size]? = some (.cells #[.slice none 0 0] 25 (0, 0)) ∧ HIn W3 W1.heap.size a hs cs ∧ W3.heap[W2.heap.size]? = some (.cells #[.slice a hs.length cap] 25 (0, 0))) := by
    rw [← hG]
    have hb : Below W2.heap.size W2 (W2.alloc (.cells #[.slice a hs.length cap] 25)) := (Below.refl _ _).alloc (Nat.le_refl _) _
    exact ⟨src_grow1 HW2.out.1, HW2.out.2.1.trans (hb.mono HW2.out.2.1.size), (hb.block _ (Array.getElem?_eq_some_iff.1 HW2.out.2.2.1).1).trans HW2.out.2.2.1, HW2.out.2.2.2.1.under hb, heap_alloc_new _ _⟩
  have hX : S < W2.heap.size := by have := HW2.out.2.2.2.2; omega
  clear hG HW2
  generalize W2.heap.size = X at *
  refine (H3.out S a hs.length cap W3 hsm.1.1 hsm.1.2 HW3.out.1).mono ?_
  rintro e W4 ⟨ref, rfl, hs4, hk4⟩
  have HW4 : Hid (Src W4 S ∧ Below w.heap.size w W4 ∧ W4.heap[w.heap.size]? = some (.cells #[.slice none 0 0] 25 (0, 0)) ∧ HIn W4 W1.heap.size a hs cs ∧ W4.heap[X]? = some (.cells #[.slice a hs.length cap] 25 (0, 0))) := ⟨hs4, ⟨hk4.os.trans HW3.out.2.1.os, hk4.tape.trans HW3.out.2.1.tape, hk4.output.trans HW3.out.2.1.output, Nat.le_trans HW3.out.2.1.size hk4.size, fun q hq => (hk4.block q (Nat.lt_of_lt_of_le hq HW3.out.2.1.size) (by omega)).trans (HW3.out.2.1.block q hq)⟩, (hk4.block _ (Array.getElem?_eq_some_iff.1 HW3.out.2.2.1).1 (by omega)).trans HW3.out.2.2.1, HW3.out.2.2.2.1.keepK hk4 (by omega), (hk4.block _ (Array.getElem?_eq_some_iff.1 HW3.out.2.2.2.2).1 (by omega)).trans HW3.out.2.2.2.2⟩
  clear hs4 hk4 HW3
  go_wp2_with fail
  have HSM : Hid (SmallD hs) := hsm
  clear hsm
  refine wp_region_held_drew (S := fun W' => W'.cell? ⟨X, 0, none⟩ = some (.slice a hs.length cap)) (by kernel_rfl) (one_of HW4.out.2.2.2.2).1 (fun hHeld => ?_)
  refine takeIn 0 (v := ?va0) rfl (by kernel_rfl) (by kernel_rfl) (by kernel_rfl) (fun _ _ _ h => h) ?wa0 (by assumption) ?ya0 ?ra0
  case wa0 => rfl
  case ya0 => (intro w hSw; (try dsimp only at hSw); go_simp; first | done | with_reducible rfl)
  simp only [Act.put, List.setIfInBounds_toArray, List.set_cons_zero, List.set_cons_succ]
  refine takeIn 1 (v := ?va1) rfl (by kernel_rfl) (by kernel_rfl) (by kernel_rfl) (fun _ _ _ h => h) ?wa1 (by assumption) ?ya1 ?ra1
  case wa1 => rfl
  case ya1 => (intro w hSw; (try dsimp only at hSw); go_simp; first | done | with_reducible rfl)
  simp only [Act.put, List.setIfInBounds_toArray, List.set_cons_zero, List.set_cons_succ]
  refine takeIn 2 (v := ?va2) rfl (by kernel_rfl) (by kernel_rfl) (by kernel_rfl) (fun _ _ _ h => h) ?wa2 (by assumption) ?ya2 ?ra2
  case wa2 => rfl
  case ya2 => (intro w hSw; (try dsimp only at hSw); go_simp; first | done | with_reducible rfl)
  simp only [Act.put, List.setIfInBounds_toArray, List.set_cons_zero, List.set_cons_succ]
  refine oneUp 3 rfl (by kernel_rfl) (by rfl) (fun K hK => ?_)
  go_simp
  refine (H4.out S _ (HW4.out.1.below (Below.refl _ _).drew)).mono ?_
  rintro e W5 ⟨key, hkey, rfl, hs5, hk5'⟩
  have hk5 : Keep S W4 W5 := (Keep.refl S W4).drew.trans hk5'
  have HW5 : Hid (Below w.heap.size w W5 ∧ W5.heap[w.heap.size]? = some (.cells #[.slice none 0 0] 25 (0, 0)) ∧ HIn W5 W1.heap.size a hs cs ∧ W5.heap[X]? = some (.cells #[.slice a hs.length cap] 25 (0, 0))) := ⟨⟨hk5.os.trans HW4.out.2.1.os, hk5.tape.trans HW4.out.2.1.tape, hk5.output.trans HW4.out.2.1.output, Nat.le_trans HW4.out.2.1.size hk5.size, fun q hq => (hk5.block q (Nat.lt_of_lt_of_le hq HW4.out.2.1.size) (by omega)).trans (HW4.out.2.1.block q hq)⟩, (hk5.block _ (Array.getElem?_eq_some_iff.1 HW4.out.2.2.1).1 (by omega)).trans HW4.out.2.2.1, HW4.out.2.2.2.1.keepK hk5 (by omega), (hk5.block _ (Array.getElem?_eq_some_iff.1 HW4.out.2.2.2.2).1 (by omega)).trans HW4.out.2.2.2.2⟩
  clear hs5 hk5 hk5'
  refine hK.out _ _ (one_of HW5.out.2.2.2).1 (fun hHeld2 => ?_)
  clear hK K
  (try simp only [Act.put, List.setIfInBounds_toArray, List.set_cons_zero, List.set_cons_succ])
  obtain ⟨z0, u0⟩ := one_of HW5.out.2.1
  refine oneUp 4 rfl (by kernel_rfl) (by rfl) (fun K hK => ?_)
  go_simp
  have hne : X ≠ w.heap.size := by omega
  refine hK.out _ _ ((World.cell?_of_block (w := W5) (Below.heap_setCell W5 ⟨w.heap.size, 0, none⟩ _ X hne)).trans (one_of HW5.out.2.2.2).1) (fun hHeld3 => ?_)
  clear hK K
  (try simp only [Act.put, List.setIfInBounds_toArray, List.set_cons_zero, List.set_cons_succ])
  refine takeIn 5 (v := ?va5) rfl (by kernel_rfl) (by kernel_rfl) (by kernel_rfl) (fun _ _ _ h => h) ?wa5 (by assumption) ?ya5 ?ra5
  case wa5 => rfl
  case ya5 => (intro w hSw; (try dsimp only at hSw); go_simp; first | done | with_reducible rfl)
  simp only [Act.put, List.setIfInBounds_toArray, List.set_cons_zero, List.set_cons_succ]
  refine takeIn 6 (v := ?va6) rfl (by kernel_rfl) (by kernel_rfl) (by kernel_rfl) (fun _ _ _ h => h) ?wa6 (by assumption) ?ya6 ?ra6
  case wa6 => rfl
  case ya6 => (intro w hSw; (try dsimp only at hSw); go_simp; first | done | with_reducible rfl)
  simp only [Act.put, List.setIfInBounds_toArray, List.set_cons_zero, List.set_cons_succ]
  refine wpAnyH_done (by kernel_rfl) ?_ _
  have HE : Hid ((W5.setCell ⟨w.heap.size, 0, none⟩ (.slice a hs.length cap)).cell? ⟨w.heap.size, 0, none⟩ = some (.slice a hs.length cap) ∧ Below w.heap.size w (W5.setCell ⟨w.heap.size, 0, none⟩ (.slice a hs.length cap)) ∧ HIn (W5.setCell ⟨w.heap.size, 0, none⟩ (.slice a hs.length cap)) w.heap.size a hs cs) :=
    ⟨(one_of (blk_set HW5.out.2.1 0 _)).1, HW5.out.1.setCell (p := ⟨w.heap.size, 0, none⟩) (Nat.le_refl _) _, (HW5.out.2.2.1.keepK (S := w.heap.size) ((Keep.refl _ W5).set 0 _) (by omega)).low (by omega)⟩
  go_wp2_with fail
  obtain ⟨y0, y1, y2⟩ := HE.out
  generalize World.setCell _ _ _ = W9 at y0 y1 y2 ⊢
  exact bodyPost_ret (v := .tuple #[.agg #[.slice a hs.length cap], .int .i64 ref, .string key]) (by simp [results, Try.results45, go_sem, y0]) rfl ⟨a, cap, hs, cs, ref, key, rfl, HSM.out, hkey, y1, y2, HCP.out⟩

set_option maxHeartbeats 4000000 in
theorem sDrawDel (a0 : Option Addr) (len cap0 : Nat) (bs : List UInt8) (w : World) (hl : bs.length = len) (hlb : len ≤ 1048576) (hB : BytesIn w a0 bs) :
    Calls Try.prog 12 #[.slice a0 len cap0] w fun e w' => ∃ a cap hs cs ref key, e = .returned (.tuple #[.agg #[.slice a hs.length cap], .int .i64 ref, .string key]) ∧ SmallD hs ∧ key.size ≤ 6 ∧ Below w.heap.size w w' ∧ HIn w' w.heap.size a hs cs ∧ CapH hs cs := by
  have H1 : Hid _ := fun (W : World) (hW : Below w.heap.size w W) => sDrawHas a0 len cap0 bs W hl hlb (bytes_under hB hW)
  have HB0 : Hid (∀ o, Below w.heap.size w (w.alloc o)) := fun o => (Below.refl _ _).alloc (Nat.le_refl _) o
  clear hB
  go_enter Try.func12, Try.ntmps12
  go_wp2_with fail
  refine (H1.out _ (HB0.out _)).mono ?_
  rintro e W1 ⟨a, cap, hs, cs, ref, key, rfl, hsm, hkey, hb1, hin, hcp⟩
  rw [World.size_alloc] at hin
  have hR1 : W1.heap[w.heap.size]? = some (.cells #[.slice none 0 0] 25 (0, 0)) := (hb1.block w.heap.size (by simp)).trans (heap_alloc_new w _)
  have hbw1 : Below w.heap.size w W1 := (HB0.out (.cells #[.slice none 0 0] 25)).trans (hb1.mono (HB0.out _).size)
  have HE : Hid ((W1.setCell ⟨w.heap.size, 0, none⟩ (.slice a hs.length cap)).cell? ⟨w.heap.size, 0, none⟩ = some (.slice a hs.length cap) ∧ Below w.heap.size w (W1.setCell ⟨w.heap.size, 0, none⟩ (.slice a hs.length cap)) ∧ HIn (W1.setCell ⟨w.heap.size, 0, none⟩ (.slice a hs.length cap)) w.heap.size a hs cs ∧ CapH hs cs ∧ SmallD hs) :=
    ⟨(one_of (blk_set hR1 0 _)).1, hbw1.setCell (p := ⟨w.heap.size, 0, none⟩) (Nat.le_refl _) _, (hin.keepK (S := w.heap.size) ((Keep.refl _ W1).set 0 _) (by omega)).low (by omega), hcp, hsm⟩
  obtain ⟨z0, u0⟩ := one_of hR1
  clear hsm hin hcp hR1 hbw1 hb1
  go_wp2_with fail
  obtain ⟨y0, y1, y2, y3, y4⟩ := HE.out
  clear z0 u0
  generalize World.setCell _ _ _ = W9 at y0 y1 y2 ⊢
  exact bodyPost_ret (v := .tuple #[.agg #[.slice a hs.length cap], .int .i64 ref, .string key]) (by simp [results, Try.results12, go_sem, y0]) rfl ⟨a, cap, hs, cs, ref, key, rfl, y4, hkey, y1, y2, y3⟩

structure PSt (w W : World) (S X B : Nat) (a : Option Addr) (hs : List OO) (cap : Nat) (cs : Nat → OC) : Prop where
  src : Src W S
  bel : Below w.heap.size w W
  box : W.heap[w.heap.size]? = some (.cells #[.slice none 0 0] 25 (0, 0))
  val : Lies W (w.heap.size + 1) Val.zeroV
  hin : HIn W B a hs cs
  hb : W.heap[X]? = some (.cells #[.slice a hs.length cap] 25 (0, 0))
theorem below_keep {S : Nat} {w w1 w2 : World} (hb : Below w.heap.size w w1) (hk : Keep S w1 w2) (hS : w.heap.size ≤ S) : Below w.heap.size w w2 :=
  ⟨hk.os.trans hb.os, hk.tape.trans hb.tape, hk.output.trans hb.output, Nat.le_trans hb.size hk.size, fun k hk' => (hk.block k (Nat.lt_of_lt_of_le hk' hb.size) (by omega)).trans (hb.block k hk')⟩
theorem PSt.keep {w W W' : World} {S X B : Nat} {a : Option Addr} {hs : List OO} {cap : Nat} {cs : Nat → OC} (p : PSt w W S X B a hs cap cs) (hk : Keep S W W') (hs' : Src W' S) (h1 : w.heap.size + 1 < S) (h2 : S < X) (h3 : S < B) : PSt w W' S X B a hs cap cs :=
  ⟨hs', below_keep p.bel hk (by omega), (hk.block _ (Array.getElem?_eq_some_iff.1 p.box).1 (by omega)).trans p.box, p.val.keepK hk (by omega), p.hin.keepK hk h3, (hk.block _ (Array.getElem?_eq_some_iff.1 p.hb).1 (by omega)).trans p.hb⟩

set_option maxHeartbeats 8000000 in
set_option maxRecDepth 100000 in
theorem sDrawPut (a0 : Option Addr) (len cap0 : Nat) (bs : List UInt8) (w : World) (hl : bs.length = len) (hlb : len ≤ 1048576) (hB : BytesIn w a0 bs) :
    Calls Try.prog 10 #[.slice a0 len cap0] w fun e w' => ∃ a cap hs cs ref key, ∃ v : Val.VV, e = .returned (.tuple #[.agg #[.slice a hs.length cap], .int .i64 ref, .string key, .agg (vC v)]) ∧ SmallD hs ∧ key.size ≤ 6 ∧ v.text.size ≤ 2000 ∧ Below w.heap.size w w' ∧ HIn w' w.heap.size a hs cs ∧ CapH hs cs := by
  have C1 := fun (W : World) (hW : Below w.heap.size w W) => sSource a0 len cap0 bs W hl hlb (bytes_under hB hW)
  have H2 : Hid _ := fun (S : Nat) (W : World) (h : Src W S) => sHeapD S W h
  have H3 : Hid _ := fun (S : Nat) (a : Option Addr) (n cap : Nat) (W : World) (h1 : 1 ≤ n) (h4 : n ≤ 4) (h : Src W S) => sRefD S a n cap W h1 h4 h
  have H4 : Hid _ := fun (S : Nat) (W : World) (h : Src W S) => sKey S W h
  have H5 : Hid _ := fun (S : Nat) (W : World) (h : Src W S) => sValue S W h
  have HB0 : Hid (∀ o o', Below w.heap.size w ((w.alloc o).alloc o')) := fun o o' => ((Below.refl _ _).alloc (Nat.le_refl _) o).alloc (by simp) o'
  have HSZ : Hid (∀ o o', ((w.alloc o).alloc o').heap.size = w.heap.size + 2) := fun o o' => by rw [World.size_alloc, World.size_alloc]
  have H1 : Hid _ := C1
  clear C1 hB
  go_enter Try.func10, Try.ntmps10
  go_wp2_with fail
  refine (H1.out _ (HB0.out _ _)).mono ?_
  rintro e W1 ⟨rfl, hs1, hb1⟩
  rw [HSZ.out] at hs1 ⊢
  have hbw1 : Below w.heap.size w W1 := (HB0.out _ _).trans (hb1.mono (HB0.out _ _).size)
  have hR1 : W1.heap[w.heap.size]? = some (.cells #[.slice none 0 0] 25 (0, 0)) := (hb1.block w.heap.size (by rw [HSZ.out]; omega)).trans ((((Below.refl _ _).alloc (Nat.le_refl _) _).block w.heap.size (by simp)).trans (heap_alloc_new w _))
  have hV1 : Lies W1 (w.heap.size + 1) Val.zeroV := by
    refine (hb1.block (w.heap.size + 1) (by rw [HSZ.out]; omega)).trans ?_
    have h9 := lies_new (w.alloc (.cells #[.slice none 0 0] 25)) Val.zeroV
    rw [World.size_alloc] at h9
    exact h9
  have HS1 : Hid (Src W1 (w.heap.size + 2) ∧ Below w.heap.size w W1 ∧ W1.heap[w.heap.size]? = some (.cells #[.slice none 0 0] 25 (0, 0)) ∧ Lies W1 (w.heap.size + 1) Val.zeroV) := ⟨hs1, hbw1, hR1, hV1⟩
  clear hs1 hb1 hR1 hbw1 hV1 HB0 HSZ H1
  generalize hSe : w.heap.size + 2 = S at *
  have hSw : w.heap.size + 1 < S := by omega
  go_wp2_with fail
  refine (H2.out S W1 HS1.out.1).mono ?_
  rintro e W2 ⟨a, cap, hs, cs, rfl, hsm, hs2, hk2, hin, hcp⟩
  have HCP : Hid (CapH hs cs) := hcp
  clear hcp
  have hS1 := HS1.out.1.lt
  have HW2 : Hid (Src W2 S ∧ Below w.heap.size w W2 ∧ W2.heap[w.heap.size]? = some (.cells #[.slice none 0 0] 25 (0, 0)) ∧ Lies W2 (w.heap.size + 1) Val.zeroV ∧ HIn W2 W1.heap.size a hs cs ∧ S < W1.heap.size ∧ W1.heap.size ≤ W2.heap.size) := ⟨hs2, below_keep HS1.out.2.1 hk2 (by omega), (hk2.block _ (by omega) (by omega)).trans HS1.out.2.2.1, HS1.out.2.2.2.keepK hk2 (by omega), hin, hS1, hk2.size⟩
  clear hs2 hk2 hin
  go_wp2_with fail
  generalize hG : W2.alloc _ = W3
  have HW3 : Hid (PSt w W3 S W2.heap.size W1.heap.size a hs cap cs) := by
    rw [← hG]
    have hb : Below W2.heap.size W2 (W2.alloc (.cells #[.slice a hs.length cap] 25)) := (Below.refl _ _).alloc (Nat.le_refl _) _
    obtain ⟨h1, h2, h3, h4, h5, -, -⟩ := HW2.out
    exact ⟨src_grow1 h1, h2.trans (hb.mono h2.size), (hb.block _ (Array.getElem?_eq_some_iff.1 h3).1).trans h3, h4.grow _, h5.under hb, heap_alloc_new _ _⟩
  have hX : S < W2.heap.size := by have := HW2.out.2.2.2.2.2; omega
  clear hG HW2 HS1
  generalize W2.heap.size = X at *
  refine (H3.out S a hs.length cap W3 hsm.1.1 hsm.1.2 HW3.out.src).mono ?_
  rintro e W4 ⟨ref, rfl, hs4, hk4⟩
  have HW4 : Hid (PSt w W4 S X W1.heap.size a hs cap cs) := HW3.out.keep hk4 hs4 hSw hX hS1
  clear hs4 hk4 HW3
  go_wp2_with fail
  have HSM : Hid (SmallD hs) := hsm
  clear hsm
  refine (H4.out S W4 HW4.out.src).mono ?_
  rintro e W5 ⟨key, hkey, rfl, hs5, hk5⟩
  have HW5 : Hid (PSt w W5 S X W1.heap.size a hs cap cs) := HW4.out.keep hk5 hs5 hSw hX hS1
  clear hs5 hk5 HW4
  go_wp2_with fail
  refine wp_region_held_drew (S := fun W' => W'.cell? ⟨X, 0, none⟩ = some (.slice a hs.length cap)) (by kernel_rfl) (one_of HW5.out.hb).1 (fun hHeld => ?_)
  refine takeIn 0 (v := ?va0) rfl (by kernel_rfl) (by kernel_rfl) (by kernel_rfl) (fun _ _ _ h => h) ?wa0 (by assumption) ?ya0 ?ra0
  case wa0 => rfl
  case ya0 => (intro w hSw; (try dsimp only at hSw); go_simp; first | done | with_reducible rfl)
  simp only [Act.put, List.setIfInBounds_toArray, List.set_cons_zero, List.set_cons_succ]
  refine takeIn 1 (v := ?va1) rfl (by kernel_rfl) (by kernel_rfl) (by kernel_rfl) (fun _ _ _ h => h) ?wa1 (by assumption) ?ya1 ?ra1
  case wa1 => rfl
  case ya1 => (intro w hSw; (try dsimp only at hSw); go_simp; first | done | with_reducible rfl)
  simp only [Act.put, List.setIfInBounds_toArray, List.set_cons_zero, List.set_cons_succ]
  refine takeIn 2 (v := ?va2) rfl (by kernel_rfl) (by kernel_rfl) (by kernel_rfl) (fun _ _ _ h => h) ?wa2 (by assumption) ?ya2 ?ra2
  case wa2 => rfl
  case ya2 => (intro w hSw; (try dsimp only at hSw); go_simp; first | done | with_reducible rfl)
  simp only [Act.put, List.setIfInBounds_toArray, List.set_cons_zero, List.set_cons_succ]
  refine takeIn 3 (v := ?va3) rfl (by kernel_rfl) (by kernel_rfl) (by kernel_rfl) (fun _ _ _ h => h) ?wa3 (by assumption) ?ya3 ?ra3
  case wa3 => rfl
  case ya3 => (intro w hSw; (try dsimp only at hSw); go_simp; first | done | with_reducible rfl)
  simp only [Act.put, List.setIfInBounds_toArray, List.set_cons_zero, List.set_cons_succ]
  refine oneUp 4 rfl (by kernel_rfl) (by rfl) (fun K hK => ?_)
  go_simp
  refine (H5.out S _ (HW5.out.src.below (Below.refl _ _).drew)).mono ?_
  rintro e W6 ⟨⟨xk, xn, xt⟩, hxt, rfl, hs6, hk6'⟩
  have hk6 : Keep S W5 W6 := (Keep.refl S W5).drew.trans hk6'
  have HW6 : Hid (PSt w W6 S X W1.heap.size a hs cap cs) := HW5.out.keep hk6 hs6 hSw hX hS1
  clear hs6 hk6 hk6' HW5
  unfold vC
  dsimp only at hxt ⊢
  refine hK.out _ _ (one_of HW6.out.hb).1 (fun hHeld2 => ?_)
  clear hK K
  (try simp only [Act.put, List.setIfInBounds_toArray, List.set_cons_zero, List.set_cons_succ])
  obtain ⟨z0, u0⟩ := one_of HW6.out.box
  refine oneUp 5 rfl (by kernel_rfl) (by rfl) (fun K hK => ?_)
  go_simp
  generalize hG7 : W6.setCell _ _ = W7
  have HW7 : Hid (W7.heap[w.heap.size]? = some (.cells #[.slice a hs.length cap] 25 (0, 0)) ∧ Below w.heap.size w W7 ∧ HIn W7 W1.heap.size a hs cs ∧ Lies W7 (w.heap.size + 1) Val.zeroV ∧ W7.heap[X]? = some (.cells #[.slice a hs.length cap] 25 (0, 0))) := by
    rw [← hG7]
    have hk : Keep w.heap.size W6 (W6.setCell ⟨w.heap.size, 0, none⟩ (.slice a hs.length cap)) := (Keep.refl _ W6).set 0 _
    exact ⟨blk_set HW6.out.box 0 _, HW6.out.bel.setCell (p := ⟨w.heap.size, 0, none⟩) (Nat.le_refl _) _, HW6.out.hin.keepK hk (by omega), HW6.out.val.keepK hk (by omega), (hk.block _ (Array.getElem?_eq_some_iff.1 HW6.out.hb).1 (by omega)).trans HW6.out.hb⟩
  clear hG7 HW6 z0 u0
  refine hK.out _ _ (one_of HW7.out.2.2.2.2).1 (fun hHeld3 => ?_)
  clear hK K
  (try simp only [Act.put, List.setIfInBounds_toArray, List.set_cons_zero, List.set_cons_succ])
  refine takeIn 6 (v := ?va6) rfl (by kernel_rfl) (by kernel_rfl) (by kernel_rfl) (fun _ _ _ h => h) ?wa6 (by assumption) ?ya6 ?ra6
  case wa6 => rfl
  case ya6 => (intro w hSw; (try dsimp only at hSw); go_simp; first | done | with_reducible rfl)
  simp only [Act.put, List.setIfInBounds_toArray, List.set_cons_zero, List.set_cons_succ]
  refine takeIn 7 (v := ?va7) rfl (by kernel_rfl) (by kernel_rfl) (by kernel_rfl) (fun _ _ _ h => h) ?wa7 (by assumption) ?ya7 ?ra7
  case wa7 => rfl
  case ya7 => (intro w hSw; (try dsimp only at hSw); go_simp; first | done | with_reducible rfl)
  simp only [Act.put, List.setIfInBounds_toArray, List.set_cons_zero, List.set_cons_succ]
  obtain ⟨⟨y0, y1, y2⟩, f0, f1, f2⟩ := HW7.out.2.2.2.1.three
  refine oneUp 8 rfl (by kernel_rfl) (by rfl) (fun K hK => ?_)
  go_simp
  have HW8 : Hid (Lies (put3 W7 (w.heap.size + 1) ⟨xk, xn, xt⟩) (w.heap.size + 1) ⟨xk, xn, xt⟩ ∧ (put3 W7 (w.heap.size + 1) ⟨xk, xn, xt⟩).heap[w.heap.size]? = some (.cells #[.slice a hs.length cap] 25 (0, 0)) ∧ Below w.heap.size w (put3 W7 (w.heap.size + 1) ⟨xk, xn, xt⟩) ∧ HIn (put3 W7 (w.heap.size + 1) ⟨xk, xn, xt⟩) w.heap.size a hs cs ∧ (put3 W7 (w.heap.size + 1) ⟨xk, xn, xt⟩).heap[X]? = some (.cells #[.slice a hs.length cap] 25 (0, 0))) := by
    obtain ⟨h1, h2, h3, h4, h5⟩ := HW7.out
    have hk : Keep (w.heap.size + 1) W7 (put3 W7 (w.heap.size + 1) ⟨xk, xn, xt⟩) := (((Keep.refl _ W7).set 0 _).set 1 _).set 2 _
    exact ⟨h4.put _, (put3_other _ _ _ _ (by omega)).trans h1, put3_below h2 _ _ (by omega), (h3.keepK hk (by omega)).low (by omega), (put3_other _ _ _ _ (by omega)).trans h5⟩
  unfold put3 at HW8
  dsimp only at HW8
  generalize World.setCell _ _ _ = W8 at HW8 ⊢
  refine hK.out _ _ (one_of HW8.out.2.2.2.2).1 (fun hHeld4 => ?_)
  clear hK K
  refine wpAnyH_done (by kernel_rfl) ?_ _
  go_wp2_with fail
  obtain ⟨⟨v0, v1, v2⟩, -⟩ := HW8.out.1.three
  have b0 := (one_of HW8.out.2.1).1
  dsimp only at v0 v1 v2
  exact bodyPost_ret (v := .tuple #[.agg #[.slice a hs.length cap], .int .i64 ref, .string key, .agg #[.int .i64 xk, .int .i64 xn, .string xt]]) (by simp [results, Try.results10, go_sem, b0, v0, v1, v2]) rfl ⟨a, cap, hs, cs, ref, key, ⟨xk, xn, xt⟩, rfl, HSM.out, hkey, hxt, HW8.out.2.2.1, HW8.out.2.2.2.1, HCP.out⟩

end Go.Proofs.Ytlmlmdmechhalaa

/-
  The walk of the program's told (of all holders).
-/
import Derived.Test.YtlmlmdmechhalaaHpV
namespace Go.Proofs.Ytlmlmdmechhalaa
open Go.RowKit
open Hp (PP OO propC rP kl encP putAll)

theorem POwn.psIn {w : World} {B : Nat} {a : Option Addr} {cap : Nat} {ps : List PP} (h : POwn w B (.slice a ps.length cap) ps) : PsIn w B a ps := by
  rcases h.2 with ⟨_, e⟩ | ⟨g, cap', cur, e, hB, _⟩
  · exact .inl (List.length_eq_zero_iff.1 e)
  · injection e with e1 _ _
    subst e1
    refine .inr ⟨g, 0, rfl, hB, fun i hi => ?_⟩
    have hc : ∀ o, o < 6 → w.cell? ⟨g, i * 6 + o, none⟩ = (propL ps[i])[o]? := fun o ho => by
      rw [World.ownsRow.cellAt h (i * 6 + o) (by omega), flatP_at ps i hi o ho]
    rw [Nat.zero_add]
    exact ⟨hc 0 (by omega), hc 1 (by omega), hc 2 (by omega), hc 3 (by omega), hc 4 (by omega), hc 5 (by omega)⟩
theorem HOwn.hIn {w : World} {lo : Nat} {a : Option Addr} {cap : Nat} {h : List OO} {cs : Nat → OC} (k : HOwn w lo (.slice a h.length cap) h h.length cs) : HIn w lo a h cs := by
  refine ⟨?_, fun i hi => (k.2.1 i hi hi).psIn⟩
  rcases k.1.2 with ⟨_, e⟩ | ⟨g, cap', cur, e, hB, _⟩
  · exact .inl (List.length_eq_zero_iff.1 e)
  · injection e with e1 _ _
    subst e1
    refine .inr ⟨g, 0, rfl, hB, fun i hi => ?_⟩
    have hc : ∀ o, o < 3 → w.cell? ⟨g, i * 3 + o, none⟩ = (objL h[i] (cs i))[o]? := fun o ho => by
      rw [World.ownsRow.cellAt k.1 (i * 3 + o) (by omega), rowO_at h cs h.length i hi hi o ho]
    rw [Nat.zero_add]
    exact ⟨hc 0 (by omega), hc 1 (by omega), hc 2 (by omega)⟩

theorem Try.mToldH (b : Nat) (w : World) : (Go.method 271 135 (.pointer (some ⟨b, 0, none⟩)) "loop.example/g00317/impl.told").run Try.prog w = .ok (115, .pointer (some ⟨b, 0, none⟩)) w := by kernel_rfl
theorem Try.mToldA (b : Nat) (w : World) : (Go.method 271 126 (.pointer (some ⟨b, 0, none⟩)) "loop.example/g00317/impl.told").run Try.prog w = .ok (115, .pointer (some ⟨b, 0, none⟩)) w := by kernel_rfl

/-- The holders, and the row in which they stand. -/
def AllW (w : World) (lo : Nat) (v : Value) (h : List OO) (ds : Nat → HC) : Prop := w.ownsRow lo 71 1 v h.length (rowV ds h.length) ∧ ∀ j (hj : j < h.length), HeldAt w lo h[j] (ds j)
theorem AllW.under {w w' : World} {lo : Nat} {v : Value} {h : List OO} {ds : Nat → HC} (k : AllW w lo v h ds) (hb : Below w.heap.size w w') : AllW w' lo v h ds :=
  ⟨row_same k.1 fun q hq => hb.block q (k.1.lt q hq).2, fun j hj => (k.2 j hj).under hb⟩
theorem AllAt.allW {w : World} {lo : Nat} {v : Value} {h : List OO} {ds : Nat → HC} (k : AllAt w lo v h h.length ds) : AllW w lo v h ds := ⟨k.1, fun j hj => k.2.1 j hj hj⟩

/-- All that a heap's Props hold can be copied. -/
def SmallH (h : List OO) : Prop := ∀ j (hj : j < h.length), h[j].ps.length ≤ 1048577 ∧ (∀ p ∈ h[j].ps, p.key.size ≤ 1048576 ∧ p.v.text.size ≤ 1048576) ∧ Hp.Unlike h[j].ps

set_option maxHeartbeats 4000000 in
set_option maxRecDepth 100000 in
theorem iToldAll (w : World) (lo : Nat) (v : Value) (h : List OO) (ds : Nat → HC) (hl : h.length ≤ 400) (hs : SmallH h) (hall : AllW w lo v h ds) :
    Calls Try.prog 44 #[v] w fun e w' => ∃ a cap, e = .returned (.agg #[.slice a h.length cap]) ∧ Below w.heap.size w w' ∧ ∃ cs, HOwn w' w.heap.size (.slice a h.length cap) h h.length cs := by
  obtain ⟨va, vcap, rfl⟩ := own_shape hall.1
  have HA : Hid (AllW w lo (.slice va h.length vcap) h ds ∧ SmallH h) := ⟨hall, hs⟩
  have HB0 : Hid (∀ o, Below w.heap.size w (w.alloc o)) := fun o => (Below.refl _ _).alloc (Nat.le_refl _) o
  have m1 := Try.mToldH
  have m2 := Try.mToldA
  clear hall hs
  go_enter Try.func44, Try.ntmps44
  go_wp2_with fail
  generalize hW0 : w.alloc _ = W0
  have hBW : Below w.heap.size w W0 := by rw [← hW0]; exact HB0.out _
  have hX0 : W0.heap[w.heap.size]? = some (.cells #[.slice none 0 0] 25 (0, 0)) := by rw [← hW0]; exact heap_alloc_new _ _
  have hS0 : w.heap.size < W0.heap.size := by rw [← hW0]; simp
  clear hW0 HB0
  go_loopw [3, 8] (fun vk vi wr => ∃ i : Nat, i ≤ h.length ∧ vi = .int .i64 i ∧ Hid (Below W0.heap.size W0 wr ∧ ∃ cs, HOwn wr W0.heap.size vk h i cs)) (fun _ vi _ => h.length - (intOf vi).toNat)
  case atStart => exact ⟨0, Nat.zero_le _, rfl, Below.refl _ _, fun _ => ⟨none, 0⟩, hOwn_nil _ _ _ _⟩
  case round =>
    obtain ⟨i, hi, rfl, HE⟩ := hrel
    obtain ⟨hb, cs, hO⟩ := HE.out
    obtain ⟨av, acap, rfl⟩ := own_shape hO.1
    have hbw : Below w.heap.size w wr := hBW.trans (hb.mono hBW.size)
    have hX1 := (hb.block _ hS0).trans hX0
    by_cases hlt : i < h.length
    case neg =>
      have hlt' : ¬ (i : Int) < (h.length : Int) := by omega
      have hie : i = h.length := by omega
      have HFF : Hid (HOwn wr W0.heap.size (.slice av h.length acap) h h.length cs ∧ Below w.heap.size w wr ∧ wr.heap[w.heap.size]? = some (.cells #[.slice none 0 0] 25 (0, 0))) := by
        have := hO
        rw [hie] at this
        exact ⟨this, hbw, hX1⟩
      obtain ⟨z0, u0⟩ := one_of hX1
      subst hie
      clear hO hX1 hbw hb HE
      go_wp2_with fail
      have hb3 : Below w.heap.size w (wr.setCell ⟨w.heap.size, 0, none⟩ (.slice av h.length acap)) := HFF.out.2.1.setCell (p := ⟨w.heap.size, 0, none⟩) (Nat.le_refl _) _
      have hfar : ∀ q, W0.heap.size ≤ q → (wr.setCell ⟨w.heap.size, 0, none⟩ (.slice av h.length acap)).heap[q]? = wr.heap[q]? := fun q hq => Below.heap_setCell _ ⟨w.heap.size, 0, none⟩ _ q (by show q ≠ w.heap.size; omega)
      have st1 := blk_set HFF.out.2.2 0 (.slice av h.length acap)
      have hp3 : HOwn (wr.setCell ⟨w.heap.size, 0, none⟩ (.slice av h.length acap)) w.heap.size (.slice av h.length acap) h h.length cs := HOwn.low (lo := W0.heap.size) ⟨row_same HFF.out.1.1 fun q hq => hfar q (World.ownsRow.lt HFF.out.1.1 q hq).1, fun j hj hjn => row_same (HFF.out.1.2.1 j hj hjn) fun q hq => hfar q (World.ownsRow.lt (HFF.out.1.2.1 j hj hjn) q hq).1, HFF.out.1.2.2⟩ hBW.size
      clear z0 u0
      generalize World.setCell _ _ _ = W9 at st1 hb3 hp3 ⊢
      have z0 : W9.cell? ⟨w.heap.size, 0, none⟩ = some (.slice av h.length acap) := by simp [World.cell?, st1]
      exact bodyPost_ret (v := .agg #[.slice av h.length acap]) (by simp [results, Try.results44, go_sem, z0]) rfl ⟨av, acap, rfl, hb3, cs, hp3⟩
    have hlt' : (i : Int) < (h.length : Int) := by omega
    have hAW := HA.out.1.under hbw
    obtain ⟨g, hva⟩ : ∃ g, va = some ⟨g, 0, none⟩ := by
      rcases hAW.1.2 with ⟨_, e⟩ | ⟨g, cap', _, e, _⟩
      · omega
      · injection e with e1 _ _; exact ⟨g, e1⟩
    subst hva
    have hcell : wr.cell? ⟨g, i, none⟩ = some (hV (ds i)) := ((hAW.1).cellAt i (by omega)).trans (rowV_get ds h.length i hlt)
    have hH := hAW.2 i hlt
    obtain ⟨s1, s2, s3⟩ := HA.out.2 i hlt
    have C1 := fun (W : World) (hW : Below wr.heap.size wr W) => iTold W lo h[i] (ds i) s1 s2 s3 (hH.under hW)
    have hTT := hH.1
    unfold hTy at hTT
    unfold hV at hcell
    have HO : Hid (HOwn wr W0.heap.size (.slice av i acap) h i cs ∧ Below W0.heap.size W0 wr) := ⟨hO, hb⟩
    have hwz := hb.size
    clear hH hAW s1 s2 s3 hO hb hbw hX1 HE
    generalize (ds i).b = bb at *
    generalize (ds i).T = T at *
    generalize hxe : h[i] = x at *
    have HXE : Hid (h[i] = x) := hxe
    clear hxe
    obtain ⟨cls, pro, ps⟩ := x
    dsimp only at C1
    have H1 : Hid _ := C1
    clear C1
    rcases hTT with ⟨rfl, -⟩ | ⟨rfl, -⟩
    all_goals
      go_wp2_with fail
      refine (H1.out _ (Below.refl _ _)).mono ?_
      rintro e w1 ⟨pa, pc, rfl, hb1, hp1⟩
      have HF : Hid (HOwn w1 W0.heap.size (.slice av i acap) h i cs ∧ Below W0.heap.size W0 w1 ∧ POwn w1 wr.heap.size (.slice pa ps.length pc) ps) := ⟨HO.out.1.under hb1, HO.out.2.trans (hb1.mono hwz), hp1⟩
      have hw1 := HF.out.2.1.size
      clear hb1 hp1
      go_wp2_with (refine app_obj rfl (.tmp 12) (.tmp 15) rfl W0.heap.size _ _ _ (by rfl) (World.ownsRow.alloc HF.out.1.1 _) ⟨w1.heap.size, 0, none⟩ ⟨cls, pro, ps⟩ ⟨pa, pc⟩ (by rfl) (fun j u hu => new_cells w1 #[.int .i64 cls, .int .i64 pro, .slice pa ps.length pc] 76 j u hu) (by omega) (by simp; omega) ?_; intro v' w' hown' hgrow'; have hsh := own_shape hown'; obtain ⟨a2, cap2, rfl⟩ := hsh)
      have hal : ∀ o, Below w1.heap.size w1 (w1.alloc o) := fun o => (Below.refl _ _).alloc (Nat.le_refl _) o
      have hend := HOwn.snoc (HF.out.1.under (hal _)) hlt (c := ⟨pa, pc⟩) (W := wr.heap.size) (by rw [HXE.out]; exact HF.out.2.2.under (hal _)) hwz (fun j hj hji q hq => (World.ownsRow.lt (HO.out.1.2.1 j hj hji) q hq).2) hgrow' (by rw [HXE.out]; exact hown')
      exact ⟨⟨i + 1, by omega, by go_num, (HF.out.2.1.alloc HF.out.2.1.size _).grown hgrow' (by simp; omega) (fun q hq => (World.ownsRow.lt HF.out.1.1 q hq).1), _, hend⟩, by simp [intOf]; omega⟩

end Go.Proofs.Ytlmlmdmechhalaa

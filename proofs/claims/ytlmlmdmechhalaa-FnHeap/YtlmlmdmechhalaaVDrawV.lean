/-
  The walk of the specification's draw of a value.
-/
import Derived.Test.YtlmlmdmechhalaaVDrawT
namespace Go.Proofs.Ytlmlmdmechhalaa
open Go.RowKit

def valsL : List ByteArray := [⟨#[]⟩, ⟨#[97]⟩, ⟨#[49, 50]⟩, ⟨#[32, 55, 32]⟩, ⟨#[45, 51]⟩, ⟨#[48, 48, 55]⟩, ⟨#[49, 101, 51]⟩, ⟨#[45]⟩, ⟨#[49, 50, 51, 52, 53, 54, 55, 56, 57, 48, 49, 50, 51, 52, 53]⟩, ⟨#[49, 50, 51, 52, 53, 54, 55, 56, 57, 48, 49, 50, 51, 52, 53, 54]⟩, ⟨#[91, 111, 98, 106, 101, 99, 116, 93]⟩, ⟨#[116, 114, 117, 101]⟩]

/-- What is told of a value that was drawn: the result put into its block, and handed back. -/
def Drawn (S : Nat) (w : World) (e : Ending) (w' : World) : Prop := ∃ v : Val.VV, v.text.size ≤ 2000 ∧ e = .returned (.agg (vC v)) ∧ Src w' S ∧ Keep S w w'

set_option maxRecDepth 100000 in
set_option maxHeartbeats 4000000 in
theorem sValue (S : Nat) (w : World) (h : Src w S) : Calls Try.prog 40 #[.pointer (some ⟨S, 0, none⟩)] w (Drawn S w) := by
  have N1 : Hid _ := fun (most : Nat) (hm : 2 ≤ most) (hm2 : most ≤ 1000000) (W : World) (h : Src W S) => sNs S most W hm hm2 h
  have O1 : Hid _ := fun (most : Nat) (hm : 2 ≤ most) (hm2 : most ≤ 1000000) (W : World) (h : Src W S) => sOne S most W hm hm2 h
  have hS := h.lt
  have h0 : Src (w.alloc zObj) S := h.below ((Below.refl _ _).alloc (Nat.le_refl _) _)
  have l0 : Lies (w.alloc zObj) w.heap.size Val.zeroV := lies_new w Val.zeroV
  have k0 : Keep S w (w.alloc zObj) := (Keep.refl S w).alloc _
  have HQ : Hid (Src (w.alloc zObj) S ∧ Lies (w.alloc zObj) w.heap.size Val.zeroV ∧ Keep S w (w.alloc zObj)) := ⟨h0, l0, k0⟩
  clear h h0 l0 k0
  unfold zObj at HQ
  have FIN : ∀ (W : World) (v : Val.VV), v.text.size ≤ 2000 → Src W S → Keep S w W → Drawn S w (.returned (.agg (vC v))) (put3 W w.heap.size v) := fun W v h1 h2 h3 => ⟨v, h1, rfl, h2.set3 _ v hS, h3.set3 (Nat.le_refl _) v⟩
  have HF : Hid (∀ (W : World) (v : Val.VV), v.text.size ≤ 2000 → Src W S → Keep S w W → Drawn S w (.returned (.agg (vC v))) (put3 W w.heap.size v)) := FIN
  clear FIN
  go_enter Try.func40, Try.ntmps40
  go_wp2_with fail
  refine (N1.out 9 (by omega) (by omega) _ HQ.out.1).mono ?_
  rintro e w1 ⟨r, rfl, hr, hs1, hk1⟩
  have l1 := HQ.out.2.1.keepK hk1 (by omega)
  have k1 := HQ.out.2.2.trans hk1
  clear hk1 HQ
  obtain ⟨⟨z0, z1, z2⟩, f0, f1, f2⟩ := l1.three
  have hlt := l1.lt
  dsimp only [Val.zeroV, Val.e0] at z0 z1 z2
  have hcase : r = 0 ∨ r = 1 ∨ r = 2 ∨ r = 3 ∨ r = 4 ∨ r = 5 ∨ r = 6 ∨ 7 ≤ r := by omega
  have HS : Hid (Src w1 S ∧ Keep S w w1 ∧ Lies w1 w.heap.size Val.zeroV) := ⟨hs1, k1, l1⟩
  clear hs1 k1 l1
  rcases hcase with rfl | rfl | rfl | rfl | rfl | rfl | rfl | h7
  · go_wp2_with fail
    refine bodyPost_ret (v := .agg #[.int .i64 0, .int .i64 0, .string ⟨#[]⟩]) (by simp [results, Try.results40, go_sem, z0, z1, z2]) rfl ?_
    exact HF.out w1 ⟨0, 0, ⟨#[]⟩⟩ (by decide) HS.out.1 HS.out.2.1
  · go_wp2_with fail
    refine bodyPost_ret (v := .agg #[.int .i64 1, .int .i64 0, .string ⟨#[]⟩]) (by simp [results, Try.results40, go_sem, z0, z1, z2]) rfl ?_
    exact HF.out w1 ⟨1, 0, ⟨#[]⟩⟩ (by decide) HS.out.1 HS.out.2.1
  · have BO : Hid _ := fun (c : Bool) (W : World) => sBool c W
    go_wp2_with fail
    refine (O1.out 2 (by omega) (by omega) _ HS.out.1).mono ?_
    rintro e w2 ⟨c, rfl, hs2, hk2⟩
    have BC : Hid _ := fun (W : World) => BO.out c W
    have hbt : (Val.boolV c).text.size ≤ 2000 := by show (⟨#[]⟩ : ByteArray).size ≤ 2000; decide
    obtain ⟨⟨bk, bn, bt⟩, hB⟩ : ∃ v, Val.boolV c = v := ⟨_, rfl⟩
    rw [hB] at BC hbt
    unfold vC at BC
    dsimp only at BC hbt
    clear hB BO
    go_wp2_with fail
    refine (BC.out _).mono ?_
    rintro e w3 ⟨rfl, hb3⟩
    have l3 := (HS.out.2.2.keepK hk2 (by omega)).keep hb3
    have hs3 := hs2.below hb3
    have k3 := (HS.out.2.1.trans hk2).ofBelow hb3
    clear z0 z1 z2 f0 f1 f2 hlt
    obtain ⟨⟨z0, z1, z2⟩, f0, f1, f2⟩ := l3.three
    have hlt := l3.lt
    dsimp only [Val.zeroV, Val.e0] at z0 z1 z2
    go_wp2_with fail
    refine bodyPost_ret (v := .agg #[.int .i64 bk, .int .i64 bn, .string bt]) (by simp [results, Try.results40, go_sem, z0, z1, z2]) rfl ?_
    exact HF.out w3 ⟨bk, bn, bt⟩ hbt hs3 k3
  · go_wp2_with fail
    refine bodyPost_ret (v := .agg #[.int .i64 4, .int .i64 0, .string ⟨#[]⟩]) (by simp [results, Try.results40, go_sem, z0, z1, z2]) rfl ?_
    exact HF.out w1 ⟨4, 0, ⟨#[]⟩⟩ (by decide) HS.out.1 HS.out.2.1
  · have XT : Hid _ := fun (t : ByteArray) (W : World) => sText t W
    have hs2 : ∀ o, Src (w1.alloc o) S := fun o => HS.out.1.below ((Below.refl _ _).alloc (Nat.le_refl _) o)
    have HS2 : Hid (∀ o, Src (w1.alloc o) S) := hs2
    clear hs2
    go_wp2_with fail
    have hSw : S < w1.heap.size := HS.out.1.lt
    refine (pick_of S w1.heap.size 12 valsL _ rfl (by omega) (by omega) (HS2.out _) (heap_alloc_new _ _) (by omega)).mono ?_
    rintro e w2 ⟨t, ht, rfl, hs2, hk2⟩
    have hsz : t.size ≤ 1000 := by
      have : ∀ x ∈ valsL, x.size ≤ 1000 := by decide
      exact this t ht
    go_wp2_with fail
    refine (XT.out t _).mono ?_
    rw [show Val.textV t = ⟨5, 0, t⟩ from if_neg (by omega)]
    rintro e w3 ⟨rfl, hb3⟩
    have l3 := ((HS.out.2.2.grow _).keepK hk2 (by omega)).keep hb3
    have hs3 := hs2.below hb3
    have k3 := ((HS.out.2.1.alloc _).trans hk2).ofBelow hb3
    clear z0 z1 z2 f0 f1 f2 hlt
    obtain ⟨⟨z0, z1, z2⟩, f0, f1, f2⟩ := l3.three
    have hlt := l3.lt
    unfold vC
    dsimp only [Val.zeroV, Val.e0] at z0 z1 z2 ⊢
    go_wp2_with fail
    refine bodyPost_ret (v := .agg #[.int .i64 5, .int .i64 0, .string t]) (by simp [results, Try.results40, go_sem, z0, z1, z2]) rfl ?_
    exact HF.out w3 ⟨5, 0, t⟩ (by show t.size ≤ 2000; omega) hs3 k3
  · go_wp2_with fail
    refine (N1.out 4 (by omega) (by omega) _ HS.out.1).mono ?_
    rintro e w2 ⟨q, rfl, hq, hs2, hk2⟩
    have l3 := HS.out.2.2.keepK hk2 (by omega)
    have k3 := HS.out.2.1.trans hk2
    clear z0 z1 z2 f0 f1 f2 hlt
    obtain ⟨⟨z0, z1, z2⟩, f0, f1, f2⟩ := l3.three
    have hlt := l3.lt
    dsimp only [Val.zeroV, Val.e0] at z0 z1 z2
    go_wp2_with fail
    refine bodyPost_ret (v := .agg #[.int .i64 6, .int .i64 (q : Int), .string ⟨#[]⟩]) (by simp [results, Try.results40, go_sem, z0, z1, z2]) rfl ?_
    exact HF.out w2 ⟨6, q, ⟨#[]⟩⟩ (by show (⟨#[]⟩ : ByteArray).size ≤ 2000; decide) hs2 k3
  · have XN : Hid _ := fun (m : Int) (W : World) => sNumE m W
    have hs2 : ∀ o, Src (w1.alloc o) S := fun o => HS.out.1.below ((Below.refl _ _).alloc (Nat.le_refl _) o)
    have HS2 : Hid (∀ o, Src (w1.alloc o) S) := hs2
    clear hs2
    have hSw : S < w1.heap.size := HS.out.1.lt
    have hT : Hid ((w1.alloc (.cells #[.int .i64 0, .int .i64 9007199254740992, .int .i64 (-9007199254740992), .int .i64 94906265, .int .i64 4503599627370496] 2)).heap[w1.heap.size]? = some (.cells #[.int .i64 0, .int .i64 9007199254740992, .int .i64 (-9007199254740992), .int .i64 94906265, .int .i64 4503599627370496] 2 (0, 0))) := heap_alloc_new _ _
    go_wp2_with fail
    refine (N1.out 5 (by omega) (by omega) _ (HS2.out _)).mono ?_
    rintro e w2 ⟨q, rfl, hq, hs2, hk2⟩
    obtain ⟨t0, t1, t2, t3, t4⟩ := five_of ((hk2.block _ (by rw [World.size_alloc]; omega) (by omega)).trans hT.out)
    have l2 := (HS.out.2.2.grow (.cells #[.int .i64 0, .int .i64 9007199254740992, .int .i64 (-9007199254740992), .int .i64 94906265, .int .i64 4503599627370496] 2)).keepK hk2 (by omega)
    have k2 := (HS.out.2.1.alloc (.cells #[.int .i64 0, .int .i64 9007199254740992, .int .i64 (-9007199254740992), .int .i64 94906265, .int .i64 4503599627370496] 2)).trans hk2
    have HK2 : Hid (Lies w2 w.heap.size Val.zeroV ∧ Keep S w w2 ∧ Src w2 S) := ⟨l2, k2, hs2⟩
    clear z0 z1 z2 f0 f1 f2 hlt hk2 hT l2 k2 hs2 HS HS2
    have hcase : q = 0 ∨ q = 1 ∨ q = 2 ∨ q = 3 ∨ q = 4 := by omega
    clear hq
    rcases hcase with rfl | rfl | rfl | rfl | rfl
    all_goals
      go_wp2_with fail
      refine (XN.out _ _).mono ?_
      rintro e w3 ⟨⟨bk, bn, bt⟩, hbt, rfl, hb3⟩
      have l3 := HK2.out.1.keep hb3
      have hs3 := HK2.out.2.2.below hb3
      have k3 := HK2.out.2.1.ofBelow hb3
      obtain ⟨⟨z0, z1, z2⟩, f0, f1, f2⟩ := l3.three
      have hlt := l3.lt
      unfold vC
      dsimp only [Val.zeroV, Val.e0] at z0 z1 z2 hbt ⊢
      go_wp2_with fail
      refine bodyPost_ret (v := .agg #[.int .i64 bk, .int .i64 bn, .string bt]) (by simp [results, Try.results40, go_sem, z0, z1, z2]) rfl ?_
      exact HF.out w3 ⟨bk, bn, bt⟩ hbt hs3 k3
  · have XN : Hid _ := fun (m : Int) (W : World) => sNumE m W
    have e0 : ((r : Int) == 0) = false := beq_eq_false_iff_ne.2 (by omega)
    have e1 : ((r : Int) == 1) = false := beq_eq_false_iff_ne.2 (by omega)
    have e2 : ((r : Int) == 2) = false := beq_eq_false_iff_ne.2 (by omega)
    have e3 : ((r : Int) == 3) = false := beq_eq_false_iff_ne.2 (by omega)
    have e4 : ((r : Int) == 4) = false := beq_eq_false_iff_ne.2 (by omega)
    have e5 : ((r : Int) == 5) = false := beq_eq_false_iff_ne.2 (by omega)
    have e6 : ((r : Int) == 6) = false := beq_eq_false_iff_ne.2 (by omega)
    clear h7 hr
    go_wp2_with fail
    clear e0 e1 e2 e3 e4 e5 e6
    refine (O1.out 15 (by omega) (by omega) _ HS.out.1).mono ?_
    rintro e w2 ⟨c, rfl, hs2, hk2⟩
    have l2 := HS.out.2.2.keepK hk2 (by omega)
    have k2 := HS.out.2.1.trans hk2
    have HK2 : Hid (Lies w2 w.heap.size Val.zeroV ∧ Keep S w w2 ∧ Src w2 S) := ⟨l2, k2, hs2⟩
    clear z0 z1 z2 f0 f1 f2 hlt hk2 l2 k2 hs2 HS
    cases c
    · go_wp2_with fail
      refine (N1.out 20 (by omega) (by omega) _ HK2.out.2.2).mono ?_
      rintro e w3 ⟨q, rfl, hq, hs3, hk3⟩
      have HK3 : Hid (Lies w3 w.heap.size Val.zeroV ∧ Keep S w w3 ∧ Src w3 S) := ⟨HK2.out.1.keepK hk3 (by omega), HK2.out.2.1.trans hk3, hs3⟩
      clear HK2 hk3 hs3
      have hq' : (q : Int) < 20 := by omega
      go_wp2_with fail
      refine (XN.out _ _).mono ?_
      rintro e w4 ⟨⟨bk, bn, bt⟩, hbt, rfl, hb3⟩
      have l3 := HK3.out.1.keep hb3
      have hs4 := HK3.out.2.2.below hb3
      have k3 := HK3.out.2.1.ofBelow hb3
      obtain ⟨⟨z0, z1, z2⟩, f0, f1, f2⟩ := l3.three
      have hlt := l3.lt
      unfold vC
      dsimp only [Val.zeroV, Val.e0] at z0 z1 z2 hbt ⊢
      go_wp2_with fail
      refine bodyPost_ret (v := .agg #[.int .i64 bk, .int .i64 bn, .string bt]) (by simp [results, Try.results40, go_sem, z0, z1, z2]) rfl ?_
      exact HF.out w4 ⟨bk, bn, bt⟩ hbt hs4 k3
    · have KZ : Hid _ := fun (q : Nat) (hq : q < 2) => make_law q hq
      have CZ : Hid _ := fun (W : World) (g N : Nat) (h : W.heap[g]? = some (.cells (madeCells #[.int .u8 0] N) 5 (0, 0))) => conv_zero W g N h
      obtain ⟨l2, k2, hs2⟩ := HK2.out
      have hSw := hs2.lt
      have hneS : w.heap.size ≠ S := by omega
      have l2d : Lies w2.drew w.heap.size Val.zeroV := l2
      go_wp2_with fail
      go_region_with (first
        | (go_at_call_of 64 (2 : Int); refine (N1.out 2 (by omega) (by omega) _ (hs2.below (Below.refl w2.heap.size w2).drew)).mono ?_; rintro e WA ⟨q, rfl, hq, hsA, hkA⟩; have hmk := KZ.out q hq; have hwr := wrap_q q hq; have hcv := conv_new q; have hSA := hsA.lt; have lA := l2d.keepK hkA hneS; have kA := k2.drew.trans hkA; have hq' : (q : Int) < 2 := by omega)
        | (go_at_call_of 64 (7 : Int); refine (N1.out 7 (by omega) (by omega) _ ?_).mono ?_; (first | exact hsA | exact src_grow1 hsA | exact src_grow2 hsA); rintro e WB ⟨p, rfl, hp, hsB, hkB⟩; have hp' : (p : Int) < 7 := (by omega); have lB : Lies WB w.heap.size Val.zeroV := (by first | exact lA.keepK hkB hneS | exact (lA.grow _).keepK hkB hneS | exact ((lA.grow _).grow _).keepK hkB hneS); obtain ⟨⟨z0, z1, z2⟩, f0, f1, f2⟩ := lB.three; have hltB := lB.lt; dsimp only [Val.zeroV, Val.e0] at z0 z1 z2; have kB : Keep S w WB := (by first | exact kA.trans hkB | exact (kA.alloc _).trans hkB | exact ((kA.alloc _).alloc _).trans hkB); first | (have ht := tab_keep hp hSA hkB; obtain ⟨t0, t1, t2⟩ := ht) | (have hcv2 := conv_keep hSA hkB; have t0 := fun W : World => (tab_new (q := q) hp W).1; have t1 := fun W : World => (tab_new (q := q) hp W).2.1; have t2 := fun W : World => (tab_new (q := q) hp W).2.2) | (have t0 := fun W : World => fun o : Obj => (tab_new2 (q := q) hp W o).1; have t1 := fun W : World => fun o : Obj => (tab_new2 (q := q) hp W o).2.1; have t2 := fun W : World => fun o : Obj => (tab_new2 (q := q) hp W o).2.2)))
      all_goals
        go_wp2_with fail
        refine bodyPost_ret (v := .agg #[.int .i64 (tK p), .int .i64 (tN p), .string (tX q p)]) (by first | (simp [results, Try.results40, go_sem, z0, z1, z2]; done) | (simp [results, Try.results40, go_sem, z0, z1, z2, hltB]; done)) rfl ?_
        refine ⟨⟨tK p, tN p, tX q p⟩, tX_size q p hq, rfl, ?_, ?_⟩
        · first
            | exact hsB.set3 w.heap.size ⟨tK p, tN p, tX q p⟩ hS
            | exact src_grow1 (hsB.set3 w.heap.size ⟨tK p, tN p, tX q p⟩ hS)
            | exact src_grow2 (hsB.set3 w.heap.size ⟨tK p, tN p, tX q p⟩ hS)
        · first
            | exact kB.set3 (Nat.le_refl _) ⟨tK p, tN p, tX q p⟩
            | exact (kB.set3 (Nat.le_refl _) ⟨tK p, tN p, tX q p⟩).alloc _
            | exact ((kB.set3 (Nat.le_refl _) ⟨tK p, tN p, tX q p⟩).alloc _).alloc _

end Go.Proofs.Ytlmlmdmechhalaa

/-
  The walk of the law on values.
-/
import Derived.Test.YtjgekikcmkicmaaGreatDoorVValQ
import Derived.Test.YtjgekikcmkicmaaGreatDoorRegL
import Derived.Test.YtjgekikcmkicmaaGreatDoorVDrawF
import Derived.Test.YtjgekikcmkicmaaGreatDoorValTruth
import Derived.Test.YtjgekikcmkicmaaGreatDoorValType
import Derived.Test.YtjgekikcmkicmaaGreatDoorValAlikeI
import Derived.Test.YtjgekikcmkicmaaGreatDoorValTextS
import Derived.Test.YtjgekikcmkicmaaGreatDoorValToNum
import Derived.Test.YtjgekikcmkicmaaGreatDoorValEqJ
import Derived.Test.YtjgekikcmkicmaaGreatDoorValLessJ
import Derived.Deep.RegionHeld3
namespace Go.Proofs.YtjgekikcmkicmaaGreatDoor
open Go.RowKit Go.Shelf

set_option maxHeartbeats 64000000 in
set_option maxRecDepth 100000 in
theorem fnValues_walk (a a' : Option Addr) (len cap len' cap' : Nat) (cs cs' : List UInt8) (w : World) (hl : cs.length = len) (hl' : cs'.length = len') (hB : BytesIn w a cs) (hB' : BytesIn w a' cs') (hp : PowIn w) (he : ErrIn w) (hk : KindsIn w) :
    Calls Tryz.prog 3 #[.slice a len cap, .slice a' len' cap'] w fun e w' => e = .returned (.bool true) ∧ Below w.heap.size w w' := by
  have HP : Hid (PowIn w ∧ ErrIn w ∧ KindsIn w) := ⟨hp, he, hk⟩
  have DE : Hid _ := fun (h : len ≤ 1048576) => sDrawEqual a len cap cs w hl h hB
  have DT : Hid _ := fun (W : World) (hW : Below w.heap.size w W) (h : len' ≤ 1048576) => sDrawToText a' len' cap' cs' W hl' h (hB'.under hW)
  clear hp he hk hB hB'
  go_enter Tryz.func3, Tryz.ntmps3
  by_cases hlen : 1048576 < len
  · have hlen' : (1048576 : Int) < (len : Int) := by omega
    go_wp2_with fail
    go_ret
    exact ⟨rfl, Below.refl _ _⟩
  have hlen' : ¬ (1048576 : Int) < (len : Int) := by omega
  by_cases hlen2 : 1048576 < len'
  · have hlen2' : (1048576 : Int) < (len' : Int) := by omega
    go_wp2_with fail
    go_ret
    exact ⟨rfl, Below.refl _ _⟩
  have hlen2' : ¬ (1048576 : Int) < (len' : Int) := by omega
  go_wp2_with fail
  refine (DE.out (by omega)).mono ?_
  rintro e w1 ⟨⟨xk, xn, xt⟩, ⟨yk, yn, yt⟩, hxt, hyt, rfl, hb1⟩
  have L2 := lies_two w1 ⟨xk, xn, xt⟩ ⟨yk, yn, yt⟩
  have hb2 : Below w.heap.size w ((w1.alloc (.cells (vC ⟨xk, xn, xt⟩) 24)).alloc (.cells (vC ⟨yk, yn, yt⟩) 24)) := (hb1.alloc hb1.size _).alloc (hb1.alloc hb1.size _).size _
  have HL : Hid (_ ∧ _) := ⟨L2, hb2⟩
  clear L2 hb2 hlen hlen' DE hxt hyt
  unfold vC at HL ⊢
  dsimp only at HL ⊢
  go_wp2_with fail
  obtain ⟨⟨lX, lY⟩, hbw⟩ := HL.out
  clear HL hb1
  generalize (w1.alloc (.cells #[.int .i64 xk, .int .i64 xn, .string xt] 24)).alloc (.cells #[.int .i64 yk, .int .i64 yn, .string yt] 24) = w2 at *
  have hB1 : w1.heap.size ≠ w1.heap.size + 1 := by omega
  generalize w1.heap.size + 1 = B at *
  generalize w1.heap.size = A at *
  have IA : Hid _ := fun (W : World) => iAlike ⟨xk, xn, xt⟩ ⟨yk, yn, yt⟩ W
  have SA : Hid _ := fun (W : World) => sAlike ⟨xk, xn, xt⟩ ⟨yk, yn, yt⟩ W
  have IE : Hid _ := fun (W : World) (hp : PowIn W) (he : ErrIn W) => iEqual ⟨xk, xn, xt⟩ ⟨yk, yn, yt⟩ W hp he
  have SE : Hid _ := fun (W : World) => sEqual ⟨xk, xn, xt⟩ ⟨yk, yn, yt⟩ W
  have IL : Hid _ := fun (W : World) (hp : PowIn W) (he : ErrIn W) => iLess ⟨xk, xn, xt⟩ ⟨yk, yn, yt⟩ W hp he
  have SL : Hid _ := fun (W : World) => sLess ⟨xk, xn, xt⟩ ⟨yk, yn, yt⟩ W
  obtain ⟨vA, hvA⟩ : ∃ v, Val.alikeV ⟨xk, xn, xt⟩ ⟨yk, yn, yt⟩ = v := ⟨_, rfl⟩
  obtain ⟨vE, hvE⟩ : ∃ v, Val.equalV ⟨xk, xn, xt⟩ ⟨yk, yn, yt⟩ = v := ⟨_, rfl⟩
  obtain ⟨⟨lk, ln, lt⟩, hvL⟩ : ∃ v, Val.lessV ⟨xk, xn, xt⟩ ⟨yk, yn, yt⟩ = v := ⟨_, rfl⟩
  rw [hvA] at IA SA
  rw [hvE] at IE SE
  rw [hvL] at IL SL
  have HV : Hid (_ ∧ _ ∧ _) := ⟨hvA, hvE, hvL⟩
  clear hvA hvE hvL
  unfold vC at IA SA IE SE IL SL
  dsimp only at IA SA IE SE IL SL
  have q1 : (vA != vA) = false := by simp
  have q2 : (vE != vE) = false := by simp
  have HPW : Hid (∀ W, Below w2.heap.size w2 W → PowIn W ∧ ErrIn W) := fun W hW => ⟨HP.out.1.keep (hbw.trans (hW.mono hbw.size)), HP.out.2.1.keep (hbw.trans (hW.mono hbw.size))⟩
  have HLX : Hid (∀ W, Below w2.heap.size w2 W → (W.cell? ⟨A, 0, none⟩ = some (.int .i64 xk) ∧ W.cell? ⟨A, 1, none⟩ = some (.int .i64 xn) ∧ W.cell? ⟨A, 2, none⟩ = some (.string xt)) ∧ (W.cell? ⟨B, 0, none⟩ = some (.int .i64 yk) ∧ W.cell? ⟨B, 1, none⟩ = some (.int .i64 yn) ∧ W.cell? ⟨B, 2, none⟩ = some (.string yt))) := fun W hW => ⟨(lX.keep hW).three.1, (lY.keep hW).three.1⟩
  have r6 := HLX.out w2 (Below.refl _ _)
  obtain ⟨⟨r0, r1, r2⟩, s0, s1, s2⟩ := r6
  have hltA := lX.lt
  have hltB := lY.lt
  refine wp_region_held_drew (S := fun w' => (w'.cell? ⟨A, 0, none⟩ = some (.int .i64 xk) ∧ w'.cell? ⟨A, 1, none⟩ = some (.int .i64 xn) ∧ w'.cell? ⟨A, 2, none⟩ = some (.string xt)) ∧ (w'.cell? ⟨B, 0, none⟩ = some (.int .i64 yk) ∧ w'.cell? ⟨B, 1, none⟩ = some (.int .i64 yn) ∧ w'.cell? ⟨B, 2, none⟩ = some (.string yt))) (by kernel_rfl) (HLX.out _ (Below.refl w2.heap.size w2).drew) (fun hHeld => ?_)
  refine takeIn 0 (v := ?vp2x0) rfl (by kernel_rfl) (by kernel_rfl) (by kernel_rfl) (fun _ _ _ h => h) ?wp2x0 (by assumption) ?yp2x0 ?rp2x0
  case wp2x0 => rfl
  case yp2x0 => (intro w hSw; (try dsimp only at hSw); go_simp; first | done | with_reducible rfl)
  simp only [Act.put, List.setIfInBounds_toArray, List.set_cons_zero, List.set_cons_succ]
  refine takeIn 1 (v := ?vp3x1) rfl (by kernel_rfl) (by kernel_rfl) (by kernel_rfl) (fun _ _ _ h => h) ?wp3x1 (by assumption) ?yp3x1 ?rp3x1
  case wp3x1 => rfl
  case yp3x1 => (intro w hSw; (try dsimp only at hSw); go_simp; first | done | with_reducible rfl)
  simp only [Act.put, List.setIfInBounds_toArray, List.set_cons_zero, List.set_cons_succ]
  refine takeIn 3 (v := ?vp4x3) rfl (by kernel_rfl) (by kernel_rfl) (by kernel_rfl) (fun _ _ _ h => h) ?wp4x3 (by assumption) ?yp4x3 ?rp4x3
  case wp4x3 => rfl
  case yp4x3 => (intro w hSw; (try dsimp only at hSw); go_simp; first | done | with_reducible rfl)
  simp only [Act.put, List.setIfInBounds_toArray, List.set_cons_zero, List.set_cons_succ]
  refine takeIn 4 (v := ?vp5x4) rfl (by kernel_rfl) (by kernel_rfl) (by kernel_rfl) (fun _ _ _ h => h) ?wp5x4 (by assumption) ?yp5x4 ?rp5x4
  case wp5x4 => rfl
  case yp5x4 => (intro w hSw; (try dsimp only at hSw); go_simp; first | done | with_reducible rfl)
  simp only [Act.put, List.setIfInBounds_toArray, List.set_cons_zero, List.set_cons_succ]
  refine oneUp 2 rfl (by kernel_rfl) (by rfl) (fun K hK => ?_)
  go_simp
  refine (IA.out _).mono ?_
  rintro e WA ⟨rfl, hA⟩
  have hA2 : Below w2.heap.size w2 WA := (Below.refl w2.heap.size w2).drew.trans hA
  refine hK.out _ _ ?_ (fun hHeld => ?_)
  · (try dsimp only); exact HLX.out _ hA2
  clear hK K
  try simp only [Act.put, List.setIfInBounds_toArray, List.set_cons_zero, List.set_cons_succ]
  refine oneUp 5 rfl (by kernel_rfl) (by rfl) (fun K hK => ?_)
  go_simp
  refine (SA.out _).mono ?_
  rintro e WB ⟨rfl, hB⟩
  have hB2 : Below w2.heap.size w2 WB := hA2.trans (hB.mono hA2.size)
  refine hK.out _ _ ?_ (fun hHeld => ?_)
  · (try dsimp only); exact HLX.out _ hB2
  clear hK K
  try simp only [Act.put, List.setIfInBounds_toArray, List.set_cons_zero, List.set_cons_succ]
  refine takeIn 6 (v := ?vp9x6) rfl (by kernel_rfl) (by kernel_rfl) (by kernel_rfl) (fun _ _ _ h => h) ?wp9x6 (by assumption) ?yp9x6 ?rp9x6
  case wp9x6 => rfl
  case yp9x6 => (intro w hSw; (try dsimp only at hSw); go_simp; first | done | with_reducible rfl)
  simp only [Act.put, List.setIfInBounds_toArray, List.set_cons_zero, List.set_cons_succ]
  refine takeIn 7 (v := ?vp10x7) rfl (by kernel_rfl) (by kernel_rfl) (by kernel_rfl) (fun _ _ _ h => h) ?wp10x7 (by assumption) ?yp10x7 ?rp10x7
  case wp10x7 => rfl
  case yp10x7 => (intro w hSw; (try dsimp only at hSw); go_simp; first | done | with_reducible rfl)
  simp only [Act.put, List.setIfInBounds_toArray, List.set_cons_zero, List.set_cons_succ]
  refine takeIn 8 (v := ?vp11x8) rfl (by kernel_rfl) (by kernel_rfl) (by kernel_rfl) (fun _ _ _ h => h) ?wp11x8 (by assumption) ?yp11x8 ?rp11x8
  case wp11x8 => rfl
  case yp11x8 => (intro w hSw; (try dsimp only at hSw); go_simp; first | done | with_reducible rfl)
  simp only [Act.put, List.setIfInBounds_toArray, List.set_cons_zero, List.set_cons_succ]
  refine takeIn 9 (v := ?vp12x9) rfl (by kernel_rfl) (by kernel_rfl) (by kernel_rfl) (fun _ _ _ h => h) ?wp12x9 (by assumption) ?yp12x9 ?rp12x9
  case wp12x9 => rfl
  case yp12x9 => (intro w hSw; (try dsimp only at hSw); go_simp; first | done | with_reducible rfl)
  simp only [Act.put, List.setIfInBounds_toArray, List.set_cons_zero, List.set_cons_succ]
  refine takeIn 11 (v := ?vp13x11) rfl (by kernel_rfl) (by kernel_rfl) (by kernel_rfl) (fun _ _ _ h => h) ?wp13x11 (by assumption) ?yp13x11 ?rp13x11
  case wp13x11 => rfl
  case yp13x11 => (intro w hSw; (try dsimp only at hSw); go_simp; first | done | with_reducible rfl)
  simp only [Act.put, List.setIfInBounds_toArray, List.set_cons_zero, List.set_cons_succ]
  refine takeIn 12 (v := ?vp14x12) rfl (by kernel_rfl) (by kernel_rfl) (by kernel_rfl) (fun _ _ _ h => h) ?wp14x12 (by assumption) ?yp14x12 ?rp14x12
  case wp14x12 => rfl
  case yp14x12 => (intro w hSw; (try dsimp only at hSw); go_simp; first | done | with_reducible rfl)
  simp only [Act.put, List.setIfInBounds_toArray, List.set_cons_zero, List.set_cons_succ]
  refine oneUp 10 rfl (by kernel_rfl) (by rfl) (fun K hK => ?_)
  go_simp
  refine (IE.out _ (HPW.out _ hB2).1 (HPW.out _ hB2).2).mono ?_
  rintro e WC ⟨rfl, hC⟩
  have hC2 : Below w2.heap.size w2 WC := hB2.trans (hC.mono hB2.size)
  refine hK.out _ _ ?_ (fun hHeld => ?_)
  · (try dsimp only); exact HLX.out _ hC2
  clear hK K
  try simp only [Act.put, List.setIfInBounds_toArray, List.set_cons_zero, List.set_cons_succ]
  refine oneUp 13 rfl (by kernel_rfl) (by rfl) (fun K hK => ?_)
  go_simp
  refine (SE.out _).mono ?_
  rintro e WD ⟨rfl, hD⟩
  have hD2 : Below w2.heap.size w2 WD := hC2.trans (hD.mono hC2.size)
  refine hK.out _ _ ?_ (fun hHeld => ?_)
  · (try dsimp only); exact HLX.out _ hD2
  clear hK K
  try simp only [Act.put, List.setIfInBounds_toArray, List.set_cons_zero, List.set_cons_succ]
  refine takeIn 14 (v := ?vp18x14) rfl (by kernel_rfl) (by kernel_rfl) (by kernel_rfl) (fun _ _ _ h => h) ?wp18x14 (by assumption) ?yp18x14 ?rp18x14
  case wp18x14 => rfl
  case yp18x14 => (intro w hSw; (try dsimp only at hSw); go_simp; first | done | with_reducible rfl)
  simp only [Act.put, List.setIfInBounds_toArray, List.set_cons_zero, List.set_cons_succ]
  refine takeIn 15 (v := ?vp19x15) rfl (by kernel_rfl) (by kernel_rfl) (by kernel_rfl) (fun _ _ _ h => h) ?wp19x15 (by assumption) ?yp19x15 ?rp19x15
  case wp19x15 => rfl
  case yp19x15 => (intro w hSw; (try dsimp only at hSw); go_simp; first | done | with_reducible rfl)
  simp only [Act.put, List.setIfInBounds_toArray, List.set_cons_zero, List.set_cons_succ]
  refine takeIn 16 (v := ?vp20x16) rfl (by kernel_rfl) (by kernel_rfl) (by kernel_rfl) (fun _ _ _ h => h) ?wp20x16 (by assumption) ?yp20x16 ?rp20x16
  case wp20x16 => rfl
  case yp20x16 => (intro w hSw; (try dsimp only at hSw); go_simp; first | done | with_reducible rfl)
  simp only [Act.put, List.setIfInBounds_toArray, List.set_cons_zero, List.set_cons_succ]
  refine takeIn 17 (v := ?vp21x17) rfl (by kernel_rfl) (by kernel_rfl) (by kernel_rfl) (fun _ _ _ h => h) ?wp21x17 (by assumption) ?yp21x17 ?rp21x17
  case wp21x17 => rfl
  case yp21x17 => (intro w hSw; (try dsimp only at hSw); go_simp; first | done | with_reducible rfl)
  simp only [Act.put, List.setIfInBounds_toArray, List.set_cons_zero, List.set_cons_succ]
  refine takeIn 18 (v := ?vp22x18) rfl (by kernel_rfl) (by kernel_rfl) (by kernel_rfl) (fun _ _ _ h => h) ?wp22x18 (by assumption) ?yp22x18 ?rp22x18
  case wp22x18 => rfl
  case yp22x18 => (intro w hSw; (try dsimp only at hSw); go_simp; first | done | with_reducible rfl)
  simp only [Act.put, List.setIfInBounds_toArray, List.set_cons_zero, List.set_cons_succ]
  refine takeIn 20 (v := ?vp23x20) rfl (by kernel_rfl) (by kernel_rfl) (by kernel_rfl) (fun _ _ _ h => h) ?wp23x20 (by assumption) ?yp23x20 ?rp23x20
  case wp23x20 => rfl
  case yp23x20 => (intro w hSw; (try dsimp only at hSw); go_simp; first | done | with_reducible rfl)
  simp only [Act.put, List.setIfInBounds_toArray, List.set_cons_zero, List.set_cons_succ]
  refine takeIn 21 (v := ?vp24x21) rfl (by kernel_rfl) (by kernel_rfl) (by kernel_rfl) (fun _ _ _ h => h) ?wp24x21 (by assumption) ?yp24x21 ?rp24x21
  case wp24x21 => rfl
  case yp24x21 => (intro w hSw; (try dsimp only at hSw); go_simp; first | done | with_reducible rfl)
  simp only [Act.put, List.setIfInBounds_toArray, List.set_cons_zero, List.set_cons_succ]
  refine oneUp 19 rfl (by kernel_rfl) (by rfl) (fun K hK => ?_)
  go_simp
  refine (IL.out _ (HPW.out _ hD2).1 (HPW.out _ hD2).2).mono ?_
  rintro e WE ⟨rfl, hE⟩
  have hE2 : Below w2.heap.size w2 WE := hD2.trans (hE.mono hD2.size)
  refine hK.out _ _ ?_ (fun hHeld => ?_)
  · (try dsimp only); exact HLX.out _ hE2
  clear hK K
  try simp only [Act.put, List.setIfInBounds_toArray, List.set_cons_zero, List.set_cons_succ]
  refine oneUp 22 rfl (by kernel_rfl) (by rfl) (fun K hK => ?_)
  go_simp
  refine (SL.out _).mono ?_
  rintro e WF ⟨rfl, hF⟩
  have hF2 : Below w2.heap.size w2 WF := hE2.trans (hF.mono hE2.size)
  refine hK.out _ _ ?_ (fun hHeld => ?_)
  · (try dsimp only); exact HLX.out _ hF2
  clear hK K
  try simp only [Act.put, List.setIfInBounds_toArray, List.set_cons_zero, List.set_cons_succ]
  refine takeIn 23 (v := ?vp28x23) rfl (by kernel_rfl) (by kernel_rfl) (by kernel_rfl) (fun _ _ _ h => h) ?wp28x23 (by assumption) ?yp28x23 ?rp28x23
  case wp28x23 => rfl
  case yp28x23 => (intro w hSw; (try dsimp only at hSw); go_simp; first | done | with_reducible rfl)
  simp only [Act.put, List.setIfInBounds_toArray, List.set_cons_zero, List.set_cons_succ]
  refine takeIn 24 (v := ?vp29x24) rfl (by kernel_rfl) (by kernel_rfl) (by kernel_rfl) (fun _ _ _ h => h) ?wp29x24 (by assumption) ?yp29x24 ?rp29x24
  case wp29x24 => rfl
  case yp29x24 => (intro w hSw; (try dsimp only at hSw); go_simp; first | done | with_reducible rfl)
  simp only [Act.put, List.setIfInBounds_toArray, List.set_cons_zero, List.set_cons_succ]
  refine wpAnyH_done (by kernel_rfl) ?_ _
  replace lX := lX.keep hF2
  replace lY := lY.keep hF2
  replace hbw := hbw.trans (hF2.mono hbw.size)
  clear hHeld hA hB hC hD hE hF hA2 hB2 hC2 hD2 hE2 hF2 r0 r1 r2 s0 s1 s2 hltA hltB HLX HPW SA SE SL
  have ILr : Hid _ := fun (W : World) (hp : PowIn W) (he : ErrIn W) => iLess ⟨yk, yn, yt⟩ ⟨xk, xn, xt⟩ W hp he
  have IAr : Hid _ := fun (W : World) => iAlike ⟨yk, yn, yt⟩ ⟨xk, xn, xt⟩ W
  have IEr : Hid _ := fun (W : World) (hp : PowIn W) (he : ErrIn W) => iEqual ⟨yk, yn, yt⟩ ⟨xk, xn, xt⟩ W hp he
  have hAr : Val.alikeV ⟨yk, yn, yt⟩ ⟨xk, xn, xt⟩ = vA := by
    rw [← HV.out.1]
    exact (Val.alikeV_comm ⟨yk, yn, yt⟩ ⟨xk, xn, xt⟩)
  have hEr : Val.equalV ⟨yk, yn, yt⟩ ⟨xk, xn, xt⟩ = vE := by
    rw [← HV.out.2.1]
    exact (Val.equalV_comm ⟨yk, yn, yt⟩ ⟨xk, xn, xt⟩)
  have HAE : Hid (vA = true → vE = true) := fun h => by
    rw [← HV.out.2.1]
    rw [← HV.out.1] at h
    exact Val.alike_imp _ _ h
  rw [hAr] at IAr
  rw [hEr] at IEr
  clear hAr hEr
  obtain ⟨⟨mk, mn, mt⟩, hvM⟩ : ∃ v, Val.lessV ⟨yk, yn, yt⟩ ⟨xk, xn, xt⟩ = v := ⟨_, rfl⟩
  rw [hvM] at ILr
  have T1 : Hid _ := fun (W : World) => iTruth ⟨lk, ln, lt⟩ W
  have T2 : Hid _ := fun (W : World) => iTruth ⟨mk, mn, mt⟩ W
  obtain ⟨t1, ht1⟩ : ∃ v, Val.truthV ⟨lk, ln, lt⟩ = v := ⟨_, rfl⟩
  obtain ⟨t2, ht2⟩ : ∃ v, Val.truthV ⟨mk, mn, mt⟩ = v := ⟨_, rfl⟩
  rw [ht1] at T1
  rw [ht2] at T2
  have HTT : Hid (t1 = true → t2 = false) := fun h => by
    have := Val.lessV_asym ⟨xk, xn, xt⟩ ⟨yk, yn, yt⟩
    rw [HV.out.2.2, hvM] at this
    rw [← ht2]
    rw [← ht1] at h
    unfold Val.truthV at h ⊢
    simp only [Bool.and_eq_true] at h
    rw [h.2] at this
    simp only [Bool.true_and] at this
    rw [this, Bool.and_false]
  unfold vC at ILr T1 T2 IAr IEr
  dsimp only at ILr T1 T2 IAr IEr
  clear hvM ht1 ht2
  have HPW : Hid (∀ W, Below WF.heap.size WF W → PowIn W ∧ ErrIn W) := fun W hW => ⟨HP.out.1.keep (hbw.trans (hW.mono hbw.size)), HP.out.2.1.keep (hbw.trans (hW.mono hbw.size))⟩
  have HLX : Hid (∀ W, Below WF.heap.size WF W → (W.cell? ⟨A, 0, none⟩ = some (.int .i64 xk) ∧ W.cell? ⟨A, 1, none⟩ = some (.int .i64 xn) ∧ W.cell? ⟨A, 2, none⟩ = some (.string xt)) ∧ (W.cell? ⟨B, 0, none⟩ = some (.int .i64 yk) ∧ W.cell? ⟨B, 1, none⟩ = some (.int .i64 yn) ∧ W.cell? ⟨B, 2, none⟩ = some (.string yt))) := fun W hW => ⟨(lX.keep hW).three.1, (lY.keep hW).three.1⟩
  have HBW : Hid (Below w.heap.size w WF) := hbw
  obtain ⟨⟨r0, r1, r2⟩, s0, s1, s2⟩ := HLX.out WF (Below.refl _ _)
  clear hbw lX lY
  go_wp2_with fail
  refine (IL.out _ (HPW.out _ (Below.refl _ _)).1 (HPW.out _ (Below.refl _ _)).2).mono ?_
  rintro e w3 ⟨rfl, hb3⟩
  clear r0 r1 r2 s0 s1 s2
  go_wp2_with fail
  refine (T1.out _).mono ?_
  rintro e w4 ⟨rfl, hb4⟩
  have hb34 := hb3.trans (hb4.mono hb3.size)
  clear hb3 hb4
  obtain ⟨⟨r0, r1, r2⟩, s0, s1, s2⟩ := HLX.out w4 hb34
  have HC7 : ∀ wa, Below WF.heap.size WF wa → Hid (Below WF.heap.size WF wa) := fun _ h => h
  cases t1
  case true =>
    have ht2 := HTT.out rfl
    subst ht2
    go_wp2_with fail
    refine (ILr.out _ (HPW.out _ hb34).1 (HPW.out _ hb34).2).mono ?_
    rintro e w5 ⟨rfl, hb5⟩
    clear r0 r1 r2 s0 s1 s2
    go_wp2_with fail
    refine (T2.out _).mono ?_
    rintro e wa ⟨rfl, hb6⟩
    have h5 := hb34.trans (hb5.mono hb34.size)
    have hba := h5.trans (hb6.mono h5.size)
    clear h5 hb5 hb6 hb34
    go_wp2_with fail
    replace HLX : Hid (∀ W, Below wa.heap.size wa W → _) := fun W hW => HLX.out W (hba.trans (hW.mono hba.size))
    replace HPW : Hid (∀ W, Below wa.heap.size wa W → _) := fun W hW => HPW.out W (hba.trans (hW.mono hba.size))
    replace HBW : Hid (Below w.heap.size w wa) := HBW.out.trans (hba.mono HBW.out.size)
    clear hba HC7
    go_cut [87] from 48 to 144 (fun v W7 => v = .bool false ∧ Below wa.heap.size wa W7)
    case first =>
      cases vA
      · refine wp_region_held_drew (S := fun w' => (w'.cell? ⟨A, 0, none⟩ = some (.int .i64 xk) ∧ w'.cell? ⟨A, 1, none⟩ = some (.int .i64 xn) ∧ w'.cell? ⟨A, 2, none⟩ = some (.string xt)) ∧ (w'.cell? ⟨B, 0, none⟩ = some (.int .i64 yk) ∧ w'.cell? ⟨B, 1, none⟩ = some (.int .i64 yn) ∧ w'.cell? ⟨B, 2, none⟩ = some (.string yt))) (by kernel_rfl) (HLX.out _ (Below.refl wa.heap.size wa).drew) (fun hHeld => ?_)
        refine takeIn 0 (v := ?vp31x0) rfl (by kernel_rfl) (by kernel_rfl) (by kernel_rfl) (fun _ _ _ h => h) ?wp31x0 (by assumption) ?yp31x0 ?rp31x0
        case wp31x0 => rfl
        case yp31x0 => (intro w hSw; (try dsimp only at hSw); go_simp; first | done | with_reducible rfl)
        simp only [Act.put, List.setIfInBounds_toArray, List.set_cons_zero, List.set_cons_succ]
        refine takeIn 1 (v := ?vp32x1) rfl (by kernel_rfl) (by kernel_rfl) (by kernel_rfl) (fun _ _ _ h => h) ?wp32x1 (by assumption) ?yp32x1 ?rp32x1
        case wp32x1 => rfl
        case yp32x1 => (intro w hSw; (try dsimp only at hSw); go_simp; first | done | with_reducible rfl)
        simp only [Act.put, List.setIfInBounds_toArray, List.set_cons_zero, List.set_cons_succ]
        refine takeIn 3 (v := ?vp33x3) rfl (by kernel_rfl) (by kernel_rfl) (by kernel_rfl) (fun _ _ _ h => h) ?wp33x3 (by assumption) ?yp33x3 ?rp33x3
        case wp33x3 => rfl
        case yp33x3 => (intro w hSw; (try dsimp only at hSw); go_simp; first | done | with_reducible rfl)
        simp only [Act.put, List.setIfInBounds_toArray, List.set_cons_zero, List.set_cons_succ]
        refine takeIn 4 (v := ?vp34x4) rfl (by kernel_rfl) (by kernel_rfl) (by kernel_rfl) (fun _ _ _ h => h) ?wp34x4 (by assumption) ?yp34x4 ?rp34x4
        case wp34x4 => rfl
        case yp34x4 => (intro w hSw; (try dsimp only at hSw); go_simp; first | done | with_reducible rfl)
        simp only [Act.put, List.setIfInBounds_toArray, List.set_cons_zero, List.set_cons_succ]
        refine oneUp 2 rfl (by kernel_rfl) (by rfl) (fun K hK => ?_)
        go_simp
        refine (IA.out _).mono ?_
        rintro e WA ⟨rfl, hA⟩
        have hA2 : Below wa.heap.size wa WA := (Below.refl wa.heap.size wa).drew.trans hA
        refine hK.out _ _ ?_ (fun hHeld => ?_)
        · (try dsimp only); exact HLX.out _ hA2
        clear hK K
        try simp only [Act.put, List.setIfInBounds_toArray, List.set_cons_zero, List.set_cons_succ]
        refine oneUp 5 rfl (by kernel_rfl) (by rfl) (fun K hK => ?_)
        go_simp
        refine (IAr.out _).mono ?_
        rintro e WB ⟨rfl, hB⟩
        have hB2 : Below wa.heap.size wa WB := hA2.trans (hB.mono hA2.size)
        refine hK.out _ _ ?_ (fun hHeld => ?_)
        · (try dsimp only); exact HLX.out _ hB2
        clear hK K
        try simp only [Act.put, List.setIfInBounds_toArray, List.set_cons_zero, List.set_cons_succ]
        refine takeIn 6 (v := ?vp38x6) rfl (by kernel_rfl) (by kernel_rfl) (by kernel_rfl) (fun _ _ _ h => h) ?wp38x6 (by assumption) ?yp38x6 ?rp38x6
        case wp38x6 => rfl
        case yp38x6 => (intro w hSw; (try dsimp only at hSw); go_simp; first | done | with_reducible rfl)
        simp only [Act.put, List.setIfInBounds_toArray, List.set_cons_zero, List.set_cons_succ]
        refine takeIn 7 (v := ?vp39x7) rfl (by kernel_rfl) (by kernel_rfl) (by kernel_rfl) (fun _ _ _ h => h) ?wp39x7 (by assumption) ?yp39x7 ?rp39x7
        case wp39x7 => rfl
        case yp39x7 => (intro w hSw; (try dsimp only at hSw); go_simp; first | done | with_reducible rfl)
        simp only [Act.put, List.setIfInBounds_toArray, List.set_cons_zero, List.set_cons_succ]
        refine takeIn 8 (v := ?vp40x8) rfl (by kernel_rfl) (by kernel_rfl) (by kernel_rfl) (fun _ _ _ h => h) ?wp40x8 (by assumption) ?yp40x8 ?rp40x8
        case wp40x8 => rfl
        case yp40x8 => (intro w hSw; (try dsimp only at hSw); go_simp; first | done | with_reducible rfl)
        simp only [Act.put, List.setIfInBounds_toArray, List.set_cons_zero, List.set_cons_succ]
        refine takeIn 9 (v := ?vp41x9) rfl (by kernel_rfl) (by kernel_rfl) (by kernel_rfl) (fun _ _ _ h => h) ?wp41x9 (by assumption) ?yp41x9 ?rp41x9
        case wp41x9 => rfl
        case yp41x9 => (intro w hSw; (try dsimp only at hSw); go_simp; first | done | with_reducible rfl)
        simp only [Act.put, List.setIfInBounds_toArray, List.set_cons_zero, List.set_cons_succ]
        refine takeIn 11 (v := ?vp42x11) rfl (by kernel_rfl) (by kernel_rfl) (by kernel_rfl) (fun _ _ _ h => h) ?wp42x11 (by assumption) ?yp42x11 ?rp42x11
        case wp42x11 => rfl
        case yp42x11 => (intro w hSw; (try dsimp only at hSw); go_simp; first | done | with_reducible rfl)
        simp only [Act.put, List.setIfInBounds_toArray, List.set_cons_zero, List.set_cons_succ]
        refine takeIn 12 (v := ?vp43x12) rfl (by kernel_rfl) (by kernel_rfl) (by kernel_rfl) (fun _ _ _ h => h) ?wp43x12 (by assumption) ?yp43x12 ?rp43x12
        case wp43x12 => rfl
        case yp43x12 => (intro w hSw; (try dsimp only at hSw); go_simp; first | done | with_reducible rfl)
        simp only [Act.put, List.setIfInBounds_toArray, List.set_cons_zero, List.set_cons_succ]
        refine oneUp 10 rfl (by kernel_rfl) (by rfl) (fun K hK => ?_)
        go_simp
        refine (IE.out _ (HPW.out _ hB2).1 (HPW.out _ hB2).2).mono ?_
        rintro e WC ⟨rfl, hC⟩
        have hC2 : Below wa.heap.size wa WC := hB2.trans (hC.mono hB2.size)
        refine hK.out _ _ ?_ (fun hHeld => ?_)
        · (try dsimp only); exact HLX.out _ hC2
        clear hK K
        try simp only [Act.put, List.setIfInBounds_toArray, List.set_cons_zero, List.set_cons_succ]
        refine oneUp 13 rfl (by kernel_rfl) (by rfl) (fun K hK => ?_)
        go_simp
        refine (IEr.out _ (HPW.out _ hC2).1 (HPW.out _ hC2).2).mono ?_
        rintro e WD ⟨rfl, hD⟩
        have hD2 : Below wa.heap.size wa WD := hC2.trans (hD.mono hC2.size)
        refine hK.out _ _ ?_ (fun hHeld => ?_)
        · (try dsimp only); exact HLX.out _ hD2
        clear hK K
        try simp only [Act.put, List.setIfInBounds_toArray, List.set_cons_zero, List.set_cons_succ]
        refine takeIn 14 (v := ?vp47x14) rfl (by kernel_rfl) (by kernel_rfl) (by kernel_rfl) (fun _ _ _ h => h) ?wp47x14 (by assumption) ?yp47x14 ?rp47x14
        case wp47x14 => rfl
        case yp47x14 => (intro w hSw; (try dsimp only at hSw); go_simp; first | done | with_reducible rfl)
        simp only [Act.put, List.setIfInBounds_toArray, List.set_cons_zero, List.set_cons_succ]
        refine takeIn 15 (v := ?vp48x15) rfl (by kernel_rfl) (by kernel_rfl) (by kernel_rfl) (fun _ _ _ h => h) ?wp48x15 (by assumption) ?yp48x15 ?rp48x15
        case wp48x15 => rfl
        case yp48x15 => (intro w hSw; (try dsimp only at hSw); go_simp; first | done | with_reducible rfl)
        simp only [Act.put, List.setIfInBounds_toArray, List.set_cons_zero, List.set_cons_succ]
        refine takeIn 16 (v := ?vp49x16) rfl (by kernel_rfl) (by kernel_rfl) (by kernel_rfl) (fun _ _ _ h => h) ?wp49x16 (by assumption) ?yp49x16 ?rp49x16
        case wp49x16 => rfl
        case yp49x16 => (intro w hSw; (try dsimp only at hSw); go_simp; first | done | with_reducible rfl)
        simp only [Act.put, List.setIfInBounds_toArray, List.set_cons_zero, List.set_cons_succ]
        refine takeIn 17 (v := ?vp50x17) rfl (by kernel_rfl) (by kernel_rfl) (by kernel_rfl) (fun _ _ _ h => h) ?wp50x17 (by assumption) ?yp50x17 ?rp50x17
        case wp50x17 => rfl
        case yp50x17 => (intro w hSw; (try dsimp only at hSw); go_simp; first | done | with_reducible rfl)
        simp only [Act.put, List.setIfInBounds_toArray, List.set_cons_zero, List.set_cons_succ]
        refine takeIn 18 (v := ?vp51x18) rfl (by kernel_rfl) (by kernel_rfl) (by kernel_rfl) (fun _ _ _ h => h) ?wp51x18 (by assumption) ?yp51x18 ?rp51x18
        case wp51x18 => rfl
        case yp51x18 => (intro w hSw; (try dsimp only at hSw); go_simp; first | done | with_reducible rfl)
        simp only [Act.put, List.setIfInBounds_toArray, List.set_cons_zero, List.set_cons_succ]
        refine takeIn 19 (v := ?vp52x19) rfl (by kernel_rfl) (by kernel_rfl) (by kernel_rfl) (fun _ _ _ h => h) ?wp52x19 (by assumption) ?yp52x19 ?rp52x19
        case wp52x19 => rfl
        case yp52x19 => (intro w hSw; (try dsimp only at hSw); go_simp; first | done | with_reducible rfl)
        simp only [Act.put, List.setIfInBounds_toArray, List.set_cons_zero, List.set_cons_succ]
        refine takeIn 20 (v := ?vp53x20) rfl (by kernel_rfl) (by kernel_rfl) (by kernel_rfl) (fun _ _ _ h => h) ?wp53x20 (by assumption) ?yp53x20 ?rp53x20
        case wp53x20 => rfl
        case yp53x20 => (intro w hSw; (try dsimp only at hSw); go_simp; first | done | with_reducible rfl)
        simp only [Act.put, List.setIfInBounds_toArray, List.set_cons_zero, List.set_cons_succ]
        refine takeIn 21 (v := ?vp54x21) rfl (by kernel_rfl) (by kernel_rfl) (by kernel_rfl) (fun _ _ _ h => h) ?wp54x21 (by assumption) ?yp54x21 ?rp54x21
        case wp54x21 => rfl
        case yp54x21 => (intro w hSw; (try dsimp only at hSw); go_simp; first | done | with_reducible rfl)
        simp only [Act.put, List.setIfInBounds_toArray, List.set_cons_zero, List.set_cons_succ]
        refine oneUp 22 rfl (by kernel_rfl) (by rfl) (fun K hK => ?_)
        go_simp
        refine (IA.out _).mono ?_
        rintro e WE ⟨rfl, hE⟩
        have hE2 : Below wa.heap.size wa WE := hD2.trans (hE.mono hD2.size)
        refine hK.out _ _ ?_ (fun hHeld => ?_)
        · (try dsimp only); exact HLX.out _ hE2
        clear hK K
        try simp only [Act.put, List.setIfInBounds_toArray, List.set_cons_zero, List.set_cons_succ]
        refine takeIn 23 (v := ?vp57x23) rfl (by kernel_rfl) (by kernel_rfl) (by kernel_rfl) (fun _ _ _ h => h) ?wp57x23 (by assumption) ?yp57x23 ?rp57x23
        case wp57x23 => rfl
        case yp57x23 => (intro w hSw; (try dsimp only at hSw); go_simp; first | done | with_reducible rfl)
        simp only [Act.put, List.setIfInBounds_toArray, List.set_cons_zero, List.set_cons_succ]
        refine takeOut 24 rfl (by kernel_rfl) (by kernel_rfl) (by kernel_rfl) (fun _ _ _ h => h) ?wp59x24 (by assumption) ?rp59x24
        case wp59x24 => rfl
        simp only [Act.put, List.setIfInBounds_toArray, List.set_cons_zero, List.set_cons_succ]
        refine takeOut 25 rfl (by kernel_rfl) (by kernel_rfl) (by kernel_rfl) (fun _ _ _ h => h) ?wp60x25 (by assumption) ?rp60x25
        case wp60x25 => rfl
        simp only [Act.put, List.setIfInBounds_toArray, List.set_cons_zero, List.set_cons_succ]
        refine takeOut 26 rfl (by kernel_rfl) (by kernel_rfl) (by kernel_rfl) (fun _ _ _ h => h) ?wp61x26 (by assumption) ?rp61x26
        case wp61x26 => rfl
        simp only [Act.put, List.setIfInBounds_toArray, List.set_cons_zero, List.set_cons_succ]
        refine takeOut 27 rfl (by kernel_rfl) (by kernel_rfl) (by kernel_rfl) (fun _ _ _ h => h) ?wp62x27 (by assumption) ?rp62x27
        case wp62x27 => rfl
        simp only [Act.put, List.setIfInBounds_toArray, List.set_cons_zero, List.set_cons_succ]
        refine takeIn 28 (v := ?vp64x28) rfl (by kernel_rfl) (by kernel_rfl) (by kernel_rfl) (fun _ _ _ h => h) ?wp64x28 (by assumption) ?yp64x28 ?rp64x28
        case wp64x28 => rfl
        case yp64x28 => (intro w hSw; (try dsimp only at hSw); go_simp; first | done | with_reducible rfl)
        simp only [Act.put, List.setIfInBounds_toArray, List.set_cons_zero, List.set_cons_succ]
        refine takeIn 29 (v := ?vp65x29) rfl (by kernel_rfl) (by kernel_rfl) (by kernel_rfl) (fun _ _ _ h => h) ?wp65x29 (by assumption) ?yp65x29 ?rp65x29
        case wp65x29 => rfl
        case yp65x29 => (intro w hSw; (try dsimp only at hSw); go_simp; first | done | with_reducible rfl)
        simp only [Act.put, List.setIfInBounds_toArray, List.set_cons_zero, List.set_cons_succ]
        refine wpAnyH_done (by kernel_rfl) ?_ _
        go_wp2_with fail
        go_meet
        exact ⟨rfl, hE2⟩
      · have hvE := HAE.out rfl
        subst hvE
        refine wp_region_held_drew (S := fun w' => (w'.cell? ⟨A, 0, none⟩ = some (.int .i64 xk) ∧ w'.cell? ⟨A, 1, none⟩ = some (.int .i64 xn) ∧ w'.cell? ⟨A, 2, none⟩ = some (.string xt)) ∧ (w'.cell? ⟨B, 0, none⟩ = some (.int .i64 yk) ∧ w'.cell? ⟨B, 1, none⟩ = some (.int .i64 yn) ∧ w'.cell? ⟨B, 2, none⟩ = some (.string yt))) (by kernel_rfl) (HLX.out _ (Below.refl wa.heap.size wa).drew) (fun hHeld => ?_)
        refine takeIn 0 (v := ?vp67x0) rfl (by kernel_rfl) (by kernel_rfl) (by kernel_rfl) (fun _ _ _ h => h) ?wp67x0 (by assumption) ?yp67x0 ?rp67x0
        case wp67x0 => rfl
        case yp67x0 => (intro w hSw; (try dsimp only at hSw); go_simp; first | done | with_reducible rfl)
        simp only [Act.put, List.setIfInBounds_toArray, List.set_cons_zero, List.set_cons_succ]
        refine takeIn 1 (v := ?vp68x1) rfl (by kernel_rfl) (by kernel_rfl) (by kernel_rfl) (fun _ _ _ h => h) ?wp68x1 (by assumption) ?yp68x1 ?rp68x1
        case wp68x1 => rfl
        case yp68x1 => (intro w hSw; (try dsimp only at hSw); go_simp; first | done | with_reducible rfl)
        simp only [Act.put, List.setIfInBounds_toArray, List.set_cons_zero, List.set_cons_succ]
        refine takeIn 3 (v := ?vp69x3) rfl (by kernel_rfl) (by kernel_rfl) (by kernel_rfl) (fun _ _ _ h => h) ?wp69x3 (by assumption) ?yp69x3 ?rp69x3
        case wp69x3 => rfl
        case yp69x3 => (intro w hSw; (try dsimp only at hSw); go_simp; first | done | with_reducible rfl)
        simp only [Act.put, List.setIfInBounds_toArray, List.set_cons_zero, List.set_cons_succ]
        refine takeIn 4 (v := ?vp70x4) rfl (by kernel_rfl) (by kernel_rfl) (by kernel_rfl) (fun _ _ _ h => h) ?wp70x4 (by assumption) ?yp70x4 ?rp70x4
        case wp70x4 => rfl
        case yp70x4 => (intro w hSw; (try dsimp only at hSw); go_simp; first | done | with_reducible rfl)
        simp only [Act.put, List.setIfInBounds_toArray, List.set_cons_zero, List.set_cons_succ]
        refine oneUp 2 rfl (by kernel_rfl) (by rfl) (fun K hK => ?_)
        go_simp
        refine (IA.out _).mono ?_
        rintro e WA ⟨rfl, hA⟩
        have hA2 : Below wa.heap.size wa WA := (Below.refl wa.heap.size wa).drew.trans hA
        refine hK.out _ _ ?_ (fun hHeld => ?_)
        · (try dsimp only); exact HLX.out _ hA2
        clear hK K
        try simp only [Act.put, List.setIfInBounds_toArray, List.set_cons_zero, List.set_cons_succ]
        refine oneUp 5 rfl (by kernel_rfl) (by rfl) (fun K hK => ?_)
        go_simp
        refine (IAr.out _).mono ?_
        rintro e WB ⟨rfl, hB⟩
        have hB2 : Below wa.heap.size wa WB := hA2.trans (hB.mono hA2.size)
        refine hK.out _ _ ?_ (fun hHeld => ?_)
        · (try dsimp only); exact HLX.out _ hB2
        clear hK K
        try simp only [Act.put, List.setIfInBounds_toArray, List.set_cons_zero, List.set_cons_succ]
        refine takeIn 6 (v := ?vp74x6) rfl (by kernel_rfl) (by kernel_rfl) (by kernel_rfl) (fun _ _ _ h => h) ?wp74x6 (by assumption) ?yp74x6 ?rp74x6
        case wp74x6 => rfl
        case yp74x6 => (intro w hSw; (try dsimp only at hSw); go_simp; first | done | with_reducible rfl)
        simp only [Act.put, List.setIfInBounds_toArray, List.set_cons_zero, List.set_cons_succ]
        refine takeIn 7 (v := ?vp75x7) rfl (by kernel_rfl) (by kernel_rfl) (by kernel_rfl) (fun _ _ _ h => h) ?wp75x7 (by assumption) ?yp75x7 ?rp75x7
        case wp75x7 => rfl
        case yp75x7 => (intro w hSw; (try dsimp only at hSw); go_simp; first | done | with_reducible rfl)
        simp only [Act.put, List.setIfInBounds_toArray, List.set_cons_zero, List.set_cons_succ]
        refine takeIn 8 (v := ?vp76x8) rfl (by kernel_rfl) (by kernel_rfl) (by kernel_rfl) (fun _ _ _ h => h) ?wp76x8 (by assumption) ?yp76x8 ?rp76x8
        case wp76x8 => rfl
        case yp76x8 => (intro w hSw; (try dsimp only at hSw); go_simp; first | done | with_reducible rfl)
        simp only [Act.put, List.setIfInBounds_toArray, List.set_cons_zero, List.set_cons_succ]
        refine takeIn 9 (v := ?vp77x9) rfl (by kernel_rfl) (by kernel_rfl) (by kernel_rfl) (fun _ _ _ h => h) ?wp77x9 (by assumption) ?yp77x9 ?rp77x9
        case wp77x9 => rfl
        case yp77x9 => (intro w hSw; (try dsimp only at hSw); go_simp; first | done | with_reducible rfl)
        simp only [Act.put, List.setIfInBounds_toArray, List.set_cons_zero, List.set_cons_succ]
        refine takeIn 11 (v := ?vp78x11) rfl (by kernel_rfl) (by kernel_rfl) (by kernel_rfl) (fun _ _ _ h => h) ?wp78x11 (by assumption) ?yp78x11 ?rp78x11
        case wp78x11 => rfl
        case yp78x11 => (intro w hSw; (try dsimp only at hSw); go_simp; first | done | with_reducible rfl)
        simp only [Act.put, List.setIfInBounds_toArray, List.set_cons_zero, List.set_cons_succ]
        refine takeIn 12 (v := ?vp79x12) rfl (by kernel_rfl) (by kernel_rfl) (by kernel_rfl) (fun _ _ _ h => h) ?wp79x12 (by assumption) ?yp79x12 ?rp79x12
        case wp79x12 => rfl
        case yp79x12 => (intro w hSw; (try dsimp only at hSw); go_simp; first | done | with_reducible rfl)
        simp only [Act.put, List.setIfInBounds_toArray, List.set_cons_zero, List.set_cons_succ]
        refine oneUp 10 rfl (by kernel_rfl) (by rfl) (fun K hK => ?_)
        go_simp
        refine (IE.out _ (HPW.out _ hB2).1 (HPW.out _ hB2).2).mono ?_
        rintro e WC ⟨rfl, hC⟩
        have hC2 : Below wa.heap.size wa WC := hB2.trans (hC.mono hB2.size)
        refine hK.out _ _ ?_ (fun hHeld => ?_)
        · (try dsimp only); exact HLX.out _ hC2
        clear hK K
        try simp only [Act.put, List.setIfInBounds_toArray, List.set_cons_zero, List.set_cons_succ]
        refine oneUp 13 rfl (by kernel_rfl) (by rfl) (fun K hK => ?_)
        go_simp
        refine (IEr.out _ (HPW.out _ hC2).1 (HPW.out _ hC2).2).mono ?_
        rintro e WD ⟨rfl, hD⟩
        have hD2 : Below wa.heap.size wa WD := hC2.trans (hD.mono hC2.size)
        refine hK.out _ _ ?_ (fun hHeld => ?_)
        · (try dsimp only); exact HLX.out _ hD2
        clear hK K
        try simp only [Act.put, List.setIfInBounds_toArray, List.set_cons_zero, List.set_cons_succ]
        refine takeIn 14 (v := ?vp83x14) rfl (by kernel_rfl) (by kernel_rfl) (by kernel_rfl) (fun _ _ _ h => h) ?wp83x14 (by assumption) ?yp83x14 ?rp83x14
        case wp83x14 => rfl
        case yp83x14 => (intro w hSw; (try dsimp only at hSw); go_simp; first | done | with_reducible rfl)
        simp only [Act.put, List.setIfInBounds_toArray, List.set_cons_zero, List.set_cons_succ]
        refine takeIn 15 (v := ?vp84x15) rfl (by kernel_rfl) (by kernel_rfl) (by kernel_rfl) (fun _ _ _ h => h) ?wp84x15 (by assumption) ?yp84x15 ?rp84x15
        case wp84x15 => rfl
        case yp84x15 => (intro w hSw; (try dsimp only at hSw); go_simp; first | done | with_reducible rfl)
        simp only [Act.put, List.setIfInBounds_toArray, List.set_cons_zero, List.set_cons_succ]
        refine takeIn 16 (v := ?vp85x16) rfl (by kernel_rfl) (by kernel_rfl) (by kernel_rfl) (fun _ _ _ h => h) ?wp85x16 (by assumption) ?yp85x16 ?rp85x16
        case wp85x16 => rfl
        case yp85x16 => (intro w hSw; (try dsimp only at hSw); go_simp; first | done | with_reducible rfl)
        simp only [Act.put, List.setIfInBounds_toArray, List.set_cons_zero, List.set_cons_succ]
        refine takeIn 17 (v := ?vp86x17) rfl (by kernel_rfl) (by kernel_rfl) (by kernel_rfl) (fun _ _ _ h => h) ?wp86x17 (by assumption) ?yp86x17 ?rp86x17
        case wp86x17 => rfl
        case yp86x17 => (intro w hSw; (try dsimp only at hSw); go_simp; first | done | with_reducible rfl)
        simp only [Act.put, List.setIfInBounds_toArray, List.set_cons_zero, List.set_cons_succ]
        refine takeIn 18 (v := ?vp87x18) rfl (by kernel_rfl) (by kernel_rfl) (by kernel_rfl) (fun _ _ _ h => h) ?wp87x18 (by assumption) ?yp87x18 ?rp87x18
        case wp87x18 => rfl
        case yp87x18 => (intro w hSw; (try dsimp only at hSw); go_simp; first | done | with_reducible rfl)
        simp only [Act.put, List.setIfInBounds_toArray, List.set_cons_zero, List.set_cons_succ]
        refine takeIn 19 (v := ?vp88x19) rfl (by kernel_rfl) (by kernel_rfl) (by kernel_rfl) (fun _ _ _ h => h) ?wp88x19 (by assumption) ?yp88x19 ?rp88x19
        case wp88x19 => rfl
        case yp88x19 => (intro w hSw; (try dsimp only at hSw); go_simp; first | done | with_reducible rfl)
        simp only [Act.put, List.setIfInBounds_toArray, List.set_cons_zero, List.set_cons_succ]
        refine takeIn 20 (v := ?vp89x20) rfl (by kernel_rfl) (by kernel_rfl) (by kernel_rfl) (fun _ _ _ h => h) ?wp89x20 (by assumption) ?yp89x20 ?rp89x20
        case wp89x20 => rfl
        case yp89x20 => (intro w hSw; (try dsimp only at hSw); go_simp; first | done | with_reducible rfl)
        simp only [Act.put, List.setIfInBounds_toArray, List.set_cons_zero, List.set_cons_succ]
        refine takeIn 21 (v := ?vp90x21) rfl (by kernel_rfl) (by kernel_rfl) (by kernel_rfl) (fun _ _ _ h => h) ?wp90x21 (by assumption) ?yp90x21 ?rp90x21
        case wp90x21 => rfl
        case yp90x21 => (intro w hSw; (try dsimp only at hSw); go_simp; first | done | with_reducible rfl)
        simp only [Act.put, List.setIfInBounds_toArray, List.set_cons_zero, List.set_cons_succ]
        refine oneUp 22 rfl (by kernel_rfl) (by rfl) (fun K hK => ?_)
        go_simp
        refine (IA.out _).mono ?_
        rintro e WE ⟨rfl, hE⟩
        have hE2 : Below wa.heap.size wa WE := hD2.trans (hE.mono hD2.size)
        refine hK.out _ _ ?_ (fun hHeld => ?_)
        · (try dsimp only); exact HLX.out _ hE2
        clear hK K
        try simp only [Act.put, List.setIfInBounds_toArray, List.set_cons_zero, List.set_cons_succ]
        refine takeIn 23 (v := ?vp93x23) rfl (by kernel_rfl) (by kernel_rfl) (by kernel_rfl) (fun _ _ _ h => h) ?wp93x23 (by assumption) ?yp93x23 ?rp93x23
        case wp93x23 => rfl
        case yp93x23 => (intro w hSw; (try dsimp only at hSw); go_simp; first | done | with_reducible rfl)
        simp only [Act.put, List.setIfInBounds_toArray, List.set_cons_zero, List.set_cons_succ]
        refine takeIn 24 (v := ?vp95x24) rfl (by kernel_rfl) (by kernel_rfl) (by kernel_rfl) (fun _ _ _ h => h) ?wp95x24 (by assumption) ?yp95x24 ?rp95x24
        case wp95x24 => rfl
        case yp95x24 => (intro w hSw; (try dsimp only at hSw); go_simp; first | done | with_reducible rfl)
        simp only [Act.put, List.setIfInBounds_toArray, List.set_cons_zero, List.set_cons_succ]
        refine takeIn 25 (v := ?vp96x25) rfl (by kernel_rfl) (by kernel_rfl) (by kernel_rfl) (fun _ _ _ h => h) ?wp96x25 (by assumption) ?yp96x25 ?rp96x25
        case wp96x25 => rfl
        case yp96x25 => (intro w hSw; (try dsimp only at hSw); go_simp; first | done | with_reducible rfl)
        simp only [Act.put, List.setIfInBounds_toArray, List.set_cons_zero, List.set_cons_succ]
        refine oneUp 26 rfl (by kernel_rfl) (by rfl) (fun K hK => ?_)
        go_simp
        refine (IE.out _ (HPW.out _ hE2).1 (HPW.out _ hE2).2).mono ?_
        rintro e WF ⟨rfl, hF⟩
        have hF2 : Below wa.heap.size wa WF := hE2.trans (hF.mono hE2.size)
        refine hK.out _ _ ?_ (fun hHeld => ?_)
        · (try dsimp only); exact HLX.out _ hF2
        clear hK K
        try simp only [Act.put, List.setIfInBounds_toArray, List.set_cons_zero, List.set_cons_succ]
        refine takeIn 27 (v := ?vp99x27) rfl (by kernel_rfl) (by kernel_rfl) (by kernel_rfl) (fun _ _ _ h => h) ?wp99x27 (by assumption) ?yp99x27 ?rp99x27
        case wp99x27 => rfl
        case yp99x27 => (intro w hSw; (try dsimp only at hSw); go_simp; first | done | with_reducible rfl)
        simp only [Act.put, List.setIfInBounds_toArray, List.set_cons_zero, List.set_cons_succ]
        refine takeIn 28 (v := ?vp100x28) rfl (by kernel_rfl) (by kernel_rfl) (by kernel_rfl) (fun _ _ _ h => h) ?wp100x28 (by assumption) ?yp100x28 ?rp100x28
        case wp100x28 => rfl
        case yp100x28 => (intro w hSw; (try dsimp only at hSw); go_simp; first | done | with_reducible rfl)
        simp only [Act.put, List.setIfInBounds_toArray, List.set_cons_zero, List.set_cons_succ]
        refine takeIn 29 (v := ?vp101x29) rfl (by kernel_rfl) (by kernel_rfl) (by kernel_rfl) (fun _ _ _ h => h) ?wp101x29 (by assumption) ?yp101x29 ?rp101x29
        case wp101x29 => rfl
        case yp101x29 => (intro w hSw; (try dsimp only at hSw); go_simp; first | done | with_reducible rfl)
        simp only [Act.put, List.setIfInBounds_toArray, List.set_cons_zero, List.set_cons_succ]
        refine wpAnyH_done (by kernel_rfl) ?_ _
        go_wp2_with fail
        go_meet
        exact ⟨rfl, hF2⟩
    case rest =>
    obtain ⟨rfl, hcut⟩ := hcut
    have HB7 : Hid (Below w.heap.size w wc) := HBW.out.trans (hcut.mono HBW.out.size)
    clear hcut HBW HLX HPW IA IAr IE IEr IL ILr T1 T2 HTT HAE HV q1 q2
    go_wp2_with fail
    refine (DT.out _ HB7.out (by omega)).mono ?_
    rintro e w7 ⟨⟨vk, vn, vt⟩, hvt, rfl, hb7⟩
    have hb7w : Below w.heap.size w w7 := HB7.out.trans (hb7.mono HB7.out.size)
    have HL8 : Hid (_ ∧ _) := ⟨lies_new w7 ⟨vk, vn, vt⟩, hb7w.alloc hb7w.size (.cells (vC ⟨vk, vn, vt⟩) 24)⟩
    clear hb7 hb7w hvt
    have IX : Hid _ := fun (W : World) (hp : PowIn W) => iToText ⟨vk, vn, vt⟩ W hp
    have ST : Hid _ := fun (W : World) => sToText ⟨vk, vn, vt⟩ W
    have IN : Hid _ := fun (W : World) (he : ErrIn W) => iToNumber ⟨vk, vn, vt⟩ W he
    have SN : Hid _ := fun (W : World) => sToNumber ⟨vk, vn, vt⟩ W
    have IT : Hid _ := fun (W : World) => iTruth ⟨vk, vn, vt⟩ W
    have STr : Hid _ := fun (W : World) => sTruth ⟨vk, vn, vt⟩ W
    have IY : Hid _ := fun (W : World) (hk : KindsIn W) => iTypeOf ⟨vk, vn, vt⟩ W hk
    have SY : Hid _ := fun (W : World) => sTypeOf ⟨vk, vn, vt⟩ W
    have IR : Hid _ := fun (W : World) => iValueRight ⟨vk, vn, vt⟩ W
    have SR : Hid _ := fun (W : World) => sValueRight ⟨vk, vn, vt⟩ W
    have IB : Hid _ := fun (W : World) (he : ErrIn W) => iToNumber ⟨5, 0, Val.textOf ⟨vk, vn, vt⟩⟩ W he
    have HBK : Hid (Val.right ⟨vk, vn, vt⟩ = true → vk = 3 → -999999999999999 ≤ vn → vn ≤ 999999999999999 → Val.toNumV ⟨5, 0, Val.textOf ⟨vk, vn, vt⟩⟩ = ⟨vk, vn, vt⟩) := fun h e h1 h2 => by
      subst e
      exact Val.back_num vn vt h h1 h2
    obtain ⟨⟨nk, nn, nt⟩, hnv⟩ : ∃ v, Val.toNumV ⟨vk, vn, vt⟩ = v := ⟨_, rfl⟩
    obtain ⟨⟨bk, bn, bt⟩, hbv⟩ : ∃ v, Val.toNumV ⟨5, 0, Val.textOf ⟨vk, vn, vt⟩⟩ = v := ⟨_, rfl⟩
    rw [hbv] at IB HBK
    rw [hnv] at IN SN
    clear hbv hnv
    obtain ⟨tx, htx⟩ : ∃ v, Val.textOf ⟨vk, vn, vt⟩ = v := ⟨_, rfl⟩
    obtain ⟨tr, htr⟩ : ∃ v, Val.truthV ⟨vk, vn, vt⟩ = v := ⟨_, rfl⟩
    obtain ⟨ty, hty⟩ : ∃ v, Val.typeV ⟨vk, vn, vt⟩ = v := ⟨_, rfl⟩
    obtain ⟨rv, hrv⟩ : ∃ v, Val.right ⟨vk, vn, vt⟩ = v := ⟨_, rfl⟩
    rw [htx] at IX ST IB
    rw [htr] at IT STr
    rw [hty] at IY SY
    rw [hrv] at IR SR HBK
    clear htx htr hty hrv
    unfold vC at IX ST IN SN IT STr IY SY IR SR IB HL8 ⊢
    dsimp only at IX ST IN SN IT STr IY SY IR SR IB HL8 ⊢
    have q3 : (tx.toList != tx.toList) = false := by simp
    have q4 : (ty.toList != ty.toList) = false := by simp
    have q5 : (tr != tr) = false := by simp
    have hrr : (rv == rv) = true := by simp
    go_wp2_with fail
    generalize hwx : w7.alloc _ = wx at HL8 ⊢
    clear hwx
    generalize w7.heap.size = C at *
    refine (IX.out _ (HP.out.1.keep HL8.out.2)).mono ?_
    rintro e wv ⟨rfl, hbv⟩
    have HB9 : Hid (Below w.heap.size w wv) := HL8.out.2.trans (hbv.mono HL8.out.2.size)
    have lV := HL8.out.1.keep hbv
    have HLV : Hid (∀ W, Below wv.heap.size wv W → W.cell? ⟨C, 0, none⟩ = some (.int .i64 vk) ∧ W.cell? ⟨C, 1, none⟩ = some (.int .i64 vn) ∧ W.cell? ⟨C, 2, none⟩ = some (.string vt)) := fun W hW => (lV.keep hW).three.1
    have HPV : Hid (∀ W, Below wv.heap.size wv W → PowIn W ∧ ErrIn W ∧ KindsIn W) := fun W hW => ⟨HP.out.1.keep (HB9.out.trans (hW.mono HB9.out.size)), HP.out.2.1.keep (HB9.out.trans (hW.mono HB9.out.size)), HP.out.2.2.keep (HB9.out.trans (hW.mono HB9.out.size))⟩
    clear lV hbv HL8 HB7
    go_wp2_with fail
    refine wp_region_held_drew (S := fun w' => w'.cell? ⟨C, 0, none⟩ = some (.int .i64 vk) ∧ w'.cell? ⟨C, 1, none⟩ = some (.int .i64 vn) ∧ w'.cell? ⟨C, 2, none⟩ = some (.string vt)) (by kernel_rfl) (HLV.out _ (Below.refl wv.heap.size wv).drew) (fun hHeld => ?_)
    refine takeIn 0 (v := ?vp103x0) rfl (by kernel_rfl) (by kernel_rfl) (by kernel_rfl) (fun _ _ _ h => h) ?wp103x0 (by assumption) ?yp103x0 ?rp103x0
    case wp103x0 => rfl
    case yp103x0 => (intro w hSw; (try dsimp only at hSw); go_simp; first | done | with_reducible rfl)
    simp only [Act.put, List.setIfInBounds_toArray, List.set_cons_zero, List.set_cons_succ]
    refine takeIn 1 (v := ?vp104x1) rfl (by kernel_rfl) (by kernel_rfl) (by kernel_rfl) (fun _ _ _ h => h) ?wp104x1 (by assumption) ?yp104x1 ?rp104x1
    case wp104x1 => rfl
    case yp104x1 => (intro w hSw; (try dsimp only at hSw); go_simp; first | done | with_reducible rfl)
    simp only [Act.put, List.setIfInBounds_toArray, List.set_cons_zero, List.set_cons_succ]
    refine oneUp 2 rfl (by kernel_rfl) (by rfl) (fun K hK => ?_)
    go_simp
    refine (ST.out _).mono ?_
    rintro e WA ⟨rfl, hA⟩
    have hA2 : Below wv.heap.size wv WA := (Below.refl wv.heap.size wv).drew.trans hA
    refine hK.out _ _ ?_ (fun hHeld => ?_)
    · (try dsimp only); exact HLV.out _ hA2
    clear hK K
    try simp only [Act.put, List.setIfInBounds_toArray, List.set_cons_zero, List.set_cons_succ]
    refine takeIn 3 (v := ?vp107x3) rfl (by kernel_rfl) (by kernel_rfl) (by kernel_rfl) (fun _ _ _ h => h) ?wp107x3 (by assumption) ?yp107x3 ?rp107x3
    case wp107x3 => rfl
    case yp107x3 => (intro w hSw; (try dsimp only at hSw); go_simp; first | done | with_reducible rfl)
    simp only [Act.put, List.setIfInBounds_toArray, List.set_cons_zero, List.set_cons_succ]
    refine takeIn 4 (v := ?vp108x4) rfl (by kernel_rfl) (by kernel_rfl) (by kernel_rfl) (fun _ _ _ h => h) ?wp108x4 (by assumption) ?yp108x4 ?rp108x4
    case wp108x4 => rfl
    case yp108x4 => (intro w hSw; (try dsimp only at hSw); go_simp; first | done | with_reducible rfl)
    simp only [Act.put, List.setIfInBounds_toArray, List.set_cons_zero, List.set_cons_succ]
    refine takeIn 5 (v := ?vp109x5) rfl (by kernel_rfl) (by kernel_rfl) (by kernel_rfl) (fun _ _ _ h => h) ?wp109x5 (by assumption) ?yp109x5 ?rp109x5
    case wp109x5 => rfl
    case yp109x5 => (intro w hSw; (try dsimp only at hSw); go_simp; first | done | with_reducible rfl)
    simp only [Act.put, List.setIfInBounds_toArray, List.set_cons_zero, List.set_cons_succ]
    refine takeIn 7 (v := ?vp110x7) rfl (by kernel_rfl) (by kernel_rfl) (by kernel_rfl) (fun _ _ _ h => h) ?wp110x7 (by assumption) ?yp110x7 ?rp110x7
    case wp110x7 => rfl
    case yp110x7 => (intro w hSw; (try dsimp only at hSw); go_simp; first | done | with_reducible rfl)
    simp only [Act.put, List.setIfInBounds_toArray, List.set_cons_zero, List.set_cons_succ]
    refine oneUp 6 rfl (by kernel_rfl) (by rfl) (fun K hK => ?_)
    go_simp
    refine (IN.out _ (HPV.out _ hA2).2.1).mono ?_
    rintro e WB ⟨rfl, hB⟩
    have hB2 : Below wv.heap.size wv WB := hA2.trans (hB.mono hA2.size)
    refine hK.out _ _ ?_ (fun hHeld => ?_)
    · (try dsimp only); exact HLV.out _ hB2
    clear hK K
    try simp only [Act.put, List.setIfInBounds_toArray, List.set_cons_zero, List.set_cons_succ]
    refine oneUp 8 rfl (by kernel_rfl) (by rfl) (fun K hK => ?_)
    go_simp
    refine (SN.out _).mono ?_
    rintro e WC ⟨rfl, hC⟩
    have hC2 : Below wv.heap.size wv WC := hB2.trans (hC.mono hB2.size)
    refine hK.out _ _ ?_ (fun hHeld => ?_)
    · (try dsimp only); exact HLV.out _ hC2
    clear hK K
    try simp only [Act.put, List.setIfInBounds_toArray, List.set_cons_zero, List.set_cons_succ]
    refine takeIn 9 (v := ?vp114x9) rfl (by kernel_rfl) (by kernel_rfl) (by kernel_rfl) (fun _ _ _ h => h) ?wp114x9 (by assumption) ?yp114x9 ?rp114x9
    case wp114x9 => rfl
    case yp114x9 => (intro w hSw; (try dsimp only at hSw); go_simp; first | done | with_reducible rfl)
    simp only [Act.put, List.setIfInBounds_toArray, List.set_cons_zero, List.set_cons_succ]
    refine takeIn 10 (v := ?vp115x10) rfl (by kernel_rfl) (by kernel_rfl) (by kernel_rfl) (fun _ _ _ h => h) ?wp115x10 (by assumption) ?yp115x10 ?rp115x10
    case wp115x10 => rfl
    case yp115x10 => (intro w hSw; (try dsimp only at hSw); go_simp; first | done | with_reducible rfl)
    simp only [Act.put, List.setIfInBounds_toArray, List.set_cons_zero, List.set_cons_succ]
    refine takeIn 11 (v := ?vp116x11) rfl (by kernel_rfl) (by kernel_rfl) (by kernel_rfl) (fun _ _ _ h => h) ?wp116x11 (by assumption) ?yp116x11 ?rp116x11
    case wp116x11 => rfl
    case yp116x11 => (intro w hSw; (try dsimp only at hSw); go_simp; first | done | with_reducible rfl)
    simp only [Act.put, List.setIfInBounds_toArray, List.set_cons_zero, List.set_cons_succ]
    refine takeIn 12 (v := ?vp117x12) rfl (by kernel_rfl) (by kernel_rfl) (by kernel_rfl) (fun _ _ _ h => h) ?wp117x12 (by assumption) ?yp117x12 ?rp117x12
    case wp117x12 => rfl
    case yp117x12 => (intro w hSw; (try dsimp only at hSw); go_simp; first | done | with_reducible rfl)
    simp only [Act.put, List.setIfInBounds_toArray, List.set_cons_zero, List.set_cons_succ]
    refine takeIn 14 (v := ?vp118x14) rfl (by kernel_rfl) (by kernel_rfl) (by kernel_rfl) (fun _ _ _ h => h) ?wp118x14 (by assumption) ?yp118x14 ?rp118x14
    case wp118x14 => rfl
    case yp118x14 => (intro w hSw; (try dsimp only at hSw); go_simp; first | done | with_reducible rfl)
    simp only [Act.put, List.setIfInBounds_toArray, List.set_cons_zero, List.set_cons_succ]
    refine oneUp 13 rfl (by kernel_rfl) (by rfl) (fun K hK => ?_)
    go_simp
    refine (IT.out _).mono ?_
    rintro e WD ⟨rfl, hD⟩
    have hD2 : Below wv.heap.size wv WD := hC2.trans (hD.mono hC2.size)
    refine hK.out _ _ ?_ (fun hHeld => ?_)
    · (try dsimp only); exact HLV.out _ hD2
    clear hK K
    try simp only [Act.put, List.setIfInBounds_toArray, List.set_cons_zero, List.set_cons_succ]
    refine oneUp 15 rfl (by kernel_rfl) (by rfl) (fun K hK => ?_)
    go_simp
    refine (STr.out _).mono ?_
    rintro e WE ⟨rfl, hE⟩
    have hE2 : Below wv.heap.size wv WE := hD2.trans (hE.mono hD2.size)
    refine hK.out _ _ ?_ (fun hHeld => ?_)
    · (try dsimp only); exact HLV.out _ hE2
    clear hK K
    try simp only [Act.put, List.setIfInBounds_toArray, List.set_cons_zero, List.set_cons_succ]
    refine takeIn 16 (v := ?vp122x16) rfl (by kernel_rfl) (by kernel_rfl) (by kernel_rfl) (fun _ _ _ h => h) ?wp122x16 (by assumption) ?yp122x16 ?rp122x16
    case wp122x16 => rfl
    case yp122x16 => (intro w hSw; (try dsimp only at hSw); go_simp; first | done | with_reducible rfl)
    simp only [Act.put, List.setIfInBounds_toArray, List.set_cons_zero, List.set_cons_succ]
    refine takeIn 17 (v := ?vp123x17) rfl (by kernel_rfl) (by kernel_rfl) (by kernel_rfl) (fun _ _ _ h => h) ?wp123x17 (by assumption) ?yp123x17 ?rp123x17
    case wp123x17 => rfl
    case yp123x17 => (intro w hSw; (try dsimp only at hSw); go_simp; first | done | with_reducible rfl)
    simp only [Act.put, List.setIfInBounds_toArray, List.set_cons_zero, List.set_cons_succ]
    refine takeIn 18 (v := ?vp124x18) rfl (by kernel_rfl) (by kernel_rfl) (by kernel_rfl) (fun _ _ _ h => h) ?wp124x18 (by assumption) ?yp124x18 ?rp124x18
    case wp124x18 => rfl
    case yp124x18 => (intro w hSw; (try dsimp only at hSw); go_simp; first | done | with_reducible rfl)
    simp only [Act.put, List.setIfInBounds_toArray, List.set_cons_zero, List.set_cons_succ]
    refine takeIn 19 (v := ?vp125x19) rfl (by kernel_rfl) (by kernel_rfl) (by kernel_rfl) (fun _ _ _ h => h) ?wp125x19 (by assumption) ?yp125x19 ?rp125x19
    case wp125x19 => rfl
    case yp125x19 => (intro w hSw; (try dsimp only at hSw); go_simp; first | done | with_reducible rfl)
    simp only [Act.put, List.setIfInBounds_toArray, List.set_cons_zero, List.set_cons_succ]
    refine takeIn 21 (v := ?vp126x21) rfl (by kernel_rfl) (by kernel_rfl) (by kernel_rfl) (fun _ _ _ h => h) ?wp126x21 (by assumption) ?yp126x21 ?rp126x21
    case wp126x21 => rfl
    case yp126x21 => (intro w hSw; (try dsimp only at hSw); go_simp; first | done | with_reducible rfl)
    simp only [Act.put, List.setIfInBounds_toArray, List.set_cons_zero, List.set_cons_succ]
    refine oneUp 20 rfl (by kernel_rfl) (by rfl) (fun K hK => ?_)
    go_simp
    refine (IY.out _ (HPV.out _ hE2).2.2).mono ?_
    rintro e WF ⟨rfl, hF⟩
    have hF2 : Below wv.heap.size wv WF := hE2.trans (hF.mono hE2.size)
    refine hK.out _ _ ?_ (fun hHeld => ?_)
    · (try dsimp only); exact HLV.out _ hF2
    clear hK K
    try simp only [Act.put, List.setIfInBounds_toArray, List.set_cons_zero, List.set_cons_succ]
    refine oneUp 22 rfl (by kernel_rfl) (by rfl) (fun K hK => ?_)
    go_simp
    refine (SY.out _).mono ?_
    rintro e WG ⟨rfl, hG⟩
    have hG2 : Below wv.heap.size wv WG := hF2.trans (hG.mono hF2.size)
    refine hK.out _ _ ?_ (fun hHeld => ?_)
    · (try dsimp only); exact HLV.out _ hG2
    clear hK K
    try simp only [Act.put, List.setIfInBounds_toArray, List.set_cons_zero, List.set_cons_succ]
    refine takeIn 23 (v := ?vp130x23) rfl (by kernel_rfl) (by kernel_rfl) (by kernel_rfl) (fun _ _ _ h => h) ?wp130x23 (by assumption) ?yp130x23 ?rp130x23
    case wp130x23 => rfl
    case yp130x23 => (intro w hSw; (try dsimp only at hSw); go_simp; first | done | with_reducible rfl)
    simp only [Act.put, List.setIfInBounds_toArray, List.set_cons_zero, List.set_cons_succ]
    refine takeIn 24 (v := ?vp131x24) rfl (by kernel_rfl) (by kernel_rfl) (by kernel_rfl) (fun _ _ _ h => h) ?wp131x24 (by assumption) ?yp131x24 ?rp131x24
    case wp131x24 => rfl
    case yp131x24 => (intro w hSw; (try dsimp only at hSw); go_simp; first | done | with_reducible rfl)
    simp only [Act.put, List.setIfInBounds_toArray, List.set_cons_zero, List.set_cons_succ]
    refine wpAnyH_done (by kernel_rfl) ?_ _
    obtain ⟨z0, z1, z2⟩ := HLV.out WG hG2
    clear hHeld hA hB hC hD hE hF hG hA2 hB2 hC2 hD2 hE2 hF2
    cases rv
    · go_wp2_with fail
      refine (SR.out _).mono ?_
      rintro e wy ⟨rfl, hby⟩
      have HLY : Hid (∀ W, Below wy.heap.size wy W → _) := fun W hW => HLV.out W (hG2.trans ((hby.mono hG2.size).trans (hW.mono (Nat.le_trans hG2.size hby.size))))
      have HBY : Hid (Below w.heap.size w wy) := HB9.out.trans ((hG2.trans (hby.mono hG2.size)).mono HB9.out.size)
      clear z0 z1 z2
      obtain ⟨z0, z1, z2⟩ := HLY.out wy (Below.refl _ _)
      go_wp2_with fail
      refine wp_region_held_drew (S := fun w' => w'.cell? ⟨C, 0, none⟩ = some (.int .i64 vk) ∧ w'.cell? ⟨C, 1, none⟩ = some (.int .i64 vn) ∧ w'.cell? ⟨C, 2, none⟩ = some (.string vt)) (by kernel_rfl) (HLY.out _ (Below.refl wy.heap.size wy).drew) (fun hHeld => ?_)
      refine takeIn 0 (v := ?vp133x0) rfl (by kernel_rfl) (by kernel_rfl) (by kernel_rfl) (fun _ _ _ h => h) ?wp133x0 (by assumption) ?yp133x0 ?rp133x0
      case wp133x0 => rfl
      case yp133x0 => (intro w hSw; (try dsimp only at hSw); go_simp; first | done | with_reducible rfl)
      simp only [Act.put, List.setIfInBounds_toArray, List.set_cons_zero, List.set_cons_succ]
      refine takeIn 2 (v := ?vp134x2) rfl (by kernel_rfl) (by kernel_rfl) (by kernel_rfl) (fun _ _ _ h => h) ?wp134x2 (by assumption) ?yp134x2 ?rp134x2
      case wp134x2 => rfl
      case yp134x2 => (intro w hSw; (try dsimp only at hSw); go_simp; first | done | with_reducible rfl)
      simp only [Act.put, List.setIfInBounds_toArray, List.set_cons_zero, List.set_cons_succ]
      refine oneUp 1 rfl (by kernel_rfl) (by rfl) (fun K hK => ?_)
      go_simp
      refine (IR.out _).mono ?_
      rintro e WA ⟨rfl, hA⟩
      have hA2 : Below wy.heap.size wy WA := (Below.refl wy.heap.size wy).drew.trans hA
      refine hK.out _ _ ?_ (fun hHeld => ?_)
      · (try dsimp only); exact HLY.out _ hA2
      clear hK K
      try simp only [Act.put, List.setIfInBounds_toArray, List.set_cons_zero, List.set_cons_succ]
      refine oneUp 3 rfl (by kernel_rfl) (by rfl) (fun K hK => ?_)
      go_simp
      refine (SR.out _).mono ?_
      rintro e WB ⟨rfl, hB⟩
      have hB2 : Below wy.heap.size wy WB := hA2.trans (hB.mono hA2.size)
      refine hK.out _ _ ?_ (fun hHeld => ?_)
      · (try dsimp only); exact HLY.out _ hB2
      clear hK K
      try simp only [Act.put, List.setIfInBounds_toArray, List.set_cons_zero, List.set_cons_succ]
      refine takeIn 4 (v := ?vp138x4) rfl (by kernel_rfl) (by kernel_rfl) (by kernel_rfl) (fun _ _ _ h => h) ?wp138x4 (by assumption) ?yp138x4 ?rp138x4
      case wp138x4 => rfl
      case yp138x4 => (intro w hSw; (try dsimp only at hSw); go_simp; first | done | with_reducible rfl)
      simp only [Act.put, List.setIfInBounds_toArray, List.set_cons_zero, List.set_cons_succ]
      refine takeIn 5 (v := ?vp139x5) rfl (by kernel_rfl) (by kernel_rfl) (by kernel_rfl) (fun _ _ _ h => h) ?wp139x5 (by assumption) ?yp139x5 ?rp139x5
      case wp139x5 => rfl
      case yp139x5 => (intro w hSw; (try dsimp only at hSw); go_simp; first | done | with_reducible rfl)
      simp only [Act.put, List.setIfInBounds_toArray, List.set_cons_zero, List.set_cons_succ]
      refine wpAnyH_done (by kernel_rfl) ?_ _
      go_wp2_with fail
      go_ret
      exact ⟨vretB hrr, HBY.out.trans (hB2.mono HBY.out.size)⟩
    by_cases hk3 : vk = 3
    case neg =>
      have hk3a : (vk != 3) = true := by simp [hk3]
      go_wp2_with fail
      refine (SR.out _).mono ?_
      rintro e wy ⟨rfl, hby⟩
      have HLY : Hid (∀ W, Below wy.heap.size wy W → _) := fun W hW => HLV.out W (hG2.trans ((hby.mono hG2.size).trans (hW.mono (Nat.le_trans hG2.size hby.size))))
      have HBY : Hid (Below w.heap.size w wy) := HB9.out.trans ((hG2.trans (hby.mono hG2.size)).mono HB9.out.size)
      clear z0 z1 z2
      obtain ⟨z0, z1, z2⟩ := HLY.out wy (Below.refl _ _)
      go_wp2_with fail
      refine wp_region_held_drew (S := fun w' => w'.cell? ⟨C, 0, none⟩ = some (.int .i64 vk) ∧ w'.cell? ⟨C, 1, none⟩ = some (.int .i64 vn) ∧ w'.cell? ⟨C, 2, none⟩ = some (.string vt)) (by kernel_rfl) (HLY.out _ (Below.refl wy.heap.size wy).drew) (fun hHeld => ?_)
      refine takeIn 0 (v := ?vp141x0) rfl (by kernel_rfl) (by kernel_rfl) (by kernel_rfl) (fun _ _ _ h => h) ?wp141x0 (by assumption) ?yp141x0 ?rp141x0
      case wp141x0 => rfl
      case yp141x0 => (intro w hSw; (try dsimp only at hSw); go_simp; first | done | with_reducible rfl)
      simp only [Act.put, List.setIfInBounds_toArray, List.set_cons_zero, List.set_cons_succ]
      refine takeIn 2 (v := ?vp142x2) rfl (by kernel_rfl) (by kernel_rfl) (by kernel_rfl) (fun _ _ _ h => h) ?wp142x2 (by assumption) ?yp142x2 ?rp142x2
      case wp142x2 => rfl
      case yp142x2 => (intro w hSw; (try dsimp only at hSw); go_simp; first | done | with_reducible rfl)
      simp only [Act.put, List.setIfInBounds_toArray, List.set_cons_zero, List.set_cons_succ]
      refine oneUp 1 rfl (by kernel_rfl) (by rfl) (fun K hK => ?_)
      go_simp
      refine (IR.out _).mono ?_
      rintro e WA ⟨rfl, hA⟩
      have hA2 : Below wy.heap.size wy WA := (Below.refl wy.heap.size wy).drew.trans hA
      refine hK.out _ _ ?_ (fun hHeld => ?_)
      · (try dsimp only); exact HLY.out _ hA2
      clear hK K
      try simp only [Act.put, List.setIfInBounds_toArray, List.set_cons_zero, List.set_cons_succ]
      refine oneUp 3 rfl (by kernel_rfl) (by rfl) (fun K hK => ?_)
      go_simp
      refine (SR.out _).mono ?_
      rintro e WB ⟨rfl, hB⟩
      have hB2 : Below wy.heap.size wy WB := hA2.trans (hB.mono hA2.size)
      refine hK.out _ _ ?_ (fun hHeld => ?_)
      · (try dsimp only); exact HLY.out _ hB2
      clear hK K
      try simp only [Act.put, List.setIfInBounds_toArray, List.set_cons_zero, List.set_cons_succ]
      refine takeIn 4 (v := ?vp146x4) rfl (by kernel_rfl) (by kernel_rfl) (by kernel_rfl) (fun _ _ _ h => h) ?wp146x4 (by assumption) ?yp146x4 ?rp146x4
      case wp146x4 => rfl
      case yp146x4 => (intro w hSw; (try dsimp only at hSw); go_simp; first | done | with_reducible rfl)
      simp only [Act.put, List.setIfInBounds_toArray, List.set_cons_zero, List.set_cons_succ]
      refine takeIn 5 (v := ?vp147x5) rfl (by kernel_rfl) (by kernel_rfl) (by kernel_rfl) (fun _ _ _ h => h) ?wp147x5 (by assumption) ?yp147x5 ?rp147x5
      case wp147x5 => rfl
      case yp147x5 => (intro w hSw; (try dsimp only at hSw); go_simp; first | done | with_reducible rfl)
      simp only [Act.put, List.setIfInBounds_toArray, List.set_cons_zero, List.set_cons_succ]
      refine wpAnyH_done (by kernel_rfl) ?_ _
      go_wp2_with fail
      go_ret
      exact ⟨vretB hrr, HBY.out.trans (hB2.mono HBY.out.size)⟩
    have hk3a : (vk != 3) = false := by simp [hk3]
    have HK3 : Hid (vk = 3) := hk3
    clear hk3
    by_cases hup : 999999999999999 < vn
    · have hupd : decide (999999999999999 < vn) = true := decide_eq_true hup
      go_wp2_with fail
      refine (SR.out _).mono ?_
      rintro e wy ⟨rfl, hby⟩
      have HLY : Hid (∀ W, Below wy.heap.size wy W → _) := fun W hW => HLV.out W (hG2.trans ((hby.mono hG2.size).trans (hW.mono (Nat.le_trans hG2.size hby.size))))
      have HBY : Hid (Below w.heap.size w wy) := HB9.out.trans ((hG2.trans (hby.mono hG2.size)).mono HB9.out.size)
      clear z0 z1 z2
      obtain ⟨z0, z1, z2⟩ := HLY.out wy (Below.refl _ _)
      go_wp2_with fail
      refine wp_region_held_drew (S := fun w' => w'.cell? ⟨C, 0, none⟩ = some (.int .i64 vk) ∧ w'.cell? ⟨C, 1, none⟩ = some (.int .i64 vn) ∧ w'.cell? ⟨C, 2, none⟩ = some (.string vt)) (by kernel_rfl) (HLY.out _ (Below.refl wy.heap.size wy).drew) (fun hHeld => ?_)
      refine takeIn 0 (v := ?vp149x0) rfl (by kernel_rfl) (by kernel_rfl) (by kernel_rfl) (fun _ _ _ h => h) ?wp149x0 (by assumption) ?yp149x0 ?rp149x0
      case wp149x0 => rfl
      case yp149x0 => (intro w hSw; (try dsimp only at hSw); go_simp; first | done | with_reducible rfl)
      simp only [Act.put, List.setIfInBounds_toArray, List.set_cons_zero, List.set_cons_succ]
      refine takeIn 2 (v := ?vp150x2) rfl (by kernel_rfl) (by kernel_rfl) (by kernel_rfl) (fun _ _ _ h => h) ?wp150x2 (by assumption) ?yp150x2 ?rp150x2
      case wp150x2 => rfl
      case yp150x2 => (intro w hSw; (try dsimp only at hSw); go_simp; first | done | with_reducible rfl)
      simp only [Act.put, List.setIfInBounds_toArray, List.set_cons_zero, List.set_cons_succ]
      refine oneUp 1 rfl (by kernel_rfl) (by rfl) (fun K hK => ?_)
      go_simp
      refine (IR.out _).mono ?_
      rintro e WA ⟨rfl, hA⟩
      have hA2 : Below wy.heap.size wy WA := (Below.refl wy.heap.size wy).drew.trans hA
      refine hK.out _ _ ?_ (fun hHeld => ?_)
      · (try dsimp only); exact HLY.out _ hA2
      clear hK K
      try simp only [Act.put, List.setIfInBounds_toArray, List.set_cons_zero, List.set_cons_succ]
      refine oneUp 3 rfl (by kernel_rfl) (by rfl) (fun K hK => ?_)
      go_simp
      refine (SR.out _).mono ?_
      rintro e WB ⟨rfl, hB⟩
      have hB2 : Below wy.heap.size wy WB := hA2.trans (hB.mono hA2.size)
      refine hK.out _ _ ?_ (fun hHeld => ?_)
      · (try dsimp only); exact HLY.out _ hB2
      clear hK K
      try simp only [Act.put, List.setIfInBounds_toArray, List.set_cons_zero, List.set_cons_succ]
      refine takeIn 4 (v := ?vp154x4) rfl (by kernel_rfl) (by kernel_rfl) (by kernel_rfl) (fun _ _ _ h => h) ?wp154x4 (by assumption) ?yp154x4 ?rp154x4
      case wp154x4 => rfl
      case yp154x4 => (intro w hSw; (try dsimp only at hSw); go_simp; first | done | with_reducible rfl)
      simp only [Act.put, List.setIfInBounds_toArray, List.set_cons_zero, List.set_cons_succ]
      refine takeIn 5 (v := ?vp155x5) rfl (by kernel_rfl) (by kernel_rfl) (by kernel_rfl) (fun _ _ _ h => h) ?wp155x5 (by assumption) ?yp155x5 ?rp155x5
      case wp155x5 => rfl
      case yp155x5 => (intro w hSw; (try dsimp only at hSw); go_simp; first | done | with_reducible rfl)
      simp only [Act.put, List.setIfInBounds_toArray, List.set_cons_zero, List.set_cons_succ]
      refine wpAnyH_done (by kernel_rfl) ?_ _
      go_wp2_with fail
      go_ret
      exact ⟨vretB hrr, HBY.out.trans (hB2.mono HBY.out.size)⟩
    have hupd : decide (999999999999999 < vn) = false := decide_eq_false hup
    by_cases hlo : vn < -999999999999999
    · have hlod : decide (vn < -999999999999999) = true := decide_eq_true hlo
      go_wp2_with fail
      refine (SR.out _).mono ?_
      rintro e wy ⟨rfl, hby⟩
      have HLY : Hid (∀ W, Below wy.heap.size wy W → _) := fun W hW => HLV.out W (hG2.trans ((hby.mono hG2.size).trans (hW.mono (Nat.le_trans hG2.size hby.size))))
      have HBY : Hid (Below w.heap.size w wy) := HB9.out.trans ((hG2.trans (hby.mono hG2.size)).mono HB9.out.size)
      clear z0 z1 z2
      obtain ⟨z0, z1, z2⟩ := HLY.out wy (Below.refl _ _)
      go_wp2_with fail
      refine wp_region_held_drew (S := fun w' => w'.cell? ⟨C, 0, none⟩ = some (.int .i64 vk) ∧ w'.cell? ⟨C, 1, none⟩ = some (.int .i64 vn) ∧ w'.cell? ⟨C, 2, none⟩ = some (.string vt)) (by kernel_rfl) (HLY.out _ (Below.refl wy.heap.size wy).drew) (fun hHeld => ?_)
      refine takeIn 0 (v := ?vp157x0) rfl (by kernel_rfl) (by kernel_rfl) (by kernel_rfl) (fun _ _ _ h => h) ?wp157x0 (by assumption) ?yp157x0 ?rp157x0
      case wp157x0 => rfl
      case yp157x0 => (intro w hSw; (try dsimp only at hSw); go_simp; first | done | with_reducible rfl)
      simp only [Act.put, List.setIfInBounds_toArray, List.set_cons_zero, List.set_cons_succ]
      refine takeIn 2 (v := ?vp158x2) rfl (by kernel_rfl) (by kernel_rfl) (by kernel_rfl) (fun _ _ _ h => h) ?wp158x2 (by assumption) ?yp158x2 ?rp158x2
      case wp158x2 => rfl
      case yp158x2 => (intro w hSw; (try dsimp only at hSw); go_simp; first | done | with_reducible rfl)
      simp only [Act.put, List.setIfInBounds_toArray, List.set_cons_zero, List.set_cons_succ]
      refine oneUp 1 rfl (by kernel_rfl) (by rfl) (fun K hK => ?_)
      go_simp
      refine (IR.out _).mono ?_
      rintro e WA ⟨rfl, hA⟩
      have hA2 : Below wy.heap.size wy WA := (Below.refl wy.heap.size wy).drew.trans hA
      refine hK.out _ _ ?_ (fun hHeld => ?_)
      · (try dsimp only); exact HLY.out _ hA2
      clear hK K
      try simp only [Act.put, List.setIfInBounds_toArray, List.set_cons_zero, List.set_cons_succ]
      refine oneUp 3 rfl (by kernel_rfl) (by rfl) (fun K hK => ?_)
      go_simp
      refine (SR.out _).mono ?_
      rintro e WB ⟨rfl, hB⟩
      have hB2 : Below wy.heap.size wy WB := hA2.trans (hB.mono hA2.size)
      refine hK.out _ _ ?_ (fun hHeld => ?_)
      · (try dsimp only); exact HLY.out _ hB2
      clear hK K
      try simp only [Act.put, List.setIfInBounds_toArray, List.set_cons_zero, List.set_cons_succ]
      refine takeIn 4 (v := ?vp162x4) rfl (by kernel_rfl) (by kernel_rfl) (by kernel_rfl) (fun _ _ _ h => h) ?wp162x4 (by assumption) ?yp162x4 ?rp162x4
      case wp162x4 => rfl
      case yp162x4 => (intro w hSw; (try dsimp only at hSw); go_simp; first | done | with_reducible rfl)
      simp only [Act.put, List.setIfInBounds_toArray, List.set_cons_zero, List.set_cons_succ]
      refine takeIn 5 (v := ?vp163x5) rfl (by kernel_rfl) (by kernel_rfl) (by kernel_rfl) (fun _ _ _ h => h) ?wp163x5 (by assumption) ?yp163x5 ?rp163x5
      case wp163x5 => rfl
      case yp163x5 => (intro w hSw; (try dsimp only at hSw); go_simp; first | done | with_reducible rfl)
      simp only [Act.put, List.setIfInBounds_toArray, List.set_cons_zero, List.set_cons_succ]
      refine wpAnyH_done (by kernel_rfl) ?_ _
      go_wp2_with fail
      go_ret
      exact ⟨vretB hrr, HBY.out.trans (hB2.mono HBY.out.size)⟩
    have hlod : decide (vn < -999999999999999) = false := decide_eq_false hlo
    have hbk := HBK.out rfl HK3.out (by omega) (by omega)
    injection hbk with e1 e2 e3
    rw [e1, e2, e3] at IB
    clear e1 e2 e3
    go_wp2_with fail
    refine (SR.out _).mono ?_
    rintro e wy ⟨rfl, hby⟩
    have HLY : Hid (∀ W, Below wy.heap.size wy W → _) := fun W hW => HLV.out W (hG2.trans ((hby.mono hG2.size).trans (hW.mono (Nat.le_trans hG2.size hby.size))))
    have HBY : Hid (Below w.heap.size w wy) := HB9.out.trans ((hG2.trans (hby.mono hG2.size)).mono HB9.out.size)
    have HEY : Hid (ErrIn wy.drew) := HP.out.2.1.keep HBY.out.drew
    clear z0 z1 z2
    obtain ⟨z0, z1, z2⟩ := HLY.out wy (Below.refl _ _)
    go_wp2_with fail
    refine wp_region_held_drew (S := fun w' => w'.cell? ⟨C, 0, none⟩ = some (.int .i64 vk) ∧ w'.cell? ⟨C, 1, none⟩ = some (.int .i64 vn) ∧ w'.cell? ⟨C, 2, none⟩ = some (.string vt)) (by kernel_rfl) (HLY.out _ (Below.refl wy.heap.size wy).drew) (fun hHeld => ?_)
    refine takeIn 0 (v := ?vp165x0) rfl (by kernel_rfl) (by kernel_rfl) (by kernel_rfl) (fun _ _ _ h => h) ?wp165x0 (by assumption) ?yp165x0 ?rp165x0
    case wp165x0 => rfl
    case yp165x0 => (intro w hSw; (try dsimp only at hSw); go_simp; first | done | with_reducible rfl)
    simp only [Act.put, List.setIfInBounds_toArray, List.set_cons_zero, List.set_cons_succ]
    refine takeIn 1 (v := ?vp166x1) rfl (by kernel_rfl) (by kernel_rfl) (by kernel_rfl) (fun _ _ _ h => h) ?wp166x1 (by assumption) ?yp166x1 ?rp166x1
    case wp166x1 => rfl
    case yp166x1 => (intro w hSw; (try dsimp only at hSw); go_simp; first | done | with_reducible rfl)
    simp only [Act.put, List.setIfInBounds_toArray, List.set_cons_zero, List.set_cons_succ]
    refine takeIn 3 (v := ?vp167x3) rfl (by kernel_rfl) (by kernel_rfl) (by kernel_rfl) (fun _ _ _ h => h) ?wp167x3 (by assumption) ?yp167x3 ?rp167x3
    case wp167x3 => rfl
    case yp167x3 => (intro w hSw; (try dsimp only at hSw); go_simp; first | done | with_reducible rfl)
    simp only [Act.put, List.setIfInBounds_toArray, List.set_cons_zero, List.set_cons_succ]
    refine oneUp 2 rfl (by kernel_rfl) (by rfl) (fun K hK => ?_)
    go_simp
    refine (IB.out _ HEY.out).mono ?_
    rintro e WA ⟨rfl, hA⟩
    have hA2 : Below wy.heap.size wy WA := (Below.refl wy.heap.size wy).drew.trans hA
    refine hK.out _ _ ?_ (fun hHeld => ?_)
    · (try dsimp only); exact HLY.out _ hA2
    clear hK K
    try simp only [Act.put, List.setIfInBounds_toArray, List.set_cons_zero, List.set_cons_succ]
    refine takeIn 4 (v := ?vp170x4) rfl (by kernel_rfl) (by kernel_rfl) (by kernel_rfl) (fun _ _ _ h => h) ?wp170x4 (by assumption) ?yp170x4 ?rp170x4
    case wp170x4 => rfl
    case yp170x4 => (intro w hSw; (try dsimp only at hSw); go_simp; first | done | with_reducible rfl)
    simp only [Act.put, List.setIfInBounds_toArray, List.set_cons_zero, List.set_cons_succ]
    refine takeIn 5 (v := ?vp171x5) rfl (by kernel_rfl) (by kernel_rfl) (by kernel_rfl) (fun _ _ _ h => h) ?wp171x5 (by assumption) ?yp171x5 ?rp171x5
    case wp171x5 => rfl
    case yp171x5 => (intro w hSw; (try dsimp only at hSw); go_simp; first | done | with_reducible rfl)
    simp only [Act.put, List.setIfInBounds_toArray, List.set_cons_zero, List.set_cons_succ]
    refine wpAnyH_done (by kernel_rfl) ?_ _
    go_wp2_with fail
    go_ret
    exact ⟨rfl, HBY.out.trans (hA2.mono HBY.out.size)⟩
  case false =>
    have hba := hb34
    generalize w4 = wa at *
    clear hb34
    go_wp2_with fail
    clear r0 r1 r2 s0 s1 s2
    replace HLX : Hid (∀ W, Below wa.heap.size wa W → _) := fun W hW => HLX.out W (hba.trans (hW.mono hba.size))
    replace HPW : Hid (∀ W, Below wa.heap.size wa W → _) := fun W hW => HPW.out W (hba.trans (hW.mono hba.size))
    replace HBW : Hid (Below w.heap.size w wa) := HBW.out.trans (hba.mono HBW.out.size)
    clear hba HC7
    go_cut [87] from 48 to 144 (fun v W7 => v = .bool false ∧ Below wa.heap.size wa W7)
    case first =>
      cases vA
      · refine wp_region_held_drew (S := fun w' => (w'.cell? ⟨A, 0, none⟩ = some (.int .i64 xk) ∧ w'.cell? ⟨A, 1, none⟩ = some (.int .i64 xn) ∧ w'.cell? ⟨A, 2, none⟩ = some (.string xt)) ∧ (w'.cell? ⟨B, 0, none⟩ = some (.int .i64 yk) ∧ w'.cell? ⟨B, 1, none⟩ = some (.int .i64 yn) ∧ w'.cell? ⟨B, 2, none⟩ = some (.string yt))) (by kernel_rfl) (HLX.out _ (Below.refl wa.heap.size wa).drew) (fun hHeld => ?_)
        refine takeIn 0 (v := ?vp173x0) rfl (by kernel_rfl) (by kernel_rfl) (by kernel_rfl) (fun _ _ _ h => h) ?wp173x0 (by assumption) ?yp173x0 ?rp173x0
        case wp173x0 => rfl
        case yp173x0 => (intro w hSw; (try dsimp only at hSw); go_simp; first | done | with_reducible rfl)
        simp only [Act.put, List.setIfInBounds_toArray, List.set_cons_zero, List.set_cons_succ]
        refine takeIn 1 (v := ?vp174x1) rfl (by kernel_rfl) (by kernel_rfl) (by kernel_rfl) (fun _ _ _ h => h) ?wp174x1 (by assumption) ?yp174x1 ?rp174x1
        case wp174x1 => rfl
        case yp174x1 => (intro w hSw; (try dsimp only at hSw); go_simp; first | done | with_reducible rfl)
        simp only [Act.put, List.setIfInBounds_toArray, List.set_cons_zero, List.set_cons_succ]
        refine takeIn 3 (v := ?vp175x3) rfl (by kernel_rfl) (by kernel_rfl) (by kernel_rfl) (fun _ _ _ h => h) ?wp175x3 (by assumption) ?yp175x3 ?rp175x3
        case wp175x3 => rfl
        case yp175x3 => (intro w hSw; (try dsimp only at hSw); go_simp; first | done | with_reducible rfl)
        simp only [Act.put, List.setIfInBounds_toArray, List.set_cons_zero, List.set_cons_succ]
        refine takeIn 4 (v := ?vp176x4) rfl (by kernel_rfl) (by kernel_rfl) (by kernel_rfl) (fun _ _ _ h => h) ?wp176x4 (by assumption) ?yp176x4 ?rp176x4
        case wp176x4 => rfl
        case yp176x4 => (intro w hSw; (try dsimp only at hSw); go_simp; first | done | with_reducible rfl)
        simp only [Act.put, List.setIfInBounds_toArray, List.set_cons_zero, List.set_cons_succ]
        refine oneUp 2 rfl (by kernel_rfl) (by rfl) (fun K hK => ?_)
        go_simp
        refine (IA.out _).mono ?_
        rintro e WA ⟨rfl, hA⟩
        have hA2 : Below wa.heap.size wa WA := (Below.refl wa.heap.size wa).drew.trans hA
        refine hK.out _ _ ?_ (fun hHeld => ?_)
        · (try dsimp only); exact HLX.out _ hA2
        clear hK K
        try simp only [Act.put, List.setIfInBounds_toArray, List.set_cons_zero, List.set_cons_succ]
        refine oneUp 5 rfl (by kernel_rfl) (by rfl) (fun K hK => ?_)
        go_simp
        refine (IAr.out _).mono ?_
        rintro e WB ⟨rfl, hB⟩
        have hB2 : Below wa.heap.size wa WB := hA2.trans (hB.mono hA2.size)
        refine hK.out _ _ ?_ (fun hHeld => ?_)
        · (try dsimp only); exact HLX.out _ hB2
        clear hK K
        try simp only [Act.put, List.setIfInBounds_toArray, List.set_cons_zero, List.set_cons_succ]
        refine takeIn 6 (v := ?vp180x6) rfl (by kernel_rfl) (by kernel_rfl) (by kernel_rfl) (fun _ _ _ h => h) ?wp180x6 (by assumption) ?yp180x6 ?rp180x6
        case wp180x6 => rfl
        case yp180x6 => (intro w hSw; (try dsimp only at hSw); go_simp; first | done | with_reducible rfl)
        simp only [Act.put, List.setIfInBounds_toArray, List.set_cons_zero, List.set_cons_succ]
        refine takeIn 7 (v := ?vp181x7) rfl (by kernel_rfl) (by kernel_rfl) (by kernel_rfl) (fun _ _ _ h => h) ?wp181x7 (by assumption) ?yp181x7 ?rp181x7
        case wp181x7 => rfl
        case yp181x7 => (intro w hSw; (try dsimp only at hSw); go_simp; first | done | with_reducible rfl)
        simp only [Act.put, List.setIfInBounds_toArray, List.set_cons_zero, List.set_cons_succ]
        refine takeIn 8 (v := ?vp182x8) rfl (by kernel_rfl) (by kernel_rfl) (by kernel_rfl) (fun _ _ _ h => h) ?wp182x8 (by assumption) ?yp182x8 ?rp182x8
        case wp182x8 => rfl
        case yp182x8 => (intro w hSw; (try dsimp only at hSw); go_simp; first | done | with_reducible rfl)
        simp only [Act.put, List.setIfInBounds_toArray, List.set_cons_zero, List.set_cons_succ]
        refine takeIn 9 (v := ?vp183x9) rfl (by kernel_rfl) (by kernel_rfl) (by kernel_rfl) (fun _ _ _ h => h) ?wp183x9 (by assumption) ?yp183x9 ?rp183x9
        case wp183x9 => rfl
        case yp183x9 => (intro w hSw; (try dsimp only at hSw); go_simp; first | done | with_reducible rfl)
        simp only [Act.put, List.setIfInBounds_toArray, List.set_cons_zero, List.set_cons_succ]
        refine takeIn 11 (v := ?vp184x11) rfl (by kernel_rfl) (by kernel_rfl) (by kernel_rfl) (fun _ _ _ h => h) ?wp184x11 (by assumption) ?yp184x11 ?rp184x11
        case wp184x11 => rfl
        case yp184x11 => (intro w hSw; (try dsimp only at hSw); go_simp; first | done | with_reducible rfl)
        simp only [Act.put, List.setIfInBounds_toArray, List.set_cons_zero, List.set_cons_succ]
        refine takeIn 12 (v := ?vp185x12) rfl (by kernel_rfl) (by kernel_rfl) (by kernel_rfl) (fun _ _ _ h => h) ?wp185x12 (by assumption) ?yp185x12 ?rp185x12
        case wp185x12 => rfl
        case yp185x12 => (intro w hSw; (try dsimp only at hSw); go_simp; first | done | with_reducible rfl)
        simp only [Act.put, List.setIfInBounds_toArray, List.set_cons_zero, List.set_cons_succ]
        refine oneUp 10 rfl (by kernel_rfl) (by rfl) (fun K hK => ?_)
        go_simp
        refine (IE.out _ (HPW.out _ hB2).1 (HPW.out _ hB2).2).mono ?_
        rintro e WC ⟨rfl, hC⟩
        have hC2 : Below wa.heap.size wa WC := hB2.trans (hC.mono hB2.size)
        refine hK.out _ _ ?_ (fun hHeld => ?_)
        · (try dsimp only); exact HLX.out _ hC2
        clear hK K
        try simp only [Act.put, List.setIfInBounds_toArray, List.set_cons_zero, List.set_cons_succ]
        refine oneUp 13 rfl (by kernel_rfl) (by rfl) (fun K hK => ?_)
        go_simp
        refine (IEr.out _ (HPW.out _ hC2).1 (HPW.out _ hC2).2).mono ?_
        rintro e WD ⟨rfl, hD⟩
        have hD2 : Below wa.heap.size wa WD := hC2.trans (hD.mono hC2.size)
        refine hK.out _ _ ?_ (fun hHeld => ?_)
        · (try dsimp only); exact HLX.out _ hD2
        clear hK K
        try simp only [Act.put, List.setIfInBounds_toArray, List.set_cons_zero, List.set_cons_succ]
        refine takeIn 14 (v := ?vp189x14) rfl (by kernel_rfl) (by kernel_rfl) (by kernel_rfl) (fun _ _ _ h => h) ?wp189x14 (by assumption) ?yp189x14 ?rp189x14
        case wp189x14 => rfl
        case yp189x14 => (intro w hSw; (try dsimp only at hSw); go_simp; first | done | with_reducible rfl)
        simp only [Act.put, List.setIfInBounds_toArray, List.set_cons_zero, List.set_cons_succ]
        refine takeIn 15 (v := ?vp190x15) rfl (by kernel_rfl) (by kernel_rfl) (by kernel_rfl) (fun _ _ _ h => h) ?wp190x15 (by assumption) ?yp190x15 ?rp190x15
        case wp190x15 => rfl
        case yp190x15 => (intro w hSw; (try dsimp only at hSw); go_simp; first | done | with_reducible rfl)
        simp only [Act.put, List.setIfInBounds_toArray, List.set_cons_zero, List.set_cons_succ]
        refine takeIn 16 (v := ?vp191x16) rfl (by kernel_rfl) (by kernel_rfl) (by kernel_rfl) (fun _ _ _ h => h) ?wp191x16 (by assumption) ?yp191x16 ?rp191x16
        case wp191x16 => rfl
        case yp191x16 => (intro w hSw; (try dsimp only at hSw); go_simp; first | done | with_reducible rfl)
        simp only [Act.put, List.setIfInBounds_toArray, List.set_cons_zero, List.set_cons_succ]
        refine takeIn 17 (v := ?vp192x17) rfl (by kernel_rfl) (by kernel_rfl) (by kernel_rfl) (fun _ _ _ h => h) ?wp192x17 (by assumption) ?yp192x17 ?rp192x17
        case wp192x17 => rfl
        case yp192x17 => (intro w hSw; (try dsimp only at hSw); go_simp; first | done | with_reducible rfl)
        simp only [Act.put, List.setIfInBounds_toArray, List.set_cons_zero, List.set_cons_succ]
        refine takeIn 18 (v := ?vp193x18) rfl (by kernel_rfl) (by kernel_rfl) (by kernel_rfl) (fun _ _ _ h => h) ?wp193x18 (by assumption) ?yp193x18 ?rp193x18
        case wp193x18 => rfl
        case yp193x18 => (intro w hSw; (try dsimp only at hSw); go_simp; first | done | with_reducible rfl)
        simp only [Act.put, List.setIfInBounds_toArray, List.set_cons_zero, List.set_cons_succ]
        refine takeIn 19 (v := ?vp194x19) rfl (by kernel_rfl) (by kernel_rfl) (by kernel_rfl) (fun _ _ _ h => h) ?wp194x19 (by assumption) ?yp194x19 ?rp194x19
        case wp194x19 => rfl
        case yp194x19 => (intro w hSw; (try dsimp only at hSw); go_simp; first | done | with_reducible rfl)
        simp only [Act.put, List.setIfInBounds_toArray, List.set_cons_zero, List.set_cons_succ]
        refine takeIn 20 (v := ?vp195x20) rfl (by kernel_rfl) (by kernel_rfl) (by kernel_rfl) (fun _ _ _ h => h) ?wp195x20 (by assumption) ?yp195x20 ?rp195x20
        case wp195x20 => rfl
        case yp195x20 => (intro w hSw; (try dsimp only at hSw); go_simp; first | done | with_reducible rfl)
        simp only [Act.put, List.setIfInBounds_toArray, List.set_cons_zero, List.set_cons_succ]
        refine takeIn 21 (v := ?vp196x21) rfl (by kernel_rfl) (by kernel_rfl) (by kernel_rfl) (fun _ _ _ h => h) ?wp196x21 (by assumption) ?yp196x21 ?rp196x21
        case wp196x21 => rfl
        case yp196x21 => (intro w hSw; (try dsimp only at hSw); go_simp; first | done | with_reducible rfl)
        simp only [Act.put, List.setIfInBounds_toArray, List.set_cons_zero, List.set_cons_succ]
        refine oneUp 22 rfl (by kernel_rfl) (by rfl) (fun K hK => ?_)
        go_simp
        refine (IA.out _).mono ?_
        rintro e WE ⟨rfl, hE⟩
        have hE2 : Below wa.heap.size wa WE := hD2.trans (hE.mono hD2.size)
        refine hK.out _ _ ?_ (fun hHeld => ?_)
        · (try dsimp only); exact HLX.out _ hE2
        clear hK K
        try simp only [Act.put, List.setIfInBounds_toArray, List.set_cons_zero, List.set_cons_succ]
        refine takeIn 23 (v := ?vp199x23) rfl (by kernel_rfl) (by kernel_rfl) (by kernel_rfl) (fun _ _ _ h => h) ?wp199x23 (by assumption) ?yp199x23 ?rp199x23
        case wp199x23 => rfl
        case yp199x23 => (intro w hSw; (try dsimp only at hSw); go_simp; first | done | with_reducible rfl)
        simp only [Act.put, List.setIfInBounds_toArray, List.set_cons_zero, List.set_cons_succ]
        refine takeOut 24 rfl (by kernel_rfl) (by kernel_rfl) (by kernel_rfl) (fun _ _ _ h => h) ?wp201x24 (by assumption) ?rp201x24
        case wp201x24 => rfl
        simp only [Act.put, List.setIfInBounds_toArray, List.set_cons_zero, List.set_cons_succ]
        refine takeOut 25 rfl (by kernel_rfl) (by kernel_rfl) (by kernel_rfl) (fun _ _ _ h => h) ?wp202x25 (by assumption) ?rp202x25
        case wp202x25 => rfl
        simp only [Act.put, List.setIfInBounds_toArray, List.set_cons_zero, List.set_cons_succ]
        refine takeOut 26 rfl (by kernel_rfl) (by kernel_rfl) (by kernel_rfl) (fun _ _ _ h => h) ?wp203x26 (by assumption) ?rp203x26
        case wp203x26 => rfl
        simp only [Act.put, List.setIfInBounds_toArray, List.set_cons_zero, List.set_cons_succ]
        refine takeOut 27 rfl (by kernel_rfl) (by kernel_rfl) (by kernel_rfl) (fun _ _ _ h => h) ?wp204x27 (by assumption) ?rp204x27
        case wp204x27 => rfl
        simp only [Act.put, List.setIfInBounds_toArray, List.set_cons_zero, List.set_cons_succ]
        refine takeIn 28 (v := ?vp206x28) rfl (by kernel_rfl) (by kernel_rfl) (by kernel_rfl) (fun _ _ _ h => h) ?wp206x28 (by assumption) ?yp206x28 ?rp206x28
        case wp206x28 => rfl
        case yp206x28 => (intro w hSw; (try dsimp only at hSw); go_simp; first | done | with_reducible rfl)
        simp only [Act.put, List.setIfInBounds_toArray, List.set_cons_zero, List.set_cons_succ]
        refine takeIn 29 (v := ?vp207x29) rfl (by kernel_rfl) (by kernel_rfl) (by kernel_rfl) (fun _ _ _ h => h) ?wp207x29 (by assumption) ?yp207x29 ?rp207x29
        case wp207x29 => rfl
        case yp207x29 => (intro w hSw; (try dsimp only at hSw); go_simp; first | done | with_reducible rfl)
        simp only [Act.put, List.setIfInBounds_toArray, List.set_cons_zero, List.set_cons_succ]
        refine wpAnyH_done (by kernel_rfl) ?_ _
        go_wp2_with fail
        go_meet
        exact ⟨rfl, hE2⟩
      · have hvE := HAE.out rfl
        subst hvE
        refine wp_region_held_drew (S := fun w' => (w'.cell? ⟨A, 0, none⟩ = some (.int .i64 xk) ∧ w'.cell? ⟨A, 1, none⟩ = some (.int .i64 xn) ∧ w'.cell? ⟨A, 2, none⟩ = some (.string xt)) ∧ (w'.cell? ⟨B, 0, none⟩ = some (.int .i64 yk) ∧ w'.cell? ⟨B, 1, none⟩ = some (.int .i64 yn) ∧ w'.cell? ⟨B, 2, none⟩ = some (.string yt))) (by kernel_rfl) (HLX.out _ (Below.refl wa.heap.size wa).drew) (fun hHeld => ?_)
        refine takeIn 0 (v := ?vp209x0) rfl (by kernel_rfl) (by kernel_rfl) (by kernel_rfl) (fun _ _ _ h => h) ?wp209x0 (by assumption) ?yp209x0 ?rp209x0
        case wp209x0 => rfl
        case yp209x0 => (intro w hSw; (try dsimp only at hSw); go_simp; first | done | with_reducible rfl)
        simp only [Act.put, List.setIfInBounds_toArray, List.set_cons_zero, List.set_cons_succ]
        refine takeIn 1 (v := ?vp210x1) rfl (by kernel_rfl) (by kernel_rfl) (by kernel_rfl) (fun _ _ _ h => h) ?wp210x1 (by assumption) ?yp210x1 ?rp210x1
        case wp210x1 => rfl
        case yp210x1 => (intro w hSw; (try dsimp only at hSw); go_simp; first | done | with_reducible rfl)
        simp only [Act.put, List.setIfInBounds_toArray, List.set_cons_zero, List.set_cons_succ]
        refine takeIn 3 (v := ?vp211x3) rfl (by kernel_rfl) (by kernel_rfl) (by kernel_rfl) (fun _ _ _ h => h) ?wp211x3 (by assumption) ?yp211x3 ?rp211x3
        case wp211x3 => rfl
        case yp211x3 => (intro w hSw; (try dsimp only at hSw); go_simp; first | done | with_reducible rfl)
        simp only [Act.put, List.setIfInBounds_toArray, List.set_cons_zero, List.set_cons_succ]
        refine takeIn 4 (v := ?vp212x4) rfl (by kernel_rfl) (by kernel_rfl) (by kernel_rfl) (fun _ _ _ h => h) ?wp212x4 (by assumption) ?yp212x4 ?rp212x4
        case wp212x4 => rfl
        case yp212x4 => (intro w hSw; (try dsimp only at hSw); go_simp; first | done | with_reducible rfl)
        simp only [Act.put, List.setIfInBounds_toArray, List.set_cons_zero, List.set_cons_succ]
        refine oneUp 2 rfl (by kernel_rfl) (by rfl) (fun K hK => ?_)
        go_simp
        refine (IA.out _).mono ?_
        rintro e WA ⟨rfl, hA⟩
        have hA2 : Below wa.heap.size wa WA := (Below.refl wa.heap.size wa).drew.trans hA
        refine hK.out _ _ ?_ (fun hHeld => ?_)
        · (try dsimp only); exact HLX.out _ hA2
        clear hK K
        try simp only [Act.put, List.setIfInBounds_toArray, List.set_cons_zero, List.set_cons_succ]
        refine oneUp 5 rfl (by kernel_rfl) (by rfl) (fun K hK => ?_)
        go_simp
        refine (IAr.out _).mono ?_
        rintro e WB ⟨rfl, hB⟩
        have hB2 : Below wa.heap.size wa WB := hA2.trans (hB.mono hA2.size)
        refine hK.out _ _ ?_ (fun hHeld => ?_)
        · (try dsimp only); exact HLX.out _ hB2
        clear hK K
        try simp only [Act.put, List.setIfInBounds_toArray, List.set_cons_zero, List.set_cons_succ]
        refine takeIn 6 (v := ?vp216x6) rfl (by kernel_rfl) (by kernel_rfl) (by kernel_rfl) (fun _ _ _ h => h) ?wp216x6 (by assumption) ?yp216x6 ?rp216x6
        case wp216x6 => rfl
        case yp216x6 => (intro w hSw; (try dsimp only at hSw); go_simp; first | done | with_reducible rfl)
        simp only [Act.put, List.setIfInBounds_toArray, List.set_cons_zero, List.set_cons_succ]
        refine takeIn 7 (v := ?vp217x7) rfl (by kernel_rfl) (by kernel_rfl) (by kernel_rfl) (fun _ _ _ h => h) ?wp217x7 (by assumption) ?yp217x7 ?rp217x7
        case wp217x7 => rfl
        case yp217x7 => (intro w hSw; (try dsimp only at hSw); go_simp; first | done | with_reducible rfl)
        simp only [Act.put, List.setIfInBounds_toArray, List.set_cons_zero, List.set_cons_succ]
        refine takeIn 8 (v := ?vp218x8) rfl (by kernel_rfl) (by kernel_rfl) (by kernel_rfl) (fun _ _ _ h => h) ?wp218x8 (by assumption) ?yp218x8 ?rp218x8
        case wp218x8 => rfl
        case yp218x8 => (intro w hSw; (try dsimp only at hSw); go_simp; first | done | with_reducible rfl)
        simp only [Act.put, List.setIfInBounds_toArray, List.set_cons_zero, List.set_cons_succ]
        refine takeIn 9 (v := ?vp219x9) rfl (by kernel_rfl) (by kernel_rfl) (by kernel_rfl) (fun _ _ _ h => h) ?wp219x9 (by assumption) ?yp219x9 ?rp219x9
        case wp219x9 => rfl
        case yp219x9 => (intro w hSw; (try dsimp only at hSw); go_simp; first | done | with_reducible rfl)
        simp only [Act.put, List.setIfInBounds_toArray, List.set_cons_zero, List.set_cons_succ]
        refine takeIn 11 (v := ?vp220x11) rfl (by kernel_rfl) (by kernel_rfl) (by kernel_rfl) (fun _ _ _ h => h) ?wp220x11 (by assumption) ?yp220x11 ?rp220x11
        case wp220x11 => rfl
        case yp220x11 => (intro w hSw; (try dsimp only at hSw); go_simp; first | done | with_reducible rfl)
        simp only [Act.put, List.setIfInBounds_toArray, List.set_cons_zero, List.set_cons_succ]
        refine takeIn 12 (v := ?vp221x12) rfl (by kernel_rfl) (by kernel_rfl) (by kernel_rfl) (fun _ _ _ h => h) ?wp221x12 (by assumption) ?yp221x12 ?rp221x12
        case wp221x12 => rfl
        case yp221x12 => (intro w hSw; (try dsimp only at hSw); go_simp; first | done | with_reducible rfl)
        simp only [Act.put, List.setIfInBounds_toArray, List.set_cons_zero, List.set_cons_succ]
        refine oneUp 10 rfl (by kernel_rfl) (by rfl) (fun K hK => ?_)
        go_simp
        refine (IE.out _ (HPW.out _ hB2).1 (HPW.out _ hB2).2).mono ?_
        rintro e WC ⟨rfl, hC⟩
        have hC2 : Below wa.heap.size wa WC := hB2.trans (hC.mono hB2.size)
        refine hK.out _ _ ?_ (fun hHeld => ?_)
        · (try dsimp only); exact HLX.out _ hC2
        clear hK K
        try simp only [Act.put, List.setIfInBounds_toArray, List.set_cons_zero, List.set_cons_succ]
        refine oneUp 13 rfl (by kernel_rfl) (by rfl) (fun K hK => ?_)
        go_simp
        refine (IEr.out _ (HPW.out _ hC2).1 (HPW.out _ hC2).2).mono ?_
        rintro e WD ⟨rfl, hD⟩
        have hD2 : Below wa.heap.size wa WD := hC2.trans (hD.mono hC2.size)
        refine hK.out _ _ ?_ (fun hHeld => ?_)
        · (try dsimp only); exact HLX.out _ hD2
        clear hK K
        try simp only [Act.put, List.setIfInBounds_toArray, List.set_cons_zero, List.set_cons_succ]
        refine takeIn 14 (v := ?vp225x14) rfl (by kernel_rfl) (by kernel_rfl) (by kernel_rfl) (fun _ _ _ h => h) ?wp225x14 (by assumption) ?yp225x14 ?rp225x14
        case wp225x14 => rfl
        case yp225x14 => (intro w hSw; (try dsimp only at hSw); go_simp; first | done | with_reducible rfl)
        simp only [Act.put, List.setIfInBounds_toArray, List.set_cons_zero, List.set_cons_succ]
        refine takeIn 15 (v := ?vp226x15) rfl (by kernel_rfl) (by kernel_rfl) (by kernel_rfl) (fun _ _ _ h => h) ?wp226x15 (by assumption) ?yp226x15 ?rp226x15
        case wp226x15 => rfl
        case yp226x15 => (intro w hSw; (try dsimp only at hSw); go_simp; first | done | with_reducible rfl)
        simp only [Act.put, List.setIfInBounds_toArray, List.set_cons_zero, List.set_cons_succ]
        refine takeIn 16 (v := ?vp227x16) rfl (by kernel_rfl) (by kernel_rfl) (by kernel_rfl) (fun _ _ _ h => h) ?wp227x16 (by assumption) ?yp227x16 ?rp227x16
        case wp227x16 => rfl
        case yp227x16 => (intro w hSw; (try dsimp only at hSw); go_simp; first | done | with_reducible rfl)
        simp only [Act.put, List.setIfInBounds_toArray, List.set_cons_zero, List.set_cons_succ]
        refine takeIn 17 (v := ?vp228x17) rfl (by kernel_rfl) (by kernel_rfl) (by kernel_rfl) (fun _ _ _ h => h) ?wp228x17 (by assumption) ?yp228x17 ?rp228x17
        case wp228x17 => rfl
        case yp228x17 => (intro w hSw; (try dsimp only at hSw); go_simp; first | done | with_reducible rfl)
        simp only [Act.put, List.setIfInBounds_toArray, List.set_cons_zero, List.set_cons_succ]
        refine takeIn 18 (v := ?vp229x18) rfl (by kernel_rfl) (by kernel_rfl) (by kernel_rfl) (fun _ _ _ h => h) ?wp229x18 (by assumption) ?yp229x18 ?rp229x18
        case wp229x18 => rfl
        case yp229x18 => (intro w hSw; (try dsimp only at hSw); go_simp; first | done | with_reducible rfl)
        simp only [Act.put, List.setIfInBounds_toArray, List.set_cons_zero, List.set_cons_succ]
        refine takeIn 19 (v := ?vp230x19) rfl (by kernel_rfl) (by kernel_rfl) (by kernel_rfl) (fun _ _ _ h => h) ?wp230x19 (by assumption) ?yp230x19 ?rp230x19
        case wp230x19 => rfl
        case yp230x19 => (intro w hSw; (try dsimp only at hSw); go_simp; first | done | with_reducible rfl)
        simp only [Act.put, List.setIfInBounds_toArray, List.set_cons_zero, List.set_cons_succ]
        refine takeIn 20 (v := ?vp231x20) rfl (by kernel_rfl) (by kernel_rfl) (by kernel_rfl) (fun _ _ _ h => h) ?wp231x20 (by assumption) ?yp231x20 ?rp231x20
        case wp231x20 => rfl
        case yp231x20 => (intro w hSw; (try dsimp only at hSw); go_simp; first | done | with_reducible rfl)
        simp only [Act.put, List.setIfInBounds_toArray, List.set_cons_zero, List.set_cons_succ]
        refine takeIn 21 (v := ?vp232x21) rfl (by kernel_rfl) (by kernel_rfl) (by kernel_rfl) (fun _ _ _ h => h) ?wp232x21 (by assumption) ?yp232x21 ?rp232x21
        case wp232x21 => rfl
        case yp232x21 => (intro w hSw; (try dsimp only at hSw); go_simp; first | done | with_reducible rfl)
        simp only [Act.put, List.setIfInBounds_toArray, List.set_cons_zero, List.set_cons_succ]
        refine oneUp 22 rfl (by kernel_rfl) (by rfl) (fun K hK => ?_)
        go_simp
        refine (IA.out _).mono ?_
        rintro e WE ⟨rfl, hE⟩
        have hE2 : Below wa.heap.size wa WE := hD2.trans (hE.mono hD2.size)
        refine hK.out _ _ ?_ (fun hHeld => ?_)
        · (try dsimp only); exact HLX.out _ hE2
        clear hK K
        try simp only [Act.put, List.setIfInBounds_toArray, List.set_cons_zero, List.set_cons_succ]
        refine takeIn 23 (v := ?vp235x23) rfl (by kernel_rfl) (by kernel_rfl) (by kernel_rfl) (fun _ _ _ h => h) ?wp235x23 (by assumption) ?yp235x23 ?rp235x23
        case wp235x23 => rfl
        case yp235x23 => (intro w hSw; (try dsimp only at hSw); go_simp; first | done | with_reducible rfl)
        simp only [Act.put, List.setIfInBounds_toArray, List.set_cons_zero, List.set_cons_succ]
        refine takeIn 24 (v := ?vp237x24) rfl (by kernel_rfl) (by kernel_rfl) (by kernel_rfl) (fun _ _ _ h => h) ?wp237x24 (by assumption) ?yp237x24 ?rp237x24
        case wp237x24 => rfl
        case yp237x24 => (intro w hSw; (try dsimp only at hSw); go_simp; first | done | with_reducible rfl)
        simp only [Act.put, List.setIfInBounds_toArray, List.set_cons_zero, List.set_cons_succ]
        refine takeIn 25 (v := ?vp238x25) rfl (by kernel_rfl) (by kernel_rfl) (by kernel_rfl) (fun _ _ _ h => h) ?wp238x25 (by assumption) ?yp238x25 ?rp238x25
        case wp238x25 => rfl
        case yp238x25 => (intro w hSw; (try dsimp only at hSw); go_simp; first | done | with_reducible rfl)
        simp only [Act.put, List.setIfInBounds_toArray, List.set_cons_zero, List.set_cons_succ]
        refine oneUp 26 rfl (by kernel_rfl) (by rfl) (fun K hK => ?_)
        go_simp
        refine (IE.out _ (HPW.out _ hE2).1 (HPW.out _ hE2).2).mono ?_
        rintro e WF ⟨rfl, hF⟩
        have hF2 : Below wa.heap.size wa WF := hE2.trans (hF.mono hE2.size)
        refine hK.out _ _ ?_ (fun hHeld => ?_)
        · (try dsimp only); exact HLX.out _ hF2
        clear hK K
        try simp only [Act.put, List.setIfInBounds_toArray, List.set_cons_zero, List.set_cons_succ]
        refine takeIn 27 (v := ?vp241x27) rfl (by kernel_rfl) (by kernel_rfl) (by kernel_rfl) (fun _ _ _ h => h) ?wp241x27 (by assumption) ?yp241x27 ?rp241x27
        case wp241x27 => rfl
        case yp241x27 => (intro w hSw; (try dsimp only at hSw); go_simp; first | done | with_reducible rfl)
        simp only [Act.put, List.setIfInBounds_toArray, List.set_cons_zero, List.set_cons_succ]
        refine takeIn 28 (v := ?vp242x28) rfl (by kernel_rfl) (by kernel_rfl) (by kernel_rfl) (fun _ _ _ h => h) ?wp242x28 (by assumption) ?yp242x28 ?rp242x28
        case wp242x28 => rfl
        case yp242x28 => (intro w hSw; (try dsimp only at hSw); go_simp; first | done | with_reducible rfl)
        simp only [Act.put, List.setIfInBounds_toArray, List.set_cons_zero, List.set_cons_succ]
        refine takeIn 29 (v := ?vp243x29) rfl (by kernel_rfl) (by kernel_rfl) (by kernel_rfl) (fun _ _ _ h => h) ?wp243x29 (by assumption) ?yp243x29 ?rp243x29
        case wp243x29 => rfl
        case yp243x29 => (intro w hSw; (try dsimp only at hSw); go_simp; first | done | with_reducible rfl)
        simp only [Act.put, List.setIfInBounds_toArray, List.set_cons_zero, List.set_cons_succ]
        refine wpAnyH_done (by kernel_rfl) ?_ _
        go_wp2_with fail
        go_meet
        exact ⟨rfl, hF2⟩
    case rest =>
    obtain ⟨rfl, hcut⟩ := hcut
    have HB7 : Hid (Below w.heap.size w wc) := HBW.out.trans (hcut.mono HBW.out.size)
    clear hcut HBW HLX HPW IA IAr IE IEr IL ILr T1 T2 HTT HAE HV q1 q2
    go_wp2_with fail
    refine (DT.out _ HB7.out (by omega)).mono ?_
    rintro e w7 ⟨⟨vk, vn, vt⟩, hvt, rfl, hb7⟩
    have hb7w : Below w.heap.size w w7 := HB7.out.trans (hb7.mono HB7.out.size)
    have HL8 : Hid (_ ∧ _) := ⟨lies_new w7 ⟨vk, vn, vt⟩, hb7w.alloc hb7w.size (.cells (vC ⟨vk, vn, vt⟩) 24)⟩
    clear hb7 hb7w hvt
    have IX : Hid _ := fun (W : World) (hp : PowIn W) => iToText ⟨vk, vn, vt⟩ W hp
    have ST : Hid _ := fun (W : World) => sToText ⟨vk, vn, vt⟩ W
    have IN : Hid _ := fun (W : World) (he : ErrIn W) => iToNumber ⟨vk, vn, vt⟩ W he
    have SN : Hid _ := fun (W : World) => sToNumber ⟨vk, vn, vt⟩ W
    have IT : Hid _ := fun (W : World) => iTruth ⟨vk, vn, vt⟩ W
    have STr : Hid _ := fun (W : World) => sTruth ⟨vk, vn, vt⟩ W
    have IY : Hid _ := fun (W : World) (hk : KindsIn W) => iTypeOf ⟨vk, vn, vt⟩ W hk
    have SY : Hid _ := fun (W : World) => sTypeOf ⟨vk, vn, vt⟩ W
    have IR : Hid _ := fun (W : World) => iValueRight ⟨vk, vn, vt⟩ W
    have SR : Hid _ := fun (W : World) => sValueRight ⟨vk, vn, vt⟩ W
    have IB : Hid _ := fun (W : World) (he : ErrIn W) => iToNumber ⟨5, 0, Val.textOf ⟨vk, vn, vt⟩⟩ W he
    have HBK : Hid (Val.right ⟨vk, vn, vt⟩ = true → vk = 3 → -999999999999999 ≤ vn → vn ≤ 999999999999999 → Val.toNumV ⟨5, 0, Val.textOf ⟨vk, vn, vt⟩⟩ = ⟨vk, vn, vt⟩) := fun h e h1 h2 => by
      subst e
      exact Val.back_num vn vt h h1 h2
    obtain ⟨⟨nk, nn, nt⟩, hnv⟩ : ∃ v, Val.toNumV ⟨vk, vn, vt⟩ = v := ⟨_, rfl⟩
    obtain ⟨⟨bk, bn, bt⟩, hbv⟩ : ∃ v, Val.toNumV ⟨5, 0, Val.textOf ⟨vk, vn, vt⟩⟩ = v := ⟨_, rfl⟩
    rw [hbv] at IB HBK
    rw [hnv] at IN SN
    clear hbv hnv
    obtain ⟨tx, htx⟩ : ∃ v, Val.textOf ⟨vk, vn, vt⟩ = v := ⟨_, rfl⟩
    obtain ⟨tr, htr⟩ : ∃ v, Val.truthV ⟨vk, vn, vt⟩ = v := ⟨_, rfl⟩
    obtain ⟨ty, hty⟩ : ∃ v, Val.typeV ⟨vk, vn, vt⟩ = v := ⟨_, rfl⟩
    obtain ⟨rv, hrv⟩ : ∃ v, Val.right ⟨vk, vn, vt⟩ = v := ⟨_, rfl⟩
    rw [htx] at IX ST IB
    rw [htr] at IT STr
    rw [hty] at IY SY
    rw [hrv] at IR SR HBK
    clear htx htr hty hrv
    unfold vC at IX ST IN SN IT STr IY SY IR SR IB HL8 ⊢
    dsimp only at IX ST IN SN IT STr IY SY IR SR IB HL8 ⊢
    have q3 : (tx.toList != tx.toList) = false := by simp
    have q4 : (ty.toList != ty.toList) = false := by simp
    have q5 : (tr != tr) = false := by simp
    have hrr : (rv == rv) = true := by simp
    go_wp2_with fail
    generalize hwx : w7.alloc _ = wx at HL8 ⊢
    clear hwx
    generalize w7.heap.size = C at *
    refine (IX.out _ (HP.out.1.keep HL8.out.2)).mono ?_
    rintro e wv ⟨rfl, hbv⟩
    have HB9 : Hid (Below w.heap.size w wv) := HL8.out.2.trans (hbv.mono HL8.out.2.size)
    have lV := HL8.out.1.keep hbv
    have HLV : Hid (∀ W, Below wv.heap.size wv W → W.cell? ⟨C, 0, none⟩ = some (.int .i64 vk) ∧ W.cell? ⟨C, 1, none⟩ = some (.int .i64 vn) ∧ W.cell? ⟨C, 2, none⟩ = some (.string vt)) := fun W hW => (lV.keep hW).three.1
    have HPV : Hid (∀ W, Below wv.heap.size wv W → PowIn W ∧ ErrIn W ∧ KindsIn W) := fun W hW => ⟨HP.out.1.keep (HB9.out.trans (hW.mono HB9.out.size)), HP.out.2.1.keep (HB9.out.trans (hW.mono HB9.out.size)), HP.out.2.2.keep (HB9.out.trans (hW.mono HB9.out.size))⟩
    clear lV hbv HL8 HB7
    go_wp2_with fail
    refine wp_region_held_drew (S := fun w' => w'.cell? ⟨C, 0, none⟩ = some (.int .i64 vk) ∧ w'.cell? ⟨C, 1, none⟩ = some (.int .i64 vn) ∧ w'.cell? ⟨C, 2, none⟩ = some (.string vt)) (by kernel_rfl) (HLV.out _ (Below.refl wv.heap.size wv).drew) (fun hHeld => ?_)
    refine takeIn 0 (v := ?vp245x0) rfl (by kernel_rfl) (by kernel_rfl) (by kernel_rfl) (fun _ _ _ h => h) ?wp245x0 (by assumption) ?yp245x0 ?rp245x0
    case wp245x0 => rfl
    case yp245x0 => (intro w hSw; (try dsimp only at hSw); go_simp; first | done | with_reducible rfl)
    simp only [Act.put, List.setIfInBounds_toArray, List.set_cons_zero, List.set_cons_succ]
    refine takeIn 1 (v := ?vp246x1) rfl (by kernel_rfl) (by kernel_rfl) (by kernel_rfl) (fun _ _ _ h => h) ?wp246x1 (by assumption) ?yp246x1 ?rp246x1
    case wp246x1 => rfl
    case yp246x1 => (intro w hSw; (try dsimp only at hSw); go_simp; first | done | with_reducible rfl)
    simp only [Act.put, List.setIfInBounds_toArray, List.set_cons_zero, List.set_cons_succ]
    refine oneUp 2 rfl (by kernel_rfl) (by rfl) (fun K hK => ?_)
    go_simp
    refine (ST.out _).mono ?_
    rintro e WA ⟨rfl, hA⟩
    have hA2 : Below wv.heap.size wv WA := (Below.refl wv.heap.size wv).drew.trans hA
    refine hK.out _ _ ?_ (fun hHeld => ?_)
    · (try dsimp only); exact HLV.out _ hA2
    clear hK K
    try simp only [Act.put, List.setIfInBounds_toArray, List.set_cons_zero, List.set_cons_succ]
    refine takeIn 3 (v := ?vp249x3) rfl (by kernel_rfl) (by kernel_rfl) (by kernel_rfl) (fun _ _ _ h => h) ?wp249x3 (by assumption) ?yp249x3 ?rp249x3
    case wp249x3 => rfl
    case yp249x3 => (intro w hSw; (try dsimp only at hSw); go_simp; first | done | with_reducible rfl)
    simp only [Act.put, List.setIfInBounds_toArray, List.set_cons_zero, List.set_cons_succ]
    refine takeIn 4 (v := ?vp250x4) rfl (by kernel_rfl) (by kernel_rfl) (by kernel_rfl) (fun _ _ _ h => h) ?wp250x4 (by assumption) ?yp250x4 ?rp250x4
    case wp250x4 => rfl
    case yp250x4 => (intro w hSw; (try dsimp only at hSw); go_simp; first | done | with_reducible rfl)
    simp only [Act.put, List.setIfInBounds_toArray, List.set_cons_zero, List.set_cons_succ]
    refine takeIn 5 (v := ?vp251x5) rfl (by kernel_rfl) (by kernel_rfl) (by kernel_rfl) (fun _ _ _ h => h) ?wp251x5 (by assumption) ?yp251x5 ?rp251x5
    case wp251x5 => rfl
    case yp251x5 => (intro w hSw; (try dsimp only at hSw); go_simp; first | done | with_reducible rfl)
    simp only [Act.put, List.setIfInBounds_toArray, List.set_cons_zero, List.set_cons_succ]
    refine takeIn 7 (v := ?vp252x7) rfl (by kernel_rfl) (by kernel_rfl) (by kernel_rfl) (fun _ _ _ h => h) ?wp252x7 (by assumption) ?yp252x7 ?rp252x7
    case wp252x7 => rfl
    case yp252x7 => (intro w hSw; (try dsimp only at hSw); go_simp; first | done | with_reducible rfl)
    simp only [Act.put, List.setIfInBounds_toArray, List.set_cons_zero, List.set_cons_succ]
    refine oneUp 6 rfl (by kernel_rfl) (by rfl) (fun K hK => ?_)
    go_simp
    refine (IN.out _ (HPV.out _ hA2).2.1).mono ?_
    rintro e WB ⟨rfl, hB⟩
    have hB2 : Below wv.heap.size wv WB := hA2.trans (hB.mono hA2.size)
    refine hK.out _ _ ?_ (fun hHeld => ?_)
    · (try dsimp only); exact HLV.out _ hB2
    clear hK K
    try simp only [Act.put, List.setIfInBounds_toArray, List.set_cons_zero, List.set_cons_succ]
    refine oneUp 8 rfl (by kernel_rfl) (by rfl) (fun K hK => ?_)
    go_simp
    refine (SN.out _).mono ?_
    rintro e WC ⟨rfl, hC⟩
    have hC2 : Below wv.heap.size wv WC := hB2.trans (hC.mono hB2.size)
    refine hK.out _ _ ?_ (fun hHeld => ?_)
    · (try dsimp only); exact HLV.out _ hC2
    clear hK K
    try simp only [Act.put, List.setIfInBounds_toArray, List.set_cons_zero, List.set_cons_succ]
    refine takeIn 9 (v := ?vp256x9) rfl (by kernel_rfl) (by kernel_rfl) (by kernel_rfl) (fun _ _ _ h => h) ?wp256x9 (by assumption) ?yp256x9 ?rp256x9
    case wp256x9 => rfl
    case yp256x9 => (intro w hSw; (try dsimp only at hSw); go_simp; first | done | with_reducible rfl)
    simp only [Act.put, List.setIfInBounds_toArray, List.set_cons_zero, List.set_cons_succ]
    refine takeIn 10 (v := ?vp257x10) rfl (by kernel_rfl) (by kernel_rfl) (by kernel_rfl) (fun _ _ _ h => h) ?wp257x10 (by assumption) ?yp257x10 ?rp257x10
    case wp257x10 => rfl
    case yp257x10 => (intro w hSw; (try dsimp only at hSw); go_simp; first | done | with_reducible rfl)
    simp only [Act.put, List.setIfInBounds_toArray, List.set_cons_zero, List.set_cons_succ]
    refine takeIn 11 (v := ?vp258x11) rfl (by kernel_rfl) (by kernel_rfl) (by kernel_rfl) (fun _ _ _ h => h) ?wp258x11 (by assumption) ?yp258x11 ?rp258x11
    case wp258x11 => rfl
    case yp258x11 => (intro w hSw; (try dsimp only at hSw); go_simp; first | done | with_reducible rfl)
    simp only [Act.put, List.setIfInBounds_toArray, List.set_cons_zero, List.set_cons_succ]
    refine takeIn 12 (v := ?vp259x12) rfl (by kernel_rfl) (by kernel_rfl) (by kernel_rfl) (fun _ _ _ h => h) ?wp259x12 (by assumption) ?yp259x12 ?rp259x12
    case wp259x12 => rfl
    case yp259x12 => (intro w hSw; (try dsimp only at hSw); go_simp; first | done | with_reducible rfl)
    simp only [Act.put, List.setIfInBounds_toArray, List.set_cons_zero, List.set_cons_succ]
    refine takeIn 14 (v := ?vp260x14) rfl (by kernel_rfl) (by kernel_rfl) (by kernel_rfl) (fun _ _ _ h => h) ?wp260x14 (by assumption) ?yp260x14 ?rp260x14
    case wp260x14 => rfl
    case yp260x14 => (intro w hSw; (try dsimp only at hSw); go_simp; first | done | with_reducible rfl)
    simp only [Act.put, List.setIfInBounds_toArray, List.set_cons_zero, List.set_cons_succ]
    refine oneUp 13 rfl (by kernel_rfl) (by rfl) (fun K hK => ?_)
    go_simp
    refine (IT.out _).mono ?_
    rintro e WD ⟨rfl, hD⟩
    have hD2 : Below wv.heap.size wv WD := hC2.trans (hD.mono hC2.size)
    refine hK.out _ _ ?_ (fun hHeld => ?_)
    · (try dsimp only); exact HLV.out _ hD2
    clear hK K
    try simp only [Act.put, List.setIfInBounds_toArray, List.set_cons_zero, List.set_cons_succ]
    refine oneUp 15 rfl (by kernel_rfl) (by rfl) (fun K hK => ?_)
    go_simp
    refine (STr.out _).mono ?_
    rintro e WE ⟨rfl, hE⟩
    have hE2 : Below wv.heap.size wv WE := hD2.trans (hE.mono hD2.size)
    refine hK.out _ _ ?_ (fun hHeld => ?_)
    · (try dsimp only); exact HLV.out _ hE2
    clear hK K
    try simp only [Act.put, List.setIfInBounds_toArray, List.set_cons_zero, List.set_cons_succ]
    refine takeIn 16 (v := ?vp264x16) rfl (by kernel_rfl) (by kernel_rfl) (by kernel_rfl) (fun _ _ _ h => h) ?wp264x16 (by assumption) ?yp264x16 ?rp264x16
    case wp264x16 => rfl
    case yp264x16 => (intro w hSw; (try dsimp only at hSw); go_simp; first | done | with_reducible rfl)
    simp only [Act.put, List.setIfInBounds_toArray, List.set_cons_zero, List.set_cons_succ]
    refine takeIn 17 (v := ?vp265x17) rfl (by kernel_rfl) (by kernel_rfl) (by kernel_rfl) (fun _ _ _ h => h) ?wp265x17 (by assumption) ?yp265x17 ?rp265x17
    case wp265x17 => rfl
    case yp265x17 => (intro w hSw; (try dsimp only at hSw); go_simp; first | done | with_reducible rfl)
    simp only [Act.put, List.setIfInBounds_toArray, List.set_cons_zero, List.set_cons_succ]
    refine takeIn 18 (v := ?vp266x18) rfl (by kernel_rfl) (by kernel_rfl) (by kernel_rfl) (fun _ _ _ h => h) ?wp266x18 (by assumption) ?yp266x18 ?rp266x18
    case wp266x18 => rfl
    case yp266x18 => (intro w hSw; (try dsimp only at hSw); go_simp; first | done | with_reducible rfl)
    simp only [Act.put, List.setIfInBounds_toArray, List.set_cons_zero, List.set_cons_succ]
    refine takeIn 19 (v := ?vp267x19) rfl (by kernel_rfl) (by kernel_rfl) (by kernel_rfl) (fun _ _ _ h => h) ?wp267x19 (by assumption) ?yp267x19 ?rp267x19
    case wp267x19 => rfl
    case yp267x19 => (intro w hSw; (try dsimp only at hSw); go_simp; first | done | with_reducible rfl)
    simp only [Act.put, List.setIfInBounds_toArray, List.set_cons_zero, List.set_cons_succ]
    refine takeIn 21 (v := ?vp268x21) rfl (by kernel_rfl) (by kernel_rfl) (by kernel_rfl) (fun _ _ _ h => h) ?wp268x21 (by assumption) ?yp268x21 ?rp268x21
    case wp268x21 => rfl
    case yp268x21 => (intro w hSw; (try dsimp only at hSw); go_simp; first | done | with_reducible rfl)
    simp only [Act.put, List.setIfInBounds_toArray, List.set_cons_zero, List.set_cons_succ]
    refine oneUp 20 rfl (by kernel_rfl) (by rfl) (fun K hK => ?_)
    go_simp
    refine (IY.out _ (HPV.out _ hE2).2.2).mono ?_
    rintro e WF ⟨rfl, hF⟩
    have hF2 : Below wv.heap.size wv WF := hE2.trans (hF.mono hE2.size)
    refine hK.out _ _ ?_ (fun hHeld => ?_)
    · (try dsimp only); exact HLV.out _ hF2
    clear hK K
    try simp only [Act.put, List.setIfInBounds_toArray, List.set_cons_zero, List.set_cons_succ]
    refine oneUp 22 rfl (by kernel_rfl) (by rfl) (fun K hK => ?_)
    go_simp
    refine (SY.out _).mono ?_
    rintro e WG ⟨rfl, hG⟩
    have hG2 : Below wv.heap.size wv WG := hF2.trans (hG.mono hF2.size)
    refine hK.out _ _ ?_ (fun hHeld => ?_)
    · (try dsimp only); exact HLV.out _ hG2
    clear hK K
    try simp only [Act.put, List.setIfInBounds_toArray, List.set_cons_zero, List.set_cons_succ]
    refine takeIn 23 (v := ?vp272x23) rfl (by kernel_rfl) (by kernel_rfl) (by kernel_rfl) (fun _ _ _ h => h) ?wp272x23 (by assumption) ?yp272x23 ?rp272x23
    case wp272x23 => rfl
    case yp272x23 => (intro w hSw; (try dsimp only at hSw); go_simp; first | done | with_reducible rfl)
    simp only [Act.put, List.setIfInBounds_toArray, List.set_cons_zero, List.set_cons_succ]
    refine takeIn 24 (v := ?vp273x24) rfl (by kernel_rfl) (by kernel_rfl) (by kernel_rfl) (fun _ _ _ h => h) ?wp273x24 (by assumption) ?yp273x24 ?rp273x24
    case wp273x24 => rfl
    case yp273x24 => (intro w hSw; (try dsimp only at hSw); go_simp; first | done | with_reducible rfl)
    simp only [Act.put, List.setIfInBounds_toArray, List.set_cons_zero, List.set_cons_succ]
    refine wpAnyH_done (by kernel_rfl) ?_ _
    obtain ⟨z0, z1, z2⟩ := HLV.out WG hG2
    clear hHeld hA hB hC hD hE hF hG hA2 hB2 hC2 hD2 hE2 hF2
    cases rv
    · go_wp2_with fail
      refine (SR.out _).mono ?_
      rintro e wy ⟨rfl, hby⟩
      have HLY : Hid (∀ W, Below wy.heap.size wy W → _) := fun W hW => HLV.out W (hG2.trans ((hby.mono hG2.size).trans (hW.mono (Nat.le_trans hG2.size hby.size))))
      have HBY : Hid (Below w.heap.size w wy) := HB9.out.trans ((hG2.trans (hby.mono hG2.size)).mono HB9.out.size)
      clear z0 z1 z2
      obtain ⟨z0, z1, z2⟩ := HLY.out wy (Below.refl _ _)
      go_wp2_with fail
      refine wp_region_held_drew (S := fun w' => w'.cell? ⟨C, 0, none⟩ = some (.int .i64 vk) ∧ w'.cell? ⟨C, 1, none⟩ = some (.int .i64 vn) ∧ w'.cell? ⟨C, 2, none⟩ = some (.string vt)) (by kernel_rfl) (HLY.out _ (Below.refl wy.heap.size wy).drew) (fun hHeld => ?_)
      refine takeIn 0 (v := ?vp275x0) rfl (by kernel_rfl) (by kernel_rfl) (by kernel_rfl) (fun _ _ _ h => h) ?wp275x0 (by assumption) ?yp275x0 ?rp275x0
      case wp275x0 => rfl
      case yp275x0 => (intro w hSw; (try dsimp only at hSw); go_simp; first | done | with_reducible rfl)
      simp only [Act.put, List.setIfInBounds_toArray, List.set_cons_zero, List.set_cons_succ]
      refine takeIn 2 (v := ?vp276x2) rfl (by kernel_rfl) (by kernel_rfl) (by kernel_rfl) (fun _ _ _ h => h) ?wp276x2 (by assumption) ?yp276x2 ?rp276x2
      case wp276x2 => rfl
      case yp276x2 => (intro w hSw; (try dsimp only at hSw); go_simp; first | done | with_reducible rfl)
      simp only [Act.put, List.setIfInBounds_toArray, List.set_cons_zero, List.set_cons_succ]
      refine oneUp 1 rfl (by kernel_rfl) (by rfl) (fun K hK => ?_)
      go_simp
      refine (IR.out _).mono ?_
      rintro e WA ⟨rfl, hA⟩
      have hA2 : Below wy.heap.size wy WA := (Below.refl wy.heap.size wy).drew.trans hA
      refine hK.out _ _ ?_ (fun hHeld => ?_)
      · (try dsimp only); exact HLY.out _ hA2
      clear hK K
      try simp only [Act.put, List.setIfInBounds_toArray, List.set_cons_zero, List.set_cons_succ]
      refine oneUp 3 rfl (by kernel_rfl) (by rfl) (fun K hK => ?_)
      go_simp
      refine (SR.out _).mono ?_
      rintro e WB ⟨rfl, hB⟩
      have hB2 : Below wy.heap.size wy WB := hA2.trans (hB.mono hA2.size)
      refine hK.out _ _ ?_ (fun hHeld => ?_)
      · (try dsimp only); exact HLY.out _ hB2
      clear hK K
      try simp only [Act.put, List.setIfInBounds_toArray, List.set_cons_zero, List.set_cons_succ]
      refine takeIn 4 (v := ?vp280x4) rfl (by kernel_rfl) (by kernel_rfl) (by kernel_rfl) (fun _ _ _ h => h) ?wp280x4 (by assumption) ?yp280x4 ?rp280x4
      case wp280x4 => rfl
      case yp280x4 => (intro w hSw; (try dsimp only at hSw); go_simp; first | done | with_reducible rfl)
      simp only [Act.put, List.setIfInBounds_toArray, List.set_cons_zero, List.set_cons_succ]
      refine takeIn 5 (v := ?vp281x5) rfl (by kernel_rfl) (by kernel_rfl) (by kernel_rfl) (fun _ _ _ h => h) ?wp281x5 (by assumption) ?yp281x5 ?rp281x5
      case wp281x5 => rfl
      case yp281x5 => (intro w hSw; (try dsimp only at hSw); go_simp; first | done | with_reducible rfl)
      simp only [Act.put, List.setIfInBounds_toArray, List.set_cons_zero, List.set_cons_succ]
      refine wpAnyH_done (by kernel_rfl) ?_ _
      go_wp2_with fail
      go_ret
      exact ⟨vretB hrr, HBY.out.trans (hB2.mono HBY.out.size)⟩
    by_cases hk3 : vk = 3
    case neg =>
      have hk3a : (vk != 3) = true := by simp [hk3]
      go_wp2_with fail
      refine (SR.out _).mono ?_
      rintro e wy ⟨rfl, hby⟩
      have HLY : Hid (∀ W, Below wy.heap.size wy W → _) := fun W hW => HLV.out W (hG2.trans ((hby.mono hG2.size).trans (hW.mono (Nat.le_trans hG2.size hby.size))))
      have HBY : Hid (Below w.heap.size w wy) := HB9.out.trans ((hG2.trans (hby.mono hG2.size)).mono HB9.out.size)
      clear z0 z1 z2
      obtain ⟨z0, z1, z2⟩ := HLY.out wy (Below.refl _ _)
      go_wp2_with fail
      refine wp_region_held_drew (S := fun w' => w'.cell? ⟨C, 0, none⟩ = some (.int .i64 vk) ∧ w'.cell? ⟨C, 1, none⟩ = some (.int .i64 vn) ∧ w'.cell? ⟨C, 2, none⟩ = some (.string vt)) (by kernel_rfl) (HLY.out _ (Below.refl wy.heap.size wy).drew) (fun hHeld => ?_)
      refine takeIn 0 (v := ?vp283x0) rfl (by kernel_rfl) (by kernel_rfl) (by kernel_rfl) (fun _ _ _ h => h) ?wp283x0 (by assumption) ?yp283x0 ?rp283x0
      case wp283x0 => rfl
      case yp283x0 => (intro w hSw; (try dsimp only at hSw); go_simp; first | done | with_reducible rfl)
      simp only [Act.put, List.setIfInBounds_toArray, List.set_cons_zero, List.set_cons_succ]
      refine takeIn 2 (v := ?vp284x2) rfl (by kernel_rfl) (by kernel_rfl) (by kernel_rfl) (fun _ _ _ h => h) ?wp284x2 (by assumption) ?yp284x2 ?rp284x2
      case wp284x2 => rfl
      case yp284x2 => (intro w hSw; (try dsimp only at hSw); go_simp; first | done | with_reducible rfl)
      simp only [Act.put, List.setIfInBounds_toArray, List.set_cons_zero, List.set_cons_succ]
      refine oneUp 1 rfl (by kernel_rfl) (by rfl) (fun K hK => ?_)
      go_simp
      refine (IR.out _).mono ?_
      rintro e WA ⟨rfl, hA⟩
      have hA2 : Below wy.heap.size wy WA := (Below.refl wy.heap.size wy).drew.trans hA
      refine hK.out _ _ ?_ (fun hHeld => ?_)
      · (try dsimp only); exact HLY.out _ hA2
      clear hK K
      try simp only [Act.put, List.setIfInBounds_toArray, List.set_cons_zero, List.set_cons_succ]
      refine oneUp 3 rfl (by kernel_rfl) (by rfl) (fun K hK => ?_)
      go_simp
      refine (SR.out _).mono ?_
      rintro e WB ⟨rfl, hB⟩
      have hB2 : Below wy.heap.size wy WB := hA2.trans (hB.mono hA2.size)
      refine hK.out _ _ ?_ (fun hHeld => ?_)
      · (try dsimp only); exact HLY.out _ hB2
      clear hK K
      try simp only [Act.put, List.setIfInBounds_toArray, List.set_cons_zero, List.set_cons_succ]
      refine takeIn 4 (v := ?vp288x4) rfl (by kernel_rfl) (by kernel_rfl) (by kernel_rfl) (fun _ _ _ h => h) ?wp288x4 (by assumption) ?yp288x4 ?rp288x4
      case wp288x4 => rfl
      case yp288x4 => (intro w hSw; (try dsimp only at hSw); go_simp; first | done | with_reducible rfl)
      simp only [Act.put, List.setIfInBounds_toArray, List.set_cons_zero, List.set_cons_succ]
      refine takeIn 5 (v := ?vp289x5) rfl (by kernel_rfl) (by kernel_rfl) (by kernel_rfl) (fun _ _ _ h => h) ?wp289x5 (by assumption) ?yp289x5 ?rp289x5
      case wp289x5 => rfl
      case yp289x5 => (intro w hSw; (try dsimp only at hSw); go_simp; first | done | with_reducible rfl)
      simp only [Act.put, List.setIfInBounds_toArray, List.set_cons_zero, List.set_cons_succ]
      refine wpAnyH_done (by kernel_rfl) ?_ _
      go_wp2_with fail
      go_ret
      exact ⟨vretB hrr, HBY.out.trans (hB2.mono HBY.out.size)⟩
    have hk3a : (vk != 3) = false := by simp [hk3]
    have HK3 : Hid (vk = 3) := hk3
    clear hk3
    by_cases hup : 999999999999999 < vn
    · have hupd : decide (999999999999999 < vn) = true := decide_eq_true hup
      go_wp2_with fail
      refine (SR.out _).mono ?_
      rintro e wy ⟨rfl, hby⟩
      have HLY : Hid (∀ W, Below wy.heap.size wy W → _) := fun W hW => HLV.out W (hG2.trans ((hby.mono hG2.size).trans (hW.mono (Nat.le_trans hG2.size hby.size))))
      have HBY : Hid (Below w.heap.size w wy) := HB9.out.trans ((hG2.trans (hby.mono hG2.size)).mono HB9.out.size)
      clear z0 z1 z2
      obtain ⟨z0, z1, z2⟩ := HLY.out wy (Below.refl _ _)
      go_wp2_with fail
      refine wp_region_held_drew (S := fun w' => w'.cell? ⟨C, 0, none⟩ = some (.int .i64 vk) ∧ w'.cell? ⟨C, 1, none⟩ = some (.int .i64 vn) ∧ w'.cell? ⟨C, 2, none⟩ = some (.string vt)) (by kernel_rfl) (HLY.out _ (Below.refl wy.heap.size wy).drew) (fun hHeld => ?_)
      refine takeIn 0 (v := ?vp291x0) rfl (by kernel_rfl) (by kernel_rfl) (by kernel_rfl) (fun _ _ _ h => h) ?wp291x0 (by assumption) ?yp291x0 ?rp291x0
      case wp291x0 => rfl
      case yp291x0 => (intro w hSw; (try dsimp only at hSw); go_simp; first | done | with_reducible rfl)
      simp only [Act.put, List.setIfInBounds_toArray, List.set_cons_zero, List.set_cons_succ]
      refine takeIn 2 (v := ?vp292x2) rfl (by kernel_rfl) (by kernel_rfl) (by kernel_rfl) (fun _ _ _ h => h) ?wp292x2 (by assumption) ?yp292x2 ?rp292x2
      case wp292x2 => rfl
      case yp292x2 => (intro w hSw; (try dsimp only at hSw); go_simp; first | done | with_reducible rfl)
      simp only [Act.put, List.setIfInBounds_toArray, List.set_cons_zero, List.set_cons_succ]
      refine oneUp 1 rfl (by kernel_rfl) (by rfl) (fun K hK => ?_)
      go_simp
      refine (IR.out _).mono ?_
      rintro e WA ⟨rfl, hA⟩
      have hA2 : Below wy.heap.size wy WA := (Below.refl wy.heap.size wy).drew.trans hA
      refine hK.out _ _ ?_ (fun hHeld => ?_)
      · (try dsimp only); exact HLY.out _ hA2
      clear hK K
      try simp only [Act.put, List.setIfInBounds_toArray, List.set_cons_zero, List.set_cons_succ]
      refine oneUp 3 rfl (by kernel_rfl) (by rfl) (fun K hK => ?_)
      go_simp
      refine (SR.out _).mono ?_
      rintro e WB ⟨rfl, hB⟩
      have hB2 : Below wy.heap.size wy WB := hA2.trans (hB.mono hA2.size)
      refine hK.out _ _ ?_ (fun hHeld => ?_)
      · (try dsimp only); exact HLY.out _ hB2
      clear hK K
      try simp only [Act.put, List.setIfInBounds_toArray, List.set_cons_zero, List.set_cons_succ]
      refine takeIn 4 (v := ?vp296x4) rfl (by kernel_rfl) (by kernel_rfl) (by kernel_rfl) (fun _ _ _ h => h) ?wp296x4 (by assumption) ?yp296x4 ?rp296x4
      case wp296x4 => rfl
      case yp296x4 => (intro w hSw; (try dsimp only at hSw); go_simp; first | done | with_reducible rfl)
      simp only [Act.put, List.setIfInBounds_toArray, List.set_cons_zero, List.set_cons_succ]
      refine takeIn 5 (v := ?vp297x5) rfl (by kernel_rfl) (by kernel_rfl) (by kernel_rfl) (fun _ _ _ h => h) ?wp297x5 (by assumption) ?yp297x5 ?rp297x5
      case wp297x5 => rfl
      case yp297x5 => (intro w hSw; (try dsimp only at hSw); go_simp; first | done | with_reducible rfl)
      simp only [Act.put, List.setIfInBounds_toArray, List.set_cons_zero, List.set_cons_succ]
      refine wpAnyH_done (by kernel_rfl) ?_ _
      go_wp2_with fail
      go_ret
      exact ⟨vretB hrr, HBY.out.trans (hB2.mono HBY.out.size)⟩
    have hupd : decide (999999999999999 < vn) = false := decide_eq_false hup
    by_cases hlo : vn < -999999999999999
    · have hlod : decide (vn < -999999999999999) = true := decide_eq_true hlo
      go_wp2_with fail
      refine (SR.out _).mono ?_
      rintro e wy ⟨rfl, hby⟩
      have HLY : Hid (∀ W, Below wy.heap.size wy W → _) := fun W hW => HLV.out W (hG2.trans ((hby.mono hG2.size).trans (hW.mono (Nat.le_trans hG2.size hby.size))))
      have HBY : Hid (Below w.heap.size w wy) := HB9.out.trans ((hG2.trans (hby.mono hG2.size)).mono HB9.out.size)
      clear z0 z1 z2
      obtain ⟨z0, z1, z2⟩ := HLY.out wy (Below.refl _ _)
      go_wp2_with fail
      refine wp_region_held_drew (S := fun w' => w'.cell? ⟨C, 0, none⟩ = some (.int .i64 vk) ∧ w'.cell? ⟨C, 1, none⟩ = some (.int .i64 vn) ∧ w'.cell? ⟨C, 2, none⟩ = some (.string vt)) (by kernel_rfl) (HLY.out _ (Below.refl wy.heap.size wy).drew) (fun hHeld => ?_)
      refine takeIn 0 (v := ?vp299x0) rfl (by kernel_rfl) (by kernel_rfl) (by kernel_rfl) (fun _ _ _ h => h) ?wp299x0 (by assumption) ?yp299x0 ?rp299x0
      case wp299x0 => rfl
      case yp299x0 => (intro w hSw; (try dsimp only at hSw); go_simp; first | done | with_reducible rfl)
      simp only [Act.put, List.setIfInBounds_toArray, List.set_cons_zero, List.set_cons_succ]
      refine takeIn 2 (v := ?vp300x2) rfl (by kernel_rfl) (by kernel_rfl) (by kernel_rfl) (fun _ _ _ h => h) ?wp300x2 (by assumption) ?yp300x2 ?rp300x2
      case wp300x2 => rfl
      case yp300x2 => (intro w hSw; (try dsimp only at hSw); go_simp; first | done | with_reducible rfl)
      simp only [Act.put, List.setIfInBounds_toArray, List.set_cons_zero, List.set_cons_succ]
      refine oneUp 1 rfl (by kernel_rfl) (by rfl) (fun K hK => ?_)
      go_simp
      refine (IR.out _).mono ?_
      rintro e WA ⟨rfl, hA⟩
      have hA2 : Below wy.heap.size wy WA := (Below.refl wy.heap.size wy).drew.trans hA
      refine hK.out _ _ ?_ (fun hHeld => ?_)
      · (try dsimp only); exact HLY.out _ hA2
      clear hK K
      try simp only [Act.put, List.setIfInBounds_toArray, List.set_cons_zero, List.set_cons_succ]
      refine oneUp 3 rfl (by kernel_rfl) (by rfl) (fun K hK => ?_)
      go_simp
      refine (SR.out _).mono ?_
      rintro e WB ⟨rfl, hB⟩
      have hB2 : Below wy.heap.size wy WB := hA2.trans (hB.mono hA2.size)
      refine hK.out _ _ ?_ (fun hHeld => ?_)
      · (try dsimp only); exact HLY.out _ hB2
      clear hK K
      try simp only [Act.put, List.setIfInBounds_toArray, List.set_cons_zero, List.set_cons_succ]
      refine takeIn 4 (v := ?vp304x4) rfl (by kernel_rfl) (by kernel_rfl) (by kernel_rfl) (fun _ _ _ h => h) ?wp304x4 (by assumption) ?yp304x4 ?rp304x4
      case wp304x4 => rfl
      case yp304x4 => (intro w hSw; (try dsimp only at hSw); go_simp; first | done | with_reducible rfl)
      simp only [Act.put, List.setIfInBounds_toArray, List.set_cons_zero, List.set_cons_succ]
      refine takeIn 5 (v := ?vp305x5) rfl (by kernel_rfl) (by kernel_rfl) (by kernel_rfl) (fun _ _ _ h => h) ?wp305x5 (by assumption) ?yp305x5 ?rp305x5
      case wp305x5 => rfl
      case yp305x5 => (intro w hSw; (try dsimp only at hSw); go_simp; first | done | with_reducible rfl)
      simp only [Act.put, List.setIfInBounds_toArray, List.set_cons_zero, List.set_cons_succ]
      refine wpAnyH_done (by kernel_rfl) ?_ _
      go_wp2_with fail
      go_ret
      exact ⟨vretB hrr, HBY.out.trans (hB2.mono HBY.out.size)⟩
    have hlod : decide (vn < -999999999999999) = false := decide_eq_false hlo
    have hbk := HBK.out rfl HK3.out (by omega) (by omega)
    injection hbk with e1 e2 e3
    rw [e1, e2, e3] at IB
    clear e1 e2 e3
    go_wp2_with fail
    refine (SR.out _).mono ?_
    rintro e wy ⟨rfl, hby⟩
    have HLY : Hid (∀ W, Below wy.heap.size wy W → _) := fun W hW => HLV.out W (hG2.trans ((hby.mono hG2.size).trans (hW.mono (Nat.le_trans hG2.size hby.size))))
    have HBY : Hid (Below w.heap.size w wy) := HB9.out.trans ((hG2.trans (hby.mono hG2.size)).mono HB9.out.size)
    have HEY : Hid (ErrIn wy.drew) := HP.out.2.1.keep HBY.out.drew
    clear z0 z1 z2
    obtain ⟨z0, z1, z2⟩ := HLY.out wy (Below.refl _ _)
    go_wp2_with fail
    refine wp_region_held_drew (S := fun w' => w'.cell? ⟨C, 0, none⟩ = some (.int .i64 vk) ∧ w'.cell? ⟨C, 1, none⟩ = some (.int .i64 vn) ∧ w'.cell? ⟨C, 2, none⟩ = some (.string vt)) (by kernel_rfl) (HLY.out _ (Below.refl wy.heap.size wy).drew) (fun hHeld => ?_)
    refine takeIn 0 (v := ?vp307x0) rfl (by kernel_rfl) (by kernel_rfl) (by kernel_rfl) (fun _ _ _ h => h) ?wp307x0 (by assumption) ?yp307x0 ?rp307x0
    case wp307x0 => rfl
    case yp307x0 => (intro w hSw; (try dsimp only at hSw); go_simp; first | done | with_reducible rfl)
    simp only [Act.put, List.setIfInBounds_toArray, List.set_cons_zero, List.set_cons_succ]
    refine takeIn 1 (v := ?vp308x1) rfl (by kernel_rfl) (by kernel_rfl) (by kernel_rfl) (fun _ _ _ h => h) ?wp308x1 (by assumption) ?yp308x1 ?rp308x1
    case wp308x1 => rfl
    case yp308x1 => (intro w hSw; (try dsimp only at hSw); go_simp; first | done | with_reducible rfl)
    simp only [Act.put, List.setIfInBounds_toArray, List.set_cons_zero, List.set_cons_succ]
    refine takeIn 3 (v := ?vp309x3) rfl (by kernel_rfl) (by kernel_rfl) (by kernel_rfl) (fun _ _ _ h => h) ?wp309x3 (by assumption) ?yp309x3 ?rp309x3
    case wp309x3 => rfl
    case yp309x3 => (intro w hSw; (try dsimp only at hSw); go_simp; first | done | with_reducible rfl)
    simp only [Act.put, List.setIfInBounds_toArray, List.set_cons_zero, List.set_cons_succ]
    refine oneUp 2 rfl (by kernel_rfl) (by rfl) (fun K hK => ?_)
    go_simp
    refine (IB.out _ HEY.out).mono ?_
    rintro e WA ⟨rfl, hA⟩
    have hA2 : Below wy.heap.size wy WA := (Below.refl wy.heap.size wy).drew.trans hA
    refine hK.out _ _ ?_ (fun hHeld => ?_)
    · (try dsimp only); exact HLY.out _ hA2
    clear hK K
    try simp only [Act.put, List.setIfInBounds_toArray, List.set_cons_zero, List.set_cons_succ]
    refine takeIn 4 (v := ?vp312x4) rfl (by kernel_rfl) (by kernel_rfl) (by kernel_rfl) (fun _ _ _ h => h) ?wp312x4 (by assumption) ?yp312x4 ?rp312x4
    case wp312x4 => rfl
    case yp312x4 => (intro w hSw; (try dsimp only at hSw); go_simp; first | done | with_reducible rfl)
    simp only [Act.put, List.setIfInBounds_toArray, List.set_cons_zero, List.set_cons_succ]
    refine takeIn 5 (v := ?vp313x5) rfl (by kernel_rfl) (by kernel_rfl) (by kernel_rfl) (fun _ _ _ h => h) ?wp313x5 (by assumption) ?yp313x5 ?rp313x5
    case wp313x5 => rfl
    case yp313x5 => (intro w hSw; (try dsimp only at hSw); go_simp; first | done | with_reducible rfl)
    simp only [Act.put, List.setIfInBounds_toArray, List.set_cons_zero, List.set_cons_succ]
    refine wpAnyH_done (by kernel_rfl) ?_ _
    go_wp2_with fail
    go_ret
    exact ⟨rfl, HBY.out.trans (hA2.mono HBY.out.size)⟩

end Go.Proofs.YtjgekikcmkicmaaGreatDoor

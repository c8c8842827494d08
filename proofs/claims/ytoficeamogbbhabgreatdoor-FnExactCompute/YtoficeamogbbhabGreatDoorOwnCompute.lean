/- For every text and every two values that can be handed in, with the library's tables and the handle of the type error laid as the program's own text lays them, the law FnExactCompute returns true: impl.Compute answers as its model spec.Compute, and writes into no argument; the value and the table read behind the call as they did. No condition besides. -/
import Derived.Test.YtoficeamogbbhabGreatDoorCards
import Derived.Test.YtoficeamogbbhabGreatDoorTie
import Derived.Test.YtoficeamogbbhabGreatDoorValCompJ
import Derived.Test.YtoficeamogbbhabGreatDoorValEq
import Derived.Test.YtoficeamogbbhabGreatDoorValTwoLaw
import Derived.Deep.RegionHeld3
import Derived.Deep.CutRange
import Derived.BigQuiet
import Derived.BigRegion
import Derived.Deep.RegionWith
import Derived.Deep.QuietTactic
import Derived.LaidHandle
import Derived.LaidSub
import Derived.Test.YtoficeamogbbhabGreatDoorValLaw
import Derived.WalkKit
import Derived.ProofKit
import Derived.OpenShut
import Derived.ShutString
import Derived.ChangeOld
import Derived.Below
import Derived.OpenVars
import Derived.Deep.DeepHandedRow
import Derived.Lib.LaidTab
namespace Go.Proofs.YtoficeamogbbhabGreatDoor
open Go.ChangeShapes Go.WideShapes Go.ChangeAt Go.RowKit
open Go.ChangeMaps (open_string shut_string)

theorem compute_readable : Tryz.prog.readableRec 33 = true := by kernel_rfl
theorem compute_row : 33 < Tryz.prog.types.size := of_decide_eq_true (by kernel_rfl)
def zeroA : Value := .agg #[.int .i64 0, .int .i64 0, .string ByteArray.empty]

set_option maxHeartbeats 8000000 in
theorem compute_walk (op : ByteArray) (a b : Val.VV) (w : World) (hop : op.size ≤ 9223372036854775807) (ha : a.text.size ≤ 9223372036854775807) (hb : b.text.size ≤ 9223372036854775807) (hp : PowIn w) (he : ErrIn w) : Calls Tryz.prog 6 #[.string op, .agg (vC a), .agg (vC b)] w fun e w' => e = .returned (.bool true) ∧ Below w.heap.size w w' := by
  have HP : Hid (PowIn w ∧ ErrIn w) := ⟨hp, he⟩
  clear hp he
  have Z : Hid _ := fun (W : World) => lSzValue a 1048576 W (by omega) ha
  have Z2 : Hid _ := fun (W : World) (m : Nat) (hm : m ≤ 1048576) => lSzValue b m W hm hb
  have T : Hid _ := fun (W : World) => lToValue a W
  have T2 : Hid _ := fun (W : World) => lToValue b W
  have S : Hid _ := fun (W : World) => sCompute op a b W hop
  have I : Hid _ := fun (W : World) (hp : PowIn W) (he : ErrIn W) => iCompute op a b W hop hp he
  have HB : Hid (∀ o o2, Below w.heap.size w ((w.alloc o).alloc o2)) := fun o o2 => ((Below.refl _ _).alloc (Nat.le_refl _) o).alloc (by simp) o2
  have HL : Hid _ := lies2_two w a b
  obtain ⟨⟨rk, rn, rt⟩, hR⟩ : ∃ R, Val.computeOf op a b = R := ⟨_, rfl⟩
  rw [hR] at S I
  clear hR
  have E : Hid _ := fun (W : World) => lEqValue ⟨rk, rn, rt⟩ W
  obtain ⟨k, n, t⟩ := a
  obtain ⟨k2, n2, t2⟩ := b
  unfold vC at *
  dsimp only at *
  clear ha hb
  go_enter Tryz.func6, Tryz.ntmps6
  by_cases hlen : 1048576 < op.size
  · have hlen' : (1048576 : Int) < (op.size : Int) := by omega
    go_wp2_with fail
    go_ret
    exact ⟨rfl, HB.out _ _⟩
  have hlen' : ¬ (1048576 : Int) < (op.size : Int) := by omega
  clear hlen hop
  go_wp2_with fail
  refine (Z.out _).mono ?_
  rintro e w1 ⟨rfl, hb1⟩
  have hbw : Below w.heap.size w w1 := (HB.out _ _).trans (hb1.mono (HB.out _ _).size)
  have L1 := HL.out.1.keep hb1
  have L2 := HL.out.2.keep hb1
  clear hb1
  by_cases hs : t.size ≤ 1048576
  case neg =>
    rw [if_neg hs]
    go_wp2_with fail
    go_ret
    exact ⟨rfl, hbw⟩
  rw [if_pos hs]
  obtain ⟨M, hM⟩ : ∃ M, (1048576 - t.size : Nat) = M := ⟨_, rfl⟩
  have hM1 : M ≤ 1048576 := by omega
  rw [hM]
  clear hM hs
  have hM0 : ¬ (M : Int) < 0 := by omega
  obtain ⟨⟨s0, s1, s2⟩, g0, g1, g2⟩ := L2.three
  dsimp only at s0 s1 s2
  have hltB := L2.lt
  go_wp2_with fail
  refine (Z2.out _ M hM1).mono ?_
  rintro e w2 ⟨rfl, hb2⟩
  replace L1 := L1.keep hb2
  replace L2 := L2.keep hb2
  replace hbw := hbw.trans (hb2.mono hbw.size)
  clear hb2 s0 s1 s2 g0 g1 g2 hltB
  by_cases hs : t2.size ≤ M
  case neg =>
    rw [if_neg hs]
    go_wp2_with fail
    go_ret
    exact ⟨rfl, hbw⟩
  rw [if_pos hs]
  obtain ⟨M2, hM2⟩ : ∃ M2, (M - t2.size : Nat) = M2 := ⟨_, rfl⟩
  rw [hM2]
  clear hM2 hs hM0 hM1
  have hM0 : ¬ (M2 : Int) < 0 := by omega
  obtain ⟨⟨r0, r1, r2⟩, f0, f1, f2⟩ := L1.three
  obtain ⟨⟨s0, s1, s2⟩, g0, g1, g2⟩ := L2.three
  dsimp only at r0 r1 r2 s0 s1 s2
  have hltA := L1.lt
  have hltB := L2.lt
  have hnA := Nat.ne_of_lt hltA
  have hnB := Nat.ne_of_lt hltB
  go_wp2_with fail
  go_cut [8] from 10 to 39 (fun v wx => ∃ r : Nat, v = .pointer (some ⟨r, 0, none⟩) ∧ Lies wx r ⟨rk, rn, rt⟩ ∧ Below w2.heap.size w2 wx)
  case first =>
    go_region_held3 (fun w' => w'.cell? ⟨w.heap.size, 0, none⟩ = some (.int .i64 k) ∧ w'.cell? ⟨w.heap.size, 1, none⟩ = some (.int .i64 n) ∧ w'.cell? ⟨w.heap.size, 2, none⟩ = some (.string t) ∧ w'.cell? ⟨w.heap.size + 1, 0, none⟩ = some (.int .i64 k2) ∧ w'.cell? ⟨w.heap.size + 1, 1, none⟩ = some (.int .i64 n2) ∧ w'.cell? ⟨w.heap.size + 1, 2, none⟩ = some (.string t2)) (first | go_keep | (refine six_put ?_ ?_ ⟨e0, e1, e2, i0, i1, i2⟩ <;> omega))
      (first
        | (go_at_call_of 14 k; refine (T.out _).mono ?_; rintro e WA ⟨rfl, hA⟩; have hA2 : Below w2.heap.size w2 WA := (by first | exact (Below.refl w2.heap.size w2).drew.trans hA | exact below_grew hA); obtain ⟨⟨a0, a1, a2⟩, -⟩ := (L1.keep hA2).three; obtain ⟨⟨b0, b1, b2⟩, -⟩ := (L2.keep hA2).three; have la := (L1.keep hA2).lt; have lb := (L2.keep hA2).lt; have na := Nat.ne_of_lt la; have sA := hA2.size; have nb := Nat.ne_of_lt lb; dsimp only at a0 a1 a2 b0 b1 b2; first | (have zA : Lies WA w2.heap.size Val.zeroV := lies_grew hA; obtain ⟨⟨z0, z1, z2⟩, h0, h1, h2⟩ := zA.three; have lz := zA.lt; dsimp only [Val.zeroV, Val.e0] at z0 z1 z2) | skip)
        | (go_at_call_of 14 k2; refine (T2.out _).mono ?_; rintro e WB ⟨rfl, hB⟩; have hB2 : Below w2.heap.size w2 WB := (by first | exact hA2.trans (hB.mono hA2.size) | exact below_then hA2 hB); obtain ⟨⟨c0, c1, c2⟩, -⟩ := (L1.keep hB2).three; obtain ⟨⟨d0, d1, d2⟩, -⟩ := (L2.keep hB2).three; have lc := (L1.keep hB2).lt; have ld := (L2.keep hB2).lt; have nc := Nat.ne_of_lt lc; have sB := hB2.size; have nd := Nat.ne_of_lt ld; dsimp only at c0 c1 c2 d0 d1 d2; first | (have zB := zA.keep hB; obtain ⟨⟨y0, y1, y2⟩, g0, g1, g2⟩ := zB.three; have ly := zB.lt; dsimp only [Val.zeroV, Val.e0] at y0 y1 y2) | (have zB : Lies WB WA.heap.size Val.zeroV := lies_then hB; obtain ⟨⟨y0, y1, y2⟩, g0, g1, g2⟩ := zB.three; have ly := zB.lt; dsimp only [Val.zeroV, Val.e0] at y0 y1 y2) | skip)
        | (go_at_call 19; refine (S.out _).mono ?_; rintro e WC ⟨rfl, hC⟩; have hC2 : Below w2.heap.size w2 WC := (by first | exact hB2.trans (hC.mono hB2.size) | exact below_then hB2 hC); obtain ⟨⟨e0, e1, e2⟩, -⟩ := (L1.keep hC2).three; obtain ⟨⟨i0, i1, i2⟩, -⟩ := (L2.keep hC2).three; have le' := (L1.keep hC2).lt; have li := (L2.keep hC2).lt; dsimp only at e0 e1 e2 i0 i1 i2; first | (have zC := zB.keep hC; obtain ⟨⟨x0, x1, x2⟩, j0, j1, j2⟩ := zC.three; have lx := zC.lt; dsimp only [Val.zeroV, Val.e0] at x0 x1 x2) | (have zC : Lies WC WB.heap.size Val.zeroV := lies_then hC; obtain ⟨⟨x0, x1, x2⟩, j0, j1, j2⟩ := zC.three; have lx := zC.lt; dsimp only [Val.zeroV, Val.e0] at x0 x1 x2) | skip))
    all_goals
      go_wp2_with fail
      go_meet
      first
        | exact ⟨_, rfl, lies_new WC ⟨rk, rn, rt⟩, hC2.alloc hC2.size _⟩
        | (refine ⟨_, rfl, zC.put ⟨rk, rn, rt⟩, put3_below hC2 _ ⟨rk, rn, rt⟩ ?_⟩; omega)
  case rest =>
  obtain ⟨r, rfl, lW, hb3⟩ := hcut
  replace L1 := L1.keep hb3
  replace L2 := L2.keep hb3
  replace hbw := hbw.trans (hb3.mono hbw.size)
  clear hb3 r0 r1 r2 s0 s1 s2 f0 f1 f2 g0 g1 g2 hltA hltB hnA hnB
  obtain ⟨⟨r0, r1, r2⟩, f0, f1, f2⟩ := L1.three
  obtain ⟨⟨s0, s1, s2⟩, g0, g1, g2⟩ := L2.three
  dsimp only at r0 r1 r2 s0 s1 s2
  have hltA := L1.lt
  have hltB := L2.lt
  generalize hW3 : wc = w3 at *
  clear hW3
  have hnA := Nat.ne_of_lt hltA
  have hnB := Nat.ne_of_lt hltB
  go_wp2_with fail
  go_cut [9] from 10 to 39 (fun v wx => ∃ r : Nat, v = .pointer (some ⟨r, 0, none⟩) ∧ Lies wx r ⟨rk, rn, rt⟩ ∧ Below w3.heap.size w3 wx)
  case first =>
    go_region_held3 (fun w' => w'.cell? ⟨w.heap.size, 0, none⟩ = some (.int .i64 k) ∧ w'.cell? ⟨w.heap.size, 1, none⟩ = some (.int .i64 n) ∧ w'.cell? ⟨w.heap.size, 2, none⟩ = some (.string t) ∧ w'.cell? ⟨w.heap.size + 1, 0, none⟩ = some (.int .i64 k2) ∧ w'.cell? ⟨w.heap.size + 1, 1, none⟩ = some (.int .i64 n2) ∧ w'.cell? ⟨w.heap.size + 1, 2, none⟩ = some (.string t2)) (first | go_keep | (refine six_put ?_ ?_ ⟨e0, e1, e2, i0, i1, i2⟩ <;> omega))
      (first
        | (go_at_call_of 14 k; refine (T.out _).mono ?_; rintro e WA ⟨rfl, hA⟩; have hA2 : Below w3.heap.size w3 WA := (by first | exact (Below.refl w3.heap.size w3).drew.trans hA | exact below_grew hA); obtain ⟨⟨a0, a1, a2⟩, -⟩ := (L1.keep hA2).three; obtain ⟨⟨b0, b1, b2⟩, -⟩ := (L2.keep hA2).three; have la := (L1.keep hA2).lt; have lb := (L2.keep hA2).lt; have na := Nat.ne_of_lt la; have sA := hA2.size; have nb := Nat.ne_of_lt lb; dsimp only at a0 a1 a2 b0 b1 b2; first | (have zA : Lies WA w3.heap.size Val.zeroV := lies_grew hA; obtain ⟨⟨z0, z1, z2⟩, h0, h1, h2⟩ := zA.three; have lz := zA.lt; dsimp only [Val.zeroV, Val.e0] at z0 z1 z2) | skip)
        | (go_at_call_of 14 k2; refine (T2.out _).mono ?_; rintro e WB ⟨rfl, hB⟩; have hB2 : Below w3.heap.size w3 WB := (by first | exact hA2.trans (hB.mono hA2.size) | exact below_then hA2 hB); obtain ⟨⟨c0, c1, c2⟩, -⟩ := (L1.keep hB2).three; obtain ⟨⟨d0, d1, d2⟩, -⟩ := (L2.keep hB2).three; have lc := (L1.keep hB2).lt; have ld := (L2.keep hB2).lt; have nc := Nat.ne_of_lt lc; have sB := hB2.size; have nd := Nat.ne_of_lt ld; dsimp only at c0 c1 c2 d0 d1 d2; first | (have zB := zA.keep hB; obtain ⟨⟨y0, y1, y2⟩, g0, g1, g2⟩ := zB.three; have ly := zB.lt; dsimp only [Val.zeroV, Val.e0] at y0 y1 y2) | (have zB : Lies WB WA.heap.size Val.zeroV := lies_then hB; obtain ⟨⟨y0, y1, y2⟩, g0, g1, g2⟩ := zB.three; have ly := zB.lt; dsimp only [Val.zeroV, Val.e0] at y0 y1 y2) | skip)
        | (go_at_call 20; refine (I.out _ (by first | exact HP.out.1.keep (hbw.trans (hB2.mono hbw.size)) | exact HP.out.1.keep (below_up (hbw.trans (hB2.mono hbw.size)))) (by first | exact HP.out.2.keep (hbw.trans (hB2.mono hbw.size)) | exact HP.out.2.keep (below_up (hbw.trans (hB2.mono hbw.size))))).mono ?_; rintro e WC ⟨rfl, hC⟩; have hC2 : Below w3.heap.size w3 WC := (by first | exact hB2.trans (hC.mono hB2.size) | exact below_then hB2 hC); obtain ⟨⟨e0, e1, e2⟩, -⟩ := (L1.keep hC2).three; obtain ⟨⟨i0, i1, i2⟩, -⟩ := (L2.keep hC2).three; have le' := (L1.keep hC2).lt; have li := (L2.keep hC2).lt; dsimp only at e0 e1 e2 i0 i1 i2; first | (have zC := zB.keep hC; obtain ⟨⟨x0, x1, x2⟩, j0, j1, j2⟩ := zC.three; have lx := zC.lt; dsimp only [Val.zeroV, Val.e0] at x0 x1 x2) | (have zC : Lies WC WB.heap.size Val.zeroV := lies_then hC; obtain ⟨⟨x0, x1, x2⟩, j0, j1, j2⟩ := zC.three; have lx := zC.lt; dsimp only [Val.zeroV, Val.e0] at x0 x1 x2) | skip))
    all_goals
      go_wp2_with fail
      go_meet
      first
        | exact ⟨_, rfl, lies_new WC ⟨rk, rn, rt⟩, hC2.alloc hC2.size _⟩
        | (refine ⟨_, rfl, zC.put ⟨rk, rn, rt⟩, put3_below hC2 _ ⟨rk, rn, rt⟩ ?_⟩; omega)
  case rest =>
  obtain ⟨q, rfl, lG, hb4⟩ := hcut
  replace lW := lW.keep hb4
  have hbf := hbw.trans (hb4.mono hbw.size)
  clear hb4 r0 r1 r2 s0 s1 s2 f0 f1 f2 g0 g1 g2 hltA hltB L1 L2
  obtain ⟨⟨r0, r1, r2⟩, f0, f1, f2⟩ := lW.three
  obtain ⟨⟨s0, s1, s2⟩, g0, g1, g2⟩ := lG.three
  have hltW := lW.lt
  have hltG := lG.lt
  dsimp only at r0 r1 r2 s0 s1 s2
  go_wp2_with fail
  refine (E.out _).mono ?_
  rintro e w6 ⟨rfl, hb6⟩
  have hbg := hbf.trans (hb6.mono hbf.size)
  go_wp2_with fail
  go_ret
  exact ⟨rfl, hbg⟩

theorem compute_own : ownKnob Tryz.prog.godebug = none := by kernel_rfl
theorem compute_laidOut : laidOutB Tryz.prog = true := by kernel_rfl
theorem compute_gType : (Tryz.prog.globals[3]?).map (·.type) = some 206 := by kernel_rfl
theorem compute_c1 : Tryz.prog.cellsOf 187 = 1 := by kernel_rfl
theorem compute_c20 : Tryz.prog.cellsOf 206 = 20 := by kernel_rfl
theorem pow_datum {H : Type} : (Rows.laid_internal_strconv_uint64pow10 : DataW H) = Lib.tabData .u64 Lib.pow10Tab := rfl

/-- What the row's list gives: the table lies in its variable. -/
theorem pow_in {W : World} (h : laidMetH Tryz.prog Rows.fnExactComputeRow.laid W) : PowIn W := by
  have h' : laidMet Tryz.prog [("math/bits.deBruijn32tab", Rows.laid_math_bits_deBruijn32tab), ("math/bits.deBruijn64tab", Rows.laid_math_bits_deBruijn64tab), ("internal/strconv.uint64pow10", Rows.laid_internal_strconv_uint64pow10), ("unicode/utf8.acceptRanges", Rows.laid_unicode_utf8_acceptRanges), ("unicode/utf8.first", Rows.laid_unicode_utf8_first)] W := (laidMetH_iff.1 h).1
  obtain ⟨ps, ⟨_, _, _, _, _, _, _, _, _, _, ⟨_, _, _, _, _, _, _, _, _, _, ⟨g, t, cs, fuel, p, q, hg, ht, hv, hd, _, _⟩, _⟩, _⟩, _⟩ := h'
  obtain rfl := Option.some.inj (Tryz.gPow.symm.trans hg)
  obtain rfl := Option.some.inj (compute_gType.symm.trans ht)
  rw [pow_datum] at hd
  unfold PowIn Lib.TabIs
  rw [hv, ← Lib.cells_of_tab Tryz.underlying206 Tryz.underlying187 compute_c1 compute_c20 hd]

theorem compute_et : Tryz.prog.globalNamed "errors.errorType" = some 0 := by kernel_rfl
theorem compute_rt : (Tryz.prog.cutTypes.find? (·.1 == "internal/reflectlite.rtype")).map (·.2) = some 147 := by kernel_rfl
theorem compute_oneRow : ((List.range 258).filter fun t => Tryz.prog.rowNamed t [101, 114, 114, 111, 114]) = [67] := by kernel_rfl
theorem compute_size : Tryz.prog.types.size = 258 := by kernel_rfl
theorem compute_handle : typeHandle Tryz.prog 67 = .pointer (some ⟨8, 67, none⟩) := by kernel_rfl

/-- What the row's list gives: the handle of the type error lies in its variable. -/
theorem err_in {W : World} (h : laidMetH Tryz.prog Rows.fnExactComputeRow.laid W) : ErrIn W := by
  have h2 := (laidMetH_iff.1 h).2
  obtain ⟨name, u, ty, e1, e2, e3, e4, e5⟩ := h2 ("errors.errorType", Rows.laid_errors_errorType) (List.mem_filter.2 ⟨by simp [Rows.fnExactComputeRow], by rfl⟩)
  have en : name = [101, 114, 114, 111, 114] := (Option.some.inj e1).symm
  subst en
  obtain rfl := Option.some.inj (compute_rt.symm.trans e2)
  have hm : ty ∈ (List.range 258).filter fun t => Tryz.prog.rowNamed t [101, 114, 114, 111, 114] := List.mem_filter.2 ⟨List.mem_range.2 (by rw [← compute_size]; exact e3), e4⟩
  rw [compute_oneRow] at hm
  obtain rfl := List.mem_singleton.1 hm
  rw [compute_handle] at e5
  unfold ErrIn
  simpa using World.var?_cell compute_et e5 0

set_option maxRecDepth 100000 in
theorem compute_contract (H : Type) (enc : TypeId × Value → H) (W : World) (base : Nat) (args : Array Value) (ds gs : List (DataW H)) (before : List MemPlace)
    (hval : ∀ (j : Nat) t v, Tryz.f6.params[j]? = some t → args[j]? = some v → Value.okWide Tryz.prog W .any base t v)
    (hW : DataW.Whole enc Tryz.prog Tryz.f6.params.toList Rows.fnExactComputeSpec.vars false W args.toList ds gs before) (hL : laidMetH Tryz.prog Rows.fnExactComputeRow.laid W) :
    Calls Tryz.prog 6 args W fun e W' => ∃ v, e = .returned v ∧ Rows.fnExactComputeSpec.post enc Tryz.prog Tryz.f6 false true false false W args v W' := by
  have hW' := hW
  obtain ⟨p, q, hA0, hV, rfl, hfz, hnd⟩ := hW
  have hA : DataW.TrodAll enc Tryz.prog W 0 (fun _ => true) true Tryz.f6.params.toList args.toList ds p := hA0
  rw [Tryz.params6] at hA hval
  obtain ⟨v0, vs0, d0, ds0, p0, q0, hargs, rfl, rfl, h0, r0⟩ := trodAll_cons hA
  obtain ⟨v1, vs1, d1, ds1, p1, q1, rfl, rfl, rfl, h1, r1⟩ := trodAll_cons r0
  obtain ⟨v2, vs2, d2, ds2, p2, q2, rfl, rfl, rfl, h2, r2⟩ := trodAll_cons r1
  obtain ⟨rfl, rfl, rfl⟩ := trodAll_nil r2
  obtain rfl : args = #[v0, v1, v2] := by cases args; simp_all
  have hlt := hA0.lt
  obtain ⟨a0, rfl, rfl, rfl, w0⟩ := open_string Tryz.underlying9 (hval 0 9 v0 rfl rfl) h0
  obtain ⟨x, rfl, kx⟩ := open_value (hval 1 33 v1 rfl rfl) h1
  obtain ⟨y, rfl, ky⟩ := open_value (hval 2 33 v2 rfl rfl) h2
  obtain ⟨rfl, rfl⟩ := trodVars_none hV
  clear hA0
  refine (compute_walk a0 x y W (by unfold maxLen at w0; omega) kx ky (pow_in hL) (err_in hL)).mono fun e W' ⟨he, bel⟩ => ?_
  subst he
  exact ⟨_, rfl, _, _, _, [], ([] : List MemPlace) ++ (p1 ++ (p2 ++ [])), [], hW', trodAll_mk1 (shut_bool Tryz.underlying4 _), (trodAll_cons_mk (shut_string Tryz.underlying9 w0) (trodAll_cons_mk (Below.trod compute_laidOut compute_readable compute_row h1 bel (fun x hx => hlt x (by simp [hx]))) (trodAll_cons_mk (Below.trod compute_laidOut compute_readable compute_row h2 bel (fun x hx => hlt x (by simp [hx]))) trodAll_mk0))), rfl, bel.frame _, fun h => by cases h⟩

/-- The cells of a table that is told as plain data. -/
def tabV : DataW Unit → Array Value
  | .agg l => (l.map fun | .lit (.int k z) => Value.int k z | .lit (.string s) => Value.string ⟨s.toArray⟩ | _ => Value.bool false).toArray
  | _ => #[]
/-- The cells of a table of rows of two. -/
def tabW : DataW Unit → Array Value
  | .agg l => (l.flatMap fun x => (tabV x).toList).toArray
  | _ => #[]
def layAt (g : Nat) (cs : Array Value) (w : World) : World :=
  { w with heap := w.heap.modify g fun
      | .cells _ t frozen => .cells cs t frozen
      | o => o }
/-- A world for the witness: the settled one, the tables and the handle holding what their initialisers lay. -/
noncomputable def compute_world (os : Os) : World :=
  layAt 6 (tabV Rows.laid_math_bits_deBruijn32tab) (layAt 7 (tabV Rows.laid_math_bits_deBruijn64tab) (layAt 3 (tabV Rows.laid_internal_strconv_uint64pow10) (layAt 5 (tabW Rows.laid_unicode_utf8_acceptRanges) (layAt 4 (tabV Rows.laid_unicode_utf8_first) (layAt 0 #[.iface 147 (.agg #[.pointer (some ⟨8, 67, none⟩)])] (World.holding Tryz.prog os ⟨#[], #[], []⟩))))))
theorem compute_met (os : Os) : laidMetH Tryz.prog Rows.fnExactComputeRow.laid ((compute_world os).forCall (fun _ _ => 0) ⟨#[], #[.string ByteArray.empty, zeroA, zeroA], []⟩).memory :=
  laidMetH_of_parts (laidMet_of_run' 8 (by kernel_rfl) (by kernel_rfl)) (by kernel_rfl)
theorem compute_reads (os : Os) {H : Type} (enc : TypeId × Value → H) : ∃ places, DataW.whole enc Tryz.prog ((compute_world os).forCall (fun _ _ => 0) ⟨#[], #[.string ByteArray.empty, zeroA, zeroA], []⟩).memory Tryz.f6.params.toList Rows.fnExactComputeSpec.vars false #[Value.string ByteArray.empty, zeroA, zeroA].toList 8 = some ([.lit (.string []), .agg [.lit (.int .i64 0), .lit (.int .i64 0), .lit (.string [])], .agg [.lit (.int .i64 0), .lit (.int .i64 0), .lit (.string [])]], [], places) :=
  ⟨[], by kernel_rfl⟩

set_option maxRecDepth 100000 in
theorem compute_lifted (os : Os) (started : os.Started) (H : Type) (enc : TypeId × Value → H) (F : Stop.Interp) :
    ReturnsInHanded {} Tryz.checked os 6 .any ((OpenSpec.ofChange Rows.fnExactComputeSpec).preRow enc Tryz.prog Tryz.f6 Rows.fnExactComputeRow.domain false Rows.fnExactComputeRow.laid) (((OpenSpec.ofChange Rows.fnExactComputeSpec).at F).post enc Tryz.prog Tryz.f6 false true false false) := by
  obtain ⟨places, hx⟩ := compute_reads os enc
  refine returnsInHanded_of_row (C := Tryz.checked) (s := OpenSpec.ofChange Rows.fnExactComputeSpec) compute_own started (by kernel_rfl) Tryz.func6
    (witness_row_at (enc := enc) (C := Tryz.checked) false (compute_world os) #[.string ByteArray.empty, zeroA, zeroA] rfl (by kernel_rfl) (by kernel_rfl) (by kernel_rfl)
      (OpenSpec.preRow_of_cond 8 hx (by kernel_rfl) (fun k hk => by cases hk) (by kernel_rfl) (compute_met os))) ?_
  intro W base args ds gs before hval hW _ _ _ hL _ _
  exact compute_contract H enc W base args ds gs before hval hW hL

theorem compute_said : Rows.FnExactComputeSaid :=
  OpenClaim.holds_of_cond 6 Tryz.f6 rfl rfl rfl rfl rfl rfl rfl ⟨rfl, rfl, rfl, rfl, rfl⟩ rfl rfl rfl rfl rfl (by kernel_rfl) Tryz.func6 (by kernel_rfl)
    (of_decide_eq_true (by kernel_rfl)) (by unfold Func.isWrapper; first | (rw [if_pos (by decide +kernel)]; kernel_rfl) | (rw [if_neg (by decide +kernel)]; exact ⟨rfl, rfl⟩))
    (fun os started H enc _ F => by rw [OpenClaim.pre_eq_preRow]; exact compute_lifted os started H enc F)

theorem compute_plain (f : FuncId) (fn : Func) (hf : Tryz.pinned.checked.prog.funcNamed "loop.example/g00317/laws.FnExactCompute" = some f) (hfn : Tryz.pinned.checked.prog.funcs[f]? = some fn) :
    true = Tryz.pinned.checked.prog.looks [] ∧ ∀ (j : Nat) t, fn.params[j]? = some t → Tryz.pinned.checked.prog.wantsStandIn t = false := by
  obtain rfl : f = 6 := Option.some.inj ((show Tryz.prog.funcNamed "loop.example/g00317/laws.FnExactCompute" = some 6 by kernel_rfl).symm.trans hf) |>.symm
  obtain rfl : fn = Tryz.f6 := (Option.some.inj (Tryz.func6.symm.trans hfn)).symm
  refine ⟨by kernel_rfl, fun j t ht => ?_⟩
  rw [Tryz.params6] at ht
  have hm := Array.mem_of_getElem? ht
  simp at hm
  rcases hm with rfl | rfl
  · exact (show Tryz.prog.wantsStandIn 9 = false by kernel_rfl)
  · exact (show Tryz.prog.wantsStandIn 33 = false by kernel_rfl)

theorem compute_holds : Rows.FnExactComputeCardSaid :=
  Claim7.holds_tied_plain_at .later [] _ _ _ _ compute_said (fun _ h => by cases h) (by kernel_rfl) (fun _ h => by cases h) fnExactCompute_row_tie rfl ⟨rfl, rfl⟩ (by kernel_rfl) rfl compute_plain (by kernel_rfl)
#print axioms compute_holds
end Go.Proofs.YtoficeamogbbhabGreatDoor

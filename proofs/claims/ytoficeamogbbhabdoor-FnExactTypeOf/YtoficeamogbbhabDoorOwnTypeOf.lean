/- For every value that can be handed in, with the package's table of names laid as the program's own text lays it, the law FnExactTypeOf returns true: impl.TypeOf answers as its model spec.TypeOf, and writes into no argument; the value and the table read behind the call as they did. No condition besides. -/
import Derived.Test.YtoficeamogbbhabDoorCards
import Derived.Test.YtoficeamogbbhabDoorTie
import Derived.Test.YtoficeamogbbhabDoorValType
import Derived.Test.YtoficeamogbbhabDoorValLaw
import Derived.WalkKit
import Derived.ProofKit
import Derived.OpenShut
import Derived.ShutString
import Derived.ChangeOld
import Derived.Below
import Derived.OpenVars
import Derived.Deep.DeepHandedRow
import Derived.Lib.LaidTab
namespace Go.Proofs.YtoficeamogbbhabDoor
open Go.ChangeShapes Go.WideShapes Go.ChangeAt Go.RowKit
open Go.ChangeMaps (open_string shut_string)

theorem typeOf_readable : Tryd.prog.readableRec 23 = true := by kernel_rfl
theorem typeOf_row : 23 < Tryd.prog.types.size := of_decide_eq_true (by kernel_rfl)
def zeroA : Value := .agg #[.int .i64 0, .int .i64 0, .string ByteArray.empty]
def kindsV : Array Value := (Val.kinds.map Value.string).toArray
theorem bytes_inj {a b : ByteArray} (h : a.data.toList = b.data.toList) : a = b := ByteArray.ext (Array.toList_inj.1 h)

set_option maxHeartbeats 2000000 in
theorem typeOf_walk (v : Val.VV) (w : World) (hv : v.text.size ≤ 9223372036854775807) (hk : KindsIn w) : Calls Tryd.prog 5 #[.agg (vC v)] w fun e w' => e = .returned (.bool true) ∧ Below w.heap.size w w' := by
  have HK : Hid (KindsIn w) := hk
  clear hk
  have Z : Hid _ := fun (W : World) => lSzValue v 1048576 W (by omega) hv
  have T : Hid _ := fun (W : World) => lToValue v W
  have S : Hid _ := fun (W : World) => sTypeOf v W
  have I : Hid _ := fun (W : World) (h : KindsIn W) => iTypeOf v W h
  have HB : Hid (∀ o, Below w.heap.size w (w.alloc o)) := fun o => (Below.refl _ _).alloc (Nat.le_refl _) o
  have HL : Hid (Lies2 (w.alloc (.cells (vC v) 23)) w.heap.size v) := lies2_new w v
  obtain ⟨R, hR⟩ : ∃ R, Val.typeV v = R := ⟨_, rfl⟩
  rw [hR] at S I
  clear hR
  obtain ⟨k, n, t⟩ := v
  unfold vC at *
  dsimp only at *
  clear hv
  go_enter Tryd.func5, Tryd.ntmps5
  go_wp2_with fail
  refine (Z.out _).mono ?_
  rintro e w1 ⟨rfl, hb1⟩
  have hbw : Below w.heap.size w w1 := (HB.out _).trans (hb1.mono (HB.out _).size)
  have HL1 := HL.out.keep hb1
  clear hb1
  by_cases hs : t.size ≤ 1048576
  · rw [if_pos hs]
    obtain ⟨M, hM⟩ : ∃ M, (1048576 - t.size : Nat) = M := ⟨_, rfl⟩
    rw [hM]
    have hM0 : ¬ (M : Int) < 0 := by omega
    obtain ⟨⟨r0, r1, r2⟩, f0, f1, f2⟩ := HL1.three
    dsimp only at r0 r1 r2
    go_wp2_with fail
    refine (T.out _).mono ?_
    rintro e w2 ⟨rfl, hb2⟩
    go_wp2_with fail
    refine (S.out _).mono ?_
    rintro e w3 ⟨rfl, hb3⟩
    have hb13 := hb2.trans (hb3.mono hb2.size)
    have HL3 := HL1.keep hb13
    have hbw3 := hbw.trans (hb13.mono hbw.size)
    clear r0 r1 r2 f0 f1 f2 hb2 hb3 hb13
    obtain ⟨⟨r0, r1, r2⟩, f0, f1, f2⟩ := HL3.three
    dsimp only at r0 r1 r2
    go_wp2_with fail
    refine (T.out _).mono ?_
    rintro e w4 ⟨rfl, hb4⟩
    have hk4 := HK.out.keep (hbw3.trans (hb4.mono hbw3.size))
    go_wp2_with fail
    refine (I.out _ hk4).mono ?_
    rintro e w5 ⟨rfl, hb5⟩
    have hb35 := hb4.trans (hb5.mono hb4.size)
    have hbf := hbw3.trans (hb35.mono hbw3.size)
    go_wp2_with fail
    go_ret
    exact ⟨rfl, hbf⟩
  · rw [if_neg hs]
    go_wp2_with fail
    go_ret
    exact ⟨rfl, hbw⟩

theorem typeOf_own : ownKnob Tryd.prog.godebug = none := by kernel_rfl
theorem typeOf_laidOut : laidOutB Tryd.prog = true := by kernel_rfl
theorem typeOf_gTab : Tryd.prog.globalNamed "loop.example/g00317/impl.kindNames" = some 0 := by kernel_rfl
theorem typeOf_gType : (Tryd.prog.globals[0]?).map (·.type) = some 41 := by kernel_rfl
theorem typeOf_cellsStr : Tryd.prog.cellsOf 9 = 1 := by kernel_rfl
theorem typeOf_varsRowed : varsRowed Tryd.prog ["loop.example/g00317/impl.kindNames"] = true := by kernel_rfl

theorem kinds_datum {H : Type} : (Rows.laid_loop_example_g00317_impl_kindNames : DataW H) = .agg (Val.kinds.map fun s => .lit (.string s.data.toList)) := rfl

/-- What the row's list gives: the table of marks lies in its block. -/
theorem kinds_in {W : World} (h : laidMetH Tryd.prog Rows.fnExactTypeOfRow.laid W) : KindsIn W := by
  have h' : laidMet Tryd.prog [("loop.example/g00317/impl.kindNames", Rows.laid_loop_example_g00317_impl_kindNames)] W := h
  obtain ⟨ps, ⟨g, t, cs, fuel, p, q, hg, ht, hv, hd, _, _⟩, _⟩ := h'
  obtain rfl := Option.some.inj (typeOf_gTab.symm.trans hg)
  obtain rfl := Option.some.inj (typeOf_gType.symm.trans ht)
  rw [kinds_datum] at hd
  obtain ⟨xs, m, rfl, hx, hl, hn, hel⟩ := DataW.trod_array Tryd.underlying41 hd
  simp only [Prod.mk.injEq, DataW.agg.injEq] at hx
  intro j hj
  have hj28 : j < 7 := hj
  rw [World.var?_cell hg hv j]
  have h1 := hel j hj28
  rw [typeOf_cellsStr, Nat.mul_one] at h1
  have hjx : j < xs.length := by omega
  rw [List.getElem?_eq_getElem hjx] at h1
  obtain ⟨s, e1, e2, _⟩ := DataW.trod_string Tryd.underlying9 h1
  have e3 : (xs.map (·.1))[j]? = some (.lit (.string s.data.toList)) := by rw [List.getElem?_map, List.getElem?_eq_getElem hjx, e2]; rfl
  rw [← hx.1, List.getElem?_map, List.getElem?_eq_getElem hj] at e3
  simp only [Option.map_some, Option.some.injEq, DataW.lit.injEq, Lit.string.injEq] at e3
  have e4 : Val.kinds[j] = s := bytes_inj e3
  have e5 : cs.toList[j]? = some (.string s) := by
    have e6 := congrArg (fun l : List Value => l[0]?) e1
    simp only [List.getElem?_take, List.getElem?_drop] at e6
    simpa using e6
  have e7 : cs[j]? = some (.string s) := by simpa using e5
  rw [e7]
  exact congrArg (fun x => some (Value.string x)) e4.symm

set_option maxRecDepth 100000 in
theorem typeOf_contract (H : Type) (enc : TypeId × Value → H) (W : World) (base : Nat) (args : Array Value) (ds gs : List (DataW H)) (before : List MemPlace)
    (hval : ∀ (j : Nat) t v, Tryd.f5.params[j]? = some t → args[j]? = some v → Value.okWide Tryd.prog W .any base t v)
    (hW : DataW.Whole enc Tryd.prog Tryd.f5.params.toList Rows.fnExactTypeOfSpec.vars false W args.toList ds gs before) (hL : laidMetH Tryd.prog Rows.fnExactTypeOfRow.laid W) :
    Calls Tryd.prog 5 args W fun e W' => ∃ v, e = .returned v ∧ Rows.fnExactTypeOfSpec.post enc Tryd.prog Tryd.f5 false true false false W args v W' := by
  have hW' := hW
  obtain ⟨p, q, hA0, hV, rfl, hfz, hnd⟩ := hW
  have hA : DataW.TrodAll enc Tryd.prog W 0 (fun _ => true) true Tryd.f5.params.toList args.toList ds p := hA0
  have hV0 : DataW.TrodVars enc Tryd.prog W (fun _ => true) ["loop.example/g00317/impl.kindNames"] gs q := hV
  rw [Tryd.params5] at hA hval
  obtain ⟨v0, vs0, d0, ds0, p0, q0, hargs, rfl, rfl, h0, r0⟩ := trodAll_cons hA
  obtain ⟨rfl, rfl, rfl⟩ := trodAll_nil r0
  obtain rfl : args = #[v0] := by cases args; simp_all
  have hlt := hA0.lt
  obtain ⟨x, rfl, kx⟩ := open_value (hval 0 23 v0 rfl rfl) h0
  have hV1 := hV0
  obtain ⟨_, _, _, _, g1, _, rfl, _⟩ := trodVars_one hV1
  clear hA0 hV1
  refine (typeOf_walk x W kx (kinds_in hL)).mono fun e W' ⟨he, bel⟩ => ?_
  subst he
  exact ⟨_, rfl, _, _, _, [], p0 ++ [], q, hW', trodAll_mk1 (shut_bool Tryd.underlying4 _), (trodAll_cons_mk (Below.trod typeOf_laidOut typeOf_readable typeOf_row h0 bel (fun x hx => hlt x (by simp [hx]))) trodAll_mk0), Below.trodVars typeOf_laidOut bel typeOf_varsRowed hV0, bel.frame _, fun h => by cases h⟩

/-- A world for the witness: the settled one, the table (block 0) holding what its initialiser lays. -/
noncomputable def typeOf_world (os : Os) : World :=
  { World.holding Tryd.prog os ⟨#[], #[], []⟩ with heap := (World.holding Tryd.prog os ⟨#[], #[], []⟩).heap.modify 0 fun
      | .cells _ t frozen => .cells kindsV t frozen
      | o => o }
theorem typeOf_met (os : Os) : laidMet Tryd.prog Rows.fnExactTypeOfRow.laid ((typeOf_world os).forCall (fun _ _ => 0) ⟨#[], #[zeroA], []⟩).memory :=
  laidMet_of_run' 8 (by kernel_rfl) (by kernel_rfl)
theorem typeOf_reads (os : Os) {H : Type} (enc : TypeId × Value → H) : ∃ places, DataW.whole enc Tryd.prog ((typeOf_world os).forCall (fun _ _ => 0) ⟨#[], #[zeroA], []⟩).memory Tryd.f5.params.toList Rows.fnExactTypeOfSpec.vars false #[zeroA].toList 8 = some ([.agg [.lit (.int .i64 0), .lit (.int .i64 0), .lit (.string [])]], [Rows.laid_loop_example_g00317_impl_kindNames], places) :=
  ⟨MemPlace.row ⟨0, 0, none⟩ 7, by kernel_rfl⟩

set_option maxRecDepth 100000 in
theorem typeOf_lifted (os : Os) (started : os.Started) (H : Type) (enc : TypeId × Value → H) (F : Stop.Interp) :
    ReturnsInHanded {} Tryd.checked os 5 .any ((OpenSpec.ofChange Rows.fnExactTypeOfSpec).preRow enc Tryd.prog Tryd.f5 Rows.fnExactTypeOfRow.domain false Rows.fnExactTypeOfRow.laid) (((OpenSpec.ofChange Rows.fnExactTypeOfSpec).at F).post enc Tryd.prog Tryd.f5 false true false false) := by
  obtain ⟨places, hx⟩ := typeOf_reads os enc
  refine returnsInHanded_of_row (C := Tryd.checked) (s := OpenSpec.ofChange Rows.fnExactTypeOfSpec) typeOf_own started (by kernel_rfl) Tryd.func5
    (witness_row_at (enc := enc) (C := Tryd.checked) false (typeOf_world os) #[zeroA] rfl (by kernel_rfl) (by kernel_rfl) (by kernel_rfl)
      (OpenSpec.preRow_of_cond 8 hx (by kernel_rfl) (fun k hk => by cases hk) (by kernel_rfl) (typeOf_met os))) ?_
  intro W base args ds gs before hval hW _ _ _ hL _ _
  exact typeOf_contract H enc W base args ds gs before hval hW hL

theorem typeOf_said : Rows.FnExactTypeOfSaid :=
  OpenClaim.holds_of_cond 5 Tryd.f5 rfl rfl rfl rfl rfl rfl rfl ⟨rfl, rfl, rfl, rfl, rfl⟩ rfl rfl rfl rfl rfl (by kernel_rfl) Tryd.func5 (by kernel_rfl)
    (of_decide_eq_true (by kernel_rfl)) (by unfold Func.isWrapper; first | (rw [if_pos (by decide +kernel)]; kernel_rfl) | (rw [if_neg (by decide +kernel)]; exact ⟨rfl, rfl⟩))
    (fun os started H enc _ F => by rw [OpenClaim.pre_eq_preRow]; exact typeOf_lifted os started H enc F)

theorem typeOf_plain (f : FuncId) (fn : Func) (hf : Tryd.pinned.checked.prog.funcNamed "loop.example/g00317/laws.FnExactTypeOf" = some f) (hfn : Tryd.pinned.checked.prog.funcs[f]? = some fn) :
    true = Tryd.pinned.checked.prog.looks [] ∧ ∀ (j : Nat) t, fn.params[j]? = some t → Tryd.pinned.checked.prog.wantsStandIn t = false := by
  obtain rfl : f = 5 := Option.some.inj ((show Tryd.prog.funcNamed "loop.example/g00317/laws.FnExactTypeOf" = some 5 by kernel_rfl).symm.trans hf) |>.symm
  obtain rfl : fn = Tryd.f5 := (Option.some.inj (Tryd.func5.symm.trans hfn)).symm
  refine ⟨by kernel_rfl, fun j t ht => ?_⟩
  rw [Tryd.params5] at ht
  obtain rfl : t = 23 := by simpa using Array.mem_of_getElem? ht
  exact (show Tryd.prog.wantsStandIn 23 = false by kernel_rfl)

theorem typeOf_holds : Rows.FnExactTypeOfCardSaid :=
  Claim7.holds_tied_plain_at .later [] _ _ _ _ typeOf_said (fun _ h => by cases h) (by kernel_rfl) (fun _ h => by cases h) fnExactTypeOf_row_tie rfl ⟨rfl, rfl⟩ (by kernel_rfl) rfl typeOf_plain (by kernel_rfl)
#print axioms typeOf_holds
end Go.Proofs.YtoficeamogbbhabDoor

/- For every value that can be handed in, with the library's tables and the handle of the type error laid as the program's own text lays them, the law FnExactToNumber returns true: impl.ToNumber answers as its model spec.ToNumber, and writes into no argument; the value and the table read behind the call as they did. No condition besides. -/
import Derived.Test.YtoficeamogbbhabDoorCards
import Derived.Test.YtoficeamogbbhabDoorTie
import Derived.Test.YtoficeamogbbhabDoorValToNum
import Derived.Test.YtoficeamogbbhabDoorValEq
import Derived.LaidHandle
import Derived.LaidSub
import Derived.Test.YtoficeamogbbhabDoorValLaw
import Derived.WalkKit
import Derived.ProofKit
import Derived.OpenShut
import Derived.ShutString
import Derived.ChangeOld
import Derived.Below
import Derived.OpenVars
import Derived.Deep.DeepHandedRow
import Derived.Lib.LaidTab
namespace Go.Proofs.YtoficeamogbbhabDoor
open Go.ChangeShapes Go.WideShapes Go.ChangeAt Go.RowKit
open Go.ChangeMaps (open_string shut_string)

theorem toNumber_readable : Tryd.prog.readableRec 23 = true := by kernel_rfl
theorem toNumber_row : 23 < Tryd.prog.types.size := of_decide_eq_true (by kernel_rfl)
def zeroA : Value := .agg #[.int .i64 0, .int .i64 0, .string ByteArray.empty]

set_option maxHeartbeats 2000000 in
theorem toNumber_walk (v : Val.VV) (w : World) (hv : v.text.size ≤ 9223372036854775807) (hk : ErrIn w) : Calls Tryd.prog 3 #[.agg (vC v)] w fun e w' => e = .returned (.bool true) ∧ Below w.heap.size w w' := by
  have HK : Hid (ErrIn w) := hk
  clear hk
  have Z : Hid _ := fun (W : World) => lSzValue v 1048576 W (by omega) hv
  have T : Hid _ := fun (W : World) => lToValue v W
  have S : Hid _ := fun (W : World) => sToNumber v W
  have I : Hid _ := fun (W : World) (h : ErrIn W) => iToNumber v W h
  have HB : Hid (∀ o, Below w.heap.size w (w.alloc o)) := fun o => (Below.refl _ _).alloc (Nat.le_refl _) o
  have HL : Hid (Lies2 (w.alloc (.cells (vC v) 23)) w.heap.size v) := lies2_new w v
  obtain ⟨⟨rk, rn, rt⟩, hR⟩ : ∃ R, Val.toNumV v = R := ⟨_, rfl⟩
  rw [hR] at S I
  clear hR
  have E : Hid _ := fun (W : World) => lEqValue ⟨rk, rn, rt⟩ W
  obtain ⟨k, n, t⟩ := v
  unfold vC at *
  dsimp only at *
  clear hv
  go_enter Tryd.func3, Tryd.ntmps3
  go_wp2_with fail
  refine (Z.out _).mono ?_
  rintro e w1 ⟨rfl, hb1⟩
  have hbw : Below w.heap.size w w1 := (HB.out _).trans (hb1.mono (HB.out _).size)
  have HL1 := HL.out.keep hb1
  clear hb1
  by_cases hs : t.size ≤ 1048576
  · rw [if_pos hs]
    obtain ⟨M, hM⟩ : ∃ M, (1048576 - t.size : Nat) = M := ⟨_, rfl⟩
    rw [hM]
    have hM0 : ¬ (M : Int) < 0 := by omega
    obtain ⟨⟨r0, r1, r2⟩, f0, f1, f2⟩ := HL1.three
    dsimp only at r0 r1 r2
    go_wp2_with fail
    refine (T.out _).mono ?_
    rintro e w2 ⟨rfl, hb2⟩
    go_wp2_with fail
    refine (S.out _).mono ?_
    rintro e w3 ⟨rfl, hb3⟩
    have hb13 := hb2.trans (hb3.mono hb2.size)
    have HL3 := HL1.keep hb13
    have hbw3 := hbw.trans (hb13.mono hbw.size)
    clear r0 r1 r2 f0 f1 f2 hb2 hb3 hb13
    obtain ⟨⟨r0, r1, r2⟩, f0, f1, f2⟩ := HL3.three
    have hlt3 := HL3.lt
    dsimp only at r0 r1 r2
    have LN : Hid (Lies (w3.alloc (.cells #[.int .i64 rk, .int .i64 rn, .string rt] 25)) w3.heap.size ⟨rk, rn, rt⟩) := lies_new w3 ⟨rk, rn, rt⟩
    have HB3 : Hid (Below w.heap.size w (w3.alloc (.cells #[.int .i64 rk, .int .i64 rn, .string rt] 25))) := hbw3.alloc hbw3.size _
    clear hbw3
    go_wp2_with fail
    refine (T.out _).mono ?_
    rintro e w4 ⟨rfl, hb4⟩
    have LN4 := LN.out.keep hb4
    have hbw4 := HB3.out.trans (hb4.mono HB3.out.size)
    have hk4 := HK.out.keep hbw4
    clear hb4 r0 r1 r2 f0 f1 f2
    go_wp2_with fail
    refine (I.out _ hk4).mono ?_
    rintro e w5 ⟨rfl, hb5⟩
    have LN5 := LN4.keep hb5
    have hbw5 := hbw4.trans (hb5.mono hbw4.size)
    have HB5 : Hid (Below w.heap.size w (w5.alloc (.cells #[.int .i64 rk, .int .i64 rn, .string rt] 25))) := hbw5.alloc hbw5.size _
    have hlt5 := LN5.lt
    obtain ⟨⟨r0, r1, r2⟩, f0, f1, f2⟩ := LN5.three
    dsimp only at r0 r1 r2
    clear hb5 hbw5
    go_wp2_with fail
    refine (E.out _).mono ?_
    rintro e w6 ⟨rfl, hb6⟩
    have hbf := HB5.out.trans (hb6.mono HB5.out.size)
    go_wp2_with fail
    go_ret
    exact ⟨rfl, hbf⟩
  · rw [if_neg hs]
    go_wp2_with fail
    go_ret
    exact ⟨rfl, hbw⟩

theorem toNumber_own : ownKnob Tryd.prog.godebug = none := by kernel_rfl
theorem toNumber_laidOut : laidOutB Tryd.prog = true := by kernel_rfl
theorem toNumber_et : Tryd.prog.globalNamed "errors.errorType" = some 1 := by kernel_rfl
theorem toNumber_rt : (Tryd.prog.cutTypes.find? (·.1 == "internal/reflectlite.rtype")).map (·.2) = some 91 := by kernel_rfl
theorem toNumber_oneRow : ((List.range 155).filter fun t => Tryd.prog.rowNamed t [101, 114, 114, 111, 114]) = [34] := by kernel_rfl
theorem toNumber_size : Tryd.prog.types.size = 155 := by kernel_rfl
theorem toNumber_handle : typeHandle Tryd.prog 34 = .pointer (some ⟨8, 34, none⟩) := by kernel_rfl

/-- What the row's list gives: the handle of the type error lies in its variable. -/
theorem err_in {W : World} (h : laidMetH Tryd.prog Rows.fnExactToNumberRow.laid W) : ErrIn W := by
  have h2 := (laidMetH_iff.1 h).2
  obtain ⟨name, u, ty, e1, e2, e3, e4, e5⟩ := h2 ("errors.errorType", Rows.laid_errors_errorType) (List.mem_filter.2 ⟨by simp [Rows.fnExactToNumberRow], by rfl⟩)
  have en : name = [101, 114, 114, 111, 114] := (Option.some.inj e1).symm
  subst en
  obtain rfl := Option.some.inj (toNumber_rt.symm.trans e2)
  have hm : ty ∈ (List.range 155).filter fun t => Tryd.prog.rowNamed t [101, 114, 114, 111, 114] := List.mem_filter.2 ⟨List.mem_range.2 (by rw [← toNumber_size]; exact e3), e4⟩
  rw [toNumber_oneRow] at hm
  obtain rfl := List.mem_singleton.1 hm
  rw [toNumber_handle] at e5
  unfold ErrIn
  simpa using World.var?_cell toNumber_et e5 0

set_option maxRecDepth 100000 in
theorem toNumber_contract (H : Type) (enc : TypeId × Value → H) (W : World) (base : Nat) (args : Array Value) (ds gs : List (DataW H)) (before : List MemPlace)
    (hval : ∀ (j : Nat) t v, Tryd.f3.params[j]? = some t → args[j]? = some v → Value.okWide Tryd.prog W .any base t v)
    (hW : DataW.Whole enc Tryd.prog Tryd.f3.params.toList Rows.fnExactToNumberSpec.vars false W args.toList ds gs before) (hL : laidMetH Tryd.prog Rows.fnExactToNumberRow.laid W) :
    Calls Tryd.prog 3 args W fun e W' => ∃ v, e = .returned v ∧ Rows.fnExactToNumberSpec.post enc Tryd.prog Tryd.f3 false true false false W args v W' := by
  have hW' := hW
  obtain ⟨p, q, hA0, hV, rfl, hfz, hnd⟩ := hW
  have hA : DataW.TrodAll enc Tryd.prog W 0 (fun _ => true) true Tryd.f3.params.toList args.toList ds p := hA0
  rw [Tryd.params3] at hA hval
  obtain ⟨v0, vs0, d0, ds0, p0, q0, hargs, rfl, rfl, h0, r0⟩ := trodAll_cons hA
  obtain ⟨rfl, rfl, rfl⟩ := trodAll_nil r0
  obtain rfl : args = #[v0] := by cases args; simp_all
  have hlt := hA0.lt
  obtain ⟨x, rfl, kx⟩ := open_value (hval 0 23 v0 rfl rfl) h0
  obtain ⟨rfl, rfl⟩ := trodVars_none hV
  clear hA0
  refine (toNumber_walk x W kx (err_in hL)).mono fun e W' ⟨he, bel⟩ => ?_
  subst he
  exact ⟨_, rfl, _, _, _, [], p0 ++ [], [], hW', trodAll_mk1 (shut_bool Tryd.underlying4 _), (trodAll_cons_mk (Below.trod toNumber_laidOut toNumber_readable toNumber_row h0 bel (fun x hx => hlt x (by simp [hx]))) trodAll_mk0), rfl, bel.frame _, fun h => by cases h⟩

/-- The cells of a table that is told as plain data. -/
def tabV : DataW Unit → Array Value
  | .agg l => (l.map fun | .lit (.int k z) => Value.int k z | .lit (.string s) => Value.string ⟨s.toArray⟩ | _ => Value.bool false).toArray
  | _ => #[]
/-- The cells of a table of rows of two. -/
def tabW : DataW Unit → Array Value
  | .agg l => (l.flatMap fun x => (tabV x).toList).toArray
  | _ => #[]
def layAt (g : Nat) (cs : Array Value) (w : World) : World :=
  { w with heap := w.heap.modify g fun
      | .cells _ t frozen => .cells cs t frozen
      | o => o }
/-- A world for the witness: the settled one, the tables and the handle holding what their initialisers lay. -/
noncomputable def toNumber_world (os : Os) : World :=
  layAt 4 (tabW Rows.laid_unicode_utf8_acceptRanges) (layAt 3 (tabV Rows.laid_unicode_utf8_first) (layAt 1 #[.iface 91 (.agg #[.pointer (some ⟨8, 34, none⟩)])] (World.holding Tryd.prog os ⟨#[], #[], []⟩)))
theorem toNumber_met (os : Os) : laidMetH Tryd.prog Rows.fnExactToNumberRow.laid ((toNumber_world os).forCall (fun _ _ => 0) ⟨#[], #[zeroA], []⟩).memory :=
  laidMetH_of_parts (laidMet_of_run' 8 (by kernel_rfl) (by kernel_rfl)) (by kernel_rfl)
theorem toNumber_reads (os : Os) {H : Type} (enc : TypeId × Value → H) : ∃ places, DataW.whole enc Tryd.prog ((toNumber_world os).forCall (fun _ _ => 0) ⟨#[], #[zeroA], []⟩).memory Tryd.f3.params.toList Rows.fnExactToNumberSpec.vars false #[zeroA].toList 8 = some ([.agg [.lit (.int .i64 0), .lit (.int .i64 0), .lit (.string [])]], [], places) :=
  ⟨[], by kernel_rfl⟩

set_option maxRecDepth 100000 in
theorem toNumber_lifted (os : Os) (started : os.Started) (H : Type) (enc : TypeId × Value → H) (F : Stop.Interp) :
    ReturnsInHanded {} Tryd.checked os 3 .any ((OpenSpec.ofChange Rows.fnExactToNumberSpec).preRow enc Tryd.prog Tryd.f3 Rows.fnExactToNumberRow.domain false Rows.fnExactToNumberRow.laid) (((OpenSpec.ofChange Rows.fnExactToNumberSpec).at F).post enc Tryd.prog Tryd.f3 false true false false) := by
  obtain ⟨places, hx⟩ := toNumber_reads os enc
  refine returnsInHanded_of_row (C := Tryd.checked) (s := OpenSpec.ofChange Rows.fnExactToNumberSpec) toNumber_own started (by kernel_rfl) Tryd.func3
    (witness_row_at (enc := enc) (C := Tryd.checked) false (toNumber_world os) #[zeroA] rfl (by kernel_rfl) (by kernel_rfl) (by kernel_rfl)
      (OpenSpec.preRow_of_cond 8 hx (by kernel_rfl) (fun k hk => by cases hk) (by kernel_rfl) (toNumber_met os))) ?_
  intro W base args ds gs before hval hW _ _ _ hL _ _
  exact toNumber_contract H enc W base args ds gs before hval hW hL

theorem toNumber_said : Rows.FnExactToNumberSaid :=
  OpenClaim.holds_of_cond 3 Tryd.f3 rfl rfl rfl rfl rfl rfl rfl ⟨rfl, rfl, rfl, rfl, rfl⟩ rfl rfl rfl rfl rfl (by kernel_rfl) Tryd.func3 (by kernel_rfl)
    (of_decide_eq_true (by kernel_rfl)) (by unfold Func.isWrapper; first | (rw [if_pos (by decide +kernel)]; kernel_rfl) | (rw [if_neg (by decide +kernel)]; exact ⟨rfl, rfl⟩))
    (fun os started H enc _ F => by rw [OpenClaim.pre_eq_preRow]; exact toNumber_lifted os started H enc F)

theorem toNumber_plain (f : FuncId) (fn : Func) (hf : Tryd.pinned.checked.prog.funcNamed "loop.example/g00317/laws.FnExactToNumber" = some f) (hfn : Tryd.pinned.checked.prog.funcs[f]? = some fn) :
    true = Tryd.pinned.checked.prog.looks [] ∧ ∀ (j : Nat) t, fn.params[j]? = some t → Tryd.pinned.checked.prog.wantsStandIn t = false := by
  obtain rfl : f = 3 := Option.some.inj ((show Tryd.prog.funcNamed "loop.example/g00317/laws.FnExactToNumber" = some 3 by kernel_rfl).symm.trans hf) |>.symm
  obtain rfl : fn = Tryd.f3 := (Option.some.inj (Tryd.func3.symm.trans hfn)).symm
  refine ⟨by kernel_rfl, fun j t ht => ?_⟩
  rw [Tryd.params3] at ht
  obtain rfl : t = 23 := by simpa using Array.mem_of_getElem? ht
  exact (show Tryd.prog.wantsStandIn 23 = false by kernel_rfl)

theorem toNumber_holds : Rows.FnExactToNumberCardSaid :=
  Claim7.holds_tied_plain_at .later [] _ _ _ _ toNumber_said (fun _ h => by cases h) (by kernel_rfl) (fun _ h => by cases h) fnExactToNumber_row_tie rfl ⟨rfl, rfl⟩ (by kernel_rfl) rfl toNumber_plain (by kernel_rfl)
#print axioms toNumber_holds
end Go.Proofs.YtoficeamogbbhabDoor

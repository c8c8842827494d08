/- For every value that can be handed in, with the library's table of powers of ten laid as the program's own text lays it, the law FnExactToText returns true: impl.ToText answers as its model spec.ToText, and writes into no argument; the value and the table read behind the call as they did. No condition besides. -/
import Derived.Test.YtoficeamogbbhabDoorCards
import Derived.Test.YtoficeamogbbhabDoorTie
import Derived.Test.YtoficeamogbbhabDoorValText
import Derived.Test.YtoficeamogbbhabDoorValLaw
import Derived.WalkKit
import Derived.ProofKit
import Derived.OpenShut
import Derived.ShutString
import Derived.ChangeOld
import Derived.Below
import Derived.OpenVars
import Derived.Deep.DeepHandedRow
import Derived.Lib.LaidTab
namespace Go.Proofs.YtoficeamogbbhabDoor
open Go.ChangeShapes Go.WideShapes Go.ChangeAt Go.RowKit
open Go.ChangeMaps (open_string shut_string)

theorem toText_readable : Tryd.prog.readableRec 23 = true := by kernel_rfl
theorem toText_row : 23 < Tryd.prog.types.size := of_decide_eq_true (by kernel_rfl)
def zeroA : Value := .agg #[.int .i64 0, .int .i64 0, .string ByteArray.empty]

set_option maxHeartbeats 2000000 in
theorem toText_walk (v : Val.VV) (w : World) (hv : v.text.size ≤ 9223372036854775807) (hk : PowIn w) : Calls Tryd.prog 4 #[.agg (vC v)] w fun e w' => e = .returned (.bool true) ∧ Below w.heap.size w w' := by
  have HK : Hid (PowIn w) := hk
  clear hk
  have Z : Hid _ := fun (W : World) => lSzValue v 1048576 W (by omega) hv
  have T : Hid _ := fun (W : World) => lToValue v W
  have S : Hid _ := fun (W : World) => sToText v W
  have I : Hid _ := fun (W : World) (h : PowIn W) => iToText v W h
  have HB : Hid (∀ o, Below w.heap.size w (w.alloc o)) := fun o => (Below.refl _ _).alloc (Nat.le_refl _) o
  have HL : Hid (Lies2 (w.alloc (.cells (vC v) 23)) w.heap.size v) := lies2_new w v
  obtain ⟨R, hR⟩ : ∃ R, Val.textOf v = R := ⟨_, rfl⟩
  rw [hR] at S I
  clear hR
  obtain ⟨k, n, t⟩ := v
  unfold vC at *
  dsimp only at *
  clear hv
  go_enter Tryd.func4, Tryd.ntmps4
  go_wp2_with fail
  refine (Z.out _).mono ?_
  rintro e w1 ⟨rfl, hb1⟩
  have hbw : Below w.heap.size w w1 := (HB.out _).trans (hb1.mono (HB.out _).size)
  have HL1 := HL.out.keep hb1
  clear hb1
  by_cases hs : t.size ≤ 1048576
  · rw [if_pos hs]
    obtain ⟨M, hM⟩ : ∃ M, (1048576 - t.size : Nat) = M := ⟨_, rfl⟩
    rw [hM]
    have hM0 : ¬ (M : Int) < 0 := by omega
    obtain ⟨⟨r0, r1, r2⟩, f0, f1, f2⟩ := HL1.three
    dsimp only at r0 r1 r2
    go_wp2_with fail
    refine (T.out _).mono ?_
    rintro e w2 ⟨rfl, hb2⟩
    go_wp2_with fail
    refine (S.out _).mono ?_
    rintro e w3 ⟨rfl, hb3⟩
    have hb13 := hb2.trans (hb3.mono hb2.size)
    have HL3 := HL1.keep hb13
    have hbw3 := hbw.trans (hb13.mono hbw.size)
    clear r0 r1 r2 f0 f1 f2 hb2 hb3 hb13
    obtain ⟨⟨r0, r1, r2⟩, f0, f1, f2⟩ := HL3.three
    dsimp only at r0 r1 r2
    go_wp2_with fail
    refine (T.out _).mono ?_
    rintro e w4 ⟨rfl, hb4⟩
    have hk4 := HK.out.keep (hbw3.trans (hb4.mono hbw3.size))
    go_wp2_with fail
    refine (I.out _ hk4).mono ?_
    rintro e w5 ⟨rfl, hb5⟩
    have hb35 := hb4.trans (hb5.mono hb4.size)
    have hbf := hbw3.trans (hb35.mono hbw3.size)
    go_wp2_with fail
    go_ret
    exact ⟨rfl, hbf⟩
  · rw [if_neg hs]
    go_wp2_with fail
    go_ret
    exact ⟨rfl, hbw⟩

theorem toText_own : ownKnob Tryd.prog.godebug = none := by kernel_rfl
theorem toText_laidOut : laidOutB Tryd.prog = true := by kernel_rfl
theorem toText_gType : (Tryd.prog.globals[2]?).map (·.type) = some 109 := by kernel_rfl
theorem toText_c1 : Tryd.prog.cellsOf 84 = 1 := by kernel_rfl
theorem toText_c20 : Tryd.prog.cellsOf 109 = 20 := by kernel_rfl
theorem pow_datum {H : Type} : (Rows.laid_internal_strconv_uint64pow10 : DataW H) = Lib.tabData .u64 Lib.pow10Tab := rfl

/-- What the row's list gives: the table lies in its variable. -/
theorem pow_in {W : World} (h : laidMetH Tryd.prog Rows.fnExactToTextRow.laid W) : PowIn W := by
  have h' : laidMet Tryd.prog [("math/bits.deBruijn32tab", Rows.laid_math_bits_deBruijn32tab), ("math/bits.deBruijn64tab", Rows.laid_math_bits_deBruijn64tab), ("internal/strconv.uint64pow10", Rows.laid_internal_strconv_uint64pow10)] W := h
  obtain ⟨ps, ⟨_, _, _, _, _, _, _, _, _, _, ⟨_, _, _, _, _, _, _, _, _, _, ⟨g, t, cs, fuel, p, q, hg, ht, hv, hd, _, _⟩, _⟩, _⟩, _⟩ := h'
  obtain rfl := Option.some.inj (Tryd.gPow.symm.trans hg)
  obtain rfl := Option.some.inj (toText_gType.symm.trans ht)
  rw [pow_datum] at hd
  unfold PowIn Lib.TabIs
  rw [hv, ← Lib.cells_of_tab Tryd.underlying109 Tryd.underlying84 toText_c1 toText_c20 hd]

set_option maxRecDepth 100000 in
theorem toText_contract (H : Type) (enc : TypeId × Value → H) (W : World) (base : Nat) (args : Array Value) (ds gs : List (DataW H)) (before : List MemPlace)
    (hval : ∀ (j : Nat) t v, Tryd.f4.params[j]? = some t → args[j]? = some v → Value.okWide Tryd.prog W .any base t v)
    (hW : DataW.Whole enc Tryd.prog Tryd.f4.params.toList Rows.fnExactToTextSpec.vars false W args.toList ds gs before) (hL : laidMetH Tryd.prog Rows.fnExactToTextRow.laid W) :
    Calls Tryd.prog 4 args W fun e W' => ∃ v, e = .returned v ∧ Rows.fnExactToTextSpec.post enc Tryd.prog Tryd.f4 false true false false W args v W' := by
  have hW' := hW
  obtain ⟨p, q, hA0, hV, rfl, hfz, hnd⟩ := hW
  have hA : DataW.TrodAll enc Tryd.prog W 0 (fun _ => true) true Tryd.f4.params.toList args.toList ds p := hA0
  rw [Tryd.params4] at hA hval
  obtain ⟨v0, vs0, d0, ds0, p0, q0, hargs, rfl, rfl, h0, r0⟩ := trodAll_cons hA
  obtain ⟨rfl, rfl, rfl⟩ := trodAll_nil r0
  obtain rfl : args = #[v0] := by cases args; simp_all
  have hlt := hA0.lt
  obtain ⟨x, rfl, kx⟩ := open_value (hval 0 23 v0 rfl rfl) h0
  obtain ⟨rfl, rfl⟩ := trodVars_none hV
  clear hA0
  refine (toText_walk x W kx (pow_in hL)).mono fun e W' ⟨he, bel⟩ => ?_
  subst he
  exact ⟨_, rfl, _, _, _, [], p0 ++ [], [], hW', trodAll_mk1 (shut_bool Tryd.underlying4 _), (trodAll_cons_mk (Below.trod toText_laidOut toText_readable toText_row h0 bel (fun x hx => hlt x (by simp [hx]))) trodAll_mk0), rfl, bel.frame _, fun h => by cases h⟩

/-- The cells of a table that is told as plain data. -/
def tabV : DataW Unit → Array Value
  | .agg l => (l.map fun | .lit (.int k z) => Value.int k z | .lit (.string s) => Value.string ⟨s.toArray⟩ | _ => Value.bool false).toArray
  | _ => #[]
def layAt (g : Nat) (cs : Array Value) (w : World) : World :=
  { w with heap := w.heap.modify g fun
      | .cells _ t frozen => .cells cs t frozen
      | o => o }
/-- A world for the witness: the settled one, the tables holding what their initialisers lay. -/
noncomputable def toText_world (os : Os) : World :=
  layAt 5 (tabV Rows.laid_math_bits_deBruijn32tab) (layAt 6 (tabV Rows.laid_math_bits_deBruijn64tab) (layAt 2 (tabV Rows.laid_internal_strconv_uint64pow10) (World.holding Tryd.prog os ⟨#[], #[], []⟩)))
theorem toText_met (os : Os) : laidMet Tryd.prog Rows.fnExactToTextRow.laid ((toText_world os).forCall (fun _ _ => 0) ⟨#[], #[zeroA], []⟩).memory :=
  laidMet_of_run' 8 (by kernel_rfl) (by kernel_rfl)
theorem toText_reads (os : Os) {H : Type} (enc : TypeId × Value → H) : ∃ places, DataW.whole enc Tryd.prog ((toText_world os).forCall (fun _ _ => 0) ⟨#[], #[zeroA], []⟩).memory Tryd.f4.params.toList Rows.fnExactToTextSpec.vars false #[zeroA].toList 8 = some ([.agg [.lit (.int .i64 0), .lit (.int .i64 0), .lit (.string [])]], [], places) :=
  ⟨[], by kernel_rfl⟩

set_option maxRecDepth 100000 in
theorem toText_lifted (os : Os) (started : os.Started) (H : Type) (enc : TypeId × Value → H) (F : Stop.Interp) :
    ReturnsInHanded {} Tryd.checked os 4 .any ((OpenSpec.ofChange Rows.fnExactToTextSpec).preRow enc Tryd.prog Tryd.f4 Rows.fnExactToTextRow.domain false Rows.fnExactToTextRow.laid) (((OpenSpec.ofChange Rows.fnExactToTextSpec).at F).post enc Tryd.prog Tryd.f4 false true false false) := by
  obtain ⟨places, hx⟩ := toText_reads os enc
  refine returnsInHanded_of_row (C := Tryd.checked) (s := OpenSpec.ofChange Rows.fnExactToTextSpec) toText_own started (by kernel_rfl) Tryd.func4
    (witness_row_at (enc := enc) (C := Tryd.checked) false (toText_world os) #[zeroA] rfl (by kernel_rfl) (by kernel_rfl) (by kernel_rfl)
      (OpenSpec.preRow_of_cond 8 hx (by kernel_rfl) (fun k hk => by cases hk) (by kernel_rfl) (toText_met os))) ?_
  intro W base args ds gs before hval hW _ _ _ hL _ _
  exact toText_contract H enc W base args ds gs before hval hW hL

theorem toText_said : Rows.FnExactToTextSaid :=
  OpenClaim.holds_of_cond 4 Tryd.f4 rfl rfl rfl rfl rfl rfl rfl ⟨rfl, rfl, rfl, rfl, rfl⟩ rfl rfl rfl rfl rfl (by kernel_rfl) Tryd.func4 (by kernel_rfl)
    (of_decide_eq_true (by kernel_rfl)) (by unfold Func.isWrapper; first | (rw [if_pos (by decide +kernel)]; kernel_rfl) | (rw [if_neg (by decide +kernel)]; exact ⟨rfl, rfl⟩))
    (fun os started H enc _ F => by rw [OpenClaim.pre_eq_preRow]; exact toText_lifted os started H enc F)

theorem toText_plain (f : FuncId) (fn : Func) (hf : Tryd.pinned.checked.prog.funcNamed "loop.example/g00317/laws.FnExactToText" = some f) (hfn : Tryd.pinned.checked.prog.funcs[f]? = some fn) :
    true = Tryd.pinned.checked.prog.looks [] ∧ ∀ (j : Nat) t, fn.params[j]? = some t → Tryd.pinned.checked.prog.wantsStandIn t = false := by
  obtain rfl : f = 4 := Option.some.inj ((show Tryd.prog.funcNamed "loop.example/g00317/laws.FnExactToText" = some 4 by kernel_rfl).symm.trans hf) |>.symm
  obtain rfl : fn = Tryd.f4 := (Option.some.inj (Tryd.func4.symm.trans hfn)).symm
  refine ⟨by kernel_rfl, fun j t ht => ?_⟩
  rw [Tryd.params4] at ht
  obtain rfl : t = 23 := by simpa using Array.mem_of_getElem? ht
  exact (show Tryd.prog.wantsStandIn 23 = false by kernel_rfl)

theorem toText_holds : Rows.FnExactToTextCardSaid :=
  Claim7.holds_tied_plain_at .later [] _ _ _ _ toText_said (fun _ h => by cases h) (by kernel_rfl) (fun _ h => by cases h) fnExactToText_row_tie rfl ⟨rfl, rfl⟩ (by kernel_rfl) rfl toText_plain (by kernel_rfl)
#print axioms toText_holds
end Go.Proofs.YtoficeamogbbhabDoor

/- For every text that can be handed in, with the package's table of marks laid as the program's own text lays it, the law FnExactTokens returns true: impl.Tokens answers as its model spec.Tokens, field by field, and its answer owns its memory; the text and the table read behind the call as they did. No condition besides. -/
import Derived.Test.YtgdiohnpaldeiaaDoorCards
import Derived.Test.YtgdiohnpaldeiaaDoorTie
import Derived.Test.YtgdiohnpaldeiaaDoorLawF
import Derived.WalkKit
import Derived.ProofKit
import Derived.OpenShut
import Derived.ShutString
import Derived.ChangeOld
import Derived.Below
import Derived.OpenVars
import Derived.Deep.DeepHandedRow
import Derived.Lib.LaidTab
namespace Go.Proofs.YtgdiohnpaldeiaaDoor
open Go.ChangeShapes Go.WideShapes Go.ChangeAt Go.RowKit
open Go.ChangeMaps (open_string shut_string)

theorem tokens_own : ownKnob Tryd.prog.godebug = none := by kernel_rfl
theorem tokens_laidOut : laidOutB Tryd.prog = true := by kernel_rfl
theorem tokens_gTab : Tryd.prog.globalNamed "loop.example/g00317/impl.marks" = some 0 := by kernel_rfl
theorem tokens_gType : (Tryd.prog.globals[0]?).map (·.type) = some 70 := by kernel_rfl
theorem tokens_cellsStr : Tryd.prog.cellsOf 9 = 1 := by kernel_rfl
theorem tokens_varsRowed : varsRowed Tryd.prog ["loop.example/g00317/impl.marks"] = true := by kernel_rfl

theorem marks_datum {H : Type} : (Rows.laid_loop_example_g00317_impl_marks : DataW H) = .agg (Lex.marks.map fun s => .lit (.string s.data.toList)) := rfl

/-- What the row's list gives: the table of marks lies in its block. -/
theorem marks_in {W : World} (h : laidMetH Tryd.prog Rows.fnExactTokensRow.laid W) : MarksIn W := by
  have h' : laidMet Tryd.prog [("loop.example/g00317/impl.marks", Rows.laid_loop_example_g00317_impl_marks)] W := h
  obtain ⟨ps, ⟨g, t, cs, fuel, p, q, hg, ht, hv, hd, _, _⟩, _⟩ := h'
  obtain rfl := Option.some.inj (tokens_gTab.symm.trans hg)
  obtain rfl := Option.some.inj (tokens_gType.symm.trans ht)
  rw [marks_datum] at hd
  obtain ⟨xs, m, rfl, hx, hl, hn, hel⟩ := DataW.trod_array Tryd.underlying70 hd
  simp only [Prod.mk.injEq, DataW.agg.injEq] at hx
  intro j hj
  have hj28 : j < 28 := hj
  rw [World.var?_cell hg hv j]
  have h1 := hel j hj28
  rw [tokens_cellsStr, Nat.mul_one] at h1
  have hjx : j < xs.length := by omega
  rw [List.getElem?_eq_getElem hjx] at h1
  obtain ⟨s, e1, e2, _⟩ := DataW.trod_string Tryd.underlying9 h1
  have e3 : (xs.map (·.1))[j]? = some (.lit (.string s.data.toList)) := by rw [List.getElem?_map, List.getElem?_eq_getElem hjx, e2]; rfl
  rw [← hx.1, List.getElem?_map, List.getElem?_eq_getElem hj] at e3
  simp only [Option.map_some, Option.some.injEq, DataW.lit.injEq, Lit.string.injEq] at e3
  have e4 : Lex.marks[j] = s := bytes_inj e3
  have e5 : cs.toList[j]? = some (.string s) := by
    have e6 := congrArg (fun l : List Value => l[0]?) e1
    simp only [List.getElem?_take, List.getElem?_drop] at e6
    simpa using e6
  have e7 : cs[j]? = some (.string s) := by simpa using e5
  rw [e7]
  exact congrArg (fun x => some (Value.string x)) e4.symm

theorem tokens_contract (H : Type) (enc : TypeId × Value → H) (W : World) (base : Nat) (args : Array Value) (ds gs : List (DataW H)) (before : List MemPlace)
    (hval : ∀ (j : Nat) t v, Tryd.f4.params[j]? = some t → args[j]? = some v → Value.okWide Tryd.prog W .any base t v)
    (hW : DataW.Whole enc Tryd.prog Tryd.f4.params.toList Rows.fnExactTokensSpec.vars false W args.toList ds gs before) (hL : laidMetH Tryd.prog Rows.fnExactTokensRow.laid W) :
    Calls Tryd.prog 4 args W fun e W' => ∃ v, e = .returned v ∧ Rows.fnExactTokensSpec.post enc Tryd.prog Tryd.f4 false true false false W args v W' := by
  have hW' := hW
  obtain ⟨p, q, hA0, hV, rfl, hfz, hnd⟩ := hW
  have hA : DataW.TrodAll enc Tryd.prog W 0 (fun _ => true) true Tryd.f4.params.toList args.toList ds p := hA0
  have hV0 : DataW.TrodVars enc Tryd.prog W (fun _ => true) ["loop.example/g00317/impl.marks"] gs q := hV
  rw [Tryd.params4] at hA hval
  obtain ⟨v0, vs0, d0, ds0, p0, q0, hargs, rfl, rfl, h0, r0⟩ := trodAll_cons hA
  obtain ⟨rfl, rfl, rfl⟩ := trodAll_nil r0
  obtain rfl : args = #[v0] := by cases args; simp_all
  obtain ⟨a0, rfl, rfl, rfl, w0⟩ := open_string Tryd.underlying9 (hval 0 9 v0 rfl rfl) h0
  have hV1 := hV0
  obtain ⟨_, _, _, _, g1, _, rfl, _⟩ := trodVars_one hV1
  clear hA0 hV1
  refine (tokens_walk a0 w0 W (marks_in hL)).mono fun e W' ⟨he, bel⟩ => ?_
  subst he
  exact ⟨_, rfl, _, _, _, [], [], q, hW', trodAll_mk1 (shut_bool Tryd.underlying4 _), (trodAll_cons_mk (shut_string Tryd.underlying9 w0) trodAll_mk0), Below.trodVars tokens_laidOut bel tokens_varsRowed hV0, bel.frame _, fun h => by cases h⟩

/-- A world for the witness: the settled one, the table (block 0) holding what its initialiser lays. -/
noncomputable def tokens_world (os : Os) : World :=
  { World.holding Tryd.prog os ⟨#[], #[], []⟩ with heap := (World.holding Tryd.prog os ⟨#[], #[], []⟩).heap.modify 0 fun
      | .cells _ t frozen => .cells marksV t frozen
      | o => o }
theorem tokens_met (os : Os) : laidMet Tryd.prog Rows.fnExactTokensRow.laid ((tokens_world os).forCall (fun _ _ => 0) ⟨#[], #[.string ByteArray.empty], []⟩).memory :=
  laidMet_of_run' 8 (by kernel_rfl) (by kernel_rfl)
theorem tokens_reads (os : Os) {H : Type} (enc : TypeId × Value → H) : ∃ places, DataW.whole enc Tryd.prog ((tokens_world os).forCall (fun _ _ => 0) ⟨#[], #[.string ByteArray.empty], []⟩).memory Tryd.f4.params.toList Rows.fnExactTokensSpec.vars false #[Value.string ByteArray.empty].toList 8 = some ([.lit (.string [])], [Rows.laid_loop_example_g00317_impl_marks], places) :=
  ⟨MemPlace.row ⟨0, 0, none⟩ 28, by kernel_rfl⟩

set_option maxRecDepth 100000 in
theorem tokens_lifted (os : Os) (started : os.Started) (H : Type) (enc : TypeId × Value → H) (F : Stop.Interp) :
    ReturnsInHanded {} Tryd.checked os 4 .any ((OpenSpec.ofChange Rows.fnExactTokensSpec).preRow enc Tryd.prog Tryd.f4 Rows.fnExactTokensRow.domain false Rows.fnExactTokensRow.laid) (((OpenSpec.ofChange Rows.fnExactTokensSpec).at F).post enc Tryd.prog Tryd.f4 false true false false) := by
  obtain ⟨places, hx⟩ := tokens_reads os enc
  refine returnsInHanded_of_row (C := Tryd.checked) (s := OpenSpec.ofChange Rows.fnExactTokensSpec) tokens_own started (by kernel_rfl) Tryd.func4
    (witness_row_at (enc := enc) (C := Tryd.checked) false (tokens_world os) #[.string ByteArray.empty] rfl (by kernel_rfl) (by kernel_rfl) (by kernel_rfl)
      (OpenSpec.preRow_of_cond 8 hx (by kernel_rfl) (fun k hk => by cases hk) (by kernel_rfl) (tokens_met os))) ?_
  intro W base args ds gs before hval hW _ _ _ hL _ _
  exact tokens_contract H enc W base args ds gs before hval hW hL

theorem tokens_said : Rows.FnExactTokensSaid :=
  OpenClaim.holds_of_cond 4 Tryd.f4 rfl rfl rfl rfl rfl rfl rfl ⟨rfl, rfl, rfl, rfl, rfl⟩ rfl rfl rfl rfl rfl (by kernel_rfl) Tryd.func4 (by kernel_rfl)
    (of_decide_eq_true (by kernel_rfl)) (by unfold Func.isWrapper; first | (rw [if_pos (by decide +kernel)]; kernel_rfl) | (rw [if_neg (by decide +kernel)]; exact ⟨rfl, rfl⟩))
    (fun os started H enc _ F => by rw [OpenClaim.pre_eq_preRow]; exact tokens_lifted os started H enc F)

theorem tokens_plain (f : FuncId) (fn : Func) (hf : Tryd.pinned.checked.prog.funcNamed "loop.example/g00317/laws.FnExactTokens" = some f) (hfn : Tryd.pinned.checked.prog.funcs[f]? = some fn) :
    false = Tryd.pinned.checked.prog.looks [] ∧ ∀ (j : Nat) t, fn.params[j]? = some t → Tryd.pinned.checked.prog.wantsStandIn t = false := by
  obtain rfl : f = 4 := Option.some.inj ((show Tryd.prog.funcNamed "loop.example/g00317/laws.FnExactTokens" = some 4 by kernel_rfl).symm.trans hf) |>.symm
  obtain rfl : fn = Tryd.f4 := (Option.some.inj (Tryd.func4.symm.trans hfn)).symm
  refine ⟨by kernel_rfl, fun j t ht => ?_⟩
  rw [Tryd.params4] at ht
  obtain rfl : t = 9 := by simpa using Array.mem_of_getElem? ht
  exact (show Tryd.prog.wantsStandIn 9 = false by kernel_rfl)

theorem tokens_holds : Rows.FnExactTokensCardSaid :=
  Claim7.holds_tied_plain_at .later [] _ _ _ _ tokens_said (fun _ h => by cases h) (by kernel_rfl) (fun _ h => by cases h) fnExactTokens_row_tie rfl ⟨rfl, rfl⟩ (by kernel_rfl) rfl tokens_plain (by kernel_rfl)
#print axioms tokens_holds
end Go.Proofs.YtgdiohnpaldeiaaDoor

/- For every row of bytes that can be handed in, with the library's tables and the handle of the type error laid as the program's own text lays them, the law FnCompute returns true: Compute answers as its model at what is drawn; sums, differences, quotients and rests of numbers go together. The row of bytes reads behind the call as it did. No condition besides. -/
import Derived.Test.YtoficeamogbbhaaGreatDoorCards
import Derived.Test.YtoficeamogbbhaaGreatDoorTie
import Derived.Test.YtoficeamogbbhaaGreatDoorVCompW
import Derived.ChangeSlices
import Derived.Carry
import Derived.Deep.CutRange
import Derived.BigQuiet
import Derived.BigRegion
import Derived.Deep.RegionWith
import Derived.Deep.QuietTactic
import Derived.LaidHandle
import Derived.LaidSub
import Derived.WalkKit
import Derived.ProofKit
import Derived.OpenShut
import Derived.ShutString
import Derived.ChangeOld
import Derived.Below
import Derived.OpenVars
import Derived.Deep.DeepHandedRow
import Derived.Lib.LaidTab
namespace Go.Proofs.YtoficeamogbbhaaGreatDoor
open Go.ChangeShapes Go.WideShapes Go.ChangeAt Go.RowKit
open Go.ChangeMaps (open_string shut_string)

theorem fnCompute_readable : Tryz.prog.readableRec 22 = true := by kernel_rfl
theorem fnCompute_row : 22 < Tryz.prog.types.size := of_decide_eq_true (by kernel_rfl)

theorem fnCompute_own : ownKnob Tryz.prog.godebug = none := by kernel_rfl
theorem fnCompute_laidOut : laidOutB Tryz.prog = true := by kernel_rfl
theorem fnCompute_gType : (Tryz.prog.globals[2]?).map (·.type) = some 136 := by kernel_rfl
theorem fnCompute_c1 : Tryz.prog.cellsOf 80 = 1 := by kernel_rfl
theorem fnCompute_c20 : Tryz.prog.cellsOf 136 = 20 := by kernel_rfl
theorem pow_datum {H : Type} : (Rows.laid_internal_strconv_uint64pow10 : DataW H) = Lib.tabData .u64 Lib.pow10Tab := rfl

/-- What the row's list gives: the table lies in its variable. -/
theorem pow_in {W : World} (h : laidMetH Tryz.prog Rows.fnComputeRow.laid W) : PowIn W := by
  have h' : laidMet Tryz.prog [("math/bits.deBruijn32tab", Rows.laid_math_bits_deBruijn32tab), ("math/bits.deBruijn64tab", Rows.laid_math_bits_deBruijn64tab), ("internal/strconv.uint64pow10", Rows.laid_internal_strconv_uint64pow10), ("unicode/utf8.acceptRanges", Rows.laid_unicode_utf8_acceptRanges), ("unicode/utf8.first", Rows.laid_unicode_utf8_first)] W := (laidMetH_iff.1 h).1
  obtain ⟨ps, ⟨_, _, _, _, _, _, _, _, _, _, ⟨_, _, _, _, _, _, _, _, _, _, ⟨g, t, cs, fuel, p, q, hg, ht, hv, hd, _, _⟩, _⟩, _⟩, _⟩ := h'
  obtain rfl := Option.some.inj (Tryz.gPow.symm.trans hg)
  obtain rfl := Option.some.inj (fnCompute_gType.symm.trans ht)
  rw [pow_datum] at hd
  unfold PowIn Lib.TabIs
  rw [hv, ← Lib.cells_of_tab Tryz.underlying136 Tryz.underlying80 fnCompute_c1 fnCompute_c20 hd]

theorem fnCompute_et : Tryz.prog.globalNamed "errors.errorType" = some 1 := by kernel_rfl
theorem fnCompute_rt : (Tryz.prog.cutTypes.find? (·.1 == "internal/reflectlite.rtype")).map (·.2) = some 100 := by kernel_rfl
theorem fnCompute_oneRow : ((List.range 186).filter fun t => Tryz.prog.rowNamed t [101, 114, 114, 111, 114]) = [45] := by kernel_rfl
theorem fnCompute_size : Tryz.prog.types.size = 186 := by kernel_rfl
theorem fnCompute_handle : typeHandle Tryz.prog 45 = .pointer (some ⟨8, 45, none⟩) := by kernel_rfl

/-- What the row's list gives: the handle of the type error lies in its variable. -/
theorem err_in {W : World} (h : laidMetH Tryz.prog Rows.fnComputeRow.laid W) : ErrIn W := by
  have h2 := (laidMetH_iff.1 h).2
  obtain ⟨name, u, ty, e1, e2, e3, e4, e5⟩ := h2 ("errors.errorType", Rows.laid_errors_errorType) (List.mem_filter.2 ⟨by simp [Rows.fnComputeRow], by rfl⟩)
  have en : name = [101, 114, 114, 111, 114] := (Option.some.inj e1).symm
  subst en
  obtain rfl := Option.some.inj (fnCompute_rt.symm.trans e2)
  have hm : ty ∈ (List.range 186).filter fun t => Tryz.prog.rowNamed t [101, 114, 114, 111, 114] := List.mem_filter.2 ⟨List.mem_range.2 (by rw [← fnCompute_size]; exact e3), e4⟩
  rw [fnCompute_oneRow] at hm
  obtain rfl := List.mem_singleton.1 hm
  rw [fnCompute_handle] at e5
  unfold ErrIn
  simpa using World.var?_cell fnCompute_et e5 0

theorem fnCompute_cellsByte : Tryz.prog.cellsOf 5 = 1 := by kernel_rfl
theorem addr_at (b o j : Nat) : (⟨b, o, none⟩ : Addr).add j = ⟨b, o + j, none⟩ := by unfold Addr.add; split <;> simp_all

set_option maxRecDepth 100000 in
/-- A row of bytes that came in, opened. -/
theorem open_bytes {H : Type} {enc : TypeId × Value → H} {W : World} {base : Nat} {v : Value} {d : DataW H} {p : List MemPlace} (hv : Value.okWide Tryz.prog W .any base 22 v) (h : DataW.Trod enc Tryz.prog W 0 (fun _ => true) true 22 v d p) :
    ∃ a len cap cs, v = .slice a len cap ∧ List.length cs = len ∧ BytesIn W a cs := by
  obtain ⟨a0, len, cap, rfl⟩ := okWide_slice Tryz.underlying22 hv
  obtain ⟨fuel, hf⟩ := h
  rcases Go.ChangeShapes.open_ints Tryz.underlying22 Tryz.underlying5 fnCompute_cellsByte hf with ⟨hcs, _⟩ | ⟨a, len', cap', zs, hcs, _, hl, _, hz, _, hcell, hwz⟩
  · have e : Value.slice a0 len cap = .slice none 0 0 := by simpa [Value.cells] using hcs
    simp only [Value.slice.injEq] at e
    obtain ⟨rfl, rfl, rfl⟩ := e
    exact ⟨none, 0, 0, [], rfl, rfl, .inl rfl⟩
  · have e : Value.slice a0 len cap = .slice (some a) len' cap' := by simpa [Value.cells] using hcs
    simp only [Value.slice.injEq] at e
    obtain ⟨rfl, rfl, rfl⟩ := e
    have hzl : len ≤ zs.length := by rw [hz]; simp; exact hl
    refine ⟨some a, len, cap, (List.range len).map (fun i => UInt8.ofNat (zs.getD i 0).toNat), rfl, by simp, ?_⟩
    by_cases h0 : len = 0
    · left; simp [h0]
    · right
      have c0 := hcell 0 (by omega)
      have hsp : a = ⟨a.block, a.off, none⟩ := by
        have h1 : W.cell? a = some (.int .u8 (zs.getD 0 0)) := by simpa [Addr.add] using c0
        have := World.cell?_spot h1
        cases a; simp_all
      refine ⟨a.block, a.off, by rw [← hsp], fun i hi => ?_⟩
      have hi' : i < len := by simpa using hi
      have ci := hcell i (by omega)
      have ea : a.add i = ⟨a.block, a.off + i, none⟩ := by
        rw [hsp]; exact addr_at _ _ _
      rw [ea] at ci
      rw [ci]
      have hw : (Lit.int .u8 (zs.getD i 0)).wf = true := by
        have : zs.getD i 0 ∈ zs := by
          rw [List.getD_eq_getElem?_getD, List.getElem?_eq_getElem (by omega)]
          exact List.getElem_mem _
        exact hwz _ this
      have hb : 0 ≤ zs.getD i 0 ∧ zs.getD i 0 < 256 := by
        generalize zs.getD i 0 = z at hw ⊢
        have h1 : IntKind.u8.min = 0 := rfl
        have h2 : IntKind.u8.max = 255 := rfl
        simp only [Lit.wf, h1, h2, Bool.and_eq_true, decide_eq_true_eq] at hw
        omega
      congr 2
      simp only [List.getElem_map, List.getElem_range, UInt8.toNat_ofNat']
      omega

set_option maxRecDepth 100000 in
theorem fnCompute_contract (H : Type) (enc : TypeId × Value → H) (W : World) (base : Nat) (args : Array Value) (ds gs : List (DataW H)) (before : List MemPlace)
    (hval : ∀ (j : Nat) t v, Tryz.f4.params[j]? = some t → args[j]? = some v → Value.okWide Tryz.prog W .any base t v)
    (hW : DataW.Whole enc Tryz.prog Tryz.f4.params.toList Rows.fnComputeSpec.vars false W args.toList ds gs before) (hL : laidMetH Tryz.prog Rows.fnComputeRow.laid W) :
    Calls Tryz.prog 4 args W fun e W' => ∃ v, e = .returned v ∧ Rows.fnComputeSpec.post enc Tryz.prog Tryz.f4 false true false false W args v W' := by
  have hW' := hW
  obtain ⟨p, q, hA0, hV, rfl, hfz, hnd⟩ := hW
  have hA : DataW.TrodAll enc Tryz.prog W 0 (fun _ => true) true Tryz.f4.params.toList args.toList ds p := hA0
  rw [Tryz.params4] at hA hval
  obtain ⟨v0, vs0, d0, ds0, p0, q0, hargs, rfl, rfl, h0, r0⟩ := trodAll_cons hA
  obtain ⟨rfl, rfl, rfl⟩ := trodAll_nil r0
  obtain rfl : args = #[v0] := by cases args; simp_all
  have hlt := hA0.lt
  obtain ⟨a0, len, cap, cs, rfl, hlen, hbytes⟩ := open_bytes (hval 0 22 v0 rfl rfl) h0
  obtain ⟨rfl, rfl⟩ := trodVars_none hV
  clear hA0
  refine (fnCompute_walk a0 len cap cs W hlen hbytes (pow_in hL) (err_in hL)).mono fun e W' ⟨he, bel⟩ => ?_
  subst he
  exact ⟨_, rfl, _, _, _, [], p0 ++ [], [], hW', trodAll_mk1 (shut_bool Tryz.underlying4 _), (trodAll_cons_mk (Below.trod fnCompute_laidOut fnCompute_readable fnCompute_row h0 bel (fun x hx => hlt x (by simp [hx]))) trodAll_mk0), rfl, bel.frame _, fun h => by cases h⟩

/-- The cells of a table that is told as plain data. -/
def tabV : DataW Unit → Array Value
  | .agg l => (l.map fun | .lit (.int k z) => Value.int k z | .lit (.string s) => Value.string ⟨s.toArray⟩ | _ => Value.bool false).toArray
  | _ => #[]
/-- The cells of a table of rows of two. -/
def tabW : DataW Unit → Array Value
  | .agg l => (l.flatMap fun x => (tabV x).toList).toArray
  | _ => #[]
def layAt (g : Nat) (cs : Array Value) (w : World) : World :=
  { w with heap := w.heap.modify g fun
      | .cells _ t frozen => .cells cs t frozen
      | o => o }
/-- A world for the witness: the settled one, the tables and the handle holding what their initialisers lay. -/
noncomputable def fnCompute_world (os : Os) : World :=
  layAt 4 (tabV Rows.laid_math_bits_deBruijn32tab) (layAt 5 (tabV Rows.laid_math_bits_deBruijn64tab) (layAt 2 (tabV Rows.laid_internal_strconv_uint64pow10) (layAt 7 (tabW Rows.laid_unicode_utf8_acceptRanges) (layAt 6 (tabV Rows.laid_unicode_utf8_first) (layAt 1 #[.iface 100 (.agg #[.pointer (some ⟨8, 45, none⟩)])] (World.holding Tryz.prog os ⟨#[], #[], []⟩))))))
theorem fnCompute_met (os : Os) : laidMetH Tryz.prog Rows.fnComputeRow.laid ((fnCompute_world os).forCall (fun _ _ => 0) ⟨#[], #[Value.slice none 0 0], []⟩).memory :=
  laidMetH_of_parts (laidMet_of_run' 8 (by kernel_rfl) (by kernel_rfl)) (by kernel_rfl)
theorem fnCompute_reads (os : Os) {H : Type} (enc : TypeId × Value → H) : ∃ places, DataW.whole enc Tryz.prog ((fnCompute_world os).forCall (fun _ _ => 0) ⟨#[], #[Value.slice none 0 0], []⟩).memory Tryz.f4.params.toList Rows.fnComputeSpec.vars false #[Value.slice none 0 0].toList 8 = some ([.nil], [], places) :=
  ⟨[], by kernel_rfl⟩

set_option maxRecDepth 100000 in
theorem fnCompute_lifted (os : Os) (started : os.Started) (H : Type) (enc : TypeId × Value → H) (F : Stop.Interp) :
    ReturnsInHanded {} Tryz.checked os 4 .any ((OpenSpec.ofChange Rows.fnComputeSpec).preRow enc Tryz.prog Tryz.f4 Rows.fnComputeRow.domain false Rows.fnComputeRow.laid) (((OpenSpec.ofChange Rows.fnComputeSpec).at F).post enc Tryz.prog Tryz.f4 false true false false) := by
  obtain ⟨places, hx⟩ := fnCompute_reads os enc
  refine returnsInHanded_of_row (C := Tryz.checked) (s := OpenSpec.ofChange Rows.fnComputeSpec) fnCompute_own started (by kernel_rfl) Tryz.func4
    (witness_row_at (enc := enc) (C := Tryz.checked) false (fnCompute_world os) #[Value.slice none 0 0] rfl (by kernel_rfl) (by kernel_rfl) (by kernel_rfl)
      (OpenSpec.preRow_of_cond 8 hx (by kernel_rfl) (fun k hk => by cases hk) (by kernel_rfl) (fnCompute_met os))) ?_
  intro W base args ds gs before hval hW _ _ _ hL _ _
  exact fnCompute_contract H enc W base args ds gs before hval hW hL

theorem fnCompute_said : Rows.FnComputeSaid :=
  OpenClaim.holds_of_cond 4 Tryz.f4 rfl rfl rfl rfl rfl rfl rfl ⟨rfl, rfl, rfl, rfl, rfl⟩ rfl rfl rfl rfl rfl (by kernel_rfl) Tryz.func4 (by kernel_rfl)
    (of_decide_eq_true (by kernel_rfl)) (by unfold Func.isWrapper; first | (rw [if_pos (by decide +kernel)]; kernel_rfl) | (rw [if_neg (by decide +kernel)]; exact ⟨rfl, rfl⟩))
    (fun os started H enc _ F => by rw [OpenClaim.pre_eq_preRow]; exact fnCompute_lifted os started H enc F)

theorem fnCompute_plain (f : FuncId) (fn : Func) (hf : Tryz.pinned.checked.prog.funcNamed "loop.example/g00317/laws.FnCompute" = some f) (hfn : Tryz.pinned.checked.prog.funcs[f]? = some fn) :
    true = Tryz.pinned.checked.prog.looks [] ∧ ∀ (j : Nat) t, fn.params[j]? = some t → Tryz.pinned.checked.prog.wantsStandIn t = false := by
  obtain rfl : f = 4 := Option.some.inj ((show Tryz.prog.funcNamed "loop.example/g00317/laws.FnCompute" = some 4 by kernel_rfl).symm.trans hf) |>.symm
  obtain rfl : fn = Tryz.f4 := (Option.some.inj (Tryz.func4.symm.trans hfn)).symm
  refine ⟨by kernel_rfl, fun j t ht => ?_⟩
  rw [Tryz.params4] at ht
  obtain rfl : t = 22 := by simpa using Array.mem_of_getElem? ht
  exact (show Tryz.prog.wantsStandIn 22 = false by kernel_rfl)

theorem fnCompute_holds : Rows.FnComputeCardSaid :=
  Claim7.holds_tied_plain_at .later [] _ _ _ _ fnCompute_said (fun _ h => by cases h) (by kernel_rfl) (fun _ h => by cases h) fnCompute_row_tie rfl ⟨rfl, rfl⟩ (by kernel_rfl) rfl fnCompute_plain (by kernel_rfl)
#print axioms fnCompute_holds
end Go.Proofs.YtoficeamogbbhaaGreatDoor

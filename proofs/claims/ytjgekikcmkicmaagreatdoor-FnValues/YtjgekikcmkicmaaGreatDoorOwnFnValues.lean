/- For every two rows of bytes that can be handed in, with the library's tables, the handle of the type error and the package's table of names laid as the program's own text lays them, the law FnValues returns true: at what is drawn the program's functions of values answer as their models; values are alike, and equal, either way round, not both less, what is alike is equal, and a number of at most fifteen digits is read back from its text. The rows of bytes and the table read behind the call as they did. No condition besides. -/
import Derived.Test.YtjgekikcmkicmaaGreatDoorCards
import Derived.Test.YtjgekikcmkicmaaGreatDoorTie
import Derived.Test.YtjgekikcmkicmaaGreatDoorVValW
import Derived.ChangeSlices
import Derived.Carry
import Derived.Deep.CutRange
import Derived.BigQuiet
import Derived.BigRegion
import Derived.Deep.RegionWith
import Derived.Deep.QuietTactic
import Derived.LaidHandle
import Derived.LaidSub
import Derived.WalkKit
import Derived.ProofKit
import Derived.OpenShut
import Derived.ShutString
import Derived.ChangeOld
import Derived.Below
import Derived.OpenVars
import Derived.Deep.DeepHandedRow
import Derived.Lib.LaidTab
namespace Go.Proofs.YtjgekikcmkicmaaGreatDoor
open Go.ChangeShapes Go.WideShapes Go.ChangeAt Go.RowKit
open Go.ChangeMaps (open_string shut_string)

theorem fnValues_readable : Tryz.prog.readableRec 22 = true := by kernel_rfl
theorem fnValues_row : 22 < Tryz.prog.types.size := of_decide_eq_true (by kernel_rfl)

theorem fnValues_own : ownKnob Tryz.prog.godebug = none := by kernel_rfl
theorem fnValues_laidOut : laidOutB Tryz.prog = true := by kernel_rfl
theorem fnValues_gType : (Tryz.prog.globals[2]?).map (·.type) = some 245 := by kernel_rfl
theorem fnValues_c1 : Tryz.prog.cellsOf 117 = 1 := by kernel_rfl
theorem fnValues_c20 : Tryz.prog.cellsOf 245 = 20 := by kernel_rfl
theorem pow_datum {H : Type} : (Rows.laid_internal_strconv_uint64pow10 : DataW H) = Lib.tabData .u64 Lib.pow10Tab := rfl

/-- What the row's list gives: the table lies in its variable. -/
theorem pow_in {W : World} (h : laidMetH Tryz.prog Rows.fnValuesRow.laid W) : PowIn W := by
  have h' : laidMet Tryz.prog [("math/bits.deBruijn32tab", Rows.laid_math_bits_deBruijn32tab), ("math/bits.deBruijn64tab", Rows.laid_math_bits_deBruijn64tab), ("internal/strconv.uint64pow10", Rows.laid_internal_strconv_uint64pow10), ("unicode/utf8.acceptRanges", Rows.laid_unicode_utf8_acceptRanges), ("loop.example/g00317/impl.kindNames", Rows.laid_loop_example_g00317_impl_kindNames), ("unicode/utf8.first", Rows.laid_unicode_utf8_first)] W := (laidMetH_iff.1 h).1
  obtain ⟨ps, ⟨_, _, _, _, _, _, _, _, _, _, ⟨_, _, _, _, _, _, _, _, _, _, ⟨g, t, cs, fuel, p, q, hg, ht, hv, hd, _, _⟩, _⟩, _⟩, _⟩ := h'
  obtain rfl := Option.some.inj (Tryz.gPow.symm.trans hg)
  obtain rfl := Option.some.inj (fnValues_gType.symm.trans ht)
  rw [pow_datum] at hd
  unfold PowIn Lib.TabIs
  rw [hv, ← Lib.cells_of_tab Tryz.underlying245 Tryz.underlying117 fnValues_c1 fnValues_c20 hd]

theorem fnValues_et : Tryz.prog.globalNamed "errors.errorType" = some 1 := by kernel_rfl
theorem fnValues_rt : (Tryz.prog.cutTypes.find? (·.1 == "internal/reflectlite.rtype")).map (·.2) = some 180 := by kernel_rfl
theorem fnValues_oneRow : ((List.range 346).filter fun t => Tryz.prog.rowNamed t [101, 114, 114, 111, 114]) = [59] := by kernel_rfl
theorem fnValues_size : Tryz.prog.types.size = 346 := by kernel_rfl
theorem fnValues_handle : typeHandle Tryz.prog 59 = .pointer (some ⟨9, 59, none⟩) := by kernel_rfl

/-- What the row's list gives: the handle of the type error lies in its variable. -/
theorem err_in {W : World} (h : laidMetH Tryz.prog Rows.fnValuesRow.laid W) : ErrIn W := by
  have h2 := (laidMetH_iff.1 h).2
  obtain ⟨name, u, ty, e1, e2, e3, e4, e5⟩ := h2 ("errors.errorType", Rows.laid_errors_errorType) (List.mem_filter.2 ⟨by simp [Rows.fnValuesRow], by rfl⟩)
  have en : name = [101, 114, 114, 111, 114] := (Option.some.inj e1).symm
  subst en
  obtain rfl := Option.some.inj (fnValues_rt.symm.trans e2)
  have hm : ty ∈ (List.range 346).filter fun t => Tryz.prog.rowNamed t [101, 114, 114, 111, 114] := List.mem_filter.2 ⟨List.mem_range.2 (by rw [← fnValues_size]; exact e3), e4⟩
  rw [fnValues_oneRow] at hm
  obtain rfl := List.mem_singleton.1 hm
  rw [fnValues_handle] at e5
  unfold ErrIn
  simpa using World.var?_cell fnValues_et e5 0

def kindsV : Array Value := (Val.kinds.map Value.string).toArray
theorem bytes_inj {a b : ByteArray} (h : a.data.toList = b.data.toList) : a = b := ByteArray.ext (Array.toList_inj.1 h)
theorem fnValues_gTab : Tryz.prog.globalNamed "loop.example/g00317/impl.kindNames" = some 0 := by kernel_rfl
theorem fnValues_kType : (Tryz.prog.globals[0]?).map (·.type) = some 74 := by kernel_rfl
theorem fnValues_cellsStr : Tryz.prog.cellsOf 9 = 1 := by kernel_rfl
theorem fnValues_varsRowed : varsRowed Tryz.prog ["loop.example/g00317/impl.kindNames"] = true := by kernel_rfl

theorem kinds_datum {H : Type} : (Rows.laid_loop_example_g00317_impl_kindNames : DataW H) = .agg (Val.kinds.map fun s => .lit (.string s.data.toList)) := rfl

theorem kinds_in {W : World} (h : laidMetH Tryz.prog Rows.fnValuesRow.laid W) : KindsIn W := by
  have h' : laidMet Tryz.prog [("math/bits.deBruijn32tab", Rows.laid_math_bits_deBruijn32tab), ("math/bits.deBruijn64tab", Rows.laid_math_bits_deBruijn64tab), ("internal/strconv.uint64pow10", Rows.laid_internal_strconv_uint64pow10), ("unicode/utf8.acceptRanges", Rows.laid_unicode_utf8_acceptRanges), ("loop.example/g00317/impl.kindNames", Rows.laid_loop_example_g00317_impl_kindNames), ("unicode/utf8.first", Rows.laid_unicode_utf8_first)] W := (laidMetH_iff.1 h).1
  obtain ⟨ps, ⟨_, _, _, _, _, _, _, _, _, _, ⟨_, _, _, _, _, _, _, _, _, _, ⟨_, _, _, _, _, _, _, _, _, _, ⟨_, _, _, _, _, _, _, _, _, _, ⟨g, t, cs, fuel, p, q, hg, ht, hv, hd, _, _⟩, _⟩, _⟩, _⟩, _⟩, _⟩ := h'
  obtain rfl := Option.some.inj (fnValues_gTab.symm.trans hg)
  obtain rfl := Option.some.inj (fnValues_kType.symm.trans ht)
  rw [kinds_datum] at hd
  obtain ⟨xs, m, rfl, hx, hl, hn, hel⟩ := DataW.trod_array Tryz.underlying74 hd
  simp only [Prod.mk.injEq, DataW.agg.injEq] at hx
  intro j hj
  have hj28 : j < 7 := hj
  rw [World.var?_cell hg hv j]
  have h1 := hel j hj28
  rw [fnValues_cellsStr, Nat.mul_one] at h1
  have hjx : j < xs.length := by omega
  rw [List.getElem?_eq_getElem hjx] at h1
  obtain ⟨s, e1, e2, _⟩ := DataW.trod_string Tryz.underlying9 h1
  have e3 : (xs.map (·.1))[j]? = some (.lit (.string s.data.toList)) := by rw [List.getElem?_map, List.getElem?_eq_getElem hjx, e2]; rfl
  rw [← hx.1, List.getElem?_map, List.getElem?_eq_getElem hj] at e3
  simp only [Option.map_some, Option.some.injEq, DataW.lit.injEq, Lit.string.injEq] at e3
  have e4 : Val.kinds[j] = s := bytes_inj e3
  have e5 : cs.toList[j]? = some (.string s) := by
    have e6 := congrArg (fun l : List Value => l[0]?) e1
    simp only [List.getElem?_take, List.getElem?_drop] at e6
    simpa using e6
  have e7 : cs[j]? = some (.string s) := by simpa using e5
  rw [e7]
  exact congrArg (fun x => some (Value.string x)) e4.symm

theorem fnValues_cellsByte : Tryz.prog.cellsOf 5 = 1 := by kernel_rfl
theorem addr_at (b o j : Nat) : (⟨b, o, none⟩ : Addr).add j = ⟨b, o + j, none⟩ := by unfold Addr.add; split <;> simp_all

set_option maxRecDepth 100000 in
/-- A row of bytes that came in, opened. -/
theorem open_bytes {H : Type} {enc : TypeId × Value → H} {W : World} {base : Nat} {v : Value} {d : DataW H} {p : List MemPlace} (hv : Value.okWide Tryz.prog W .any base 22 v) (h : DataW.Trod enc Tryz.prog W 0 (fun _ => true) true 22 v d p) :
    ∃ a len cap cs, v = .slice a len cap ∧ List.length cs = len ∧ BytesIn W a cs := by
  obtain ⟨a0, len, cap, rfl⟩ := okWide_slice Tryz.underlying22 hv
  obtain ⟨fuel, hf⟩ := h
  rcases Go.ChangeShapes.open_ints Tryz.underlying22 Tryz.underlying5 fnValues_cellsByte hf with ⟨hcs, _⟩ | ⟨a, len', cap', zs, hcs, _, hl, _, hz, _, hcell, hwz⟩
  · have e : Value.slice a0 len cap = .slice none 0 0 := by simpa [Value.cells] using hcs
    simp only [Value.slice.injEq] at e
    obtain ⟨rfl, rfl, rfl⟩ := e
    exact ⟨none, 0, 0, [], rfl, rfl, .inl rfl⟩
  · have e : Value.slice a0 len cap = .slice (some a) len' cap' := by simpa [Value.cells] using hcs
    simp only [Value.slice.injEq] at e
    obtain ⟨rfl, rfl, rfl⟩ := e
    have hzl : len ≤ zs.length := by rw [hz]; simp; exact hl
    refine ⟨some a, len, cap, (List.range len).map (fun i => UInt8.ofNat (zs.getD i 0).toNat), rfl, by simp, ?_⟩
    by_cases h0 : len = 0
    · left; simp [h0]
    · right
      have c0 := hcell 0 (by omega)
      have hsp : a = ⟨a.block, a.off, none⟩ := by
        have h1 : W.cell? a = some (.int .u8 (zs.getD 0 0)) := by simpa [Addr.add] using c0
        have := World.cell?_spot h1
        cases a; simp_all
      refine ⟨a.block, a.off, by rw [← hsp], fun i hi => ?_⟩
      have hi' : i < len := by simpa using hi
      have ci := hcell i (by omega)
      have ea : a.add i = ⟨a.block, a.off + i, none⟩ := by
        rw [hsp]; exact addr_at _ _ _
      rw [ea] at ci
      rw [ci]
      have hw : (Lit.int .u8 (zs.getD i 0)).wf = true := by
        have : zs.getD i 0 ∈ zs := by
          rw [List.getD_eq_getElem?_getD, List.getElem?_eq_getElem (by omega)]
          exact List.getElem_mem _
        exact hwz _ this
      have hb : 0 ≤ zs.getD i 0 ∧ zs.getD i 0 < 256 := by
        generalize zs.getD i 0 = z at hw ⊢
        have h1 : IntKind.u8.min = 0 := rfl
        have h2 : IntKind.u8.max = 255 := rfl
        simp only [Lit.wf, h1, h2, Bool.and_eq_true, decide_eq_true_eq] at hw
        omega
      congr 2
      simp only [List.getElem_map, List.getElem_range, UInt8.toNat_ofNat']
      omega

set_option maxRecDepth 100000 in
theorem fnValues_contract (H : Type) (enc : TypeId × Value → H) (W : World) (base : Nat) (args : Array Value) (ds gs : List (DataW H)) (before : List MemPlace)
    (hval : ∀ (j : Nat) t v, Tryz.f3.params[j]? = some t → args[j]? = some v → Value.okWide Tryz.prog W .any base t v)
    (hW : DataW.Whole enc Tryz.prog Tryz.f3.params.toList Rows.fnValuesSpec.vars false W args.toList ds gs before) (hL : laidMetH Tryz.prog Rows.fnValuesRow.laid W) :
    Calls Tryz.prog 3 args W fun e W' => ∃ v, e = .returned v ∧ Rows.fnValuesSpec.post enc Tryz.prog Tryz.f3 false true false false W args v W' := by
  have hW' := hW
  obtain ⟨p, q, hA0, hV, rfl, hfz, hnd⟩ := hW
  have hA : DataW.TrodAll enc Tryz.prog W 0 (fun _ => true) true Tryz.f3.params.toList args.toList ds p := hA0
  rw [Tryz.params3] at hA hval
  have hV0 : DataW.TrodVars enc Tryz.prog W (fun _ => true) ["loop.example/g00317/impl.kindNames"] gs q := hV
  obtain ⟨v0, vs0, d0, ds0, p0, q0, hargs, rfl, rfl, h0, r0⟩ := trodAll_cons hA
  obtain ⟨v1, vs1, d1, ds1, p1, q1, rfl, rfl, rfl, h1, r1⟩ := trodAll_cons r0
  obtain ⟨rfl, rfl, rfl⟩ := trodAll_nil r1
  obtain rfl : args = #[v0, v1] := by cases args; simp_all
  have hlt := hA0.lt
  obtain ⟨a1, len1, cap1, cs1, rfl, l1, b1⟩ := open_bytes (hval 0 22 v0 rfl rfl) h0
  obtain ⟨a2, len2, cap2, cs2, rfl, l2, b2⟩ := open_bytes (hval 1 22 v1 rfl rfl) h1
  have hV1 := hV0
  obtain ⟨_, _, _, _, g1, _, rfl, _⟩ := trodVars_one hV1
  clear hA0 hV1
  refine (fnValues_walk a1 a2 len1 cap1 len2 cap2 cs1 cs2 W l1 l2 b1 b2 (pow_in hL) (err_in hL) (kinds_in hL)).mono fun e W' ⟨he, bel⟩ => ?_
  subst he
  exact ⟨_, rfl, _, _, _, [], p0 ++ (p1 ++ []), q, hW', trodAll_mk1 (shut_bool Tryz.underlying4 _), (trodAll_cons_mk (Below.trod fnValues_laidOut fnValues_readable fnValues_row h0 bel (fun x hx => hlt x (by simp [hx]))) (trodAll_cons_mk (Below.trod fnValues_laidOut fnValues_readable fnValues_row h1 bel (fun x hx => hlt x (by simp [hx]))) trodAll_mk0)), Below.trodVars fnValues_laidOut bel fnValues_varsRowed hV0, bel.frame _, fun h => by cases h⟩

/-- The cells of a table that is told as plain data. -/
def tabV : DataW Unit → Array Value
  | .agg l => (l.map fun | .lit (.int k z) => Value.int k z | .lit (.string s) => Value.string ⟨s.toArray⟩ | _ => Value.bool false).toArray
  | _ => #[]
/-- The cells of a table of rows of two. -/
def tabW : DataW Unit → Array Value
  | .agg l => (l.flatMap fun x => (tabV x).toList).toArray
  | _ => #[]
def layAt (g : Nat) (cs : Array Value) (w : World) : World :=
  { w with heap := w.heap.modify g fun
      | .cells _ t frozen => .cells cs t frozen
      | o => o }
/-- A world for the witness: the settled one, the tables and the handle holding what their initialisers lay. -/
noncomputable def fnValues_world (os : Os) : World :=
  layAt 0 kindsV (layAt 5 (tabV Rows.laid_math_bits_deBruijn32tab) (layAt 6 (tabV Rows.laid_math_bits_deBruijn64tab) (layAt 2 (tabV Rows.laid_internal_strconv_uint64pow10) (layAt 8 (tabW Rows.laid_unicode_utf8_acceptRanges) (layAt 7 (tabV Rows.laid_unicode_utf8_first) (layAt 1 #[.iface 180 (.agg #[.pointer (some ⟨9, 59, none⟩)])] (World.holding Tryz.prog os ⟨#[], #[], []⟩)))))))
theorem fnValues_met (os : Os) : laidMetH Tryz.prog Rows.fnValuesRow.laid ((fnValues_world os).forCall (fun _ _ => 0) ⟨#[], #[Value.slice none 0 0, Value.slice none 0 0], []⟩).memory :=
  laidMetH_of_parts (laidMet_of_run' 8 (by kernel_rfl) (by kernel_rfl)) (by kernel_rfl)
theorem fnValues_reads (os : Os) {H : Type} (enc : TypeId × Value → H) : ∃ places, DataW.whole enc Tryz.prog ((fnValues_world os).forCall (fun _ _ => 0) ⟨#[], #[Value.slice none 0 0, Value.slice none 0 0], []⟩).memory Tryz.f3.params.toList Rows.fnValuesSpec.vars false #[Value.slice none 0 0, Value.slice none 0 0].toList 8 = some ([.nil, .nil], [Rows.laid_loop_example_g00317_impl_kindNames], places) :=
  ⟨MemPlace.row ⟨0, 0, none⟩ 7, by kernel_rfl⟩

set_option maxRecDepth 100000 in
theorem fnValues_lifted (os : Os) (started : os.Started) (H : Type) (enc : TypeId × Value → H) (F : Stop.Interp) :
    ReturnsInHanded {} Tryz.checked os 3 .any ((OpenSpec.ofChange Rows.fnValuesSpec).preRow enc Tryz.prog Tryz.f3 Rows.fnValuesRow.domain false Rows.fnValuesRow.laid) (((OpenSpec.ofChange Rows.fnValuesSpec).at F).post enc Tryz.prog Tryz.f3 false true false false) := by
  obtain ⟨places, hx⟩ := fnValues_reads os enc
  refine returnsInHanded_of_row (C := Tryz.checked) (s := OpenSpec.ofChange Rows.fnValuesSpec) fnValues_own started (by kernel_rfl) Tryz.func3
    (witness_row_at (enc := enc) (C := Tryz.checked) false (fnValues_world os) #[Value.slice none 0 0, Value.slice none 0 0] rfl (by kernel_rfl) (by kernel_rfl) (by kernel_rfl)
      (OpenSpec.preRow_of_cond 8 hx (by kernel_rfl) (fun k hk => by cases hk) (by kernel_rfl) (fnValues_met os))) ?_
  intro W base args ds gs before hval hW _ _ _ hL _ _
  exact fnValues_contract H enc W base args ds gs before hval hW hL

theorem fnValues_said : Rows.FnValuesSaid :=
  OpenClaim.holds_of_cond 3 Tryz.f3 rfl rfl rfl rfl rfl rfl rfl ⟨rfl, rfl, rfl, rfl, rfl⟩ rfl rfl rfl rfl rfl (by kernel_rfl) Tryz.func3 (by kernel_rfl)
    (of_decide_eq_true (by kernel_rfl)) (by unfold Func.isWrapper; first | (rw [if_pos (by decide +kernel)]; kernel_rfl) | (rw [if_neg (by decide +kernel)]; exact ⟨rfl, rfl⟩))
    (fun os started H enc _ F => by rw [OpenClaim.pre_eq_preRow]; exact fnValues_lifted os started H enc F)

theorem fnValues_plain (f : FuncId) (fn : Func) (hf : Tryz.pinned.checked.prog.funcNamed "loop.example/g00317/laws.FnValues" = some f) (hfn : Tryz.pinned.checked.prog.funcs[f]? = some fn) :
    true = Tryz.pinned.checked.prog.looks [] ∧ ∀ (j : Nat) t, fn.params[j]? = some t → Tryz.pinned.checked.prog.wantsStandIn t = false := by
  obtain rfl : f = 3 := Option.some.inj ((show Tryz.prog.funcNamed "loop.example/g00317/laws.FnValues" = some 3 by kernel_rfl).symm.trans hf) |>.symm
  obtain rfl : fn = Tryz.f3 := (Option.some.inj (Tryz.func3.symm.trans hfn)).symm
  refine ⟨by kernel_rfl, fun j t ht => ?_⟩
  rw [Tryz.params3] at ht
  obtain rfl : t = 22 := by simpa using Array.mem_of_getElem? ht
  exact (show Tryz.prog.wantsStandIn 22 = false by kernel_rfl)

theorem fnValues_holds : Rows.FnValuesCardSaid :=
  Claim7.holds_tied_plain_at .later [] _ _ _ _ fnValues_said (fun _ h => by cases h) (by kernel_rfl) (fun _ h => by cases h) fnValues_row_tie rfl ⟨rfl, rfl⟩ (by kernel_rfl) rfl fnValues_plain (by kernel_rfl)
#print axioms fnValues_holds
end Go.Proofs.YtjgekikcmkicmaaGreatDoor

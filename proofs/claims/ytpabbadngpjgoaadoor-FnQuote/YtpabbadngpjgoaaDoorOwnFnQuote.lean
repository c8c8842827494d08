/- For every two rows of bytes that can be handed in, with the package's table of marks laid as the program's own text lays it, the law FnQuote returns true: a drawn text that is quoted is one token of it; the tokens of a drawn text are the model's, in their order; what is ahead of it moves them, and changes the first one's Line alone. The rows of bytes and the table read behind the call as they did. No condition besides. -/
import Derived.Test.YtpabbadngpjgoaaDoorCards
import Derived.Test.YtpabbadngpjgoaaDoorTie
import Derived.Test.YtpabbadngpjgoaaDoorQLawW
import Derived.ChangeSlices
import Derived.Carry
import Derived.WalkKit
import Derived.ProofKit
import Derived.OpenShut
import Derived.ShutString
import Derived.ChangeOld
import Derived.Below
import Derived.OpenVars
import Derived.Deep.DeepHandedRow
import Derived.Lib.LaidTab
namespace Go.Proofs.YtpabbadngpjgoaaDoor
open Go.ChangeShapes Go.WideShapes Go.ChangeAt Go.RowKit
open Go.ChangeMaps (open_string shut_string)

theorem quote_own : ownKnob Tryd.prog.godebug = none := by kernel_rfl
theorem quote_laidOut : laidOutB Tryd.prog = true := by kernel_rfl
theorem quote_gTab : Tryd.prog.globalNamed "loop.example/g00317/impl.marks" = some 0 := by kernel_rfl
theorem quote_gType : (Tryd.prog.globals[0]?).map (·.type) = some 70 := by kernel_rfl
theorem quote_cellsStr : Tryd.prog.cellsOf 9 = 1 := by kernel_rfl
theorem quote_varsRowed : varsRowed Tryd.prog ["loop.example/g00317/impl.marks"] = true := by kernel_rfl

theorem marks_datum {H : Type} : (Rows.laid_loop_example_g00317_impl_marks : DataW H) = .agg (Lex.marks.map fun s => .lit (.string s.data.toList)) := rfl

/-- What the row's list gives: the table of marks lies in its block. -/
theorem marks_in {W : World} (h : laidMetH Tryd.prog Rows.fnQuoteRow.laid W) : MarksIn W := by
  have h' : laidMet Tryd.prog [("loop.example/g00317/impl.marks", Rows.laid_loop_example_g00317_impl_marks)] W := h
  obtain ⟨ps, ⟨g, t, cs, fuel, p, q, hg, ht, hv, hd, _, _⟩, _⟩ := h'
  obtain rfl := Option.some.inj (quote_gTab.symm.trans hg)
  obtain rfl := Option.some.inj (quote_gType.symm.trans ht)
  rw [marks_datum] at hd
  obtain ⟨xs, m, rfl, hx, hl, hn, hel⟩ := DataW.trod_array Tryd.underlying70 hd
  simp only [Prod.mk.injEq, DataW.agg.injEq] at hx
  intro j hj
  have hj28 : j < 28 := hj
  rw [World.var?_cell hg hv j]
  have h1 := hel j hj28
  rw [quote_cellsStr, Nat.mul_one] at h1
  have hjx : j < xs.length := by omega
  rw [List.getElem?_eq_getElem hjx] at h1
  obtain ⟨s, e1, e2, _⟩ := DataW.trod_string Tryd.underlying9 h1
  have e3 : (xs.map (·.1))[j]? = some (.lit (.string s.data.toList)) := by rw [List.getElem?_map, List.getElem?_eq_getElem hjx, e2]; rfl
  rw [← hx.1, List.getElem?_map, List.getElem?_eq_getElem hj] at e3
  simp only [Option.map_some, Option.some.injEq, DataW.lit.injEq, Lit.string.injEq] at e3
  have e4 : Lex.marks[j] = s := bytes_inj e3
  have e5 : cs.toList[j]? = some (.string s) := by
    have e6 := congrArg (fun l : List Value => l[0]?) e1
    simp only [List.getElem?_take, List.getElem?_drop] at e6
    simpa using e6
  have e7 : cs[j]? = some (.string s) := by simpa using e5
  rw [e7]
  exact congrArg (fun x => some (Value.string x)) e4.symm

theorem quote_cellsByte : Tryd.prog.cellsOf 5 = 1 := by kernel_rfl
theorem quote_readable : Tryd.prog.readableRec 22 = true := by kernel_rfl
theorem quote_row : 22 < Tryd.prog.types.size := of_decide_eq_true (by kernel_rfl)

theorem addr_at (b o j : Nat) : (⟨b, o, none⟩ : Addr).add j = ⟨b, o + j, none⟩ := by unfold Addr.add; split <;> simp_all

/-- A row of bytes that came in, opened. -/
theorem open_bytes {H : Type} {enc : TypeId × Value → H} {W : World} {base : Nat} {v : Value} {d : DataW H} {p : List MemPlace} (hv : Value.okWide Tryd.prog W .any base 22 v) (h : DataW.Trod enc Tryd.prog W 0 (fun _ => true) true 22 v d p) :
    ∃ a len cap cs, v = .slice a len cap ∧ List.length cs = len ∧ BytesIn W a cs := by
  obtain ⟨a0, len, cap, rfl⟩ := okWide_slice Tryd.underlying22 hv
  obtain ⟨fuel, hf⟩ := h
  rcases Go.ChangeShapes.open_ints Tryd.underlying22 Tryd.underlying5 quote_cellsByte hf with ⟨hcs, _⟩ | ⟨a, len', cap', zs, hcs, _, hl, _, hz, _, hcell, hwz⟩
  · have e : Value.slice a0 len cap = .slice none 0 0 := by simpa [Value.cells] using hcs
    simp only [Value.slice.injEq] at e
    obtain ⟨rfl, rfl, rfl⟩ := e
    exact ⟨none, 0, 0, [], rfl, rfl, .inl rfl⟩
  · have e : Value.slice a0 len cap = .slice (some a) len' cap' := by simpa [Value.cells] using hcs
    simp only [Value.slice.injEq] at e
    obtain ⟨rfl, rfl, rfl⟩ := e
    have hzl : len ≤ zs.length := by rw [hz]; simp; exact hl
    refine ⟨some a, len, cap, (List.range len).map (fun i => UInt8.ofNat (zs.getD i 0).toNat), rfl, by simp, ?_⟩
    by_cases h0 : len = 0
    · left; simp [h0]
    · right
      have c0 := hcell 0 (by omega)
      have hsp : a = ⟨a.block, a.off, none⟩ := by
        have h1 : W.cell? a = some (.int .u8 (zs.getD 0 0)) := by simpa [Addr.add] using c0
        have := World.cell?_spot h1
        cases a; simp_all
      refine ⟨a.block, a.off, by rw [← hsp], fun i hi => ?_⟩
      have hi' : i < len := by simpa using hi
      have ci := hcell i (by omega)
      have ea : a.add i = ⟨a.block, a.off + i, none⟩ := by
        rw [hsp]; exact addr_at _ _ _
      rw [ea] at ci
      rw [ci]
      have hw : (Lit.int .u8 (zs.getD i 0)).wf = true := by
        have : zs.getD i 0 ∈ zs := by
          rw [List.getD_eq_getElem?_getD, List.getElem?_eq_getElem (by omega)]
          exact List.getElem_mem _
        exact hwz _ this
      have hb : 0 ≤ zs.getD i 0 ∧ zs.getD i 0 < 256 := by
        generalize zs.getD i 0 = z at hw ⊢
        have h1 : IntKind.u8.min = 0 := rfl
        have h2 : IntKind.u8.max = 255 := rfl
        simp only [Lit.wf, h1, h2, Bool.and_eq_true, decide_eq_true_eq] at hw
        omega
      congr 2
      simp only [List.getElem_map, List.getElem_range, UInt8.toNat_ofNat']
      omega

theorem quote_contract (H : Type) (enc : TypeId × Value → H) (W : World) (base : Nat) (args : Array Value) (ds gs : List (DataW H)) (before : List MemPlace)
    (hval : ∀ (j : Nat) t v, Tryd.f3.params[j]? = some t → args[j]? = some v → Value.okWide Tryd.prog W .any base t v)
    (hW : DataW.Whole enc Tryd.prog Tryd.f3.params.toList Rows.fnQuoteSpec.vars false W args.toList ds gs before) (hL : laidMetH Tryd.prog Rows.fnQuoteRow.laid W) :
    Calls Tryd.prog 3 args W fun e W' => ∃ v, e = .returned v ∧ Rows.fnQuoteSpec.post enc Tryd.prog Tryd.f3 false true false false W args v W' := by
  have hW' := hW
  obtain ⟨p, q, hA0, hV, rfl, hfz, hnd⟩ := hW
  have hA : DataW.TrodAll enc Tryd.prog W 0 (fun _ => true) true Tryd.f3.params.toList args.toList ds p := hA0
  have hlt := hA.lt
  have hV0 : DataW.TrodVars enc Tryd.prog W (fun _ => true) ["loop.example/g00317/impl.marks"] gs q := hV
  rw [Tryd.params3] at hA hval
  obtain ⟨v0, vs0, d0, ds0, p0, q0, hargs, rfl, rfl, h0, r0⟩ := trodAll_cons hA
  obtain ⟨v1, vs1, d1, ds1, p1, q1, rfl, rfl, rfl, h1, r1⟩ := trodAll_cons r0
  obtain ⟨rfl, rfl, rfl⟩ := trodAll_nil r1
  obtain rfl : args = #[v0, v1] := by cases args; simp_all
  obtain ⟨a1, len1, cap1, cs1, rfl, l1, b1⟩ := open_bytes (hval 0 22 v0 rfl rfl) h0
  obtain ⟨a2, len2, cap2, cs2, rfl, l2, b2⟩ := open_bytes (hval 1 22 v1 rfl rfl) h1
  have hV1 := hV0
  obtain ⟨_, _, _, _, g1, _, rfl, _⟩ := trodVars_one hV1
  clear hA0 hV1
  refine (quote_walk a1 a2 len1 cap1 len2 cap2 cs1 cs2 W l1 l2 (marks_in hL) b1 b2).mono fun e W' ⟨he, bel⟩ => ?_
  subst he
  exact ⟨_, rfl, _, _, _, [], p0 ++ (p1 ++ []), q, hW', trodAll_mk1 (shut_bool Tryd.underlying4 _),
    (trodAll_cons_mk (Below.trod quote_laidOut quote_readable quote_row h0 bel (fun x hx => hlt x (by simp [hx]))) (trodAll_cons_mk (Below.trod quote_laidOut quote_readable quote_row h1 bel (fun x hx => hlt x (by simp [hx]))) trodAll_mk0)),
    Below.trodVars quote_laidOut bel quote_varsRowed hV0, bel.frame _, fun h => by cases h⟩

/-- A world for the witness: the settled one, the table (block 0) holding what its initialiser lays. -/
noncomputable def quote_world (os : Os) : World :=
  { World.holding Tryd.prog os ⟨#[], #[], []⟩ with heap := (World.holding Tryd.prog os ⟨#[], #[], []⟩).heap.modify 0 fun
      | .cells _ t frozen => .cells marksV t frozen
      | o => o }
theorem quote_met (os : Os) : laidMet Tryd.prog Rows.fnQuoteRow.laid ((quote_world os).forCall (fun _ _ => 0) ⟨#[], #[.slice none 0 0, .slice none 0 0], []⟩).memory :=
  laidMet_of_run' 8 (by kernel_rfl) (by kernel_rfl)
theorem quote_reads (os : Os) {H : Type} (enc : TypeId × Value → H) : ∃ places, DataW.whole enc Tryd.prog ((quote_world os).forCall (fun _ _ => 0) ⟨#[], #[.slice none 0 0, .slice none 0 0], []⟩).memory Tryd.f3.params.toList Rows.fnQuoteSpec.vars false #[Value.slice none 0 0, Value.slice none 0 0].toList 8 = some ([.nil, .nil], [Rows.laid_loop_example_g00317_impl_marks], places) :=
  ⟨MemPlace.row ⟨0, 0, none⟩ 28, by kernel_rfl⟩

set_option maxRecDepth 100000 in
theorem quote_lifted (os : Os) (started : os.Started) (H : Type) (enc : TypeId × Value → H) (F : Stop.Interp) :
    ReturnsInHanded {} Tryd.checked os 3 .any ((OpenSpec.ofChange Rows.fnQuoteSpec).preRow enc Tryd.prog Tryd.f3 Rows.fnQuoteRow.domain false Rows.fnQuoteRow.laid) (((OpenSpec.ofChange Rows.fnQuoteSpec).at F).post enc Tryd.prog Tryd.f3 false true false false) := by
  obtain ⟨places, hx⟩ := quote_reads os enc
  refine returnsInHanded_of_row (C := Tryd.checked) (s := OpenSpec.ofChange Rows.fnQuoteSpec) quote_own started (by kernel_rfl) Tryd.func3
    (witness_row_at (enc := enc) (C := Tryd.checked) false (quote_world os) #[.slice none 0 0, .slice none 0 0] rfl (by kernel_rfl) (by kernel_rfl) (by kernel_rfl)
      (OpenSpec.preRow_of_cond 8 hx (by kernel_rfl) (fun k hk => by cases hk) (by kernel_rfl) (quote_met os))) ?_
  intro W base args ds gs before hval hW _ _ _ hL _ _
  exact quote_contract H enc W base args ds gs before hval hW hL

theorem quote_said : Rows.FnQuoteSaid :=
  OpenClaim.holds_of_cond 3 Tryd.f3 rfl rfl rfl rfl rfl rfl rfl ⟨rfl, rfl, rfl, rfl, rfl⟩ rfl rfl rfl rfl rfl (by kernel_rfl) Tryd.func3 (by kernel_rfl)
    (of_decide_eq_true (by kernel_rfl)) (by unfold Func.isWrapper; first | (rw [if_pos (by decide +kernel)]; kernel_rfl) | (rw [if_neg (by decide +kernel)]; exact ⟨rfl, rfl⟩))
    (fun os started H enc _ F => by rw [OpenClaim.pre_eq_preRow]; exact quote_lifted os started H enc F)

theorem quote_plain (f : FuncId) (fn : Func) (hf : Tryd.pinned.checked.prog.funcNamed "loop.example/g00317/laws.FnQuote" = some f) (hfn : Tryd.pinned.checked.prog.funcs[f]? = some fn) :
    false = Tryd.pinned.checked.prog.looks [] ∧ ∀ (j : Nat) t, fn.params[j]? = some t → Tryd.pinned.checked.prog.wantsStandIn t = false := by
  obtain rfl : f = 3 := Option.some.inj ((show Tryd.prog.funcNamed "loop.example/g00317/laws.FnQuote" = some 3 by kernel_rfl).symm.trans hf) |>.symm
  obtain rfl : fn = Tryd.f3 := (Option.some.inj (Tryd.func3.symm.trans hfn)).symm
  refine ⟨by kernel_rfl, fun j t ht => ?_⟩
  rw [Tryd.params3] at ht
  obtain rfl : t = 22 := by simpa using Array.mem_of_getElem? ht
  exact (show Tryd.prog.wantsStandIn 22 = false by kernel_rfl)

theorem quote_holds : Rows.FnQuoteCardSaid :=
  Claim7.holds_tied_plain_at .later [] _ _ _ _ quote_said (fun _ h => by cases h) (by kernel_rfl) (fun _ h => by cases h) fnQuote_row_tie rfl ⟨rfl, rfl⟩ (by kernel_rfl) rfl quote_plain (by kernel_rfl)
#print axioms quote_holds
end Go.Proofs.YtpabbadngpjgoaaDoor

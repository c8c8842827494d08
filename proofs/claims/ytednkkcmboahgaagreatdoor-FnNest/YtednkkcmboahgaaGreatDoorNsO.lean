/-
  FnNest: what the row's list gives, and the law's contract.
-/
import Derived.Test.YtednkkcmboahgaaGreatDoorRows
import Derived.Test.YtednkkcmboahgaaGreatDoorNsD
import Derived.Test.YtednkkcmboahgaaGreatDoorNsL
import Derived.ChangeSlices
import Derived.Carry
import Derived.LaidHandle
import Derived.LaidSub
import Derived.LaidLaws
import Derived.WalkKit
import Derived.ProofKit
import Derived.OpenShut
import Derived.ShutString
import Derived.ChangeOld
import Derived.Below
import Derived.OpenVars
import Derived.Deep.DeepHandedRow
namespace Go.Proofs.YtednkkcmboahgaaGreatDoor
open Go.ChangeShapes Go.WideShapes Go.ChangeAt Go.RowKit
open Go.ChangeMaps (open_string shut_string)

theorem fnNest_readable : Tryz.prog.readableRec 22 = true := by kernel_rfl
theorem fnNest_row : 22 < Tryz.prog.types.size := of_decide_eq_true (by kernel_rfl)
theorem fnNest_own : ownKnob Tryz.prog.godebug = none := by kernel_rfl
theorem fnNest_laidOut : laidOutB Tryz.prog = true := by kernel_rfl
theorem fnNest_cellsByte : Tryz.prog.cellsOf 5 = 1 := by kernel_rfl
theorem fnNest_cellsStr : Tryz.prog.cellsOf 9 = 1 := by kernel_rfl
theorem fnNest_cellsErr : Tryz.prog.cellsOf 402 = 1 := by kernel_rfl
theorem fnNest_cells7 : Tryz.prog.cellsOf 296 = 7 := by kernel_rfl
theorem fnNest_cells28 : Tryz.prog.cellsOf 276 = 28 := by kernel_rfl
theorem fnNest_varsRowed : varsRowed Tryz.prog ["loop.example/g00317/impl.errFull", "loop.example/g00317/impl.errSteps", "loop.example/g00317/impl.marks", "loop.example/g00317/impl.kindNames", "loop.example/g00317/impl.errThrown"] = true := by kernel_rfl

/-- A variable of the row's list. -/
theorem laid_vars {P : Program} {W : World} {n : String} {d : DataW Unit} : ∀ {l : List (String × DataW Unit)} {ps : List MemPlace}, DataW.LaidVars P W l ps → (n, d) ∈ l →
    ∃ g t cs fuel p, P.globalNamed n = some g ∧ (P.globals[g]?).map (·.type) = some t ∧ W.var? P n = some cs ∧ DataW.trod (fun _ => ()) P W 0 (fun _ => true) false fuel t cs.toList = some (d, p) ∧ ∀ off, off < cs.size → MemPlace.cell g off ∈ ps
  | [], ps, _, hm => by cases hm
  | (n', d') :: r, ps, h, hm => by
    obtain ⟨g, t, cs, fuel, p, q, h1, h2, h3, h4, h5, rfl⟩ := h
    rcases List.mem_cons.1 hm with hm | hm
    · cases hm
      refine ⟨g, t, cs, fuel, p, h1, h2, h3, h4, fun off ho => ?_⟩
      simp [MemPlace.row, ho]
    · obtain ⟨g', t', cs', fuel', p', k1, k2, k3, k4, k5⟩ := laid_vars h5 hm
      exact ⟨g', t', cs', fuel', p', k1, k2, k3, k4, fun off ho => by simp [k5 off ho]⟩
theorem laid_mem {P : Program} {W : World} {l : List (String × DataW Unit)} (h : laidMet P l W) {n : String} {d : DataW Unit} {g t : Nat} (hm : (n, d) ∈ l) (hg : P.globalNamed n = some g) (ht : (P.globals[g]?).map (·.type) = some t) :
    ∃ cs fuel p, W.var? P n = some cs ∧ DataW.trod (fun _ => ()) P W 0 (fun _ => true) false fuel t cs.toList = some (d, p) ∧ (0 < cs.size → ∃ u, W.heap[g]? = some (.cells cs u (0, 0))) ∧ ∀ u v, cs.toList = [.iface u v] → Value.okWide P W .any 0 u v := by
  obtain ⟨ps, hv, _, hrows⟩ := h
  obtain ⟨g', t', cs, fuel, p, h1, h2, h3, h4, h5⟩ := laid_vars hv hm
  obtain rfl := Option.some.inj (hg.symm.trans h1)
  obtain rfl := Option.some.inj (ht.symm.trans h2)
  refine ⟨cs, fuel, p, h3, h4, fun h0 => ?_, fun u v e => ?_⟩
  · obtain ⟨⟨c, u, hc⟩, _⟩ := hrows g 0 (h5 0 h0)
    refine ⟨u, ?_⟩
    have h3' := h3
    unfold World.var? at h3'
    rw [h1, Option.bind_some, hc] at h3'
    simp only [Option.some.injEq] at h3'
    rw [hc, h3']
  · have h0 : 0 < cs.size := by
      have := congrArg List.length e
      simp at this
      omega
    refine (hrows g 0 (h5 0 h0)).2 u v ?_
    rw [World.var?_cell h1 h3 0]
    have e2 := congrArg (fun l : List Value => l[0]?) e
    simpa using e2

theorem star_err : "*" ++ "errors.errorString" = "*errors.errorString" := by decide
theorem row_err (u : TypeId) (h : Tryz.prog.typeName? 3 u = some "*errors.errorString") : u = 379 :=
  typeName_ptr_named (nm := "errors.errorString") (by rw [star_err]; kernel_rfl) (by kernel_rfl) (by decide) u (by rw [star_err]; exact h)

set_option maxRecDepth 100000 in
theorem err_at {W : World} {l : List (String × DataW Unit)} (h : laidMet Tryz.prog l W) {n : String} {text : List UInt8} {g : Nat} (hm : (n, .iface "*errors.errorString" (.ptr (.agg [.lit (.string text)]))) ∈ l) (hg : Tryz.prog.globalNamed n = some g) (ht : (Tryz.prog.globals[g]?).map (·.type) = some 81) : ∃ a t, ErrAt W g a t := by
  obtain ⟨cs, fuel, p, h1, h2, h3, h4⟩ := laid_mem h hm hg ht
  obtain ⟨a, s, e1, e2, _⟩ := errorString_of_trod Tryz.underlying81 row_err Tryz.underlying379 Tryz.underlying402 rfl rfl Tryz.underlying9 fnNest_cellsErr fnNest_cellsStr h2 h4
  have hcs : cs = #[.iface 379 (.pointer (some a))] := by
    apply Array.toList_inj.1
    exact e1
  subst hcs
  obtain ⟨u, hu⟩ := h3 (by simp)
  have hsp := World.cell?_spot e2
  refine ⟨(a.block, a.off), u, ?_⟩
  unfold ErrAt
  rw [hu]
  cases a
  simp only at hsp
  subst hsp
  rfl

theorem row_at {W : World} {l : List (String × DataW Unit)} (h : laidMet Tryz.prog l W) {n : String} {L : List (List UInt8)} {g t m : Nat} (hL : L ≠ []) (hm : (n, .agg (L.map fun s => .lit (.string s))) ∈ l) (hg : Tryz.prog.globalNamed n = some g) (ht : (Tryz.prog.globals[g]?).map (·.type) = some t) (hu : Tryz.prog.underlying t = some (.array m 9)) (hc : Tryz.prog.cellsOf t = m) : ∃ u, W.heap[g]? = some (.cells (rowV L) u (0, 0)) := by
  obtain ⟨cs, fuel, p, h1, h2, h3, _⟩ := laid_mem h hm hg ht
  obtain ⟨xs, k, rfl, hx, hl, hn, hel⟩ := DataW.trod_array hu h2
  simp only [Prod.mk.injEq, DataW.agg.injEq] at hx
  have hxl : xs.length = L.length := by
    have := congrArg List.length hx.1
    simpa using this.symm
  have hcs : cs = rowV L := by
    apply Array.toList_inj.1
    apply List.ext_getElem?
    intro j
    by_cases hj : j < m
    · have e0 := hel j hj
      rw [fnNest_cellsStr, Nat.mul_one] at e0
      have hjx : j < xs.length := by omega
      rw [List.getElem?_eq_getElem hjx] at e0
      obtain ⟨s, e1, e2, _⟩ := DataW.trod_string Tryz.underlying9 e0
      have e3 : (xs.map (·.1))[j]? = some (.lit (.string s.data.toList)) := by rw [List.getElem?_map, List.getElem?_eq_getElem hjx, e2]; rfl
      have hjL : j < L.length := by omega
      rw [← hx.1, List.getElem?_map, List.getElem?_eq_getElem hjL] at e3
      simp only [Option.map_some, Option.some.injEq, DataW.lit.injEq, Lit.string.injEq] at e3
      have e5 : cs.toList[j]? = some (.string s) := by
        have e6 := congrArg (fun l : List Value => l[0]?) e1
        simp only [List.getElem?_take, List.getElem?_drop] at e6
        simpa using e6
      rw [e5]
      unfold rowV
      rw [List.getElem?_map, List.getElem?_eq_getElem hjL]
      simp only [Option.map_some, Option.some.injEq, Value.string.injEq]
      apply ByteArray.ext
      apply Array.toList_inj.1
      rw [e3]
    · rw [List.getElem?_eq_none (by rw [hl, hc]; omega), List.getElem?_eq_none]
      unfold rowV
      simp
      omega
  subst hcs
  refine h3 ?_
  unfold rowV
  simp only [List.size_toArray, List.length_map]
  exact List.length_pos_iff.2 hL

theorem g_steps : Tryz.prog.globalNamed "loop.example/g00317/impl.errSteps" = some 0 := by kernel_rfl
theorem g_full : Tryz.prog.globalNamed "loop.example/g00317/impl.errFull" = some 1 := by kernel_rfl
theorem g_thrown : Tryz.prog.globalNamed "loop.example/g00317/impl.errThrown" = some 3 := by kernel_rfl
theorem g_kinds : Tryz.prog.globalNamed "loop.example/g00317/impl.kindNames" = some 5 := by kernel_rfl
theorem g_marks : Tryz.prog.globalNamed "loop.example/g00317/impl.marks" = some 4 := by kernel_rfl
theorem y_steps : (Tryz.prog.globals[0]?).map (·.type) = some 81 := by kernel_rfl
theorem y_full : (Tryz.prog.globals[1]?).map (·.type) = some 81 := by kernel_rfl
theorem y_thrown : (Tryz.prog.globals[3]?).map (·.type) = some 81 := by kernel_rfl
theorem y_kinds : (Tryz.prog.globals[5]?).map (·.type) = some 296 := by kernel_rfl
theorem y_marks : (Tryz.prog.globals[4]?).map (·.type) = some 276 := by kernel_rfl

theorem laid_split {P : Program} {W : World} {n : String} {d : DataW Unit} {l2 : List (String × DataW Unit)} : ∀ {l1 : List (String × DataW Unit)} {ps : List MemPlace}, DataW.LaidVars P W (l1 ++ (n, d) :: l2) ps →
    ∃ ps1 g t cs fuel p q, P.globalNamed n = some g ∧ (P.globals[g]?).map (·.type) = some t ∧ W.var? P n = some cs ∧ DataW.trod (fun _ => ()) P W 0 (fun _ => true) false fuel t cs.toList = some (d, p) ∧ DataW.LaidVars P W l2 q ∧ ps = ps1 ++ (MemPlace.row ⟨g, 0, none⟩ cs.size ++ p ++ q)
  | [], ps, h => by
    obtain ⟨g, t, cs, fuel, p, q, h1, h2, h3, h4, h5, h6⟩ := h
    exact ⟨[], g, t, cs, fuel, p, q, h1, h2, h3, h4, h5, by rw [h6]; rfl⟩
  | x :: l1, ps, h => by
    obtain ⟨n', d'⟩ := x
    obtain ⟨g, t, cs, fuel, p, q, _, _, _, _, h5, h6⟩ := h
    obtain ⟨ps1, g', t', cs', fuel', p', q', k1, k2, k3, k4, k5, k6⟩ := laid_split h5
    exact ⟨MemPlace.row ⟨g, 0, none⟩ cs.size ++ p ++ ps1, g', t', cs', fuel', p', q', k1, k2, k3, k4, k5, by rw [h6, k6]; simp⟩
theorem laid_in {P : Program} {W : World} {n : String} {d : DataW Unit} {l : List (String × DataW Unit)} {ps : List MemPlace} (h : DataW.LaidVars P W l ps) (hm : (n, d) ∈ l) :
    ∃ g t cs fuel p, P.globalNamed n = some g ∧ (P.globals[g]?).map (·.type) = some t ∧ W.var? P n = some cs ∧ DataW.trod (fun _ => ()) P W 0 (fun _ => true) false fuel t cs.toList = some (d, p) ∧ (∀ off, off < cs.size → MemPlace.cell g off ∈ ps) ∧ ∀ m ∈ p, m ∈ ps := by
  obtain ⟨l1, l2, rfl⟩ := List.append_of_mem hm
  obtain ⟨ps1, g, t, cs, fuel, p, q, h1, h2, h3, h4, _, rfl⟩ := laid_split h
  exact ⟨g, t, cs, fuel, p, h1, h2, h3, h4, fun off ho => by simp [MemPlace.row, ho], fun m hm => by simp [hm]⟩

theorem fnNest_last : Tryz.prog.globalNamed "unicode/utf8.acceptRanges" = some 11 := by kernel_rfl

theorem inv_in {W : World} (h : laidMetH Tryz.prog Rows.fnNestRow.laid W) : 12 ≤ W.heap.size := by
  have h' : laidMet Tryz.prog ([("math/bits.deBruijn32tab", Rows.laid_math_bits_deBruijn32tab), ("math/bits.deBruijn64tab", Rows.laid_math_bits_deBruijn64tab), ("internal/strconv.uint64pow10", Rows.laid_internal_strconv_uint64pow10), ("unicode/utf8.acceptRanges", Rows.laid_unicode_utf8_acceptRanges), ("loop.example/g00317/impl.marks", Rows.laid_loop_example_g00317_impl_marks), ("loop.example/g00317/impl.kindNames", Rows.laid_loop_example_g00317_impl_kindNames)] ++ ("loop.example/g00317/impl.errSteps", Rows.laid_loop_example_g00317_impl_errSteps) :: [("loop.example/g00317/impl.errFull", Rows.laid_loop_example_g00317_impl_errFull), ("loop.example/g00317/impl.errThrown", Rows.laid_loop_example_g00317_impl_errThrown), ("unicode/utf8.first", Rows.laid_unicode_utf8_first)]) W := (laidMetH_iff.1 h).1
  obtain ⟨ps, hv, _, _⟩ := h'
  obtain ⟨g, t, cs, fuel, p, k1, _, k3, _⟩ := laid_in hv (n := "unicode/utf8.acceptRanges") (.tail _ (.tail _ (.tail _ (.head _))))
  obtain rfl := Option.some.inj (fnNest_last.symm.trans k1)
  unfold World.var? at k3
  rw [fnNest_last, Option.bind_some] at k3
  split at k3
  · rename_i hc
    exact lt_of_some hc
  · cases k3

/-- What the row's list gives. -/
theorem g_in {W : World} (h : laidMetH Tryz.prog Rows.fnNestRow.laid W) : tabN.inv.p W.heap.size W := by
  have h' := (laidMetH_iff.1 h).1
  have k : ∀ {x : String × DataW Unit}, x ∈ Rows.fnNestRow.laid → x.2.handleName?.isNone = true → x ∈ Rows.fnNestRow.laid.filter fun x => x.2.handleName?.isNone := fun hx hn => List.mem_filter.2 ⟨hx, hn⟩
  have m1 : ("loop.example/g00317/impl.errSteps", Rows.laid_loop_example_g00317_impl_errSteps) ∈ Rows.fnNestRow.laid := .tail _ (.tail _ (.tail _ (.tail _ (.tail _ (.tail _ (.tail _ (.head _)))))))
  have m2 : ("loop.example/g00317/impl.errFull", Rows.laid_loop_example_g00317_impl_errFull) ∈ Rows.fnNestRow.laid := .tail _ (.tail _ (.tail _ (.tail _ (.tail _ (.tail _ (.tail _ (.tail _ (.head _))))))))
  have m3 : ("loop.example/g00317/impl.errThrown", Rows.laid_loop_example_g00317_impl_errThrown) ∈ Rows.fnNestRow.laid := .tail _ (.tail _ (.tail _ (.tail _ (.tail _ (.tail _ (.tail _ (.tail _ (.tail _ (.head _)))))))))
  have m4 : ("loop.example/g00317/impl.kindNames", Rows.laid_loop_example_g00317_impl_kindNames) ∈ Rows.fnNestRow.laid := .tail _ (.tail _ (.tail _ (.tail _ (.tail _ (.tail _ (.head _))))))
  have m5 : ("loop.example/g00317/impl.marks", Rows.laid_loop_example_g00317_impl_marks) ∈ Rows.fnNestRow.laid := .tail _ (.tail _ (.tail _ (.tail _ (.tail _ (.head _)))))
  exact ⟨inv_in h, err_at h' (k m1 rfl) g_steps y_steps, err_at h' (k m2 rfl) g_full y_full, err_at h' (k m3 rfl) g_thrown y_thrown, row_at h' (L := strs4) (by simp [strs4]) (k m5 rfl) g_marks y_marks Tryz.underlying276 fnNest_cells28, row_at h' (L := strs5) (by simp [strs5]) (k m4 rfl) g_kinds y_kinds Tryz.underlying296 fnNest_cells7⟩

theorem addr_at (b o j : Nat) : (⟨b, o, none⟩ : Addr).add j = ⟨b, o + j, none⟩ := by unfold Addr.add; split <;> simp_all

set_option maxRecDepth 100000 in
/-- A row of bytes that came in, opened. -/
theorem open_bytes {H : Type} {enc : TypeId × Value → H} {W : World} {base : Nat} {v : Value} {d : DataW H} {p : List MemPlace} (hv : Value.okWide Tryz.prog W .any base 22 v) (h : DataW.Trod enc Tryz.prog W 0 (fun _ => true) true 22 v d p) :
    ∃ a len cap cs, v = .slice a len cap ∧ List.length cs = len ∧ BytesIn W a cs := by
  obtain ⟨a0, len, cap, rfl⟩ := okWide_slice Tryz.underlying22 hv
  obtain ⟨fuel, hf⟩ := h
  rcases Go.ChangeShapes.open_ints Tryz.underlying22 Tryz.underlying5 fnNest_cellsByte hf with ⟨hcs, _⟩ | ⟨a, len', cap', zs, hcs, _, hl, _, hz, _, hcell, hwz⟩
  · have e : Value.slice a0 len cap = .slice none 0 0 := by simpa [Value.cells] using hcs
    simp only [Value.slice.injEq] at e
    obtain ⟨rfl, rfl, rfl⟩ := e
    exact ⟨none, 0, 0, [], rfl, rfl, .inl rfl⟩
  · have e : Value.slice a0 len cap = .slice (some a) len' cap' := by simpa [Value.cells] using hcs
    simp only [Value.slice.injEq] at e
    obtain ⟨rfl, rfl, rfl⟩ := e
    have hzl : len ≤ zs.length := by rw [hz]; simp; exact hl
    refine ⟨some a, len, cap, (List.range len).map (fun i => UInt8.ofNat (zs.getD i 0).toNat), rfl, by simp, ?_⟩
    by_cases h0 : len = 0
    · left; simp [h0]
    · right
      have c0 := hcell 0 (by omega)
      have hsp : a = ⟨a.block, a.off, none⟩ := by
        have h1 : W.cell? a = some (.int .u8 (zs.getD 0 0)) := by simpa [Addr.add] using c0
        have := World.cell?_spot h1
        cases a; simp_all
      refine ⟨a.block, a.off, by rw [← hsp], fun i hi => ?_⟩
      have hi' : i < len := by simpa using hi
      have ci := hcell i (by omega)
      have ea : a.add i = ⟨a.block, a.off + i, none⟩ := by
        rw [hsp]; exact addr_at _ _ _
      rw [ea] at ci
      rw [ci]
      have hw : (Lit.int .u8 (zs.getD i 0)).wf = true := by
        have : zs.getD i 0 ∈ zs := by
          rw [List.getD_eq_getElem?_getD, List.getElem?_eq_getElem (by omega)]
          exact List.getElem_mem _
        exact hwz _ this
      have hb : 0 ≤ zs.getD i 0 ∧ zs.getD i 0 < 256 := by
        generalize zs.getD i 0 = z at hw ⊢
        have h1 : IntKind.u8.min = 0 := rfl
        have h2 : IntKind.u8.max = 255 := rfl
        simp only [Lit.wf, h1, h2, Bool.and_eq_true, decide_eq_true_eq] at hw
        omega
      congr 2
      simp only [List.getElem_map, List.getElem_range, UInt8.toNat_ofNat']
      omega

theorem vars_cons {H : Type} {enc : TypeId × Value → H} {P : Program} {W : World} {n : String} {ns : List String} {gs : List (DataW H)} {q : List MemPlace} (h : DataW.TrodVars enc P W (fun _ => true) (n :: ns) gs q) : ∃ d ds q', gs = d :: ds ∧ DataW.TrodVars enc P W (fun _ => true) ns ds q' := by
  cases gs with
  | nil => exact h.elim
  | cons d ds =>
    obtain ⟨g, t, cs, fuel, p, q', _, _, _, _, h5, _⟩ := h
    exact ⟨d, ds, q', rfl, h5⟩
theorem vars_five {H : Type} {enc : TypeId × Value → H} {P : Program} {W : World} {n1 n2 n3 n4 n5 : String} {gs : List (DataW H)} {q : List MemPlace} (h : DataW.TrodVars enc P W (fun _ => true) [n1, n2, n3, n4, n5] gs q) : ∃ g1 g2 g3 g4 g5, gs = [g1, g2, g3, g4, g5] := by
  obtain ⟨g1, r1, q1, rfl, h1⟩ := vars_cons h
  obtain ⟨g2, r2, q2, rfl, h2⟩ := vars_cons h1
  obtain ⟨g3, r3, q3, rfl, h3⟩ := vars_cons h2
  obtain ⟨g4, r4, q4, rfl, h4⟩ := vars_cons h3
  obtain ⟨g5, r5, q5, rfl, h5⟩ := vars_cons h4
  cases r5 with
  | nil => exact ⟨g1, g2, g3, g4, g5, rfl⟩
  | cons => exact h5.elim

set_option maxRecDepth 100000 in
theorem fnNest_contract (H : Type) (enc : TypeId × Value → H) (W : World) (base : Nat) (args : Array Value) (ds gs : List (DataW H)) (before : List MemPlace)
    (hval : ∀ (j : Nat) t v, Tryz.f3.params[j]? = some t → args[j]? = some v → Value.okWide Tryz.prog W .any base t v)
    (hW : DataW.Whole enc Tryz.prog Tryz.f3.params.toList Rows.fnNestSpec.vars false W args.toList ds gs before) (hL : laidMetH Tryz.prog Rows.fnNestRow.laid W) :
    Calls Tryz.prog 3 args W fun e W' => ∃ v, e = .returned v ∧ Rows.fnNestSpec.post enc Tryz.prog Tryz.f3 false true false false W args v W' := by
  have hW' := hW
  obtain ⟨p, q, hA0, hV, rfl, hfz, hnd⟩ := hW
  have hA : DataW.TrodAll enc Tryz.prog W 0 (fun _ => true) true Tryz.f3.params.toList args.toList ds p := hA0
  rw [Tryz.params3] at hA hval
  have hV0 : DataW.TrodVars enc Tryz.prog W (fun _ => true) ["loop.example/g00317/impl.errFull", "loop.example/g00317/impl.errSteps", "loop.example/g00317/impl.marks", "loop.example/g00317/impl.kindNames", "loop.example/g00317/impl.errThrown"] gs q := hV
  obtain ⟨v0, vs0, d0, ds0, p0, q0, hargs, rfl, rfl, h0, r0⟩ := trodAll_cons hA
  obtain ⟨rfl, rfl, rfl⟩ := trodAll_nil r0
  obtain rfl : args = #[v0] := by cases args; simp_all
  have hlt := hA0.lt
  obtain ⟨a1, len1, cap1, cs1, rfl, l1, b1⟩ := open_bytes (hval 0 22 v0 rfl rfl) h0
  obtain ⟨g1, g2, g3, g4, g5, rfl⟩ := vars_five hV0
  clear hA0
  refine (fnNest_walk a1 len1 cap1 cs1 W l1 b1 (rests (g_in hL))).mono fun e W' ⟨he, bel⟩ => ?_
  subst he
  exact ⟨_, rfl, _, _, _, [], p0 ++ [], q, hW', trodAll_mk1 (shut_bool Tryz.underlying4 _), (trodAll_cons_mk (Below.trod fnNest_laidOut fnNest_readable fnNest_row h0 bel (fun x hx => hlt x (by simp [hx]))) trodAll_mk0), Below.trodVars fnNest_laidOut bel fnNest_varsRowed hV0, bel.frame _, fun h => by cases h⟩

end Go.Proofs.YtednkkcmboahgaaGreatDoor

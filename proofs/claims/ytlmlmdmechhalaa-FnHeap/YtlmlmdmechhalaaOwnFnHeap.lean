/- For every two rows of bytes that can be handed in the law FnHeap returns true: at a heap, a number, a key and a value that are drawn, the program's HeapPut and HeapDelete leave a right heap right, what is put is got as the model says, all other keys are as they were, and the keys behind a deletion are the model's. The rows of bytes read behind the call as they did. No condition besides. -/
import Derived.Test.YtlmlmdmechhalaaRows
import Derived.Test.YtlmlmdmechhalaaHpLawX
import Derived.WalkKit
import Derived.ProofKit
import Derived.OpenShut
import Derived.ShutString
import Derived.ChangeOld
import Derived.ChangeSlices
import Derived.Below
import Derived.Carry
namespace Go.Proofs.Ytlmlmdmechhalaa
open Go.ChangeShapes Go.WideShapes Go.ChangeAt Go.RowKit

theorem fnHeap_own : ownKnob Try.prog.godebug = none := by kernel_rfl
theorem fnHeap_laidOut : laidOutB Try.prog = true := by kernel_rfl
theorem fnHeap_readable : Try.prog.readableRec 22 = true := by kernel_rfl
theorem fnHeap_row : 22 < Try.prog.types.size := of_decide_eq_true (by kernel_rfl)
theorem fnHeap_cellsByte : Try.prog.cellsOf 5 = 1 := by kernel_rfl
theorem addr_at (b o j : Nat) : (⟨b, o, none⟩ : Addr).add j = ⟨b, o + j, none⟩ := by unfold Addr.add; split <;> simp_all

set_option maxRecDepth 100000 in
/-- A row of bytes that came in, opened. -/
theorem open_bytes {H : Type} {enc : TypeId × Value → H} {W : World} {base : Nat} {v : Value} {d : DataW H} {p : List MemPlace} (hv : Value.okWide Try.prog W .any base 22 v) (h : DataW.Trod enc Try.prog W 0 (fun _ => true) true 22 v d p) :
    ∃ a len cap cs, v = .slice a len cap ∧ List.length cs = len ∧ BytesIn W a cs := by
  obtain ⟨a0, len, cap, rfl⟩ := okWide_slice Try.underlying22 hv
  obtain ⟨fuel, hf⟩ := h
  rcases Go.ChangeShapes.open_ints Try.underlying22 Try.underlying5 fnHeap_cellsByte hf with ⟨hcs, _⟩ | ⟨a, len', cap', zs, hcs, _, hl, _, hz, _, hcell, hwz⟩
  · have e : Value.slice a0 len cap = .slice none 0 0 := by simpa [Value.cells] using hcs
    simp only [Value.slice.injEq] at e
    obtain ⟨rfl, rfl, rfl⟩ := e
    exact ⟨none, 0, 0, [], rfl, rfl, .inl rfl⟩
  · have e : Value.slice a0 len cap = .slice (some a) len' cap' := by simpa [Value.cells] using hcs
    simp only [Value.slice.injEq] at e
    obtain ⟨rfl, rfl, rfl⟩ := e
    have hzl : len ≤ zs.length := by rw [hz]; simp; exact hl
    refine ⟨some a, len, cap, (List.range len).map (fun i => UInt8.ofNat (zs.getD i 0).toNat), rfl, by simp, ?_⟩
    by_cases h0 : len = 0
    · left; simp [h0]
    · right
      have c0 := hcell 0 (by omega)
      have hsp : a = ⟨a.block, a.off, none⟩ := by
        have h1 : W.cell? a = some (.int .u8 (zs.getD 0 0)) := by simpa [Addr.add] using c0
        have := World.cell?_spot h1
        cases a; simp_all
      refine ⟨a.block, a.off, by rw [← hsp], fun i hi => ?_⟩
      have hi' : i < len := by simpa using hi
      have ci := hcell i (by omega)
      have ea : a.add i = ⟨a.block, a.off + i, none⟩ := by
        rw [hsp]; exact addr_at _ _ _
      rw [ea] at ci
      rw [ci]
      have hw : (Lit.int .u8 (zs.getD i 0)).wf = true := by
        have : zs.getD i 0 ∈ zs := by
          rw [List.getD_eq_getElem?_getD, List.getElem?_eq_getElem (by omega)]
          exact List.getElem_mem _
        exact hwz _ this
      have hb : 0 ≤ zs.getD i 0 ∧ zs.getD i 0 < 256 := by
        generalize zs.getD i 0 = z at hw ⊢
        have h1 : IntKind.u8.min = 0 := rfl
        have h2 : IntKind.u8.max = 255 := rfl
        simp only [Lit.wf, h1, h2, Bool.and_eq_true, decide_eq_true_eq] at hw
        omega
      congr 2
      simp only [List.getElem_map, List.getElem_range, UInt8.toNat_ofNat']
      omega

set_option maxRecDepth 100000 in
theorem fnHeap_lifted (os : Os) (started : os.Started) (H : Type) (enc : TypeId × Value → H) :
    ReturnsInHanded {} Try.checked os 3 .any (Rows.fnHeapSpec.pre6 enc Try.prog Try.f3 Rows.fnHeapRow.domain false) (Rows.fnHeapSpec.post enc Try.prog Try.f3 false true false false) := by
  refine returnsInHanded_of_change (C := Try.checked) fnHeap_own started (by kernel_rfl) Try.func3
    (ChangeSpec.witness6 (enc := enc) (C := Try.checked) false ⟨#[], #[.slice none 0 0, .slice none 0 0], []⟩ 8 (by kernel_rfl) (by kernel_rfl) (by kernel_rfl) (by kernel_rfl)) ?_
  intro W base args ds gs before hval0 hW hcnd _
  have hval : ∀ (j : Nat) t v, Try.f3.params[j]? = some t → args[j]? = some v → Value.okWide Try.prog W .any base t v := hval0
  have hW' := hW
  obtain ⟨p, q, hA0, hV, rfl, hfz, hnd⟩ := hW
  have hA : DataW.TrodAll enc Try.prog W 0 (fun _ => true) true Try.f3.params.toList args.toList ds p := hA0
  have hlt := hA.lt
  rw [Try.params3] at hA hval
  obtain ⟨v0, vs0, d0, ds0, p0, q0, hargs, rfl, rfl, h0, r0⟩ := trodAll_cons hA
  obtain ⟨v1, vs1, d1, ds1, p1, q1, rfl, rfl, rfl, h1, r1⟩ := trodAll_cons r0
  obtain ⟨rfl, rfl, rfl⟩ := trodAll_nil r1
  obtain rfl : args = #[v0, v1] := by cases args; simp_all
  obtain ⟨rfl, rfl⟩ := trodVars_none hV
  obtain ⟨a1, len1, cap1, cs1, rfl, l1, b1⟩ := open_bytes (hval 0 22 v0 rfl rfl) h0
  obtain ⟨a2, len2, cap2, cs2, rfl, l2, b2⟩ := open_bytes (hval 1 22 v1 rfl rfl) h1
  clear hA0 hval0
  refine (fnHeap_walk a1 a2 len1 len2 cap1 cap2 cs1 cs2 W l1 l2 b1 b2).mono fun e W' ⟨he, bel⟩ => ?_
  subst he
  exact ⟨_, rfl, _, _, _, [], p0 ++ (p1 ++ []), [], hW', trodAll_mk1 (shut_bool Try.underlying4 _),
    (trodAll_cons_mk (Below.trod fnHeap_laidOut fnHeap_readable fnHeap_row h0 bel (fun x hx => hlt x (by simp [hx]))) (trodAll_cons_mk (Below.trod fnHeap_laidOut fnHeap_readable fnHeap_row h1 bel (fun x hx => hlt x (by simp [hx]))) trodAll_mk0)), rfl, bel.frame _, fun h => by cases h⟩

theorem fnHeap_holds : Rows.FnHeapSaid :=
  OpenClaim.holds_of_wide 3 Try.f3 rfl rfl rfl rfl rfl rfl rfl ⟨rfl, rfl, rfl, rfl, rfl⟩ rfl rfl rfl rfl rfl (by kernel_rfl) Try.func3 (by kernel_rfl)
    (of_decide_eq_true (by kernel_rfl)) (by unfold Func.isWrapper; first | (rw [if_pos (by decide +kernel)]; kernel_rfl) | (rw [if_neg (by decide +kernel)]; exact ⟨rfl, rfl⟩))
    (fun os started H enc _ => fnHeap_lifted os started H enc)
#print axioms fnHeap_holds
end Go.Proofs.Ytlmlmdmechhalaa

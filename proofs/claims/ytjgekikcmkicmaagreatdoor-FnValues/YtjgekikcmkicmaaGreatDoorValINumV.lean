/-
  The walks of the program's numberOf, numberValue, ToNumber; and of the specification's ToNumber.
-/
import Derived.Test.YtjgekikcmkicmaaGreatDoorValINumT
namespace Go.Proofs.YtjgekikcmkicmaaGreatDoor
namespace Val
def toNumV (v : VV) : VV := if right v then numberV v else zeroV
end Val
open Go.RowKit Go.Shelf

theorem drew_below {w w1 w2 : World} (h : Below w.heap.size w w1) (h2 : w2 = w1 ∨ w2 = w1.drew) : Below w.heap.size w w2 := by
  rcases h2 with rfl | rfl
  · exact h
  · exact h.drew

set_option maxHeartbeats 4000000 in
theorem iNumberOf (v : Val.VV) (w : World) (hx : v.text.size ≤ 1000000) :
    Calls Tryz.prog 52 #[.agg (vC v)] w fun e w' => NumRes w w' (Val.numO v) e := by
  have NN : Hid _ := fun (W : World) => iNotNumber W
  have HB : Hid (∀ o, Below w.heap.size w (w.alloc o)) := fun o => (Below.refl _ _).alloc (Nat.le_refl _) o
  have HO : Hid _ := fun (h : v.kind = 1 ∨ v.kind = 2 ∨ v.kind = 3) => show Val.numO v = some v.num from if_pos h
  have HO2 : Hid _ := fun (h : v.kind = 5) => show Val.numO v = Val.readL (Val.trimL v.text.data.toList) from (if_neg (by omega)).trans (if_pos h)
  have HO3 : Hid _ := fun (h : ¬ (v.kind = 1 ∨ v.kind = 2 ∨ v.kind = 3)) (h5 : ¬ v.kind = 5) => show Val.numO v = none from (if_neg h).trans (if_neg h5)
  obtain ⟨R, hR⟩ : ∃ R, Val.numO v = R := ⟨_, rfl⟩
  rw [hR] at HO HO2 HO3 ⊢
  clear hR
  obtain ⟨k, n, t⟩ := v
  unfold vC
  dsimp only at *
  by_cases h1 : k = 1
  · subst h1
    have HE := HO.out (.inl rfl)
    subst HE
    clear HO HO2 HO3 NN
    go_enter Tryz.func52, Tryz.ntmps52
    go_wp2_with fail
    refine bodyPost_ret (v := .tuple #[.int .i64 n, .nilIface]) (by simp [results, Tryz.results52, go_sem]) rfl ?_
    exact NumRes.num n (HB.out _)
  by_cases h2 : k = 2
  · subst h2
    have HE := HO.out (.inr (.inl rfl))
    subst HE
    clear HO HO2 HO3 NN
    go_enter Tryz.func52, Tryz.ntmps52
    go_wp2_with fail
    refine bodyPost_ret (v := .tuple #[.int .i64 n, .nilIface]) (by simp [results, Tryz.results52, go_sem]) rfl ?_
    exact NumRes.num n (HB.out _)
  by_cases h3 : k = 3
  · subst h3
    have HE := HO.out (.inr (.inr rfl))
    subst HE
    clear HO HO2 HO3 NN
    go_enter Tryz.func52, Tryz.ntmps52
    go_wp2_with fail
    refine bodyPost_ret (v := .tuple #[.int .i64 n, .nilIface]) (by simp [results, Tryz.results52, go_sem]) rfl ?_
    exact NumRes.num n (HB.out _)
  by_cases h5 : k = 5
  · subst h5
    have HE := HO2.out rfl
    obtain ⟨X, hX⟩ : ∃ X : ByteArray, X = ⟨(Lib.trimB t.data.toList 32).toArray⟩ := ⟨_, rfl⟩
    have hXl : X.data.toList = Val.trimL t.data.toList := by rw [hX, ← Val.trim_eq]
    rw [← hXl] at HE
    have hXs : X.size ≤ 1000000 := by
      rw [← size_data X, hXl]
      unfold Val.trimL Val.dropR Val.dropL
      rw [List.length_reverse]
      refine Nat.le_trans (List.dropWhile_sublist _).length_le ?_
      rw [List.length_reverse]
      refine Nat.le_trans (List.dropWhile_sublist _).length_le ?_
      rw [size_data]; exact hx
    have TR : Hid (∀ W : World, Calls Tryz.prog 100 #[.string t, .string ⟨#[32]⟩] W fun e w' => e = .returned (.string X) ∧ (w' = W ∨ w' = W.drew)) := by
      show ∀ W : World, _
      intro W
      rw [hX]
      exact Tryz.strings_Trim_one t 32 (by decide) W (by omega)
    have TN : Hid _ := fun (W : World) => iTextNumber X W hXs
    rw [← HE] at TN
    clear HO HO2 HO3 NN HE hX hXl
    go_enter Tryz.func52, Tryz.ntmps52
    go_wp2_with fail
    refine (TR.out _).mono ?_
    rintro e w1 ⟨rfl, hw⟩
    have hbw : Below w.heap.size w w1 := drew_below (HB.out _) hw
    clear hw
    go_wp2_with fail
    refine (TN.out _).mono ?_
    rintro e w2 hres
    have h1s := hbw.size
    cases hres with
    | num m hb =>
      go_wp2_with fail
      refine bodyPost_ret (v := .tuple #[.int .i64 m, .nilIface]) (by simp [results, Tryz.results52, go_sem]) rfl ?_
      exact NumRes.num m (hbw.trans (hb.mono h1s))
    | none b hb0 hl hb =>
      go_wp2_with fail
      refine bodyPost_ret (v := .tuple #[.int .i64 0, .iface 61 (.pointer (some ⟨b, 0, none⟩))]) (by simp [results, Tryz.results52, go_sem]) rfl ?_
      exact NumRes.none b (by omega) hl (hbw.trans (hb.mono h1s))
  have HE := HO3.out (by omega) h5
  subst HE
  have d1 : (k == 1) = false := beq_eq_false_iff_ne.2 h1
  have d2 : (k == 2) = false := beq_eq_false_iff_ne.2 h2
  have d3 : (k == 3) = false := beq_eq_false_iff_ne.2 h3
  have d5 : (k == 5) = false := beq_eq_false_iff_ne.2 h5
  clear HO HO2 HO3
  go_enter Tryz.func52, Tryz.ntmps52
  go_wp2_with fail
  refine (NN.out _).mono ?_
  rintro e w1 ⟨rfl, hl, hb⟩
  have hbw : Below w.heap.size w w1 := (HB.out _).trans (hb.mono (HB.out _).size)
  have hl2 := hl
  rw [World.size_alloc] at hl2
  go_wp2_with fail
  refine bodyPost_ret (v := .tuple #[.int .i64 0, .iface 61 (.pointer (some ⟨w.heap.size + 1, 0, none⟩))]) (by simp [results, Tryz.results52, go_sem]) rfl ?_
  exact NumRes.none _ (by omega) hl2 hbw

/-- The world in which numberValue has laid its result and its target. -/
def wNV (w : World) : World := (w.alloc zObj).alloc (.cells #[.pointer none] 61)
theorem wNV_below (w : World) : Below w.heap.size w (wNV w) := ((Below.refl _ _).alloc (Nat.le_refl _) _).alloc (by simp) _
theorem wNV_res (w : World) : (wNV w).heap[w.heap.size]? = some (.cells #[.int .i64 0, .int .i64 0, .string ⟨#[]⟩] 24 (0, 0)) := by
  have h := heap_alloc_new w zObj
  exact (((Below.refl w.heap.size.succ (w.alloc zObj)).alloc (by simp) (.cells #[.pointer none] 61)).block _ (Nat.lt_succ_self _)).trans h
theorem wNV_tgt (w : World) : (wNV w).heap[w.heap.size + 1]? = some (.cells #[.pointer none] 61 (0, 0)) := by
  have h := heap_alloc_new (w.alloc zObj) (.cells #[.pointer none] 61)
  rw [World.size_alloc] at h
  exact h
theorem one_of {W : World} {b : Nat} {t : TypeId} {v : Value} (h : W.heap[b]? = some (.cells #[v] t (0, 0))) : W.cell? ⟨b, 0, none⟩ = some v ∧ W.frozen? ⟨b, 0, none⟩ = false := by
  simp [World.cell?, World.frozen?, h]

set_option maxHeartbeats 2000000 in
theorem iNumberValue1 (n : Int) (w : World) : Calls Tryz.prog 51 #[.int .i64 n, .nilIface] w fun e w' => e = .returned (.agg (vC ⟨3, n, Val.e0⟩)) ∧ Below w.heap.size w w' := by
  have AN : Hid _ := fun (t : Value) (W : World) => asNil t W
  have HB : Hid (Below w.heap.size w (wNV w)) := wNV_below w
  obtain ⟨⟨r0, r1, r2⟩, f0, f1, f2⟩ := v3_of (wNV_res w)
  have hr : w.heap.size < (wNV w).heap.size := (Array.getElem?_eq_some_iff.1 (wNV_res w)).1
  have hW : Hid (wNV w = (w.alloc (.cells #[.int .i64 0, .int .i64 0, .string ⟨#[]⟩] 24)).alloc (.cells #[.pointer none] 61)) := rfl
  generalize wNV w = W at *
  unfold vC
  dsimp only [Val.e0]
  go_enter Tryz.func51, Tryz.ntmps51
  go_wp2_with fail
  rw [← hW.out]
  refine (AN.out _ _).mono ?_
  rintro e w1 ⟨rfl, rfl⟩
  go_wp2_with fail
  refine bodyPost_ret (v := .agg #[.int .i64 3, .int .i64 n, .string ⟨#[]⟩]) (by simp [results, Tryz.results51, go_sem, r0, r1, r2]) rfl ⟨rfl, ?_⟩
  exact ((HB.out.setCell (by simp) _).setCell (by simp) _).setCell (by simp) _

set_option maxHeartbeats 2000000 in
theorem iNumberValue0 (m : Int) (b : Nat) (w : World) (hl : LiesE w b) (he : ErrIn w) : Calls Tryz.prog 51 #[.int .i64 m, .iface 61 (.pointer (some ⟨b, 0, none⟩))] w fun e w' => e = .returned (.agg (vC Val.badV)) ∧ Below w.heap.size w w' := by
  obtain ⟨ct, ft⟩ := one_of (wNV_tgt w)
  have AH : Hid _ := fun (_ : Unit) => asHit ⟨b, 0, none⟩ ⟨w.heap.size + 1, 0, none⟩ (.pointer none) (wNV w) (he.keep (wNV_below w)) ct ft
  have HB : Hid (Below w.heap.size w (wNV w)) := wNV_below w
  have HR : Hid ((wNV w).heap[w.heap.size]? = some (.cells #[.int .i64 0, .int .i64 0, .string ⟨#[]⟩] 24 (0, 0))) := wNV_res w
  have HT : Hid ((wNV w).heap[w.heap.size + 1]? = some (.cells #[.pointer none] 61 (0, 0))) := wNV_tgt w
  have hW : Hid (wNV w = (w.alloc (.cells #[.int .i64 0, .int .i64 0, .string ⟨#[]⟩] 24)).alloc (.cells #[.pointer none] 61)) := rfl
  have hlE := hl.keep HB.out
  have hlt := hl.lt
  clear hl he ct ft
  generalize wNV w = W at *
  unfold vC
  dsimp only [Val.badV, Val.e0]
  go_enter Tryz.func51, Tryz.ntmps51
  go_wp2_with fail
  rw [← hW.out]
  refine (AH.out ()).mono ?_
  rintro e w' ⟨rfl, w1, hb1, rfl⟩
  have hR1 := (hb1.block _ (Array.getElem?_eq_some_iff.1 HR.out).1).trans HR.out
  have hT1 := (hb1.block _ (Array.getElem?_eq_some_iff.1 HT.out).1).trans HT.out
  obtain ⟨⟨r0, r1, r2⟩, f0, f1, f2⟩ := v3_of hR1
  obtain ⟨t0, g0⟩ := one_of hT1
  obtain ⟨⟨s0, s1, s2⟩, -⟩ := (hlE.keep hb1).three
  have hbf : Hid (Below w.heap.size w w1) := HB.out.trans (hb1.mono HB.out.size)
  have hne1 : ¬ b = w.heap.size + 1 := by omega
  have hne2 : ¬ b = w.heap.size := by omega
  clear hR1 hT1 hb1 hlE
  go_wp2_with fail
  refine bodyPost_ret (v := .agg #[.int .i64 4, .int .i64 0, .string ⟨#[]⟩]) (by simp [results, Tryz.results51, go_sem, r0, r1, r2]) rfl ⟨rfl, ?_⟩
  exact (((hbf.out.setCell (by simp) _).setCell (by simp) _).setCell (by simp) _).setCell (by simp) _

theorem two_facts {w w1 : World} {v : Val.VV} (h : Below ((w.alloc (.cells (vC v) 24)).alloc zObj).heap.size ((w.alloc (.cells (vC v) 24)).alloc zObj) w1) : Lies w1 w.heap.size v ∧ Lies w1 (w.heap.size + 1) Val.zeroV ∧ Below w.heap.size w w1 := by
  refine ⟨((lies_new w v).grow _).keep h, res_facts h, ?_⟩
  have hb : Below w.heap.size w ((w.alloc (.cells (vC v) 24)).alloc zObj) := ((Below.refl _ _).alloc (Nat.le_refl _) _).alloc (by simp) _
  exact hb.trans (h.mono hb.size)

end Go.Proofs.YtjgekikcmkicmaaGreatDoor

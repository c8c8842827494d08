/-
  The walks of ToNumber, on both sides.
-/
import Derived.Test.YtjgekikcmkicmaaGreatDoorValINumV
namespace Go.Proofs.YtjgekikcmkicmaaGreatDoor
open Go.RowKit Go.Shelf

set_option maxHeartbeats 2000000 in
theorem sToNumber (v : Val.VV) (w : World) : Calls Tryz.prog 18 #[.agg (vC v)] w fun e w' => e = .returned (.agg (vC (Val.toNumV v))) ∧ Below w.heap.size w w' := by
  have R : Hid _ := fun (W : World) => sValueRight v W
  have T : Hid _ := fun (h : Val.right v = true) (W : World) => sNumber v W (by have := Val.right_text v h; omega)
  have TF : Hid (∀ w1, Below ((w.alloc (.cells (vC v) 24)).alloc zObj).heap.size ((w.alloc (.cells (vC v) 24)).alloc zObj) w1 → Lies w1 w.heap.size v ∧ Lies w1 (w.heap.size + 1) Val.zeroV ∧ Below w.heap.size w w1) := fun w1 h => two_facts h
  obtain ⟨B, hB⟩ : ∃ B, Val.right v = B := ⟨_, rfl⟩
  obtain ⟨⟨ck, cn, ct⟩, hC⟩ : ∃ C, Val.numberV v = C := ⟨_, rfl⟩
  have hE : Val.toNumV v = if B then ⟨ck, cn, ct⟩ else Val.zeroV := by unfold Val.toNumV; rw [hB, hC]
  rw [hB] at R T
  rw [hC] at T
  rw [hE]
  clear hB hC hE
  obtain ⟨k, n, t⟩ := v
  unfold zObj at TF
  unfold vC at *
  dsimp only at *
  go_enter Tryz.func18, Tryz.ntmps18
  go_wp2_with fail
  refine (R.out _).mono ?_
  rintro e w1 ⟨rfl, hb1⟩
  obtain ⟨l1, l2, hbw⟩ := TF.out _ hb1
  have hlt1 := l1.lt
  have hlt2 := l2.lt
  obtain ⟨⟨r0, r1, r2⟩, f0, f1, f2⟩ := l1.three
  obtain ⟨⟨s0, s1, s2⟩, g0, g1, g2⟩ := l2.three
  dsimp only [Val.zeroV, Val.e0] at r0 r1 r2 s0 s1 s2
  clear hb1
  cases B
  · go_wp2_with fail
    refine bodyPost_ret (v := .agg #[.int .i64 0, .int .i64 0, .string ⟨#[]⟩]) (by simp [results, Tryz.results18, go_sem, s0, s1, s2]) rfl ⟨rfl, ?_⟩
    exact ((hbw.setCell (by simp) _).setCell (by simp) _).setCell (by simp) _
  · go_wp2_with fail
    refine (T.out (by trivial) _).mono ?_
    rintro e w2 ⟨rfl, hb2⟩
    have hbf := hbw.trans (hb2.mono hbw.size)
    have hlt3 := (l2.keep hb2).lt
    clear s0 s1 s2 g0 g1 g2
    obtain ⟨⟨s0, s1, s2⟩, g0, g1, g2⟩ := (l2.keep hb2).three
    dsimp only [Val.zeroV, Val.e0] at s0 s1 s2
    go_wp2_with fail
    refine bodyPost_ret (v := .agg #[.int .i64 ck, .int .i64 cn, .string ct]) (by simp [results, Tryz.results18, go_sem, s0, s1, s2]) rfl ⟨rfl, ?_⟩
    exact ((hbf.setCell (by simp) _).setCell (by simp) _).setCell (by simp) _

set_option maxHeartbeats 2000000 in
theorem iToNumber (v : Val.VV) (w : World) (he : ErrIn w) : Calls Tryz.prog 17 #[.agg (vC v)] w fun e w' => e = .returned (.agg (vC (Val.toNumV v))) ∧ Below w.heap.size w w' := by
  have R : Hid _ := fun (W : World) => iValueRight v W
  have T : Hid _ := fun (h : Val.right v = true) (W : World) => iNumberOf v W (by have := Val.right_text v h; omega)
  have NV1 : Hid _ := fun (m : Int) (W : World) => iNumberValue1 m W
  have NV0 : Hid _ := fun (b : Nat) (W : World) (hl : LiesE W b) (he : ErrIn W) => iNumberValue0 0 b W hl he
  have HV := Val.numO_V v
  have HE : Hid (ErrIn w) := he
  have TF : Hid (∀ w1, Below ((w.alloc (.cells (vC v) 24)).alloc zObj).heap.size ((w.alloc (.cells (vC v) 24)).alloc zObj) w1 → Lies w1 w.heap.size v ∧ Lies w1 (w.heap.size + 1) Val.zeroV ∧ Below w.heap.size w w1) := fun w1 h => two_facts h
  obtain ⟨B, hB⟩ : ∃ B, Val.right v = B := ⟨_, rfl⟩
  obtain ⟨C, hC⟩ : ∃ C, Val.numberV v = C := ⟨_, rfl⟩
  have hE : Val.toNumV v = if B then C else Val.zeroV := by unfold Val.toNumV; rw [hB, hC]
  rw [hB] at R HV T
  rw [hC] at HV
  rw [hE]
  have HVV : Hid _ := HV
  clear hB hC hE he HV
  obtain ⟨O, hO⟩ : ∃ O, Val.numO v = O := ⟨_, rfl⟩
  rw [hO] at T HVV
  clear hO
  obtain ⟨k, n, t⟩ := v
  unfold zObj at TF
  unfold vC at *
  dsimp only at *
  go_enter Tryz.func17, Tryz.ntmps17
  go_wp2_with fail
  refine (R.out _).mono ?_
  rintro e w1 ⟨rfl, hb1⟩
  obtain ⟨l1, l2, hbw⟩ := TF.out _ hb1
  have hlt1 := l1.lt
  have hlt2 := l2.lt
  obtain ⟨⟨r0, r1, r2⟩, f0, f1, f2⟩ := l1.three
  obtain ⟨⟨s0, s1, s2⟩, g0, g1, g2⟩ := l2.three
  dsimp only [Val.zeroV, Val.e0] at r0 r1 r2 s0 s1 s2
  clear hb1
  cases B
  · go_wp2_with fail
    refine bodyPost_ret (v := .agg #[.int .i64 0, .int .i64 0, .string ⟨#[]⟩]) (by simp [results, Tryz.results17, go_sem, s0, s1, s2]) rfl ⟨rfl, ?_⟩
    exact ((hbw.setCell (by simp) _).setCell (by simp) _).setCell (by simp) _
  · go_wp2_with fail
    refine (T.out (by trivial) _).mono ?_
    rintro e w2 hres
    have hb2 := hres.below
    have hbw2 := hbw.trans (hb2.mono hbw.size)
    have l3 := l2.keep hb2
    clear s0 s1 s2 g0 g1 g2 r0 r1 r2 f0 f1 f2 hlt1 hlt2 l1
    cases hres with
    | num m hb =>
      have hC : C = ⟨3, m, Val.e0⟩ := HVV.out (by trivial)
      subst hC
      clear hb hb2
      go_wp2_with fail
      refine (NV1.out _ _).mono ?_
      rintro e w3 ⟨rfl, hb3⟩
      have hbf := hbw2.trans (hb3.mono hbw2.size)
      have hlt3 := (l3.keep hb3).lt
      obtain ⟨⟨s0, s1, s2⟩, g0, g1, g2⟩ := (l3.keep hb3).three
      dsimp only [Val.zeroV, Val.e0] at s0 s1 s2 ⊢
      go_wp2_with fail
      refine bodyPost_ret (v := .agg #[.int .i64 3, .int .i64 m, .string ⟨#[]⟩]) (by simp [results, Tryz.results17, go_sem, s0, s1, s2]) rfl ⟨?_, ?_⟩
      · rfl
      · exact ((hbf.setCell (by simp) _).setCell (by simp) _).setCell (by simp) _
    | none b hb0 hl hb =>
      have hC : C = Val.badV := HVV.out (by trivial)
      subst hC
      clear hb
      have he2 := HE.out.keep hbw2
      go_wp2_with fail
      refine (NV0.out b _ hl he2).mono ?_
      rintro e w3 ⟨rfl, hb3⟩
      have hbf := hbw2.trans (hb3.mono hbw2.size)
      have hlt3 := (l3.keep hb3).lt
      obtain ⟨⟨s0, s1, s2⟩, g0, g1, g2⟩ := (l3.keep hb3).three
      dsimp only [Val.zeroV, Val.badV, Val.e0] at s0 s1 s2 ⊢
      go_wp2_with fail
      refine bodyPost_ret (v := .agg #[.int .i64 4, .int .i64 0, .string ⟨#[]⟩]) (by simp [results, Tryz.results17, go_sem, s0, s1, s2]) rfl ⟨?_, ?_⟩
      · rfl
      · exact ((hbf.setCell (by simp) _).setCell (by simp) _).setCell (by simp) _

end Go.Proofs.YtjgekikcmkicmaaGreatDoor

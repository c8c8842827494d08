/-
  The walks of the specification's l04Op and Compute.
-/
import Derived.Test.YtoficeamogbbhaaGreatDoorValCompT
namespace Go.Proofs.YtoficeamogbbhaaGreatDoor
open Go.RowKit

theorem op_not {op : ByteArray} {l : List UInt8} (h : ¬ op = ⟨l.toArray⟩) : ¬ op.toList = l := fun e => h (by
  rw [Lib.toList_data] at e
  rw [← e])

set_option maxHeartbeats 1000000 in
theorem sOp (op : ByteArray) (w : World) : Calls Tryz.prog 52 #[.string op] w fun e w' => e = .returned (.bool (decide (Val.isOp op))) ∧ w' = w := by
  by_cases h : Val.isOp op
  · rw [decide_eq_true h]
    rcases h with rfl | rfl | rfl | rfl | rfl
    all_goals
      go_enter Tryz.func52, Tryz.ntmps52
      go_wp2_with fail
      go_ret
      exact ⟨rfl, rfl⟩
  · rw [decide_eq_false h]
    have h1 := op_not (op := op) (l := [43]) fun e => h (.inl e)
    have h2 := op_not (op := op) (l := [45]) fun e => h (.inr (.inl e))
    have h3 := op_not (op := op) (l := [42]) fun e => h (.inr (.inr (.inl e)))
    have h4 := op_not (op := op) (l := [47]) fun e => h (.inr (.inr (.inr (.inl e))))
    have h5 := op_not (op := op) (l := [37]) fun e => h (.inr (.inr (.inr (.inr e))))
    clear h
    go_enter Tryz.func52, Tryz.ntmps52
    go_wp2_with fail
    go_ret
    refine ⟨vretB ?_, rfl⟩
    simp [h1, h2, h3, h4, h5]

theorem isOp_size {op : ByteArray} (h : Val.isOp op) : op.size = 1 := by rcases h with rfl | rfl | rfl | rfl | rfl <;> rfl

/-- The two arms of l04Compute. -/
theorem sCompute0 (op : ByteArray) (a b : Val.VV) (w : World) (ho : Val.isOp op) (ha : Val.right a = true) (hb : Val.right b = true) :
    Calls Tryz.prog 53 #[.string op, .agg (vC a), .agg (vC b)] w fun e w' => e = .returned (.agg (vC (Val.computeV op a b))) ∧ Below w.heap.size w w' := by
  unfold Val.computeV
  by_cases h : Val.plusText op a b
  · rw [if_pos h]
    obtain ⟨rfl, hk⟩ := h
    exact sComputeT a b w ha hb hk
  · rw [if_neg h]
    exact sComputeN op a b w (by have := Val.right_text a ha; omega) (by have := Val.right_text b hb; omega) h ho

set_option maxHeartbeats 2000000 in
theorem sCompute (op : ByteArray) (a b : Val.VV) (w : World) (hs : op.size ≤ 9223372036854775807) : Calls Tryz.prog 25 #[.string op, .agg (vC a), .agg (vC b)] w fun e w' => e = .returned (.agg (vC (Val.computeOf op a b))) ∧ Below w.heap.size w w' := by
  have O : Hid _ := fun (W : World) => sOp op W
  have R : Hid _ := fun (W : World) => sValueRight a W
  have R2 : Hid _ := fun (W : World) => sValueRight b W
  have T : Hid _ := fun (h0 : decide (Val.isOp op) = true) (h1 : Val.right a = true) (h2 : Val.right b = true) (W : World) => sCompute0 op a b W (of_decide_eq_true h0) h1 h2
  have TF : Hid (∀ w1, Below (((w.alloc (.cells (vC a) 24)).alloc (.cells (vC b) 24)).alloc zObj).heap.size (((w.alloc (.cells (vC a) 24)).alloc (.cells (vC b) 24)).alloc zObj) w1 → Lies w1 w.heap.size a ∧ Lies w1 (w.heap.size + 1) b ∧ Lies w1 (w.heap.size + 1 + 1) Val.zeroV ∧ Below w.heap.size w w1) := fun w1 h => three_lies h
  obtain ⟨l1, l2, l3, hbw⟩ := TF.out _ (Below.refl _ _)
  have hbig : 4000 < op.size → decide (Val.isOp op) = false := fun h => decide_eq_false fun g => by have := isOp_size g; omega
  have hE : Val.computeOf op a b = if (decide (Val.isOp op) && Val.right a && Val.right b) = true then Val.computeV op a b else Val.zeroV := by
    unfold Val.computeOf
    by_cases h : Val.isOp op ∧ Val.right a = true ∧ Val.right b = true
    · rw [if_pos h, if_pos (by simp [h])]
    · rw [if_neg h, if_neg (fun g => h (by simpa [and_assoc] using g))]
  obtain ⟨P, hP⟩ : ∃ P, decide (Val.isOp op) = P := ⟨_, rfl⟩
  obtain ⟨A, hA⟩ : ∃ B, Val.right a = B := ⟨_, rfl⟩
  obtain ⟨B, hB⟩ : ∃ B, Val.right b = B := ⟨_, rfl⟩
  obtain ⟨⟨ck, cn, ct⟩, hC⟩ : ∃ C, Val.computeV op a b = C := ⟨_, rfl⟩
  rw [hP] at O T hbig hE
  rw [hA] at R T hE
  rw [hB] at R2 T hE
  rw [hC] at T hE
  rw [hE]
  clear hP hA hB hC hE
  obtain ⟨k, n, t⟩ := a
  obtain ⟨k2, n2, t2⟩ := b
  unfold zObj at TF l1 l2 l3 hbw
  unfold vC at *
  dsimp only at *
  have hR0 : w.heap.size ≤ w.heap.size + 1 + 1 := by omega
  have HQ : Hid (_ ∧ _ ∧ _ ∧ _) := ⟨l1, l2, l3, hbw⟩
  clear l1 l2 l3 hbw
  go_enter Tryz.func25, Tryz.ntmps25
  by_cases h4 : 4000 < op.size
  · obtain rfl := hbig h4
    have h4' : (4000 : Int) < (op.size : Int) := by omega
    clear hbig
    go_wp2_with fail
    obtain ⟨-, -, l3, hbw⟩ := HQ.out
    have hltZ := l3.lt
    obtain ⟨⟨z0, z1, z2⟩, h0, h1, h2⟩ := l3.three
    dsimp only [Val.zeroV, Val.e0] at z0 z1 z2
    refine bodyPost_ret (v := .agg #[.int .i64 0, .int .i64 0, .string ⟨#[]⟩]) (by simp [results, Tryz.results25, go_sem]) rfl ⟨rfl, ?_⟩
    exact hbw
  have h4' : ¬ (4000 : Int) < (op.size : Int) := by omega
  clear hbig h4
  go_wp2_with fail
  refine (O.out _).mono ?_
  rintro e w0 ⟨rfl, hw0⟩
  obtain ⟨l1, l2, l3, hbw⟩ := HQ.out
  rw [← hw0] at l1 l2 l3 hbw
  clear hw0 HQ TF
  generalize w.heap.size + 1 + 1 = Z at *
  generalize w.heap.size + 1 = Y at *
  obtain ⟨⟨r0, r1, r2⟩, f0, f1, f2⟩ := l1.three
  obtain ⟨⟨z0, z1, z2⟩, h0, h1, h2⟩ := l3.three
  have hlt1 := l1.lt
  have hltZ := l3.lt
  dsimp only [Val.zeroV, Val.e0] at r0 r1 r2 z0 z1 z2
  cases P
  · go_wp2_with fail
    refine bodyPost_ret (v := .agg #[.int .i64 0, .int .i64 0, .string ⟨#[]⟩]) (by simp [results, Tryz.results25, go_sem, z0, z1, z2]) rfl ⟨rfl, ?_⟩
    exact ((hbw.setCell (by exact hR0) _).setCell (by exact hR0) _).setCell (by exact hR0) _
  go_wp2_with fail
  refine (R.out _).mono ?_
  rintro e w1 ⟨rfl, hb1⟩
  replace l1 := l1.keep hb1
  replace l2 := l2.keep hb1
  replace l3 := l3.keep hb1
  replace hbw := hbw.trans (hb1.mono hbw.size)
  clear hb1 r0 r1 r2 f0 f1 f2 z0 z1 z2 h0 h1 h2 hlt1 hltZ
  obtain ⟨⟨s0, s1, s2⟩, g0, g1, g2⟩ := l2.three
  obtain ⟨⟨z0, z1, z2⟩, h0, h1, h2⟩ := l3.three
  have hlt2 := l2.lt
  have hltZ := l3.lt
  dsimp only [Val.zeroV, Val.e0] at s0 s1 s2 z0 z1 z2
  cases A
  · go_wp2_with fail
    refine bodyPost_ret (v := .agg #[.int .i64 0, .int .i64 0, .string ⟨#[]⟩]) (by simp [results, Tryz.results25, go_sem, z0, z1, z2]) rfl ⟨rfl, ?_⟩
    exact ((hbw.setCell (by exact hR0) _).setCell (by exact hR0) _).setCell (by exact hR0) _
  go_wp2_with fail
  refine (R2.out _).mono ?_
  rintro e w2 ⟨rfl, hb2⟩
  replace l1 := l1.keep hb2
  replace l2 := l2.keep hb2
  replace l3 := l3.keep hb2
  replace hbw := hbw.trans (hb2.mono hbw.size)
  clear hb2 s0 s1 s2 g0 g1 g2 z0 z1 z2 h0 h1 h2 hlt2 hltZ
  obtain ⟨⟨r0, r1, r2⟩, f0, f1, f2⟩ := l1.three
  obtain ⟨⟨s0, s1, s2⟩, g0, g1, g2⟩ := l2.three
  obtain ⟨⟨z0, z1, z2⟩, h0, h1, h2⟩ := l3.three
  have hlt1 := l1.lt
  have hlt2 := l2.lt
  have hltZ := l3.lt
  dsimp only [Val.zeroV, Val.e0] at r0 r1 r2 s0 s1 s2 z0 z1 z2
  cases B
  · go_wp2_with fail
    refine bodyPost_ret (v := .agg #[.int .i64 0, .int .i64 0, .string ⟨#[]⟩]) (by simp [results, Tryz.results25, go_sem, z0, z1, z2]) rfl ⟨rfl, ?_⟩
    exact ((hbw.setCell (by exact hR0) _).setCell (by exact hR0) _).setCell (by exact hR0) _
  go_wp2_with fail
  refine (T.out (by trivial) (by trivial) (by trivial) _).mono ?_
  rintro e w3 ⟨rfl, hb3⟩
  have hbf := hbw.trans (hb3.mono hbw.size)
  clear z0 z1 z2 h0 h1 h2 hltZ
  obtain ⟨⟨z0, z1, z2⟩, h0, h1, h2⟩ := (l3.keep hb3).three
  have hltZ := (l3.keep hb3).lt
  dsimp only [Val.zeroV, Val.e0] at z0 z1 z2
  go_wp2_with fail
  refine bodyPost_ret (v := .agg #[.int .i64 ck, .int .i64 cn, .string ct]) (by simp [results, Tryz.results25, go_sem, z0, z1, z2]) rfl ⟨rfl, ?_⟩
  exact ((hbf.setCell (by exact hR0) _).setCell (by exact hR0) _).setCell (by exact hR0) _

end Go.Proofs.YtoficeamogbbhaaGreatDoor

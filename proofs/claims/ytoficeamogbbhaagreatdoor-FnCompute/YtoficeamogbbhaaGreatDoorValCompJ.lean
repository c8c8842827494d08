/-
  The walk of the program's Compute.
-/
import Derived.Test.YtoficeamogbbhaaGreatDoorValCompR
import Derived.Test.YtoficeamogbbhaaGreatDoorValLessJ
namespace Go.Proofs.YtoficeamogbbhaaGreatDoor
namespace Val
theorem compute_text (a b : VV) (h : (textual a || textual b) = true) : computeV ⟨#[43]⟩ a b = textV (toTextV a ++ toTextV b) := by
  have hp : plusText ⟨#[43]⟩ a b := ⟨rfl, by
    rcases Bool.or_eq_true_iff.1 h with g | g
    · exact .inl ((textual_plain a).1 g)
    · exact .inr ((textual_plain b).1 g)⟩
  unfold computeV
  rw [if_pos hp, toText_plain, toText_plain]
theorem compute_nums (op : ByteArray) (a b : VV) (ha : right a = true) (hb : right b = true) (h : ¬ (op = ⟨#[43]⟩ ∧ (textual a || textual b) = true)) : computeV op a b = valO (resO op (numO a) (numO b)) := by
  have hp : ¬ plusText op a b := fun g => h ⟨g.1, by
    rcases g.2 with k | k
    · rw [(textual_plain a).2 k]; rfl
    · rw [(textual_plain b).2 k]; simp⟩
  unfold computeV
  rw [if_neg hp, nums_V op a b ha hb]
end Val
open Go.RowKit Go.Shelf

set_option maxHeartbeats 8000000 in
theorem iCompute (op : ByteArray) (a b : Val.VV) (w : World) (hs : op.size ≤ 9223372036854775807) (hp : PowIn w) (he : ErrIn w) : Calls Tryz.prog 24 #[.string op, .agg (vC a), .agg (vC b)] w fun e w' => e = .returned (.agg (vC (Val.computeOf op a b))) ∧ Below w.heap.size w w' := by
  have O : Hid _ := fun (W : World) => iIsCompute op W hs
  have R : Hid _ := fun (W : World) => iPairRight a b W
  have XA : Hid _ := fun (W : World) => iTextual a W
  have XB : Hid _ := fun (W : World) => iTextual b W
  have TA : Hid _ := fun (W : World) (h : PowIn W) => iToText a W h
  have TB : Hid _ := fun (W : World) (h : PowIn W) => iToText b W h
  have TV : Hid _ := fun (t : ByteArray) (W : World) => iTextValue t W
  have RS : Hid _ := fun (h0 : decide (Val.isOp op) = true) (h : (Val.right a && Val.right b) = true) (W : World) => iResult op a b W (of_decide_eq_true h0) (by simp at h; exact h.1) (by simp at h; exact h.2)
  have NV : Hid _ := fun (o : Option Int) (m : Int) (E : Value) (W : World) (h : Says W o m E) (he : ErrIn W) => iNumberValue2 o m E W h he
  have HP : Hid (PowIn w ∧ ErrIn w) := ⟨hp, he⟩
  clear hp he
  have HSZ : Hid ((Val.right a && Val.right b) = true → Val.textOf a = Val.toTextV a ∧ Val.textOf b = Val.toTextV b ∧ (Val.toTextV a).size ≤ 1000 ∧ (Val.toTextV b).size ≤ 1000) := fun h => by
    simp at h
    exact ⟨if_pos h.1, if_pos h.2, Val.toText_size a h.1, Val.toText_size b h.2⟩
  have HC1 : Hid ((Val.textual a || Val.textual b) = true → Val.computeV ⟨#[43]⟩ a b = Val.textV (Val.toTextV a ++ Val.toTextV b)) := fun h => Val.compute_text a b h
  have HC2 : Hid ((Val.right a && Val.right b) = true → ¬ (op = ⟨#[43]⟩ ∧ (Val.textual a || Val.textual b) = true) → Val.computeV op a b = Val.valO (Val.resO op (Val.numO a) (Val.numO b))) := fun h g => by
    simp at h
    exact Val.compute_nums op a b h.1 h.2 g
  have hE : Val.computeOf op a b = if (decide (Val.isOp op) && (Val.right a && Val.right b)) = true then Val.computeV op a b else Val.zeroV := by
    unfold Val.computeOf
    by_cases h : Val.isOp op ∧ Val.right a = true ∧ Val.right b = true
    · rw [if_pos h, if_pos (by simp [h])]
    · rw [if_neg h, if_neg (fun g => h (by simpa using g))]
  have HO : Hid (decide (Val.isOp op) = true → Val.isOp op) := fun h => of_decide_eq_true h
  obtain ⟨P, hP⟩ : ∃ P, decide (Val.isOp op) = P := ⟨_, rfl⟩
  obtain ⟨A, hA⟩ : ∃ B, (Val.right a && Val.right b) = B := ⟨_, rfl⟩
  rw [hP] at O RS hE HO
  rw [hA] at R RS hE HSZ HC2
  have HL : Hid (LiesP (wPairR w a b) (w.heap.size + 1 + 1 + 1) a b ∧ Lies (wPairR w a b) (w.heap.size + 1 + 1) Val.zeroV ∧ Below w.heap.size w (wPairR w a b)) := wPairR_lies w a b
  have HL2 : Hid (Lies (wPairR w a b) w.heap.size a ∧ Lies (wPairR w a b) (w.heap.size + 1) b) := by
    have h0 := three_lies (w := w) (a := a) (b := b) (Below.refl _ _)
    exact ⟨h0.1.grow _, h0.2.1.grow _⟩
  unfold wPairR zObj at HL HL2
  rw [hE]
  clear hP hA hE
  obtain ⟨k, n, t⟩ := a
  obtain ⟨k2, n2, t2⟩ := b
  unfold vC at *
  unfold pC at *
  dsimp only at *
  go_enter Tryz.func24, Tryz.ntmps24
  go_wp2_with fail
  refine (O.out _).mono ?_
  rintro e w0 ⟨rfl, hw0⟩
  obtain ⟨L1, L3, hbw⟩ := HL.out
  obtain ⟨lA, lB⟩ := HL2.out
  rw [hw0] at L1 L3 hbw lA lB
  clear hw0 HL HL2
  generalize hX : w.heap.size + 1 + 1 + 1 = X at *
  generalize hZ : w.heap.size + 1 + 1 = Z at *
  generalize hY : w.heap.size + 1 = Y at *
  have hR0 : w.heap.size ≤ Z := by omega
  clear hX hZ hY
  have hltX := L1.lt
  have hltZ := L3.lt
  obtain ⟨⟨r0, r1, r2, r3, r4, r5⟩, f0, f1, f2, f3, f4, f5⟩ := L1.six
  obtain ⟨⟨z0, z1, z2⟩, h0, h1, h2⟩ := L3.three
  dsimp only [Val.zeroV, Val.e0] at r0 r1 r2 r3 r4 r5 z0 z1 z2
  cases P
  · go_wp2_with fail
    refine bodyPost_ret (v := .agg #[.int .i64 0, .int .i64 0, .string ⟨#[]⟩]) (by simp [results, Tryz.results24, go_sem, z0, z1, z2]) rfl ⟨rfl, ?_⟩
    exact ((hbw.setCell (by exact hR0) _).setCell (by exact hR0) _).setCell (by exact hR0) _
  go_wp2_with fail
  refine (R.out _).mono ?_
  rintro e w1 ⟨rfl, hb1⟩
  replace L1 := L1.keep hb1
  replace L3 := L3.keep hb1
  replace lA := lA.keep hb1
  replace lB := lB.keep hb1
  replace hbw := hbw.trans (hb1.mono hbw.size)
  clear hb1 r0 r1 r2 r3 r4 r5 f0 f1 f2 f3 f4 f5 z0 z1 z2 h0 h1 h2 hltX hltZ
  cases A
  · obtain ⟨⟨z0, z1, z2⟩, h0, h1, h2⟩ := L3.three
    have hltZ := L3.lt
    dsimp only [Val.zeroV, Val.e0] at z0 z1 z2
    go_wp2_with fail
    refine bodyPost_ret (v := .agg #[.int .i64 0, .int .i64 0, .string ⟨#[]⟩]) (by simp [results, Tryz.results24, go_sem, z0, z1, z2]) rfl ⟨rfl, ?_⟩
    exact ((hbw.setCell (by exact hR0) _).setCell (by exact hR0) _).setCell (by exact hR0) _
  obtain ⟨hta, htb, hsa, hsb⟩ := HSZ.out rfl
  rw [hta] at TA
  rw [htb] at TB
  clear hta htb HSZ
  by_cases hop : op = ⟨#[43]⟩
  case neg =>
    have HC : Hid (Val.computeV op ⟨k, n, t⟩ ⟨k2, n2, t2⟩ = Val.valO (Val.resO op (Val.numO ⟨k, n, t⟩) (Val.numO ⟨k2, n2, t2⟩))) := HC2.out (by trivial) (fun g => hop g.1)
    have hnp := op_not (op := op) (l := [43]) hop
    clear HC1 HC2 XA XB TA TB TV hop
    obtain ⟨⟨r0, r1, r2, r3, r4, r5⟩, f0, f1, f2, f3, f4, f5⟩ := L1.six
    have hltX := L1.lt
    dsimp only at r0 r1 r2 r3 r4 r5
    go_wp2_with fail
    refine (RS.out (by trivial) (by trivial) _).mono ?_
    rintro e w5 ⟨m, E, rfl, sy, hb5⟩
    replace L3 := L3.keep hb5
    have he5 := HP.out.2.keep (hbw.trans (hb5.mono hbw.size))
    replace hbw := hbw.trans (hb5.mono hbw.size)
    clear hb5 r0 r1 r2 r3 r4 r5 f0 f1 f2 f3 f4 f5 hltX L1
    have NW : Hid _ := fun (_ : Unit) => NV.out _ m E w5 sy he5
    rw [← HC.out] at NW
    obtain ⟨⟨ck, cn, ct⟩, hC⟩ : ∃ C, Val.computeV op ⟨k, n, t⟩ ⟨k2, n2, t2⟩ = C := ⟨_, rfl⟩
    rw [hC] at NW
    have HCC : Hid (Val.computeV op ⟨k, n, t⟩ ⟨k2, n2, t2⟩ = ⟨ck, cn, ct⟩) := hC
    dsimp only at NW
    clear HC hC sy NV RS
    go_wp2_with fail
    refine (NW.out ()).mono ?_
    rintro e w6 ⟨rfl, hb6⟩
    have hbf := hbw.trans (hb6.mono hbw.size)
    obtain ⟨⟨z0, z1, z2⟩, h0, h1, h2⟩ := (L3.keep hb6).three
    have hltZ := (L3.keep hb6).lt
    dsimp only [Val.zeroV, Val.e0] at z0 z1 z2
    go_wp2_with fail
    refine bodyPost_ret (v := .agg #[.int .i64 ck, .int .i64 cn, .string ct]) (by simp [results, Tryz.results24, go_sem, z0, z1, z2]) rfl ⟨congrArg (fun x => Ending.returned (.agg (vC x))) HCC.out.symm, ?_⟩
    exact ((hbf.setCell (by exact hR0) _).setCell (by exact hR0) _).setCell (by exact hR0) _
  subst hop
  obtain ⟨MA, hMA⟩ : ∃ B, Val.textual ⟨k, n, t⟩ = B := ⟨_, rfl⟩
  obtain ⟨MB, hMB⟩ : ∃ B, Val.textual ⟨k2, n2, t2⟩ = B := ⟨_, rfl⟩
  rw [hMA] at XA HC1 HC2
  rw [hMB] at XB HC1 HC2
  clear hMA hMB
  obtain ⟨⟨r0, r1, r2⟩, f0, f1, f2⟩ := lA.three
  have hltA := lA.lt
  dsimp only at r0 r1 r2
  go_wp2_with fail
  refine (XA.out _).mono ?_
  rintro e w2 ⟨rfl, hb2⟩
  replace L1 := L1.keep hb2
  replace L3 := L3.keep hb2
  replace lA := lA.keep hb2
  replace lB := lB.keep hb2
  replace hbw := hbw.trans (hb2.mono hbw.size)
  clear hb2 r0 r1 r2 f0 f1 f2 hltA
  cases MA
  case true =>
    have HC : Hid (Val.computeV ⟨#[43]⟩ ⟨k, n, t⟩ ⟨k2, n2, t2⟩ = Val.textV (Val.toTextV ⟨k, n, t⟩ ++ Val.toTextV ⟨k2, n2, t2⟩)) := HC1.out rfl
    clear HC1
    have VT : Hid _ := fun (W : World) => TV.out (Val.toTextV ⟨k, n, t⟩ ++ Val.toTextV ⟨k2, n2, t2⟩) W
    rw [← HC.out] at VT
    obtain ⟨⟨ck, cn, ct⟩, hC⟩ : ∃ C, Val.computeV ⟨#[43]⟩ ⟨k, n, t⟩ ⟨k2, n2, t2⟩ = C := ⟨_, rfl⟩
    rw [hC] at VT
    have HCC : Hid (Val.computeV ⟨#[43]⟩ ⟨k, n, t⟩ ⟨k2, n2, t2⟩ = ⟨ck, cn, ct⟩) := hC
    generalize Val.toTextV ⟨k, n, t⟩ = xa at *
    generalize Val.toTextV ⟨k2, n2, t2⟩ = xb at *
    dsimp only at VT
    clear HC hC TV RS NV XA XB HC2
    obtain ⟨⟨r0, r1, r2⟩, -⟩ := lA.three
    obtain ⟨⟨s0, s1, s2⟩, -⟩ := lB.three
    have hltA := lA.lt
    have hltB := lB.lt
    dsimp only at r0 r1 r2 s0 s1 s2
    go_wp2_with fail
    go_region_with (first
      | (go_at_call_of 14 t; refine (TA.out _ (HP.out.1.keep hbw.drew)).mono ?_; rintro e W1 ⟨rfl, hA⟩; have hA2 : Below w2.heap.size w2 W1 := (Below.refl w2.heap.size w2).drew.trans hA; obtain ⟨⟨a0, a1, a2⟩, -⟩ := (lB.keep hA2).three; dsimp only at a0 a1 a2)
      | (go_at_call_of 14 t2; refine (TB.out _ (HP.out.1.keep (hbw.trans (hA2.mono hbw.size)))).mono ?_; rintro e W2 ⟨rfl, hB⟩; have hB2 : Below w2.heap.size w2 W2 := hA2.trans (hB.mono hA2.size))
      | (go_at_call 50; refine (VT.out _).mono ?_; rintro e W3 ⟨rfl, hC⟩; have hC2 : Below w2.heap.size w2 W3 := hB2.trans (hC.mono hB2.size); obtain ⟨⟨z0, z1, z2⟩, h0, h1, h2⟩ := (L3.keep hC2).three; have hltZ := (L3.keep hC2).lt; dsimp only [Val.zeroV, Val.e0] at z0 z1 z2))
    all_goals
      go_wp2_with fail
      have hbf := hbw.trans (hC2.mono hbw.size)
      refine bodyPost_ret (v := .agg #[.int .i64 ck, .int .i64 cn, .string ct]) (by simp [results, Tryz.results24, go_sem, z0, z1, z2]) rfl ⟨congrArg (fun x => Ending.returned (.agg (vC x))) HCC.out.symm, ?_⟩
      exact ((hbf.setCell (by exact hR0) _).setCell (by exact hR0) _).setCell (by exact hR0) _
  case false =>
    obtain ⟨⟨s0, s1, s2⟩, g0, g1, g2⟩ := lB.three
    have hltB := lB.lt
    dsimp only at s0 s1 s2
    go_wp2_with fail
    refine (XB.out _).mono ?_
    rintro e w3 ⟨rfl, hb3⟩
    replace L1 := L1.keep hb3
    replace L3 := L3.keep hb3
    replace lA := lA.keep hb3
    replace lB := lB.keep hb3
    replace hbw := hbw.trans (hb3.mono hbw.size)
    clear hb3 s0 s1 s2 g0 g1 g2 hltB
    cases MB
    case true =>
      have HC : Hid (Val.computeV ⟨#[43]⟩ ⟨k, n, t⟩ ⟨k2, n2, t2⟩ = Val.textV (Val.toTextV ⟨k, n, t⟩ ++ Val.toTextV ⟨k2, n2, t2⟩)) := HC1.out rfl
      clear HC1
      have VT : Hid _ := fun (W : World) => TV.out (Val.toTextV ⟨k, n, t⟩ ++ Val.toTextV ⟨k2, n2, t2⟩) W
      rw [← HC.out] at VT
      obtain ⟨⟨ck, cn, ct⟩, hC⟩ : ∃ C, Val.computeV ⟨#[43]⟩ ⟨k, n, t⟩ ⟨k2, n2, t2⟩ = C := ⟨_, rfl⟩
      rw [hC] at VT
      have HCC : Hid (Val.computeV ⟨#[43]⟩ ⟨k, n, t⟩ ⟨k2, n2, t2⟩ = ⟨ck, cn, ct⟩) := hC
      generalize Val.toTextV ⟨k, n, t⟩ = xa at *
      generalize Val.toTextV ⟨k2, n2, t2⟩ = xb at *
      dsimp only at VT
      clear HC hC TV RS NV XA XB HC2
      obtain ⟨⟨r0, r1, r2⟩, -⟩ := lA.three
      obtain ⟨⟨s0, s1, s2⟩, -⟩ := lB.three
      have hltA := lA.lt
      have hltB := lB.lt
      dsimp only at r0 r1 r2 s0 s1 s2
      go_wp2_with fail
      go_region_with (first
        | (go_at_call_of 14 t; refine (TA.out _ (HP.out.1.keep hbw.drew)).mono ?_; rintro e W1 ⟨rfl, hA⟩; have hA2 : Below w3.heap.size w3 W1 := (Below.refl w3.heap.size w3).drew.trans hA; obtain ⟨⟨a0, a1, a2⟩, -⟩ := (lB.keep hA2).three; dsimp only at a0 a1 a2)
        | (go_at_call_of 14 t2; refine (TB.out _ (HP.out.1.keep (hbw.trans (hA2.mono hbw.size)))).mono ?_; rintro e W2 ⟨rfl, hB⟩; have hB2 : Below w3.heap.size w3 W2 := hA2.trans (hB.mono hA2.size))
        | (go_at_call 50; refine (VT.out _).mono ?_; rintro e W3 ⟨rfl, hC⟩; have hC2 : Below w3.heap.size w3 W3 := hB2.trans (hC.mono hB2.size); obtain ⟨⟨z0, z1, z2⟩, h0, h1, h2⟩ := (L3.keep hC2).three; have hltZ := (L3.keep hC2).lt; dsimp only [Val.zeroV, Val.e0] at z0 z1 z2))
      all_goals
        go_wp2_with fail
        have hbf := hbw.trans (hC2.mono hbw.size)
        refine bodyPost_ret (v := .agg #[.int .i64 ck, .int .i64 cn, .string ct]) (by simp [results, Tryz.results24, go_sem, z0, z1, z2]) rfl ⟨congrArg (fun x => Ending.returned (.agg (vC x))) HCC.out.symm, ?_⟩
        exact ((hbf.setCell (by exact hR0) _).setCell (by exact hR0) _).setCell (by exact hR0) _
    case false =>
      have HC : Hid (Val.computeV ⟨#[43]⟩ ⟨k, n, t⟩ ⟨k2, n2, t2⟩ = Val.valO (Val.resO ⟨#[43]⟩ (Val.numO ⟨k, n, t⟩) (Val.numO ⟨k2, n2, t2⟩))) := HC2.out (by trivial) (fun g => by simp at g)
      clear HC1 HC2 XA XB TA TB TV
      obtain ⟨⟨r0, r1, r2, r3, r4, r5⟩, f0, f1, f2, f3, f4, f5⟩ := L1.six
      have hltX := L1.lt
      dsimp only at r0 r1 r2 r3 r4 r5
      go_wp2_with fail
      refine (RS.out (by trivial) (by trivial) _).mono ?_
      rintro e w5 ⟨m, E, rfl, sy, hb5⟩
      replace L3 := L3.keep hb5
      have he5 := HP.out.2.keep (hbw.trans (hb5.mono hbw.size))
      replace hbw := hbw.trans (hb5.mono hbw.size)
      clear hb5 r0 r1 r2 r3 r4 r5 f0 f1 f2 f3 f4 f5 hltX L1
      have NW : Hid _ := fun (_ : Unit) => NV.out _ m E w5 sy he5
      rw [← HC.out] at NW
      obtain ⟨⟨ck, cn, ct⟩, hC⟩ : ∃ C, Val.computeV ⟨#[43]⟩ ⟨k, n, t⟩ ⟨k2, n2, t2⟩ = C := ⟨_, rfl⟩
      rw [hC] at NW
      have HCC : Hid (Val.computeV ⟨#[43]⟩ ⟨k, n, t⟩ ⟨k2, n2, t2⟩ = ⟨ck, cn, ct⟩) := hC
      dsimp only at NW
      clear HC hC sy NV RS
      go_wp2_with fail
      refine (NW.out ()).mono ?_
      rintro e w6 ⟨rfl, hb6⟩
      have hbf := hbw.trans (hb6.mono hbw.size)
      obtain ⟨⟨z0, z1, z2⟩, h0, h1, h2⟩ := (L3.keep hb6).three
      have hltZ := (L3.keep hb6).lt
      dsimp only [Val.zeroV, Val.e0] at z0 z1 z2
      go_wp2_with fail
      refine bodyPost_ret (v := .agg #[.int .i64 ck, .int .i64 cn, .string ct]) (by simp [results, Tryz.results24, go_sem, z0, z1, z2]) rfl ⟨congrArg (fun x => Ending.returned (.agg (vC x))) HCC.out.symm, ?_⟩
      exact ((hbf.setCell (by exact hR0) _).setCell (by exact hR0) _).setCell (by exact hR0) _

end Go.Proofs.YtoficeamogbbhaaGreatDoor

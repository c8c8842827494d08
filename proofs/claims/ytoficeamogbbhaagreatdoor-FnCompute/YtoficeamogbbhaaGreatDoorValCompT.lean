/-
  The walk of the specification's l04Compute where texts are joined; of l04Op and Compute.
-/
import Derived.Test.YtoficeamogbbhaaGreatDoorValComp
import Derived.Test.YtoficeamogbbhaaGreatDoorValPure
import Derived.Test.YtoficeamogbbhaaGreatDoorValLessS
import Derived.Deep.RegionWith
import Derived.BigRegion
namespace Go.Proofs.YtoficeamogbbhaaGreatDoor
namespace Val
theorem plain_right2 (v : VV) (h : right v = true) : right (plainV v) = true := by
  unfold plainV
  by_cases g : v.kind = 6
  · rw [if_pos g]; decide
  · rw [if_neg g]; exact h
def isOp (op : ByteArray) : Prop := op = ⟨#[43]⟩ ∨ op = ⟨#[45]⟩ ∨ op = ⟨#[42]⟩ ∨ op = ⟨#[47]⟩ ∨ op = ⟨#[37]⟩
instance (op : ByteArray) : Decidable (isOp op) := by unfold isOp; infer_instance
def computeOf (op : ByteArray) (a b : VV) : VV := if isOp op ∧ right a = true ∧ right b = true then computeV op a b else zeroV
theorem nDig_le : ∀ k u : Nat, u < 10 ^ (k + 1) → Lib.nDigits u ≤ k + 1
  | 0, u, h => by rw [Lib.nDigits_small (by simpa using h)]; omega
  | k + 1, u, h => by
    by_cases h1 : u < 10
    · rw [Lib.nDigits_small h1]; omega
    · rw [Lib.nDigits_big h1]
      have := nDig_le k (u / 10) (by rw [Nat.pow_succ] at h; omega)
      omega
theorem decT_size (n : Int) (h1 : -9007199254740992 ≤ n) (h2 : n ≤ 9007199254740992) : (decT n).size ≤ 18 := by
  rw [← itoa_eq]
  show (Lib.itoa n).toArray.size ≤ 18
  rw [List.size_toArray]
  have e : 10 ^ (16 + 1) = 100000000000000000 := by decide
  unfold Lib.itoa
  split
  · rw [List.length_cons, Lib.decDigits_length]
    have := nDig_le 16 n.natAbs (by omega)
    omega
  · rw [Lib.decDigits_length]
    have := nDig_le 16 n.toNat (by omega)
    omega
theorem toText_size (v : VV) (h : right v = true) : (toTextV v).size ≤ 1000 := by
  unfold toTextV
  by_cases h0 : v.kind = 0
  · rw [if_pos h0]; decide
  rw [if_neg h0]
  by_cases h1 : v.kind = 1
  · rw [if_pos h1]; decide
  rw [if_neg h1]
  by_cases h2 : v.kind = 2
  · rw [if_pos h2]; split <;> decide
  rw [if_neg h2]
  by_cases h3 : v.kind = 3
  · rw [if_pos h3]
    have hb := right_num v h h3
    have := decT_size v.num hb.1 hb.2
    omega
  rw [if_neg h3]
  by_cases h5 : v.kind = 5
  · rw [if_pos h5]; exact right_text v h
  rw [if_neg h5]
  split <;> decide
end Val
open Go.RowKit

set_option maxHeartbeats 4000000 in
theorem sComputeT (a b : Val.VV) (w : World) (ha : Val.right a = true) (hb : Val.right b = true) (hpt : (Val.plainV a).kind = 5 ∨ (Val.plainV b).kind = 5) :
    Calls Tryz.prog 53 #[.string ⟨#[43]⟩, .agg (vC a), .agg (vC b)] w fun e w' => e = .returned (.agg (vC (Val.textV (Val.toTextV (Val.plainV a) ++ Val.toTextV (Val.plainV b))))) ∧ Below w.heap.size w w' := by
  have PA : Hid _ := fun (W : World) => sPlain a W
  have PB : Hid _ := fun (W : World) => sPlain b W
  have XA : Hid _ := fun (W : World) => sToText0 (Val.plainV a) W (fun h => by have := Val.right_num _ (Val.plain_right2 a ha) h; omega)
  have XB : Hid _ := fun (W : World) => sToText0 (Val.plainV b) W (fun h => by have := Val.right_num _ (Val.plain_right2 b hb) h; omega)
  have XT : Hid _ := fun (W : World) => sText (Val.toTextV (Val.plainV a) ++ Val.toTextV (Val.plainV b)) W
  have TF : Hid (∀ w1, Below (((w.alloc (.cells (vC a) 24)).alloc (.cells (vC b) 24)).alloc zObj).heap.size (((w.alloc (.cells (vC a) 24)).alloc (.cells (vC b) 24)).alloc zObj) w1 → Lies w1 w.heap.size a ∧ Lies w1 (w.heap.size + 1) b ∧ Lies w1 (w.heap.size + 1 + 1) Val.zeroV ∧ Below w.heap.size w w1) := fun w1 h => three_lies h
  have hsp := Val.toText_size _ (Val.plain_right2 a ha)
  have hsq := Val.toText_size _ (Val.plain_right2 b hb)
  obtain ⟨⟨pk, pn, pt⟩, hP⟩ : ∃ p, Val.plainV a = p := ⟨_, rfl⟩
  obtain ⟨⟨qk, qn, qt⟩, hQ⟩ : ∃ q, Val.plainV b = q := ⟨_, rfl⟩
  rw [hP] at PA XA XT hpt hsp ⊢
  rw [hQ] at PB XB XT hpt hsq ⊢
  obtain ⟨xp, hxp⟩ : ∃ x, Val.toTextV ⟨pk, pn, pt⟩ = x := ⟨_, rfl⟩
  obtain ⟨xq, hxq⟩ : ∃ x, Val.toTextV ⟨qk, qn, qt⟩ = x := ⟨_, rfl⟩
  rw [hxp] at XA XT hsp ⊢
  rw [hxq] at XB XT hsq ⊢
  obtain ⟨⟨rk, rn, rt⟩, hR⟩ : ∃ R, Val.textV (xp ++ xq) = R := ⟨_, rfl⟩
  rw [hR] at XT ⊢
  clear hP hQ hxp hxq hR ha hb
  obtain ⟨ak, an, at'⟩ := a
  obtain ⟨bk, bn, bt⟩ := b
  unfold zObj at TF
  unfold vC at *
  dsimp only at *
  go_enter Tryz.func53, Tryz.ntmps53
  go_wp2_with fail
  refine (PA.out _).mono ?_
  rintro e w1 ⟨rfl, hb1⟩
  obtain ⟨l1, l2, l3, hbw⟩ := TF.out _ hb1
  clear hb1 TF PA l1
  have hR0 : w.heap.size ≤ w.heap.size + 1 + 1 := by omega
  generalize w.heap.size + 1 + 1 = R0 at *
  generalize w.heap.size + 1 = B0 at *
  obtain ⟨⟨r0, r1, r2⟩, f0, f1, f2⟩ := l2.three
  have hlt := l2.lt
  dsimp only at r0 r1 r2
  go_wp2_with fail
  clear r0 r1 r2 f0 f1 f2 hlt l2
  refine (PB.out _).mono ?_
  rintro e w2 ⟨rfl, hb2⟩
  have lP : Lies w2 w1.heap.size ⟨pk, pn, pt⟩ := (lies_new w1 ⟨pk, pn, pt⟩).keep hb2
  replace l3 := (l3.grow (.cells (vC ⟨pk, pn, pt⟩) 24)).keep hb2
  have hbw2 : Below w.heap.size w w2 := (hbw.alloc hbw.size _).trans (hb2.mono (hbw.alloc hbw.size _).size)
  clear hb2 PB hbw
  have lQ : Lies (w2.alloc (.cells #[.int .i64 qk, .int .i64 qn, .string qt] 24)) w2.heap.size ⟨qk, qn, qt⟩ := lies_new w2 ⟨qk, qn, qt⟩
  have lPQ := lP.grow (.cells #[.int .i64 qk, .int .i64 qn, .string qt] 24)
  have l3Q := l3.grow (.cells #[.int .i64 qk, .int .i64 qn, .string qt] 24)
  have hbQ : Below w.heap.size w (w2.alloc (.cells #[.int .i64 qk, .int .i64 qn, .string qt] 24)) := hbw2.alloc hbw2.size _
  have HQ : Hid (_ ∧ _ ∧ _ ∧ _) := ⟨lQ, lPQ, l3Q, hbQ⟩
  clear lQ lPQ l3Q hbQ l3 hbw2
  obtain ⟨⟨r0, r1, r2⟩, f0, f1, f2⟩ := lP.three
  have hltP := lP.lt
  dsimp only at r0 r1 r2
  have hcase : (pk == 5) = true ∨ ((pk == 5) = false ∧ (qk == 5) = true) := by
    by_cases h : pk = 5
    · exact .inl (by simp [h])
    · exact .inr ⟨beq_eq_false_iff_ne.2 h, by simp [hpt.resolve_left h]⟩
  clear hpt
  rcases hcase with d5 | ⟨d5, d6⟩
  case' inl => go_wp2_with fail
  case' inr => go_wp2_with fail
  all_goals
    obtain ⟨lQ, lPQ, l3Q, hbQ⟩ := HQ.out
    clear r0 r1 r2 f0 f1 f2 HQ hltP lP
    generalize w2.alloc (.cells #[.int .i64 qk, .int .i64 qn, .string qt] 24) = w3 at *
    generalize w2.heap.size = Q0 at *
    generalize w1.heap.size = P0 at *
    obtain ⟨⟨r0, r1, r2⟩, -⟩ := lPQ.three
    obtain ⟨⟨s0, s1, s2⟩, -⟩ := lQ.three
    have hltP := lPQ.lt
    have hltQ := lQ.lt
    dsimp only at r0 r1 r2 s0 s1 s2
    go_region_with (first
      | (go_at_call_of 41 pt; refine (XA.out _).mono ?_; rintro e W1 ⟨rfl, hA⟩; have hA2 : Below w3.heap.size w3 W1 := (Below.refl w3.heap.size w3).drew.trans hA; obtain ⟨⟨a0, a1, a2⟩, -⟩ := (lQ.keep hA2).three; dsimp only at a0 a1 a2)
      | (go_at_call_of 41 qt; refine (XB.out _).mono ?_; rintro e W2 ⟨rfl, hB⟩; have hB2 : Below w3.heap.size w3 W2 := hA2.trans (hB.mono hA2.size))
      | (go_at_call 68; refine (XT.out _).mono ?_; rintro e W3 ⟨rfl, hC⟩; have hC2 : Below w3.heap.size w3 W3 := hB2.trans (hC.mono hB2.size); obtain ⟨⟨z0, z1, z2⟩, h0, h1, h2⟩ := (l3Q.keep hC2).three; have hltZ := (l3Q.keep hC2).lt; dsimp only [Val.zeroV, Val.e0] at z0 z1 z2))
    all_goals
      go_wp2_with fail
      have hbf := hbQ.trans (hC2.mono hbQ.size)
      refine bodyPost_ret (v := .agg #[.int .i64 rk, .int .i64 rn, .string rt]) (by simp [results, Tryz.results53, go_sem, z0, z1, z2]) rfl ⟨rfl, ?_⟩
      exact ((hbf.setCell (by exact hR0) _).setCell (by exact hR0) _).setCell (by exact hR0) _

end Go.Proofs.YtoficeamogbbhaaGreatDoor

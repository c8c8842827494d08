/-
  The walks of the program's product and result.
-/
import Derived.Test.YtoficeamogbbhaaGreatDoorValCompI
namespace Go.Proofs.YtoficeamogbbhaaGreatDoor
namespace Val
theorem rng_in (n : Int) : rng n = if inNum n then some n else none := by
  unfold rng
  by_cases h : n < -9007199254740992 ∨ 9007199254740992 < n
  · rw [if_pos h, if_neg (fun g => by unfold inNum at g; omega)]
  · rw [if_neg h, if_pos (show inNum n from ⟨by omega, by omega⟩)]
theorem in_dec (n : Int) : decide (inNum n) = (decide (-9007199254740992 ≤ n) && decide (n ≤ 9007199254740992)) := by
  by_cases h : inNum n
  · rw [decide_eq_true h, decide_eq_true h.1, decide_eq_true h.2]; rfl
  · rw [decide_eq_false h]
    by_cases h1 : -9007199254740992 ≤ n
    · rw [decide_eq_true h1, decide_eq_false (fun h2 => h ⟨h1, h2⟩)]; rfl
    · rw [decide_eq_false h1]; rfl
end Val
open Go.RowKit Go.Shelf

set_option maxHeartbeats 2000000 in
theorem iProduct (a b : Int) (w : World) (a1 : -9007199254740992 ≤ a) (a2 : a ≤ 9007199254740992) (b1 : -9007199254740992 ≤ b) (b2 : b ≤ 9007199254740992) :
    Calls Tryz.prog 80 #[.int .i64 a, .int .i64 b] w fun e w' => ∃ m E, e = .returned (.tuple #[.int .i64 m, E]) ∧ Says w' (Val.rng (a * b)) m E ∧ Below w.heap.size w w' := by
  have SZ : Hid _ := fun (n : Int) (h1 : -9007199254740992 ≤ n) (h2 : n ≤ 9007199254740992) (W : World) => iSize n W h1 h2
  have NN : Hid _ := fun (W : World) => iNotNumber W
  by_cases ha : a = 0
  · subst ha
    have e : Val.rng (0 * b) = some 0 := by rw [Int.zero_mul]; decide
    rw [e]
    clear e SZ NN
    go_enter Tryz.func80, Tryz.ntmps80
    go_wp2_with fail
    refine bodyPost_ret (v := .tuple #[.int .i64 0, .nilIface]) (by simp [results, Tryz.results80, go_sem]) rfl ?_
    exact ⟨0, _, rfl, .num 0, Below.refl _ _⟩
  have da : (a != 0) = true := bne_iff_ne.2 ha
  have SA : Hid _ := fun (W : World) => SZ.out a a1 a2 W
  have SB : Hid _ := fun (W : World) => SZ.out b b1 b2 W
  clear SZ
  obtain ⟨N, hN⟩ : ∃ N, a.natAbs = N := ⟨_, rfl⟩
  obtain ⟨M, hM⟩ : ∃ M, b.natAbs = M := ⟨_, rfl⟩
  obtain ⟨K, hK⟩ : ∃ K, 9007199254740992 / N = K := ⟨_, rfl⟩
  have hK1 : (9007199254740992 : Int) / (N : Int) = (K : Int) := by rw [← hK]; rfl
  have hN0 : ¬ (N : Int) = 0 := by omega
  have hN1 : (0 : Int) < (N : Int) := by omega
  have hKm : K ≤ 9007199254740992 := by rw [← hK]; exact Nat.div_le_self _ _
  have hMm : M ≤ 9007199254740992 := by omega
  have hNm : N ≤ 9007199254740992 := by omega
  have key : Val.inNum (a * b) ↔ M ≤ K := by
    rw [Int.mul_comm, times_abs, hN, hM, hK]
    constructor
    · rintro (h | h)
      · exact absurd h ha
      · exact h
    · exact .inr
  have T1 : K < M → Val.rng (a * b) = none := fun h => by rw [Val.rng_in, if_neg (by rw [key]; omega)]
  have T2 : M ≤ K → Val.rng (a * b) = some (a * b) ∧ wrap64 (a * b) = a * b := fun h => by
    have hin := key.2 h
    refine ⟨by rw [Val.rng_in, if_pos hin], ?_⟩
    unfold Val.inNum at hin
    exact wrap_id (by omega) (by omega)
  have HT : Hid ((K < M → Val.rng (a * b) = none) ∧ (M ≤ K → Val.rng (a * b) = some (a * b) ∧ wrap64 (a * b) = a * b)) := ⟨T1, T2⟩
  rw [hN] at SA
  rw [hM] at SB
  clear T1 T2 key hK ha hN hM
  generalize Val.rng (a * b) = R at *
  go_enter Tryz.func80, Tryz.ntmps80
  go_wp2_with fail
  refine (SB.out _).mono ?_
  rintro e w1 ⟨rfl, rfl⟩
  go_wp2_with fail
  refine (SA.out _).mono ?_
  rintro e w2 ⟨rfl, rfl⟩
  by_cases hKM : K < M
  · have HE : Hid (R = none) := HT.out.1 hKM
    have hKM' : (K : Int) < (M : Int) := by omega
    go_wp2_with fail
    refine (NN.out _).mono ?_
    rintro e w3 ⟨rfl, hl, hb⟩
    go_wp2_with fail
    refine bodyPost_ret (v := .tuple #[.int .i64 0, .iface 47 (.pointer (some ⟨w.heap.size, 0, none⟩))]) (by simp [results, Tryz.results80, go_sem]) rfl ?_
    refine ⟨0, _, rfl, ?_, hb⟩
    rw [HE.out]
    exact .none _ hl
  · obtain ⟨hR, hW⟩ := HT.out.2 (by omega)
    have hKM' : ¬ (K : Int) < (M : Int) := by omega
    have HE : Hid (R = some (a * b) ∧ wrap64 (a * b) = a * b) := ⟨hR, hW⟩
    clear hR hW HT
    go_wp2_with fail
    refine bodyPost_ret (v := .tuple #[.int .i64 (wrap64 (a * b)), .nilIface]) (by simp [results, Tryz.results80, go_sem]) rfl ?_
    refine ⟨_, _, rfl, ?_, Below.refl _ _⟩
    rw [HE.out.1, HE.out.2]
    exact .num _

set_option maxHeartbeats 1000000 in
theorem iInRange (n : Int) (w : World) : Calls Tryz.prog 46 #[.int .i64 n] w fun e w' => e = .returned (.bool (decide (Val.inNum n))) ∧ w = w' := by
  go_enter Tryz.func46, Tryz.ntmps46
  go_wp2
  all_goals
    go_ret
    refine ⟨vretB ?_, rfl⟩
    rw [Val.in_dec]
    first | (simp_all; done) | (simp_all; omega)

set_option maxHeartbeats 8000000 in
theorem iResult (op : ByteArray) (a b : Val.VV) (w : World) (ho : Val.isOp op) (ha : Val.right a = true) (hb : Val.right b = true) :
    Calls Tryz.prog 51 #[.agg (pC a b), .string op] w fun e w' => ∃ m E, e = .returned (.tuple #[.int .i64 m, E]) ∧ Says w' (Val.resO op (Val.numO a) (Val.numO b)) m E ∧ Below w.heap.size w w' := by
  have NS : Hid _ := fun (W : World) => iNumbers a b W (Val.right_text a ha) (Val.right_text b hb)
  have NN : Hid _ := fun (W : World) => iNotNumber W
  have IR : Hid _ := fun (n : Int) (W : World) => iInRange n W
  have HB : Hid (∀ o, Below w.heap.size w (w.alloc o)) := fun o => ((Below.refl _ _).alloc (Nat.le_refl _) o)
  have hia := Val.numO_in a ha
  have hib := Val.numO_in b hb
  obtain ⟨oa, hoa⟩ : ∃ p, Val.numO a = p := ⟨_, rfl⟩
  obtain ⟨ob, hob⟩ : ∃ p, Val.numO b = p := ⟨_, rfl⟩
  rw [hoa] at NS hia ⊢
  rw [hob] at NS hib ⊢
  have HA : Hid (∀ x y, oa = some x → ob = some y → Val.resO op oa ob = Val.arithO op x y) := by
    show ∀ x y, _
    rintro x y rfl rfl
    rfl
  have HNo : Hid (oa = none ∨ ob = none → Val.resO op oa ob = none) := by
    show _ → _
    rintro (rfl | rfl)
    · rfl
    · cases oa <;> rfl
  obtain ⟨R, hR⟩ : ∃ R, Val.resO op oa ob = R := ⟨_, rfl⟩
  rw [hR] at HA HNo ⊢
  clear hoa hob ha hb hR
  obtain ⟨ak, an, at'⟩ := a
  obtain ⟨bk, bn, bt⟩ := b
  unfold pC at *
  dsimp only at *
  go_enter Tryz.func51, Tryz.ntmps51
  go_wp2_with fail
  refine (NS.out _).mono ?_
  rintro e w1 ⟨x, y, E, rfl, sy, hb1⟩
  have hbw : Below w.heap.size w w1 := (HB.out _).trans (hb1.mono (HB.out _).size)
  have HW : Hid (Below w.heap.size w w1) := hbw
  clear hb1 HB NS hbw
  cases sy with
  | fst ob b hl =>
    have HE : R = none := HNo.out (.inl rfl)
    subst HE
    clear NN IR hia hib HA HNo
    go_wp2_with fail
    refine bodyPost_ret (v := .tuple #[.int .i64 0, .iface 47 (.pointer (some ⟨b, 0, none⟩))]) (by simp [results, Tryz.results51, go_sem]) rfl ?_
    exact ⟨0, _, rfl, .none b hl, HW.out⟩
  | snd x b hl =>
    have HE : R = none := HNo.out (.inr rfl)
    subst HE
    clear NN IR hia hib HA HNo
    go_wp2_with fail
    refine bodyPost_ret (v := .tuple #[.int .i64 0, .iface 47 (.pointer (some ⟨b, 0, none⟩))]) (by simp [results, Tryz.results51, go_sem]) rfl ?_
    exact ⟨0, _, rfl, .none b hl, HW.out⟩
  | both =>
    obtain ⟨hx1, hx2⟩ := hia x rfl
    obtain ⟨hy1, hy2⟩ := hib y rfl
    clear hia hib
    have fin : ∀ n : Int, Hid (R = Val.rng n) → (Val.inNum n → R = some n) ∧ (¬ Val.inNum n → R = none) := fun n h => ⟨fun g => by rw [h.out, Val.rng_in, if_pos g], fun g => by rw [h.out, Val.rng_in, if_neg g]⟩
    rcases ho with rfl | rfl | rfl | rfl | rfl
    case inl =>
      have IN : Hid _ := fun (W : World) => IR.out (x + y) W
      have HR : Hid (R = Val.rng (x + y)) := HA.out x y rfl rfl
      have hb1 : -18014398509481984 ≤ x + y := by omega
      have hb2 : x + y ≤ 18014398509481984 := by omega
      clear HA IR HNo
      go_wp2_with fail
      refine (IN.out _).mono ?_
      rintro e w2 ⟨rfl, rfl⟩
      by_cases hin : Val.inNum (x + y)
      · have HE : Hid (R = some (x + y)) := fin (x + y) HR |>.1 hin
        have dd : decide (Val.inNum (x + y)) = true := decide_eq_true hin
        rw [dd]
        clear dd hin HR fin
        go_wp2_with fail
        refine bodyPost_ret (v := .tuple #[.int .i64 (x + y), .nilIface]) (by simp [results, Tryz.results51, go_sem]) rfl ?_
        refine ⟨x + y, _, rfl, ?_, HW.out⟩
        rw [HE.out]
        exact .num _
      · have HE : Hid (R = none) := fin (x + y) HR |>.2 hin
        have dd : decide (Val.inNum (x + y)) = false := decide_eq_false hin
        rw [dd]
        clear dd hin HR fin
        go_wp2_with fail
        refine (NN.out _).mono ?_
        rintro e w3 ⟨rfl, hl, hb3⟩
        have hbf := HW.out.trans (hb3.mono HW.out.size)
        go_wp2_with fail
        refine bodyPost_ret (v := .tuple #[.int .i64 0, .iface 47 (.pointer (some ⟨w1.heap.size, 0, none⟩))]) (by simp [results, Tryz.results51, go_sem]) rfl ?_
        refine ⟨0, _, rfl, ?_, hbf⟩
        rw [HE.out]
        exact .none _ hl
    case inr.inl =>
      have IN : Hid _ := fun (W : World) => IR.out (x - y) W
      have HR : Hid (R = Val.rng (x - y)) := HA.out x y rfl rfl
      have hb1 : -18014398509481984 ≤ x - y := by omega
      have hb2 : x - y ≤ 18014398509481984 := by omega
      clear HA IR HNo
      go_wp2_with fail
      refine (IN.out _).mono ?_
      rintro e w2 ⟨rfl, rfl⟩
      by_cases hin : Val.inNum (x - y)
      · have HE : Hid (R = some (x - y)) := fin (x - y) HR |>.1 hin
        have dd : decide (Val.inNum (x - y)) = true := decide_eq_true hin
        rw [dd]
        clear dd hin HR fin
        go_wp2_with fail
        refine bodyPost_ret (v := .tuple #[.int .i64 (x - y), .nilIface]) (by simp [results, Tryz.results51, go_sem]) rfl ?_
        refine ⟨x - y, _, rfl, ?_, HW.out⟩
        rw [HE.out]
        exact .num _
      · have HE : Hid (R = none) := fin (x - y) HR |>.2 hin
        have dd : decide (Val.inNum (x - y)) = false := decide_eq_false hin
        rw [dd]
        clear dd hin HR fin
        go_wp2_with fail
        refine (NN.out _).mono ?_
        rintro e w3 ⟨rfl, hl, hb3⟩
        have hbf := HW.out.trans (hb3.mono HW.out.size)
        go_wp2_with fail
        refine bodyPost_ret (v := .tuple #[.int .i64 0, .iface 47 (.pointer (some ⟨w1.heap.size, 0, none⟩))]) (by simp [results, Tryz.results51, go_sem]) rfl ?_
        refine ⟨0, _, rfl, ?_, hbf⟩
        rw [HE.out]
        exact .none _ hl
    case inr.inr.inl =>
      have PR : Hid _ := fun (W : World) => iProduct x y W hx1 hx2 hy1 hy2
      have HR : Hid (R = Val.rng (x * y)) := HA.out x y rfl rfl
      rw [← HR.out] at PR
      clear fin IR NN HA HNo HR
      go_wp2_with fail
      refine (PR.out _).mono ?_
      rintro e w2 ⟨m, E2, rfl, sy2, hb2⟩
      have hbf := HW.out.trans (hb2.mono HW.out.size)
      go_wp2_with fail
      refine bodyPost_ret (v := .tuple #[.int .i64 m, E2]) (by simp [results, Tryz.results51, go_sem]) rfl ?_
      exact ⟨m, E2, rfl, sy2, hbf⟩
    case inr.inr.inr.inl =>
      by_cases hy0 : y = 0
      · subst hy0
        have HE : Hid (R = none) := HA.out x 0 rfl rfl
        clear HA IR HNo fin
        go_wp2_with fail
        refine (NN.out _).mono ?_
        rintro e w3 ⟨rfl, hl, hb3⟩
        have hbf := HW.out.trans (hb3.mono HW.out.size)
        go_wp2_with fail
        refine bodyPost_ret (v := .tuple #[.int .i64 0, .iface 47 (.pointer (some ⟨w1.heap.size, 0, none⟩))]) (by simp [results, Tryz.results51, go_sem]) rfl ?_
        refine ⟨0, _, rfl, ?_, hbf⟩
        rw [HE.out]
        exact .none _ hl
      have d0 : (y == 0) = false := beq_eq_false_iff_ne.2 hy0
      have HR0 : Hid (R = Val.rng (Int.tdiv x y)) := (HA.out x y rfl rfl).trans (if_neg hy0)
      obtain ⟨D, hD⟩ : ∃ D, Int.tdiv x y = D := ⟨_, rfl⟩
      have HR : Hid (R = Val.rng D) := by show _ = _; rw [HR0.out, hD]
      have hDD := tdiv_in x y hx1 hx2
      rw [hD] at hDD
      obtain ⟨hD1, hD2⟩ := hDD
      have IN : Hid _ := fun (W : World) => IR.out D W
      clear HA IR HNo HR0
      go_wp2_with fail
      refine (IN.out _).mono ?_
      rintro e w2 ⟨rfl, rfl⟩
      by_cases hin : Val.inNum D
      · have HE : Hid (R = some D) := fin D HR |>.1 hin
        have dd : decide (Val.inNum D) = true := decide_eq_true hin
        rw [dd]
        clear dd hin HR fin
        go_wp2_with fail
        refine bodyPost_ret (v := .tuple #[.int .i64 D, .nilIface]) (by simp [results, Tryz.results51, go_sem]) rfl ?_
        refine ⟨D, _, rfl, ?_, HW.out⟩
        rw [HE.out]
        exact .num _
      · have HE : Hid (R = none) := fin D HR |>.2 hin
        have dd : decide (Val.inNum D) = false := decide_eq_false hin
        rw [dd]
        clear dd hin HR fin
        go_wp2_with fail
        refine (NN.out _).mono ?_
        rintro e w3 ⟨rfl, hl, hb3⟩
        have hbf := HW.out.trans (hb3.mono HW.out.size)
        go_wp2_with fail
        refine bodyPost_ret (v := .tuple #[.int .i64 0, .iface 47 (.pointer (some ⟨w1.heap.size, 0, none⟩))]) (by simp [results, Tryz.results51, go_sem]) rfl ?_
        refine ⟨0, _, rfl, ?_, hbf⟩
        rw [HE.out]
        exact .none _ hl
    case inr.inr.inr.inr =>
      by_cases hy0 : y = 0
      · subst hy0
        have HE : Hid (R = none) := HA.out x 0 rfl rfl
        clear HA IR HNo fin
        go_wp2_with fail
        refine (NN.out _).mono ?_
        rintro e w3 ⟨rfl, hl, hb3⟩
        have hbf := HW.out.trans (hb3.mono HW.out.size)
        go_wp2_with fail
        refine bodyPost_ret (v := .tuple #[.int .i64 0, .iface 47 (.pointer (some ⟨w1.heap.size, 0, none⟩))]) (by simp [results, Tryz.results51, go_sem]) rfl ?_
        refine ⟨0, _, rfl, ?_, hbf⟩
        rw [HE.out]
        exact .none _ hl
      have d0 : (y == 0) = false := beq_eq_false_iff_ne.2 hy0
      have HR0 : Hid (R = Val.rng (Int.tmod x y)) := (HA.out x y rfl rfl).trans (if_neg hy0)
      obtain ⟨D, hD⟩ : ∃ D, Int.tmod x y = D := ⟨_, rfl⟩
      have HR : Hid (R = Val.rng D) := by show _ = _; rw [HR0.out, hD]
      have hDD := tmod_in x y hx1 hx2
      rw [hD] at hDD
      obtain ⟨hD1, hD2⟩ := hDD
      have IN : Hid _ := fun (W : World) => IR.out D W
      clear HA IR HNo HR0
      go_wp2_with fail
      refine (IN.out _).mono ?_
      rintro e w2 ⟨rfl, rfl⟩
      by_cases hin : Val.inNum D
      · have HE : Hid (R = some D) := fin D HR |>.1 hin
        have dd : decide (Val.inNum D) = true := decide_eq_true hin
        rw [dd]
        clear dd hin HR fin
        go_wp2_with fail
        refine bodyPost_ret (v := .tuple #[.int .i64 D, .nilIface]) (by simp [results, Tryz.results51, go_sem]) rfl ?_
        refine ⟨D, _, rfl, ?_, HW.out⟩
        rw [HE.out]
        exact .num _
      · have HE : Hid (R = none) := fin D HR |>.2 hin
        have dd : decide (Val.inNum D) = false := decide_eq_false hin
        rw [dd]
        clear dd hin HR fin
        go_wp2_with fail
        refine (NN.out _).mono ?_
        rintro e w3 ⟨rfl, hl, hb3⟩
        have hbf := HW.out.trans (hb3.mono HW.out.size)
        go_wp2_with fail
        refine bodyPost_ret (v := .tuple #[.int .i64 0, .iface 47 (.pointer (some ⟨w1.heap.size, 0, none⟩))]) (by simp [results, Tryz.results51, go_sem]) rfl ?_
        refine ⟨0, _, rfl, ?_, hbf⟩
        rw [HE.out]
        exact .none _ hl

end Go.Proofs.YtoficeamogbbhaaGreatDoor

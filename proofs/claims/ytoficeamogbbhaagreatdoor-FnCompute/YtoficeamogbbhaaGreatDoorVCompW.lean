/-
  The walk of the law on sums, differences, quotients and rests.
-/
import Derived.Test.YtoficeamogbbhaaGreatDoorVCompP
import Derived.Test.YtoficeamogbbhaaGreatDoorVDrawC
import Derived.Deep.RegionHeld3
namespace Go.Proofs.YtoficeamogbbhaaGreatDoor
open Go.RowKit Go.Shelf

set_option maxHeartbeats 8000000 in
theorem fnCompute_walk (a : Option Addr) (len cap : Nat) (cs : List UInt8) (w : World) (hl : cs.length = len) (hB : BytesIn w a cs) (hp : PowIn w) (he : ErrIn w) :
    Calls Tryz.prog 4 #[.slice a len cap] w fun e w' => e = .returned (.bool true) ∧ Below w.heap.size w w' := by
  have IC : Hid _ := fun (op : ByteArray) (hs : op.size ≤ 2) (x y : Val.VV) (W : World) (hp : PowIn W) (he : ErrIn W) => iCompute op x y W (by omega) hp he
  have SC : Hid _ := fun (op : ByteArray) (hs : op.size ≤ 2) (x y : Val.VV) (W : World) => sCompute op x y W (by omega)
  have RT : Hid _ := fun (x : Val.VV) (W : World) => sValueRight x W
  have HP : Hid (PowIn w ∧ ErrIn w) := ⟨hp, he⟩
  clear hp he
  have DC : Hid _ := fun (h : len ≤ 1048576) => sDrawCompute a len cap cs w hl h hB
  clear hB
  go_enter Tryz.func4, Tryz.ntmps4
  by_cases hlen : 1048576 < len
  · have hlen' : (1048576 : Int) < (len : Int) := by omega
    go_wp2_with fail
    go_ret
    exact ⟨rfl, Below.refl _ _⟩
  have hlen' : ¬ (1048576 : Int) < (len : Int) := by omega
  go_wp2_with fail
  refine (DC.out (by omega)).mono ?_
  rintro e w1 ⟨op, ⟨xk, xn, xt⟩, ⟨yk, yn, yt⟩, hos, hxt, hyt, rfl, hb1⟩
  have L2 := lies_two w1 ⟨xk, xn, xt⟩ ⟨yk, yn, yt⟩
  have hb2 : Below w.heap.size w ((w1.alloc (.cells (vC ⟨xk, xn, xt⟩) 24)).alloc (.cells (vC ⟨yk, yn, yt⟩) 24)) := (hb1.alloc hb1.size _).alloc (hb1.alloc hb1.size _).size _
  have HL : Hid (_ ∧ _) := ⟨L2, hb2⟩
  clear L2 hb2 hlen hlen' DC
  unfold vC at HL ⊢
  dsimp only at HL hxt hyt ⊢
  go_wp2_with fail
  obtain ⟨⟨lX, lY⟩, hbw⟩ := HL.out
  clear HL hb1
  generalize (w1.alloc (.cells #[.int .i64 xk, .int .i64 xn, .string xt] 24)).alloc (.cells #[.int .i64 yk, .int .i64 yn, .string yt] 24) = w2 at *
  have hB1 : w1.heap.size ≠ w1.heap.size + 1 := by omega
  generalize w1.heap.size + 1 = B at *
  generalize w1.heap.size = A at *
  obtain ⟨⟨r0, r1, r2⟩, f0, f1, f2⟩ := lX.three
  obtain ⟨⟨s0, s1, s2⟩, g0, g1, g2⟩ := lY.three
  have hltA := lX.lt
  have hltB := lY.lt
  dsimp only at r0 r1 r2 s0 s1 s2
  have I1 : Hid _ := fun (W : World) (hp : PowIn W) (he : ErrIn W) => IC.out op hos ⟨xk, xn, xt⟩ ⟨yk, yn, yt⟩ W hp he
  have S1 : Hid _ := fun (W : World) => SC.out op hos ⟨xk, xn, xt⟩ ⟨yk, yn, yt⟩ W
  obtain ⟨⟨ck, cn, ct⟩, hC⟩ : ∃ v, Val.computeOf op ⟨xk, xn, xt⟩ ⟨yk, yn, yt⟩ = v := ⟨_, rfl⟩
  rw [hC] at I1 S1
  unfold vC at I1 S1
  dsimp only at I1 S1
  clear hC SC
  go_region_held3 (fun w' => w'.cell? ⟨A, 0, none⟩ = some (.int .i64 xk) ∧ w'.cell? ⟨A, 1, none⟩ = some (.int .i64 xn) ∧ w'.cell? ⟨A, 2, none⟩ = some (.string xt) ∧ w'.cell? ⟨B, 0, none⟩ = some (.int .i64 yk) ∧ w'.cell? ⟨B, 1, none⟩ = some (.int .i64 yn) ∧ w'.cell? ⟨B, 2, none⟩ = some (.string yt)) (go_keep)
    (first
      | (go_at_call 24; refine (I1.out _ (HP.out.1.keep hbw.drew) (HP.out.2.keep hbw.drew)).mono ?_; rintro e WA ⟨rfl, hA⟩; have hA2 : Below w2.heap.size w2 WA := (Below.refl w2.heap.size w2).drew.trans hA; obtain ⟨⟨a00, a01, a02⟩, -⟩ := (lX.keep hA2).three; obtain ⟨⟨a10, a11, a12⟩, -⟩ := (lY.keep hA2).three; dsimp only at a00 a01 a02 a10 a11 a12)
      | (go_at_call 25; refine (S1.out _).mono ?_; rintro e WB ⟨rfl, hB⟩; have hB2 : Below w2.heap.size w2 WB := hA2.trans (hB.mono hA2.size); obtain ⟨⟨b00, b01, b02⟩, -⟩ := (lX.keep hB2).three; obtain ⟨⟨b10, b11, b12⟩, -⟩ := (lY.keep hB2).three; dsimp only at b00 b01 b02 b10 b11 b12))
  replace lX := lX.keep hB2
  replace lY := lY.keep hB2
  replace hbw := hbw.trans (hB2.mono hbw.size)
  clear a00 b00 a01 b01 a02 b02 a10 b10 a11 b11 a12 b12
  clear hA hB hA2 hB2 r0 r1 r2 s0 s1 s2 f0 f1 f2 g0 g1 g2 hltA hltB I1 S1
  obtain ⟨⟨r0, r1, r2⟩, f0, f1, f2⟩ := lX.three
  have hltA := lX.lt
  dsimp only at r0 r1 r2
  have RX : Hid _ := fun (W : World) => RT.out ⟨xk, xn, xt⟩ W
  have RY : Hid _ := fun (W : World) => RT.out ⟨yk, yn, yt⟩ W
  have HNX : Hid (Val.right ⟨xk, xn, xt⟩ = true → xk = 3 → xt = ⟨#[]⟩ ∧ Val.inNum xn) := fun h hk => by
    have := Val.number_of ⟨xk, xn, xt⟩ h hk
    exact ⟨congrArg Val.VV.text this.1, this.2⟩
  have HNY : Hid (Val.right ⟨yk, yn, yt⟩ = true → yk = 3 → yt = ⟨#[]⟩ ∧ Val.inNum yn) := fun h hk => by
    have := Val.number_of ⟨yk, yn, yt⟩ h hk
    exact ⟨congrArg Val.VV.text this.1, this.2⟩
  obtain ⟨MX, hMX⟩ : ∃ v, Val.right ⟨xk, xn, xt⟩ = v := ⟨_, rfl⟩
  obtain ⟨MY, hMY⟩ : ∃ v, Val.right ⟨yk, yn, yt⟩ = v := ⟨_, rfl⟩
  rw [hMX] at RX HNX
  rw [hMY] at RY HNY
  unfold vC at RX RY
  dsimp only at RX RY
  clear hMX hMY RT
  go_wp2_with fail
  refine (RX.out _).mono ?_
  rintro e w3 ⟨rfl, hb3⟩
  replace lX := lX.keep hb3
  replace lY := lY.keep hb3
  replace hbw := hbw.trans (hb3.mono hbw.size)
  clear hb3 r0 r1 r2 f0 f1 f2 hltA RX
  obtain ⟨⟨s0, s1, s2⟩, g0, g1, g2⟩ := lY.three
  have hltB := lY.lt
  dsimp only at s0 s1 s2
  cases MX
  · go_wp2_with fail
    go_ret
    exact ⟨rfl, hbw⟩
  go_wp2_with fail
  refine (RY.out _).mono ?_
  rintro e w4 ⟨rfl, hb4⟩
  replace lX := lX.keep hb4
  replace lY := lY.keep hb4
  replace hbw := hbw.trans (hb4.mono hbw.size)
  clear hb4 s0 s1 s2 g0 g1 g2 hltB RY
  obtain ⟨⟨r0, r1, r2⟩, f0, f1, f2⟩ := lX.three
  obtain ⟨⟨s0, s1, s2⟩, g0, g1, g2⟩ := lY.three
  have hltA := lX.lt
  have hltB := lY.lt
  dsimp only at r0 r1 r2 s0 s1 s2
  cases MY
  · go_wp2_with fail
    go_ret
    exact ⟨rfl, hbw⟩
  by_cases hk1 : xk = 3
  case neg =>
    have d1 : (xk != 3) = true := bne_iff_ne.2 hk1
    go_wp2_with fail
    go_ret
    exact ⟨rfl, hbw⟩
  by_cases hk2 : yk = 3
  case neg =>
    have d1 : (xk != 3) = false := by simp [hk1]
    have d2 : (yk != 3) = true := bne_iff_ne.2 hk2
    go_wp2_with fail
    go_ret
    exact ⟨rfl, hbw⟩
  obtain ⟨rfl, hn⟩ := HNX.out (by trivial) hk1
  obtain ⟨rfl, hm⟩ := HNY.out (by trivial) hk2
  subst hk1 hk2
  clear HNX HNY hxt hyt
  generalize xn = n at *
  generalize yn = m at *
  have C1 : Hid _ := fun (W : World) (hp : PowIn W) (he : ErrIn W) => IC.out ⟨#[43]⟩ (by decide) (Val.nV n) (Val.nV m) W hp he
  have C2 : Hid _ := fun (W : World) (hp : PowIn W) (he : ErrIn W) => IC.out ⟨#[43]⟩ (by decide) (Val.nV m) (Val.nV n) W hp he
  have C3 : Hid _ := fun (W : World) (hp : PowIn W) (he : ErrIn W) => IC.out ⟨#[45]⟩ (by decide) (Val.computeOf ⟨#[43]⟩ (Val.nV n) (Val.nV m)) (Val.nV m) W hp he
  have C4 : Hid _ := fun (W : World) (hp : PowIn W) (he : ErrIn W) => IC.out ⟨#[47]⟩ (by decide) (Val.nV n) (Val.nV m) W hp he
  have C5 : Hid _ := fun (W : World) (hp : PowIn W) (he : ErrIn W) => IC.out ⟨#[37]⟩ (by decide) (Val.nV n) (Val.nV m) W hp he
  have C6 : Hid _ := fun (W : World) (hp : PowIn W) (he : ErrIn W) => IC.out ⟨#[42]⟩ (by decide) (Val.nV (Int.tdiv n m)) (Val.nV m) W hp he
  have C7 : Hid _ := fun (W : World) (hp : PowIn W) (he : ErrIn W) => IC.out ⟨#[43]⟩ (by decide) (Val.computeOf ⟨#[42]⟩ (Val.nV (Int.tdiv n m)) (Val.nV m)) (Val.nV (Int.tmod n m)) W hp he
  rw [Val.plus_comm n m hn hm] at C2
  rw [Val.quo_rem n m hn hm] at C7
  have H3 : Hid ((Val.computeOf ⟨#[43]⟩ (Val.nV n) (Val.nV m)).kind = 3 → Val.computeOf ⟨#[45]⟩ (Val.computeOf ⟨#[43]⟩ (Val.nV n) (Val.nV m)) (Val.nV m) = Val.nV n) := Val.plus_minus n m hn hm
  have H6 : Hid ((Val.computeOf ⟨#[43]⟩ (Val.nV n) (Val.nV m)).kind = 3 ∨ (Val.computeOf ⟨#[43]⟩ (Val.nV n) (Val.nV m)).kind = 4) := Val.plus_kind n m hn hm
  have H4 : Hid (m = 0 → Val.computeOf ⟨#[47]⟩ (Val.nV n) (Val.nV m) = Val.badV ∧ Val.computeOf ⟨#[37]⟩ (Val.nV n) (Val.nV m) = Val.badV) := fun h => by subst h; exact ⟨Val.quo_0 n hn, Val.rem_0 n hn⟩
  have H5 : Hid (m ≠ 0 → Val.computeOf ⟨#[47]⟩ (Val.nV n) (Val.nV m) = Val.nV (Int.tdiv n m) ∧ Val.computeOf ⟨#[37]⟩ (Val.nV n) (Val.nV m) = Val.nV (Int.tmod n m)) := fun h => ⟨Val.quo_nV n m hn hm h, Val.rem_nV n m hn hm h⟩
  obtain ⟨⟨sk, sn, st⟩, hS⟩ : ∃ v, Val.computeOf ⟨#[43]⟩ (Val.nV n) (Val.nV m) = v := ⟨_, rfl⟩
  rw [hS] at C1 C2 C3 H3 H6
  obtain ⟨⟨qk, qn, qt⟩, hQ⟩ : ∃ v, Val.computeOf ⟨#[47]⟩ (Val.nV n) (Val.nV m) = v := ⟨_, rfl⟩
  rw [hQ] at C4 H4 H5
  obtain ⟨⟨rk, rn, rt⟩, hR⟩ : ∃ v, Val.computeOf ⟨#[37]⟩ (Val.nV n) (Val.nV m) = v := ⟨_, rfl⟩
  rw [hR] at C5 H4 H5
  obtain ⟨⟨pk, pn, pt⟩, hPP⟩ : ∃ v, Val.computeOf ⟨#[42]⟩ (Val.nV (Int.tdiv n m)) (Val.nV m) = v := ⟨_, rfl⟩
  rw [hPP] at C6 C7
  clear hS hQ hR hPP hn hm IC
  unfold vC Val.nV at C1 C2 C4 C5 C6 C7
  unfold vC at C3
  unfold Val.nV at C3 H3 H5
  dsimp only at C1 C2 C3 C4 C5 C6 C7 H3 H6
  go_wp2_with fail
  refine (C1.out _ (HP.out.1.keep hbw) (HP.out.2.keep hbw)).mono ?_
  rintro e w5 ⟨rfl, hb5⟩
  replace lX := (lX.keep hb5).grow (.cells #[.int .i64 sk, .int .i64 sn, .string st] 24)
  replace lY := (lY.keep hb5).grow (.cells #[.int .i64 sk, .int .i64 sn, .string st] 24)
  have lS : Lies (w5.alloc (.cells #[.int .i64 sk, .int .i64 sn, .string st] 24)) w5.heap.size ⟨sk, sn, st⟩ := lies_new w5 ⟨sk, sn, st⟩
  replace hbw := hbw.trans (hb5.mono hbw.size)
  have hb6 : Below w.heap.size w (w5.alloc (.cells #[.int .i64 sk, .int .i64 sn, .string st] 24)) := hbw.alloc hbw.size _
  have HX : Hid (_ ∧ _ ∧ _ ∧ _) := ⟨lX, lY, lS, hb6⟩
  clear lX lY lS hb6 hbw hb5 r0 r1 r2 f0 f1 f2 s0 s1 s2 g0 g1 g2 hltA hltB C1
  go_wp2_with fail
  obtain ⟨lX, lY, lS, hbw⟩ := HX.out
  clear HX
  generalize w5.alloc (.cells #[.int .i64 sk, .int .i64 sn, .string st] 24) = w6 at *
  generalize w5.heap.size = D at *
  obtain ⟨⟨r0, r1, r2⟩, -⟩ := lX.three
  obtain ⟨⟨s0, s1, s2⟩, -⟩ := lY.three
  obtain ⟨⟨t0, t1, t2⟩, -⟩ := lS.three
  have hltA := lX.lt
  have hltB := lY.lt
  have hltD := lS.lt
  dsimp only at r0 r1 r2 s0 s1 s2 t0 t1 t2
  go_cut [64] from 65 to 89 (fun v wx => v = .bool false ∧ Below w6.heap.size w6 wx)
  case first =>
    rcases H6.out with hs3 | hs3
    · subst hs3
      have e3 := H3.out rfl
      rw [e3] at C3
      dsimp only at C3
      clear e3 H3
      go_region_held3 (fun w' => w'.cell? ⟨A, 0, none⟩ = some (.int .i64 3) ∧ w'.cell? ⟨A, 1, none⟩ = some (.int .i64 n) ∧ w'.cell? ⟨A, 2, none⟩ = some (.string ⟨#[]⟩) ∧ w'.cell? ⟨B, 0, none⟩ = some (.int .i64 3) ∧ w'.cell? ⟨B, 1, none⟩ = some (.int .i64 m) ∧ w'.cell? ⟨B, 2, none⟩ = some (.string ⟨#[]⟩) ∧ w'.cell? ⟨D, 0, none⟩ = some (.int .i64 3) ∧ w'.cell? ⟨D, 1, none⟩ = some (.int .i64 sn) ∧ w'.cell? ⟨D, 2, none⟩ = some (.string st)) (go_keep)
        (first
          | (go_at_call_of 24 (⟨#[43]⟩ : ByteArray); refine (C2.out _ (HP.out.1.keep hbw.drew) (HP.out.2.keep hbw.drew)).mono ?_; rintro e WC ⟨rfl, hC⟩; have hC2 : Below w6.heap.size w6 WC := (Below.refl w6.heap.size w6).drew.trans hC; obtain ⟨⟨c00, c01, c02⟩, -⟩ := (lX.keep hC2).three; obtain ⟨⟨c10, c11, c12⟩, -⟩ := (lY.keep hC2).three; obtain ⟨⟨c20, c21, c22⟩, -⟩ := (lS.keep hC2).three; dsimp only at c00 c01 c02 c10 c11 c12 c20 c21 c22)
          | (go_at_call_of 24 (⟨#[45]⟩ : ByteArray); refine (C3.out _ (HP.out.1.keep (hbw.trans (hC2.mono hbw.size))) (HP.out.2.keep (hbw.trans (hC2.mono hbw.size)))).mono ?_; rintro e WD ⟨rfl, hD⟩; have hD2 : Below w6.heap.size w6 WD := hC2.trans (hD.mono hC2.size); obtain ⟨⟨d00, d01, d02⟩, -⟩ := (lX.keep hD2).three; obtain ⟨⟨d10, d11, d12⟩, -⟩ := (lY.keep hD2).three; obtain ⟨⟨d20, d21, d22⟩, -⟩ := (lS.keep hD2).three; dsimp only at d00 d01 d02 d10 d11 d12 d20 d21 d22))
      go_wp2_with fail
      go_meet
      exact ⟨rfl, hD2⟩
    · subst hs3
      clear H3 C3
      go_region_with
        (first
          | (go_at_call_of 24 (⟨#[43]⟩ : ByteArray); refine (C2.out _ (HP.out.1.keep hbw.drew) (HP.out.2.keep hbw.drew)).mono ?_; rintro e WC ⟨rfl, hC⟩; have hC2 : Below w6.heap.size w6 WC := (Below.refl w6.heap.size w6).drew.trans hC; obtain ⟨⟨c00, c01, c02⟩, -⟩ := (lX.keep hC2).three; obtain ⟨⟨c10, c11, c12⟩, -⟩ := (lY.keep hC2).three; obtain ⟨⟨c20, c21, c22⟩, -⟩ := (lS.keep hC2).three; dsimp only at c00 c01 c02 c10 c11 c12 c20 c21 c22))
      all_goals
        go_wp2_with fail
        go_meet
        exact ⟨rfl, hC2⟩
  case rest =>
  obtain ⟨rfl, hb7⟩ := hcut
  replace lX := lX.keep hb7
  replace lY := lY.keep hb7
  replace hbw := hbw.trans (hb7.mono hbw.size)
  clear hb7 lS t0 t1 t2 r0 r1 r2 s0 s1 s2 hltA hltB hltD C2 C3 H3 H6
  obtain ⟨⟨r0, r1, r2⟩, f0, f1, f2⟩ := lX.three
  obtain ⟨⟨s0, s1, s2⟩, g0, g1, g2⟩ := lY.three
  have hltA := lX.lt
  have hltB := lY.lt
  dsimp only at r0 r1 r2 s0 s1 s2
  generalize hw7 : wc = w7 at *
  clear hw7
  go_wp2_with fail
  refine (C4.out _ (HP.out.1.keep hbw) (HP.out.2.keep hbw)).mono ?_
  rintro e w8 ⟨rfl, hb8⟩
  replace lX := (lX.keep hb8).grow (.cells #[.int .i64 qk, .int .i64 qn, .string qt] 24)
  replace lY := (lY.keep hb8).grow (.cells #[.int .i64 qk, .int .i64 qn, .string qt] 24)
  have lQ : Lies (w8.alloc (.cells #[.int .i64 qk, .int .i64 qn, .string qt] 24)) w8.heap.size ⟨qk, qn, qt⟩ := lies_new w8 ⟨qk, qn, qt⟩
  replace hbw := hbw.trans (hb8.mono hbw.size)
  have hb9 : Below w.heap.size w (w8.alloc (.cells #[.int .i64 qk, .int .i64 qn, .string qt] 24)) := hbw.alloc hbw.size _
  clear hb8 hbw r0 r1 r2 f0 f1 f2 s0 s1 s2 g0 g1 g2 hltA hltB C4
  obtain ⟨⟨r0, r1, r2⟩, f0, f1, f2⟩ := lX.three
  obtain ⟨⟨s0, s1, s2⟩, g0, g1, g2⟩ := lY.three
  have hltA := lX.lt
  have hltB := lY.lt
  dsimp only at r0 r1 r2 s0 s1 s2
  go_wp2_with fail
  generalize w8.alloc (.cells #[.int .i64 qk, .int .i64 qn, .string qt] 24) = w9 at *
  generalize w8.heap.size = QB at *
  refine (C5.out _ (HP.out.1.keep hb9) (HP.out.2.keep hb9)).mono ?_
  rintro e wa ⟨rfl, hba⟩
  replace lX := (lX.keep hba).grow (.cells #[.int .i64 rk, .int .i64 rn, .string rt] 24)
  replace lY := (lY.keep hba).grow (.cells #[.int .i64 rk, .int .i64 rn, .string rt] 24)
  replace lQ := (lQ.keep hba).grow (.cells #[.int .i64 rk, .int .i64 rn, .string rt] 24)
  have lR : Lies (wa.alloc (.cells #[.int .i64 rk, .int .i64 rn, .string rt] 24)) wa.heap.size ⟨rk, rn, rt⟩ := lies_new wa ⟨rk, rn, rt⟩
  have hbw := hb9.trans (hba.mono hb9.size)
  have hbb : Below w.heap.size w (wa.alloc (.cells #[.int .i64 rk, .int .i64 rn, .string rt] 24)) := hbw.alloc hbw.size _
  clear hba hbw hb9 r0 r1 r2 f0 f1 f2 s0 s1 s2 g0 g1 g2 hltA hltB C5
  obtain ⟨⟨r0, r1, r2⟩, f0, f1, f2⟩ := lX.three
  obtain ⟨⟨s0, s1, s2⟩, g0, g1, g2⟩ := lY.three
  obtain ⟨⟨t0, t1, t2⟩, h0, h1, h2⟩ := lQ.three
  obtain ⟨⟨u0, u1, u2⟩, i0, i1, i2⟩ := lR.three
  have hltA := lX.lt
  have hltB := lY.lt
  have hltQ := lQ.lt
  have hltR := lR.lt
  dsimp only at r0 r1 r2 s0 s1 s2 t0 t1 t2 u0 u1 u2
  by_cases hm0 : m = 0
  · obtain ⟨e1, e2⟩ := H4.out hm0
    obtain ⟨rfl, rfl, rfl⟩ : qk = 4 ∧ qn = 0 ∧ qt = ⟨#[]⟩ := by have := e1; unfold Val.badV Val.e0 at this; simpa using this
    obtain ⟨rfl, rfl, rfl⟩ : rk = 4 ∧ rn = 0 ∧ rt = ⟨#[]⟩ := by have := e2; unfold Val.badV Val.e0 at this; simpa using this
    subst hm0
    clear e1 e2 H4 H5 C6 C7
    go_wp2_with fail
    go_ret
    exact ⟨rfl, hbb⟩
  · obtain ⟨e1, e2⟩ := H5.out hm0
    have dm : (m == 0) = false := beq_eq_false_iff_ne.2 hm0
    generalize Int.tdiv n m = q at *
    generalize Int.tmod n m = r at *
    obtain ⟨rfl, rfl, rfl⟩ : qk = 3 ∧ qn = q ∧ qt = ⟨#[]⟩ := by simpa using e1
    obtain ⟨rfl, rfl, rfl⟩ : rk = 3 ∧ rn = r ∧ rt = ⟨#[]⟩ := by simpa using e2
    clear e1 e2 H4 H5 hm0
    go_wp2_with fail
    generalize wa.alloc (.cells #[.int .i64 3, .int .i64 rn, .string ⟨#[]⟩] 24) = wb at *
    generalize wa.heap.size = RB at *
    go_region_held3 (fun w' => w'.cell? ⟨A, 0, none⟩ = some (.int .i64 3) ∧ w'.cell? ⟨A, 1, none⟩ = some (.int .i64 n) ∧ w'.cell? ⟨A, 2, none⟩ = some (.string ⟨#[]⟩) ∧ w'.cell? ⟨B, 0, none⟩ = some (.int .i64 3) ∧ w'.cell? ⟨B, 1, none⟩ = some (.int .i64 m) ∧ w'.cell? ⟨B, 2, none⟩ = some (.string ⟨#[]⟩) ∧ w'.cell? ⟨QB, 0, none⟩ = some (.int .i64 3) ∧ w'.cell? ⟨QB, 1, none⟩ = some (.int .i64 qn) ∧ w'.cell? ⟨QB, 2, none⟩ = some (.string ⟨#[]⟩) ∧ w'.cell? ⟨RB, 0, none⟩ = some (.int .i64 3) ∧ w'.cell? ⟨RB, 1, none⟩ = some (.int .i64 rn) ∧ w'.cell? ⟨RB, 2, none⟩ = some (.string ⟨#[]⟩)) (go_keep)
      (first
        | (go_at_call_of 24 (⟨#[42]⟩ : ByteArray); refine (C6.out _ (HP.out.1.keep hbb.drew) (HP.out.2.keep hbb.drew)).mono ?_; rintro e WE ⟨rfl, hE⟩; have hE2 : Below wb.heap.size wb WE := (Below.refl wb.heap.size wb).drew.trans hE; obtain ⟨⟨c00, c01, c02⟩, -⟩ := (lX.keep hE2).three; obtain ⟨⟨c10, c11, c12⟩, -⟩ := (lY.keep hE2).three; obtain ⟨⟨c20, c21, c22⟩, -⟩ := (lQ.keep hE2).three; obtain ⟨⟨c30, c31, c32⟩, -⟩ := (lR.keep hE2).three; dsimp only at c00 c01 c02 c10 c11 c12 c20 c21 c22 c30 c31 c32)
        | (go_at_call_of 24 (⟨#[43]⟩ : ByteArray); refine (C7.out _ (HP.out.1.keep (hbb.trans (hE2.mono hbb.size))) (HP.out.2.keep (hbb.trans (hE2.mono hbb.size)))).mono ?_; rintro e WF ⟨rfl, hF⟩; have hF2 : Below wb.heap.size wb WF := hE2.trans (hF.mono hE2.size); obtain ⟨⟨d00, d01, d02⟩, -⟩ := (lX.keep hF2).three; obtain ⟨⟨d10, d11, d12⟩, -⟩ := (lY.keep hF2).three; obtain ⟨⟨d20, d21, d22⟩, -⟩ := (lQ.keep hF2).three; obtain ⟨⟨d30, d31, d32⟩, -⟩ := (lR.keep hF2).three; dsimp only at d00 d01 d02 d10 d11 d12 d20 d21 d22 d30 d31 d32))
    go_wp2_with fail
    go_ret
    exact ⟨rfl, hbb.trans (hF2.mono hbb.size)⟩

end Go.Proofs.YtoficeamogbbhaaGreatDoor

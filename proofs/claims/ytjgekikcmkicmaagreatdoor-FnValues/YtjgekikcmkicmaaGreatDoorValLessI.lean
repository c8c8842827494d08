/-
  The walks of the program's numbers, numberLess, textLess, order.
-/
import Derived.Test.YtjgekikcmkicmaaGreatDoorValPairI
import Derived.Test.YtjgekikcmkicmaaGreatDoorValLessS
namespace Go.Proofs.YtjgekikcmkicmaaGreatDoor
namespace Val
def lessN (x y : VV) : VV := if (numberV x).kind = 4 ∨ (numberV y).kind = 4 then zeroV else boolV (decide ((numberV x).num < (numberV y).num))
theorem lessN_none1 (x y : VV) (hx : right x = true) (h : numO x = none) : lessN x y = zeroV := by
  unfold lessN
  rw [numberV_valO x hx, h]
  exact if_pos (.inl rfl)
theorem lessN_none2 (x y : VV) (hy : right y = true) (h : numO y = none) : lessN x y = zeroV := by
  unfold lessN
  rw [numberV_valO y hy, h]
  exact if_pos (.inr rfl)
theorem lessN_some (x y : VV) (hx : right x = true) (hy : right y = true) (n m : Int) (h : numO x = some n) (h2 : numO y = some m) : lessN x y = boolV (decide (n < m)) := by
  unfold lessN
  rw [numberV_valO x hx, h, numberV_valO y hy, h2]
  exact if_neg (by simp [valO])
end Val
open Go.RowKit Go.Shelf

/-- Two numbers and their error, as numbers tells them. -/
inductive Says2 (W : World) : Option Int → Option Int → Int → Int → Value → Prop
  | both (x y : Int) : Says2 W (some x) (some y) x y .nilIface
  | fst (ob : Option Int) (b : Nat) (hl : LiesE W b) : Says2 W none ob 0 0 (.iface 61 (.pointer (some ⟨b, 0, none⟩)))
  | snd (x : Int) (b : Nat) (hl : LiesE W b) : Says2 W (some x) none x 0 (.iface 61 (.pointer (some ⟨b, 0, none⟩)))

set_option maxHeartbeats 4000000 in
theorem iNumbers (a b : Val.VV) (w : World) (ha : a.text.size ≤ 1000) (hb : b.text.size ≤ 1000) :
    Calls Tryz.prog 104 #[.agg (pC a b)] w fun e w' => ∃ x y E, e = .returned (.tuple #[.int .i64 x, .int .i64 y, E]) ∧ Says2 w' (Val.numO a) (Val.numO b) x y E ∧ Below w.heap.size w w' := by
  have NA : Hid _ := fun (W : World) => iNumberOf2 a W ha
  have NB : Hid _ := fun (W : World) => iNumberOf2 b W hb
  have HB : Hid (∀ o, Below w.heap.size w (w.alloc o)) := fun o => ((Below.refl _ _).alloc (Nat.le_refl _) o)
  have HL : Hid (LiesP (w.alloc (.cells (pC a b) 53)) w.heap.size a b) := liesP_new w a b
  obtain ⟨oa, hoa⟩ : ∃ p, Val.numO a = p := ⟨_, rfl⟩
  obtain ⟨ob, hob⟩ : ∃ p, Val.numO b = p := ⟨_, rfl⟩
  rw [hoa] at NA ⊢
  rw [hob] at NB ⊢
  clear hoa hob ha hb
  obtain ⟨ak, an, at'⟩ := a
  obtain ⟨bk, bn, bt⟩ := b
  unfold vC pC at *
  dsimp only at *
  go_enter Tryz.func104, Tryz.ntmps104
  go_wp2_with fail
  refine (NA.out _).mono ?_
  rintro e w1 ⟨x, E, rfl, sy, hb1⟩
  have hbw : Below w.heap.size w w1 := (HB.out _).trans (hb1.mono (HB.out _).size)
  have L1 := HL.out.keep hb1
  clear hb1 HL HB NA
  obtain ⟨⟨r0, r1, r2, r3, r4, r5⟩, f0, f1, f2, f3, f4, f5⟩ := L1.six
  dsimp only at r0 r1 r2 r3 r4 r5
  have hlt := L1.lt
  cases sy with
  | none b hl =>
    clear NB
    go_wp2_with fail
    refine bodyPost_ret (v := .tuple #[.int .i64 0, .int .i64 0, .iface 61 (.pointer (some ⟨b, 0, none⟩))]) (by simp [results, Tryz.results104, go_sem]) rfl ?_
    exact ⟨0, 0, _, rfl, .fst ob b hl, hbw⟩
  | num =>
    go_wp2_with fail
    refine (NB.out _).mono ?_
    rintro e w2 ⟨y, E2, rfl, sy2, hb2⟩
    have hbf := hbw.trans (hb2.mono hbw.size)
    go_wp2_with fail
    refine bodyPost_ret (v := .tuple #[.int .i64 x, .int .i64 y, E2]) (by simp [results, Tryz.results104, go_sem]) rfl ?_
    refine ⟨x, y, E2, rfl, ?_, hbf⟩
    cases sy2 with
    | num => exact .both x y
    | none b hl => exact .snd x b hl

/-- A truth and its error, of which R is told. -/
inductive SaysB (W : World) (R : Val.VV) : Bool → Value → Prop
  | so (c : Bool) (h : Val.boolV c = R) : SaysB W R c .nilIface
  | none (c : Bool) (b : Nat) (hl : LiesE W b) (h : R = Val.zeroV) : SaysB W R c (.iface 61 (.pointer (some ⟨b, 0, Option.none⟩)))

set_option maxHeartbeats 4000000 in
theorem iNumberLess (a b : Val.VV) (w : World) (ha : Val.right a = true) (hb : Val.right b = true) :
    Calls Tryz.prog 86 #[.agg (pC a b)] w fun e w' => ∃ c E, e = .returned (.tuple #[.bool c, E]) ∧ SaysB w' (Val.lessN a b) c E ∧ Below w.heap.size w w' := by
  have NS : Hid _ := fun (W : World) => iNumbers a b W (Val.right_text a ha) (Val.right_text b hb)
  have HB : Hid (∀ o, Below w.heap.size w (w.alloc o)) := fun o => ((Below.refl _ _).alloc (Nat.le_refl _) o)
  have HN : Hid ((Val.numO a = none → Val.lessN a b = Val.zeroV) ∧ (Val.numO b = none → Val.lessN a b = Val.zeroV) ∧ ∀ n m, Val.numO a = some n → Val.numO b = some m → Val.lessN a b = Val.boolV (decide (n < m))) :=
    ⟨Val.lessN_none1 a b ha, Val.lessN_none2 a b hb, fun n m => Val.lessN_some a b ha hb n m⟩
  obtain ⟨R, hR⟩ : ∃ p, Val.lessN a b = p := ⟨_, rfl⟩
  obtain ⟨oa, hoa⟩ : ∃ p, Val.numO a = p := ⟨_, rfl⟩
  obtain ⟨ob, hob⟩ : ∃ p, Val.numO b = p := ⟨_, rfl⟩
  rw [hoa] at NS HN
  rw [hob] at NS HN
  rw [hR] at HN ⊢
  clear hoa hob hR ha hb
  obtain ⟨ak, an, at'⟩ := a
  obtain ⟨bk, bn, bt⟩ := b
  unfold pC at *
  dsimp only at *
  go_enter Tryz.func86, Tryz.ntmps86
  go_wp2_with fail
  refine (NS.out _).mono ?_
  rintro e w1 ⟨x, y, E, rfl, sy, hb1⟩
  have hbw : Below w.heap.size w w1 := (HB.out _).trans (hb1.mono (HB.out _).size)
  clear hb1 HB
  go_wp2_with fail
  refine bodyPost_ret (v := .tuple #[.bool (decide (x < y)), E]) (by simp [results, Tryz.results86, go_sem]) rfl ?_
  refine ⟨_, E, rfl, ?_, hbw⟩
  cases sy with
  | both => exact .so _ (HN.out.2.2 x y rfl rfl).symm
  | fst ob b hl => exact .none _ b hl (HN.out.1 rfl)
  | snd x b hl => exact .none _ b hl (HN.out.2.1 rfl)

set_option maxHeartbeats 1000000 in
theorem iTextLess (a b : Val.VV) (w : World) :
    Calls Tryz.prog 85 #[.agg (pC a b)] w fun e w' => ∃ c E, e = .returned (.tuple #[.bool c, E]) ∧ SaysB w' (Val.boolV (Op.bytesLess a.text.toList b.text.toList)) c E ∧ Below w.heap.size w w' := by
  have HB : Hid (∀ o, Below w.heap.size w (w.alloc o)) := fun o => ((Below.refl _ _).alloc (Nat.le_refl _) o)
  obtain ⟨ak, an, at'⟩ := a
  obtain ⟨bk, bn, bt⟩ := b
  unfold pC at *
  dsimp only at *
  go_enter Tryz.func85, Tryz.ntmps85
  go_wp2_with fail
  refine bodyPost_ret (v := .tuple #[.bool (Op.bytesLess at'.toList bt.toList), .nilIface]) (by simp [results, Tryz.results85, go_sem]) rfl ?_
  exact ⟨_, _, rfl, .so _ rfl, HB.out _⟩

/-- What an order that was chosen answers. -/
def LessFn (g : Nat) (x y : Val.VV) (R : Val.VV) : Prop :=
  (g = 85 ∧ Val.boolV (Op.bytesLess x.text.toList y.text.toList) = R) ∨ (g = 86 ∧ Val.right x = true ∧ Val.right y = true ∧ Val.lessN x y = R)

set_option maxHeartbeats 4000000 in
theorem iOrder (a b : Val.VV) (w : World) (ha : Val.right a = true) (hb : Val.right b = true) (hp : PowIn w) :
    Calls Tryz.prog 41 #[.agg (pC a b)] w fun e w' => ∃ g x y, e = .returned (.func (.func g) #[.agg (pC x y)] #[]) ∧ LessFn g x y (Val.less a b) ∧ Below w.heap.size w w' := by
  have WR : Hid _ := fun (W : World) (h : PowIn W) => iWithoutRefs a b W ha hb h
  have HP : Hid (PowIn w) := hp
  have HB : Hid (∀ o, Below w.heap.size w (w.alloc o)) := fun o => ((Below.refl _ _).alloc (Nat.le_refl _) o)
  have HL : Hid (LiesP (w.alloc (.cells (pC a b) 53)) w.heap.size a b) := liesP_new w a b
  have HR5 : Hid ((Val.plainV a).kind = 5 ∧ (Val.plainV b).kind = 5 → LessFn 85 (Val.plainV a) (Val.plainV b) (Val.less a b)) := fun h => .inl ⟨rfl, (if_pos h).symm⟩
  have HRN : Hid (¬ ((Val.plainV a).kind = 5 ∧ (Val.plainV b).kind = 5) → LessFn 86 (Val.plainV a) (Val.plainV b) (Val.less a b)) := fun h => .inr ⟨rfl, Val.plain_right a ha, Val.plain_right b hb, (if_neg h).symm⟩
  obtain ⟨R, hR⟩ : ∃ R, Val.less a b = R := ⟨_, rfl⟩
  rw [hR] at HR5 HRN ⊢
  clear hR hp ha hb
  obtain ⟨⟨pk, pn, pt⟩, hP⟩ : ∃ p, Val.plainV a = p := ⟨_, rfl⟩
  obtain ⟨⟨qk, qn, qt⟩, hQ⟩ : ∃ q, Val.plainV b = q := ⟨_, rfl⟩
  rw [hP] at WR HR5 HRN
  rw [hQ] at WR HR5 HRN
  clear hP hQ
  obtain ⟨ak, an, at'⟩ := a
  obtain ⟨bk, bn, bt⟩ := b
  unfold pC at *
  dsimp only at *
  go_enter Tryz.func41, Tryz.ntmps41
  go_wp2_with fail
  refine (WR.out _ (HP.out.keep (HB.out _))).mono ?_
  rintro e w3 ⟨rfl, hb3⟩
  have L1 := HL.out.keep hb3
  have hbw : Below w.heap.size w w3 := (HB.out _).trans (hb3.mono (HB.out _).size)
  clear hb3 WR HL HB
  obtain ⟨⟨r0, r1, r2, r3, r4, r5⟩, f0, f1, f2, f3, f4, f5⟩ := L1.six
  dsimp only at r0 r1 r2 r3 r4 r5
  have hlt := L1.lt
  have hbm := put6_below hbw w.heap.size ⟨pk, pn, pt⟩ ⟨qk, qn, qt⟩ (Nat.le_refl _)
  unfold put6 at hbm
  dsimp only at hbm
  have HM : Hid _ := hbm
  clear hbm hbw L1
  by_cases hp5 : pk = 5
  · subst hp5
    by_cases hq5 : qk = 5
    · subst hq5
      have HE : Hid (LessFn 85 ⟨5, pn, pt⟩ ⟨5, qn, qt⟩ R) := HR5.out ⟨rfl, rfl⟩
      clear HR5 HRN
      go_wp2_with fail
      go_ret
      exact ⟨_, ⟨5, pn, pt⟩, ⟨5, qn, qt⟩, rfl, HE.out, HM.out⟩
    · have dq : (qk == 5) = false := beq_eq_false_iff_ne.2 hq5
      have HE : Hid (LessFn 86 ⟨5, pn, pt⟩ ⟨qk, qn, qt⟩ R) := HRN.out (fun h => hq5 h.2)
      clear HR5 HRN
      go_wp2_with fail
      go_ret
      exact ⟨_, ⟨5, pn, pt⟩, ⟨qk, qn, qt⟩, rfl, HE.out, HM.out⟩
  · have dp : (pk == 5) = false := beq_eq_false_iff_ne.2 hp5
    have HE : Hid (LessFn 86 ⟨pk, pn, pt⟩ ⟨qk, qn, qt⟩ R) := HRN.out (fun h => hp5 h.1)
    clear HR5 HRN
    go_wp2_with fail
    go_ret
    exact ⟨_, ⟨pk, pn, pt⟩, ⟨qk, qn, qt⟩, rfl, HE.out, HM.out⟩

set_option maxHeartbeats 1000000 in
theorem iTruthValue (c : Bool) (w : World) : Calls Tryz.prog 43 #[.bool c] w fun e w' => e = .returned (.agg (vC (Val.boolV c))) ∧ Below w.heap.size w w' := by
  have HB : Hid (∀ o, Below w.heap.size w (w.alloc o)) := fun o => (Below.refl _ _).alloc (Nat.le_refl _) o
  cases c
  · go_enter Tryz.func43, Tryz.ntmps43
    go_wp2_with fail
    refine bodyPost_ret (v := .agg #[.int .i64 2, .int .i64 0, .string ⟨#[]⟩]) (by simp [results, Tryz.results43, go_sem]) rfl ⟨rfl, HB.out _⟩
  · go_enter Tryz.func43, Tryz.ntmps43
    go_wp2_with fail
    refine bodyPost_ret (v := .agg #[.int .i64 2, .int .i64 1, .string ⟨#[]⟩]) (by simp [results, Tryz.results43, go_sem]) rfl ⟨rfl, HB.out _⟩

end Go.Proofs.YtjgekikcmkicmaaGreatDoor

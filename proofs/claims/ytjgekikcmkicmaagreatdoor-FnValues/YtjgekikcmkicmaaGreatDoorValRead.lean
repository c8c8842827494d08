/-
  The walk of the specification's l04Read: a number out of a text.
-/
import Derived.Test.YtjgekikcmkicmaaGreatDoorValB
namespace Go.Proofs.YtjgekikcmkicmaaGreatDoor
namespace Val
def dropL (l : List UInt8) : List UInt8 := l.dropWhile (fun c => decide (c.toNat = 32))
def dropR (l : List UInt8) : List UInt8 := (l.reverse.dropWhile (fun c => decide (c.toNat = 32))).reverse
def trimL (l : List UInt8) : List UInt8 := dropR (dropL l)
theorem dropL_yes (c : UInt8) (l : List UInt8) (h : c.toNat = 32) : dropL (c :: l) = dropL l := by simp [dropL, h]
theorem dropL_no (c : UInt8) (l : List UInt8) (h : ¬ c.toNat = 32) : dropL (c :: l) = c :: l := by simp [dropL, h]
theorem dropR_yes (c : UInt8) (l : List UInt8) (h : c.toNat = 32) : dropR (l ++ [c]) = dropR l := by simp [dropR, h]
theorem dropR_no (c : UInt8) (l : List UInt8) (h : ¬ c.toNat = 32) : dropR (l ++ [c]) = l ++ [c] := by simp [dropR, h]
theorem ext_one (x : ByteArray) : (x.extract 1 x.size).data.toList = x.data.toList.drop 1 := by
  rw [ByteArray.data_extract, Array.toList_extract]
  simp
  exact List.take_of_length_le (by simp)
theorem ext_last (x : ByteArray) : (x.extract 0 (x.size - 1)).data.toList = x.data.toList.dropLast := by
  rw [ByteArray.data_extract, Array.toList_extract, List.dropLast_eq_take]
  simp
theorem nil_of {x : ByteArray} (h : ¬ 0 < x.size) : x.data.toList = [] := by
  refine List.eq_nil_of_length_eq_zero ?_
  have h9 : x.data.toList.length = x.size := by simp
  omega
theorem list_head (x : ByteArray) (h : 0 < x.size) : x.data.toList = x[0] :: x.data.toList.drop 1 := by
  have h1 : 0 < x.data.toList.length := by simpa using h
  rw [show x.data.toList.drop 1 = x.data.toList.tail from List.drop_one]
  exact (List.cons_head_tail (List.length_pos_iff.1 h1)).symm.trans (by rw [List.head_eq_getElem]; rfl)
theorem list_last (x : ByteArray) (h : 0 < x.size) : x.data.toList = x.data.toList.dropLast ++ [x[x.size - 1]] := by
  have h1 : x.data.toList ≠ [] := List.length_pos_iff.1 (by simpa using h)
  rw [show x[x.size - 1] = x.data.toList.getLast h1 from by rw [List.getLast_eq_getElem]; simp; rfl]
  exact (List.dropLast_concat_getLast h1).symm
def digOk (c : UInt8) : Bool := decide (48 ≤ c.toNat) && decide (c.toNat ≤ 57)
def numD (l : List UInt8) : Int := l.foldl (fun n c => 10 * n + ((c.toNat : Int) - 48)) 0
/-- What a text without blanks at its ends tells. -/
def readL (l : List UInt8) : Option Int :=
  match l with
  | [] => some 0
  | c :: r =>
    if c = 45 then (if 1 ≤ r.length ∧ r.length ≤ 15 ∧ r.all digOk = true then some (-(numD r)) else none)
    else (if (c :: r).length ≤ 15 ∧ (c :: r).all digOk = true then some (numD (c :: r)) else none)
def tailR (sg : Bool) (y : ByteArray) : Option Int :=
  if 1 ≤ y.size ∧ y.size ≤ 15 ∧ y.data.toList.all digOk = true then some (if sg then -(numD y.data.toList) else numD y.data.toList) else none
theorem tail_neg (x y : ByteArray) (h0 : 0 < x.size) (h : x[0] = 45) (hy : x.extract 1 x.size = y) : readL x.data.toList = tailR true y := by
  have hyl : y.data.toList = x.data.toList.drop 1 := by rw [← hy]; exact ext_one x
  have h9 : (x.data.toList.drop 1).length = y.size := by rw [← hyl]; simp
  rw [list_head x h0, h]
  simp only [readL, if_true, h9, tailR, hyl]
theorem tail_pos (x : ByteArray) (h0 : 0 < x.size) (h : ¬ x[0] = 45) : readL x.data.toList = tailR false x := by
  have h9 : (x[0] :: x.data.toList.drop 1).length = x.size := by rw [← list_head x h0]; simp
  have h1 : 1 ≤ x.size := h0
  conv => lhs; rw [list_head x h0]
  simp only [readL, if_neg h, h9, tailR, h1, true_and, Bool.false_eq_true, if_false]
  rw [← list_head x h0]
theorem tail_bad (sg : Bool) (y : ByteArray) (h : y.size < 1 ∨ 15 < y.size) : tailR sg y = none := if_neg (by omega)
theorem tail_not (sg : Bool) (y : ByteArray) (i : Nat) (h : i < y.size) (hd : digOk y[i] = false) : tailR sg y = none := by
  refine if_neg fun g => ?_
  have := List.all_eq_true.1 g.2.2 y[i] (List.getElem_mem (h := by simpa using h))
  rw [hd] at this; cases this
theorem take_next (y : ByteArray) (i : Nat) (h : i < y.size) : y.data.toList.take (i + 1) = y.data.toList.take i ++ [y[i]] := by
  rw [List.take_succ_eq_append_getElem (by simpa using h)]; rfl
theorem numD_snoc (l : List UInt8) (c : UInt8) : numD (l ++ [c]) = 10 * numD l + ((c.toNat : Int) - 48) := by unfold numD; rw [List.foldl_append]; rfl
theorem numD_step (y : ByteArray) (i : Nat) (h : i < y.size) : numD (y.data.toList.take (i + 1)) = 10 * numD (y.data.toList.take i) + ((y[i].toNat : Int) - 48) := by rw [take_next y i h, numD_snoc]
def readT (t : ByteArray) : Option Int := readL (trimL t.data.toList)
end Val
open Go.RowKit

set_option maxHeartbeats 400000 in
theorem vDigit (c : Nat) (w : World) (hc : c < 256) : Calls Tryz.prog 149 #[.int .u8 (c : Int)] w fun e w' => e = .returned (.bool (decide (48 ≤ c) && decide (c ≤ 57))) ∧ w' = w := by
  go_enter Tryz.func149, Tryz.ntmps149
  go_wp2
  all_goals
    go_ret
    refine ⟨vretB ?_, rfl⟩
    rw [Bool.eq_iff_iff]
    simp
    omega

def txtOf : Value → ByteArray
  | .string s => s
  | _ => ⟨#[]⟩

set_option maxHeartbeats 2000000 in
theorem sRead (s : ByteArray) (w : World) (hs : s.size ≤ 1000000) : Calls Tryz.prog 102 #[.string s] w fun e w' =>
    e = .returned (.tuple #[.int .i64 ((Val.readT s).getD 0), .bool (Val.readT s).isSome]) ∧ Below w.heap.size w w' := by
  obtain ⟨R, hR⟩ : ∃ R, R = Val.readT s := ⟨_, rfl⟩
  rw [← hR]
  have HR : Hid (Val.readL (Val.trimL s.data.toList) = R) := hR.symm
  clear hR
  go_enter Tryz.func102, Tryz.ntmps102
  go_wp2_with fail
  go_loopw [0] (fun vt wr => ∃ x : ByteArray, vt = .string x ∧ x.size ≤ 1000000 ∧ Below w.heap.size w wr ∧ Hid (Val.readL (Val.dropR (Val.dropL x.data.toList)) = R)) (fun vt _ => (txtOf vt).size)
  case atStart => exact ⟨s, rfl, hs, Below.refl _ _, HR.out⟩
  case round =>
    obtain ⟨x, rfl, hx, hb, HX⟩ := hrel
    have hcase : (∃ h : 0 < x.size, x[0].toNat = 32) ∨ (∃ h : 0 < x.size, ¬ x[0].toNat = 32) ∨ ¬ 0 < x.size := by
      by_cases h : 0 < x.size
      · by_cases h' : x[0].toNat = 32
        · exact .inl ⟨h, h'⟩
        · exact .inr (.inl ⟨h, h'⟩)
      · exact .inr (.inr h)
    rcases hcase with hA | hA | hA
    case inl =>
      obtain ⟨h0, hc⟩ := hA
      have h0' : (0 : Int) < (x.size : Int) := by omega
      have hc' : ((x[0].toNat : Int) == 32) = true := by simp [hc]
      have HN : Hid (Val.readL (Val.dropR (Val.dropL (x.extract 1 x.size).data.toList)) = R) := by
        show _ = _
        rw [Val.ext_one, ← HX.out]
        conv => rhs; rw [Val.list_head x h0, Val.dropL_yes _ _ hc]
      have hsz : (x.extract 1 x.size).size = x.size - 1 := by simp
      go_wp2_with fail
      exact ⟨⟨_, rfl, by omega, hb, HN⟩, by show (x.extract 1 x.size).size < x.size; omega⟩
    case' inr.inl =>
      obtain ⟨h0, hc⟩ := hA
      have h0' : (0 : Int) < (x.size : Int) := by omega
      have hc' : ((x[0].toNat : Int) == 32) = false := beq_eq_false_iff_ne.2 (by omega)
      have HN : Hid (Val.readL (Val.dropR x.data.toList) = R) := by
        show _ = _
        rw [← HX.out]
        conv => rhs; rw [Val.list_head x h0, Val.dropL_no _ _ hc, ← Val.list_head x h0]
      clear HX
      go_wp2_with fail
      clear hc'
    case' inr.inr =>
      have h0' : ¬ (0 : Int) < (x.size : Int) := by omega
      have HN : Hid (Val.readL (Val.dropR x.data.toList) = R) := by
        show _ = _
        rw [← HX.out]
        have : x.data.toList = [] := Val.nil_of hA
        rw [this]; rfl
      clear HX
      go_wp2_with fail
      clear h0'
    all_goals
      go_loopw [0] (fun vt wr => ∃ x : ByteArray, vt = .string x ∧ x.size ≤ 1000000 ∧ Below w.heap.size w wr ∧ Hid (Val.readL (Val.dropR x.data.toList) = R)) (fun vt _ => (txtOf vt).size)
      case atStart => exact ⟨x, rfl, hx, hb, HN⟩
      case round =>
        clear HN hx hb
        obtain ⟨x, rfl, hx, hb, HX⟩ := hrel
        have hcase : (∃ h : 0 < x.size, x[x.size - 1].toNat = 32) ∨ (∃ h : 0 < x.size, ¬ x[x.size - 1].toNat = 32) ∨ ¬ 0 < x.size := by
          by_cases h : 0 < x.size
          · by_cases h' : x[x.size - 1].toNat = 32
            · exact .inl ⟨h, h'⟩
            · exact .inr (.inl ⟨h, h'⟩)
          · exact .inr (.inr h)
        rcases hcase with hA | hA | hA
        case inl =>
          obtain ⟨h0, hc⟩ := hA
          have h0' : (0 : Int) < (x.size : Int) := by omega
          have hc' : ((x[x.size - 1].toNat : Int) == 32) = true := by simp [hc]
          have h1 : ((x.size : Int) - 1) = ((x.size - 1 : Nat) : Int) := by omega
          have h2 : ((x.size - 1 : Nat) : Int) < (x.size : Int) := by omega
          have HN : Hid (Val.readL (Val.dropR (x.extract 0 (x.size - 1)).data.toList) = R) := by
            show _ = _
            rw [Val.ext_last, ← HX.out]
            conv => rhs; rw [Val.list_last x h0, Val.dropR_yes _ _ hc]
          have hsz : (x.extract 0 (x.size - 1)).size = x.size - 1 := by simp
          go_wp2_with fail
          exact ⟨⟨_, rfl, by omega, hb, HN⟩, by show (x.extract 0 (x.size - 1)).size < x.size; omega⟩
        case inr.inr =>
          have h0' : ¬ (0 : Int) < (x.size : Int) := by omega
          have hnil : x.data.toList = [] := Val.nil_of hA
          have hR0 : Hid (R = some 0) := by show _ = _; rw [← HX.out, hnil]; rfl
          have hemp : x.toList.isEmpty = true := by rw [ByteArray.toList_eq, hnil]; rfl
          have hemp2 : x.toList = [] := by rw [ByteArray.toList_eq, hnil]
          clear HX hnil
          go_wp2_with fail
          refine bodyPost_ret (v := .tuple #[.int .i64 0, .bool true]) (by simp [results, Tryz.results102, go_sem]) rfl ⟨by rw [hR0.out]; rfl, hb⟩
        case inr.inl =>
          obtain ⟨h0, hc⟩ := hA
          have h0' : (0 : Int) < (x.size : Int) := by omega
          have hc' : ((x[x.size - 1].toNat : Int) == 32) = false := beq_eq_false_iff_ne.2 (by omega)
          have h1 : ((x.size : Int) - 1) = ((x.size - 1 : Nat) : Int) := by omega
          have h2 : ((x.size - 1 : Nat) : Int) < (x.size : Int) := by omega
          have HN : Hid (Val.readL x.data.toList = R) := by
            show _ = _
            rw [← HX.out]
            conv => rhs; rw [Val.list_last x h0, Val.dropR_no _ _ hc, ← Val.list_last x h0]
          have hemp : x.toList.isEmpty = false := by rw [ByteArray.toList_eq, Val.list_head x h0]; rfl
          clear HX
          rcases Decidable.em (x[0].toNat = 45) with hneg | hneg
          case' inl =>
            have hneg' : ((x[0].toNat : Int) == 45) = true := by simp [hneg]
            obtain ⟨y, hy⟩ : ∃ y, x.extract 1 x.size = y := ⟨_, rfl⟩
            have HY : Hid (Val.tailR true y = R) := by show _ = _; rw [← Val.tail_neg x y h0 (UInt8.toNat_inj.1 hneg) hy]; exact HN.out
            clear HN
            by_cases hlen : y.size < 1 ∨ 15 < y.size
            · have hRn : Hid (R = none) := by show _ = _; rw [← HY.out]; exact Val.tail_bad _ _ hlen
              rcases hlen with hl1 | hl1
              · have hl1' : (y.size : Int) < 1 := by omega
                go_wp2_with fail
                refine bodyPost_ret (v := .tuple #[.int .i64 0, .bool false]) (by simp [results, Tryz.results102, go_sem]) rfl ⟨by rw [hRn.out]; rfl, hb⟩
              · have hl1' : ¬ (y.size : Int) < 1 := by omega
                have hl2' : (15 : Int) < (y.size : Int) := by omega
                go_wp2_with fail
                refine bodyPost_ret (v := .tuple #[.int .i64 0, .bool false]) (by simp [results, Tryz.results102, go_sem]) rfl ⟨by rw [hRn.out]; rfl, hb⟩
            have hl1' : ¬ (y.size : Int) < 1 := by omega
            have hl2' : ¬ (15 : Int) < (y.size : Int) := by omega
            have hy15 : y.size ≤ 15 := by omega
            have hy1 : 1 ≤ y.size := by omega
            go_wp2_with fail
          case' inr =>
            have hneg' : ((x[0].toNat : Int) == 45) = false := beq_eq_false_iff_ne.2 (by omega)
            have HY : Hid (Val.tailR false x = R) := by show _ = _; rw [← Val.tail_pos x h0 (fun e => hneg (by rw [e]; rfl))]; exact HN.out
            clear HN
            obtain ⟨y, ey⟩ : ∃ y, y = x := ⟨_, rfl⟩
            subst ey
            by_cases hlen : y.size < 1 ∨ 15 < y.size
            · have hRn : Hid (R = none) := by show _ = _; rw [← HY.out]; exact Val.tail_bad _ _ hlen
              rcases hlen with hl1 | hl1
              · have hl1' : (y.size : Int) < 1 := by omega
                go_wp2_with fail
                refine bodyPost_ret (v := .tuple #[.int .i64 0, .bool false]) (by simp [results, Tryz.results102, go_sem]) rfl ⟨by rw [hRn.out]; rfl, hb⟩
              · have hl1' : ¬ (y.size : Int) < 1 := by omega
                have hl2' : (15 : Int) < (y.size : Int) := by omega
                go_wp2_with fail
                refine bodyPost_ret (v := .tuple #[.int .i64 0, .bool false]) (by simp [results, Tryz.results102, go_sem]) rfl ⟨by rw [hRn.out]; rfl, hb⟩
            have hl1' : ¬ (y.size : Int) < 1 := by omega
            have hl2' : ¬ (15 : Int) < (y.size : Int) := by omega
            have hy15 : y.size ≤ 15 := by omega
            have hy1 : 1 ≤ y.size := by omega
            go_wp2_with fail
          all_goals
            go_loopw [5, 6] (fun vn vi wr => ∃ (i : Nat) (n : Int), i ≤ y.size ∧ vi = .int .i64 i ∧ vn = .int .i64 n ∧ 0 ≤ n ∧ n < 10 ^ i ∧ Below w.heap.size w wr ∧ Hid (n = Val.numD (y.data.toList.take i) ∧ (y.data.toList.take i).all Val.digOk = true)) (fun _ vi _ => y.size - (intOf vi).toNat)
            case atStart => exact ⟨0, 0, Nat.zero_le _, rfl, rfl, by omega, by simp, hb, by simp [Val.numD], by simp⟩
            case round =>
              clear hb
              obtain ⟨i, n, hi, rfl, rfl, hn0, hn1, hb, HX⟩ := hrel
              have hpow : (10 : Int) ^ i ≤ 1000000000000000 := by
                have h9 : (10 : Nat) ^ i ≤ 10 ^ 15 := Nat.pow_le_pow_right (by omega) (by omega)
                have h8 : (10 : Int) ^ i = ((10 ^ i : Nat) : Int) := by rw [Int.natCast_pow]; rfl
                rw [h8]; omega
              by_cases hlt : i < y.size
              · have hlt' : (i : Int) < (y.size : Int) := by omega
                have hc9 : y[i].toNat < 256 := UInt8.toNat_lt _
                have D := fun (_ : Unit) => vDigit y[i].toNat wr hc9
                have HD : Hid _ := D
                clear D
                have hpe : (10 : Int) ^ (i + 1) = 10 ^ i * 10 := Int.pow_succ _ _
                by_cases hd : Val.digOk y[i] = true
                · have hdd : (decide (48 ≤ y[i].toNat) && decide (y[i].toNat ≤ 57)) = true := hd
                  rw [hdd] at HD
                  simp only [Bool.and_eq_true, decide_eq_true_eq] at hdd
                  have HN : Hid (10 * n + ((y[i].toNat : Int) - 48) = Val.numD (y.data.toList.take (i + 1)) ∧ (y.data.toList.take (i + 1)).all Val.digOk = true) := by
                    refine ⟨by rw [Val.numD_step y i hlt, ← HX.out.1], ?_⟩
                    rw [Val.take_next y i hlt, List.all_append, HX.out.2]
                    simp [hd]
                  have hnn : 10 * n + ((y[i].toNat : Int) - 48) < 10 ^ (i + 1) := by rw [hpe]; omega
                  have HNN : Hid (10 * n + ((y[i].toNat : Int) - 48) < 10 ^ (i + 1)) := hnn
                  clear hnn hpe hd
                  go_wp2_with fail
                  refine (HD.out ()).mono ?_
                  rintro e w1 ⟨rfl, rfl⟩
                  go_wp2_with fail
                  exact ⟨⟨i + 1, _, by omega, by go_num, rfl, by omega, HNN.out, hb, HN.out⟩, by simp [intOf]; omega⟩
                · have hdd : (decide (48 ≤ y[i].toNat) && decide (y[i].toNat ≤ 57)) = false := Bool.eq_false_iff.2 hd
                  rw [hdd] at HD
                  have hRn : Hid (R = none) := by show _ = _; rw [← HY.out]; exact Val.tail_not _ _ i hlt (Bool.eq_false_iff.2 hd)
                  clear hdd hd hpe HX HY
                  go_wp2_with fail
                  refine (HD.out ()).mono ?_
                  rintro e w1 ⟨rfl, rfl⟩
                  go_wp2_with fail
                  refine bodyPost_ret (v := .tuple #[.int .i64 0, .bool false]) (by simp [results, Tryz.results102, go_sem]) rfl ⟨by rw [hRn.out]; rfl, hb⟩
              · have hlt' : ¬ (i : Int) < (y.size : Int) := by omega
                have hie : i = y.size := by omega
                have htk : y.data.toList.take i = y.data.toList := List.take_of_length_le (by simp [hie])
                have HX2 := HX.out
                rw [htk] at HX2
                have HRs := HY.out
                unfold Val.tailR at HRs
                rw [if_pos ⟨hy1, hy15, HX2.2⟩, ← HX2.1] at HRs
                have HRR : Hid _ := HRs
                clear HRs HX2 htk HX HY
                go_wp2_with fail
                first
                  | refine bodyPost_ret (v := .tuple #[.int .i64 (-n), .bool true]) (by simp [results, Tryz.results102, go_sem]) rfl ⟨by rw [← HRR.out]; rfl, hb⟩
                  | refine bodyPost_ret (v := .tuple #[.int .i64 n, .bool true]) (by simp [results, Tryz.results102, go_sem]) rfl ⟨by rw [← HRR.out]; rfl, hb⟩

end Go.Proofs.YtjgekikcmkicmaaGreatDoor

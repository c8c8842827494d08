/-
  FnShift: the law's numerals and numbers, by a checked run. (Written by wip/tools/rf/mkRnM.py, after mkRmM.py.)
-/
import Derived.Test.YtiphlekkdehgoaaGreatDoorStC
import Derived.Test.YtiphlekkdehgoaaGreatDoorRnL
namespace Go.Proofs.YtiphlekkdehgoaaGreatDoor
open Go.RowKit
set_option maxRecDepth 1000000

def chkD (n : Nat) (x : Option (AV × AH)) : Bool := match x with
  | some (.str _ l, _) => sameIs l ((decL n).map fun d => .lit (.ofNat d))
  | _ => false
def chkN (x : Option (AV × AH)) : Bool := match x with
  | some (v, _) => sameV v (.agg [.int .i64 (.lit 3), .int .i64 (.sym 0), .str 0 []])
  | _ => false
theorem k_dec (t0 t1 t3 t4 t5 : Nat) : ((List.range 250).all fun n => chkD n (callX (tab []) 1000 6 [.int .i64 (.lit (.ofNat n))] (h0 t0 t1 t3 t4 t5))) = true := by kernel_rfl
theorem k_num (t0 t1 t3 t4 t5 : Nat) : chkN (callX (tab [(0, 199999)]) 1000 7 [.int .i64 (.sym 0)] (h0 t0 t1 t3 t4 t5)) = true := by kernel_rfl

theorem bytes_eq {E : Nat → Int} {l : List AI} {s : ByteArray} (h : s.data.toList = l.map (byteOf E)) : bytesA E l = s := by
  apply ByteArray.ext
  apply Array.toList_inj.1
  rw [h]
  rfl

theorem lDec (n : Nat) (z : Int) (W : World) (hz : z = n) (hn : n < 250) (hG : GIn W) : Calls Tryz.prog 6 #[.int .i64 z] W fun e w' => e = .returned (.string (decB n)) ∧ Below W.heap.size W w' := by
  subst hz
  obtain ⟨⟨a0, t0, e0⟩, ⟨a1, t1, e1⟩, ⟨a3, t3, e3⟩, ⟨t4, e4⟩, ⟨t5, e5⟩, iv⟩ := hG
  have hr := relW (bd := []) (E := fun _ => 0) e0 e1 e3 e4 e5 iv
  have ht := List.all_eq_true.1 (k_dec t0 t1 t3 t4 t5) n (List.mem_range.2 hn)
  cases hc : callX (tab []) 1000 6 [.int .i64 (.lit (.ofNat n))] (h0 t0 t1 t3 t4 t5) with
  | none => rw [hc] at ht; cases ht
  | some p =>
    obtain ⟨a, h1⟩ := p
    rw [hc] at ht
    cases a with
    | str k l =>
      have hb : sameIs l ((decL n).map fun d => .lit (.ofNat d)) = true := ht
      refine (callX_ok (tabOk []) (E := fun _ => 0) (fun i l u h => (by simp [tab] at h)) hc ?_ hr).mono ?_
      · exact VL.cons (by simp [V, AI.ev]) VL.nil
      · rintro e w' ⟨κ, u, rfl, hV, hg, _⟩
        simp only [V] at hV
        obtain ⟨_, rfl⟩ := hV
        refine ⟨?_, hg.below⟩
        rw [bytes_eq (s := decB n)]
        rw [(sameIs_ev (E := fun _ => 0) hb).1]
        show (decL n).map UInt8.ofNat = _
        rw [List.map_map]
        rfl
    | _ => cases ht

theorem lNum (z : Int) (W : World) (h0z : 0 ≤ z) (hz : z < 200000) (hG : GIn W) : Calls Tryz.prog 7 #[.int .i64 z] W fun e w' => e = .returned (.agg (numV z)) ∧ Below W.heap.size W w' := by
  obtain ⟨⟨a0, t0, e0⟩, ⟨a1, t1, e1⟩, ⟨a3, t3, e3⟩, ⟨t4, e4⟩, ⟨t5, e5⟩, iv⟩ := hG
  have hr := relW (bd := [(0, 199999)]) (E := fun _ => z) e0 e1 e3 e4 e5 iv
  have ht := k_num t0 t1 t3 t4 t5
  cases hc : callX (tab [(0, 199999)]) 1000 7 [.int .i64 (.sym 0)] (h0 t0 t1 t3 t4 t5) with
  | none => rw [hc] at ht; cases ht
  | some p =>
    obtain ⟨a, h1⟩ := p
    rw [hc] at ht
    have hb : sameV a (.agg [.int .i64 (.lit 3), .int .i64 (.sym 0), .str 0 []]) = true := ht
    refine (callX_ok (tabOk [(0, 199999)]) (E := fun _ => z) (fun i l u h => ?_) hc ?_ hr).mono ?_
    · cases i with
      | zero =>
        have h' : some ((0 : Int), (199999 : Int)) = some (l, u) := h
        cases h'
        exact ⟨h0z, (by show z ≤ 199999; omega)⟩
      | succ i => simp [tab] at h
    · exact VL.cons (by simp [V, AI.ev]) VL.nil
    · rintro e w' ⟨κ, u, rfl, hV, hg, _⟩
      have hV' := sameV_V hb hV
      simp only [V, VL] at hV'
      obtain ⟨l', rfl, v1, s1, q1, rfl, v2, s2, rfl, rfl, v3, s3, rfl, ⟨_, rfl⟩, rfl⟩ := hV'
      refine ⟨?_, hg.below⟩
      have hl : l' = numV z := by
        apply Array.toList_inj.1
        rw [q1]
        rfl
      rw [hl]

end Go.Proofs.YtiphlekkdehgoaaGreatDoor

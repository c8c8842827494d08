/-
  FnShift: what the law asks, text by text. (Written by wip/tools/rf/mkRnN.py.)
-/
import Derived.Test.YtiphlekkdehgoaaGreatDoorRnM
import Derived.Test.YtiphlekkdehgoaaGreatDoorRnB
import Derived.Test.YtiphlekkdehgoaaGreatDoorRnC
import Derived.Test.YtiphlekkdehgoaaGreatDoorRnD
import Derived.Test.YtiphlekkdehgoaaGreatDoorRnE
import Derived.Test.YtiphlekkdehgoaaGreatDoorRnF
import Derived.Test.YtiphlekkdehgoaaGreatDoorRnG
namespace Go.Proofs.YtiphlekkdehgoaaGreatDoor
open Go.RowKit
set_option maxRecDepth 100000

/-- Digits for the letters. -/
def dig (l : List Nat) : Nat → Int := fun i => ((l.getD i 0 : Nat) : Int)
theorem dec100 {y : Nat} (h : y < 100) : decL (100 + y) = [49, 48 + y / 10, 48 + y % 10] := by
  unfold decL
  rw [if_neg (by omega), if_neg (by omega), show (100 + y) / 100 = 1 by omega, show (100 + y) / 10 % 10 = y / 10 by omega, show (100 + y) % 10 = y % 10 by omega]
theorem dec200 {z : Nat} (h : z < 50) : decL (200 + z) = [50, 48 + z / 10, 48 + z % 10] := by
  unfold decL
  rw [if_neg (by omega), if_neg (by omega), show (200 + z) / 100 = 2 by omega, show (200 + z) / 10 % 10 = z / 10 by omega, show (200 + z) % 10 = z % 10 by omega]
theorem dec1 {x : Nat} (h : x < 10) : decL x = [48 + x] := by unfold decL; rw [if_pos h]
theorem dec2 {x : Nat} (h : ¬ x < 10) (h2 : x < 100) : decL x = [48 + x / 10, 48 + x % 10] := by unfold decL; rw [if_neg h, if_pos h2]
theorem decB_list (n : Nat) : (decB n).data.toList = (decL n).map UInt8.ofNat := by unfold decB; simp
theorem app_list (a b : ByteArray) : (a ++ b).data.toList = a.data.toList ++ b.data.toList := by rw [ByteArray.data_append, Array.toList_append]

theorem vl_num {E : Nat → Int} {e : AI} {z : Int} (h : e.ev E = z) (ι : Pl) : VL E ι [.int .i64 (.lit 3), .int .i64 e, .str 0 []] (numV z).toList := by
  refine VL.cons (by simp [V, AI.ev]) (VL.cons (by simp [V, h]) (VL.cons ?_ VL.nil))
  simp only [V]
  exact ⟨rfl, rfl⟩

abbrev Tells (s : ByteArray) (v : Array Value) : Prop := ∀ W, GIn W → Calls Tryz.prog 5 #[.string s, .agg v] W fun e w' => e = .returned (.bool true) ∧ Below W.heap.size W w'
theorem tells {bd : Bds} {l : List AI} {v : List AV} (hs : Says bd l v) {E : Nat → Int} (hE : Env bd E) {s : ByteArray} {vs : Array Value} (h : s.data.toList = l.map (byteOf E)) (hv : ∀ ι, VL E ι v vs.toList) : Tells s vs := fun W hG => by
  have := says_ok hs hE hG hv
  rw [bytes_eq h] at this
  exact this
abbrev Falls (s : ByteArray) : Prop := ∀ W, GIn W → Calls Tryz.prog 8 #[.string s, .int .i64 100] W fun e w' => e = .returned (.agg fiveV) ∧ Below W.heap.size W w'
theorem falls {bd : Bds} {l : List AI} (hs : Throws bd l) {E : Nat → Int} (hE : Env bd E) {s : ByteArray} (h : s.data.toList = l.map (byteOf E)) : Falls s := fun W hG => by
  have := run_ok hs hE hG
  rw [bytes_eq h] at this
  refine this.mono ?_
  rintro e w' ⟨⟨κ, v, rfl, hV⟩, hb⟩
  refine ⟨?_, hb⟩
  unfold v_five at hV
  simp only [V, VL, AI.ev] at hV
  obtain ⟨l', rfl, v1, s1, q1, rfl, v2, s2, rfl, rfl, v3, s3, rfl, ⟨_, rfl⟩, v4, s4, rfl, rfl, v5, s5, rfl, rfl, v6, s6, rfl, rfl, v7, s7, rfl, rfl, rfl⟩ := hV
  have hl : l' = fiveV := by
    apply Array.toList_inj.1
    rw [q1]
    rfl
  rw [hl]

theorem env_one0 {y : Nat} (hy : y < 100) : Env [(48, 57), (48, 57)] (dig [48 + y / 10, 48 + y % 10]) := fun i l u e => by
  match i, e with
  | 0, e => cases e; simp only [dig, List.getD_cons_zero]; omega
  | 1, e => cases e; simp only [dig, List.getD_cons_succ, List.getD_cons_zero]; omega
theorem a_one0 {y : Nat} (hy : y < 100) : Tells (s_one (decB 0) (decB (100 + y))) (numV (1000 * ((0 : Nat) : Int) + (100 + (y : Int)))) := by
  refine tells k_one0 (E := dig [48 + y / 10, 48 + y % 10]) (env_one0 hy) ?_ (fun ι => vl_num ?_ ι)
  · unfold s_one
    simp only [app_list, decB_list, dec100 hy, dec1 (by decide : 0 < 10)]
    rfl
  · simp only [AI.ev, dig, List.getD_cons_zero, List.getD_cons_succ]
    omega
theorem env_two0 {y z : Nat} (hy : y < 100) (hz : z < 50) : Env [(48, 57), (48, 57), (48, 57), (48, 57)] (dig [48 + y / 10, 48 + y % 10, 48 + z / 10, 48 + z % 10]) := fun i l u e => by
  match i, e with
  | 0, e => cases e; simp only [dig, List.getD_cons_zero]; omega
  | 1, e => cases e; simp only [dig, List.getD_cons_succ, List.getD_cons_zero]; omega
  | 2, e => cases e; simp only [dig, List.getD_cons_succ, List.getD_cons_zero]; omega
  | 3, e => cases e; simp only [dig, List.getD_cons_succ, List.getD_cons_zero]; omega
theorem a_two0 {y z : Nat} (hy : y < 100) (hz : z < 50) : Tells (s_two (decB 0) (decB (100 + y)) (decB (200 + z))) (numV (1000 * ((0 : Nat) : Int) + (200 + (z : Int)))) := by
  refine tells k_two0 (E := dig [48 + y / 10, 48 + y % 10, 48 + z / 10, 48 + z % 10]) (env_two0 hy hz) ?_ (fun ι => vl_num ?_ ι)
  · unfold s_two
    simp only [app_list, decB_list, dec100 hy, dec200 hz, dec1 (by decide : 0 < 10)]
    rfl
  · simp only [AI.ev, dig, List.getD_cons_zero, List.getD_cons_succ]
    omega
theorem env_three0 {y : Nat} (hy : y < 100) : Env [(48, 57), (48, 57)] (dig [48 + y / 10, 48 + y % 10]) := fun i l u e => by
  match i, e with
  | 0, e => cases e; simp only [dig, List.getD_cons_zero]; omega
  | 1, e => cases e; simp only [dig, List.getD_cons_succ, List.getD_cons_zero]; omega
theorem a_three0 {y : Nat} (hy : y < 100) : Tells (s_three (decB (100 + y)) (decB 0)) (numV (((0 : Nat) : Int) + (100 + (y : Int)))) := by
  refine tells k_three0 (E := dig [48 + y / 10, 48 + y % 10]) (env_three0 hy) ?_ (fun ι => vl_num ?_ ι)
  · unfold s_three
    simp only [app_list, decB_list, dec100 hy, dec1 (by decide : 0 < 10)]
    rfl
  · simp only [AI.ev, dig, List.getD_cons_zero, List.getD_cons_succ]
    omega
theorem env_four0 {y : Nat} (hy : y < 100) : Env [(48, 57), (48, 57)] (dig [48 + y / 10, 48 + y % 10]) := fun i l u e => by
  match i, e with
  | 0, e => cases e; simp only [dig, List.getD_cons_zero]; omega
  | 1, e => cases e; simp only [dig, List.getD_cons_succ, List.getD_cons_zero]; omega
theorem a_four0 {y : Nat} (hy : y < 100) : Tells (s_four (decB 0) (decB (100 + y))) (numV (((0 : Nat) : Int) + (100 + (y : Int)))) := by
  refine tells k_four0 (E := dig [48 + y / 10, 48 + y % 10]) (env_four0 hy) ?_ (fun ι => vl_num ?_ ι)
  · unfold s_four
    simp only [app_list, decB_list, dec100 hy, dec1 (by decide : 0 < 10)]
    rfl
  · simp only [AI.ev, dig, List.getD_cons_zero, List.getD_cons_succ]
    omega
theorem env_five0  : Env [] (dig []) := fun i l u e => by
  cases e
theorem a_five0  : Falls (s_five (decB 0)) := by
  refine falls k_five0 (E := dig []) (env_five0) ?_
  unfold s_five
  simp only [app_list, decB_list, dec1 (by decide : 0 < 10)]
  rfl
theorem env_one1 {x y : Nat} (hy : y < 100) (h0 : x ≠ 0) (hx : x < 10) : Env [(49, 57), (48, 57), (48, 57)] (dig [48 + x, 48 + y / 10, 48 + y % 10]) := fun i l u e => by
  match i, e with
  | 0, e => cases e; simp only [dig, List.getD_cons_zero]; omega
  | 1, e => cases e; simp only [dig, List.getD_cons_succ, List.getD_cons_zero]; omega
  | 2, e => cases e; simp only [dig, List.getD_cons_succ, List.getD_cons_zero]; omega
theorem a_one1 {x y : Nat} (hy : y < 100) (h0 : x ≠ 0) (hx : x < 10) : Tells (s_one (decB x) (decB (100 + y))) (numV (1000 * (x : Int) + (100 + (y : Int)))) := by
  refine tells k_one1 (E := dig [48 + x, 48 + y / 10, 48 + y % 10]) (env_one1 hy h0 hx) ?_ (fun ι => vl_num ?_ ι)
  · unfold s_one
    simp only [app_list, decB_list, dec100 hy, dec1 hx]
    rfl
  · simp only [AI.ev, dig, List.getD_cons_zero, List.getD_cons_succ]
    omega
theorem env_two1 {x y z : Nat} (hy : y < 100) (hz : z < 50) (h0 : x ≠ 0) (hx : x < 10) : Env [(49, 57), (48, 57), (48, 57), (48, 57), (48, 57)] (dig [48 + x, 48 + y / 10, 48 + y % 10, 48 + z / 10, 48 + z % 10]) := fun i l u e => by
  match i, e with
  | 0, e => cases e; simp only [dig, List.getD_cons_zero]; omega
  | 1, e => cases e; simp only [dig, List.getD_cons_succ, List.getD_cons_zero]; omega
  | 2, e => cases e; simp only [dig, List.getD_cons_succ, List.getD_cons_zero]; omega
  | 3, e => cases e; simp only [dig, List.getD_cons_succ, List.getD_cons_zero]; omega
  | 4, e => cases e; simp only [dig, List.getD_cons_succ, List.getD_cons_zero]; omega
theorem a_two1 {x y z : Nat} (hy : y < 100) (hz : z < 50) (h0 : x ≠ 0) (hx : x < 10) : Tells (s_two (decB x) (decB (100 + y)) (decB (200 + z))) (numV (1000 * (x : Int) + (200 + (z : Int)))) := by
  refine tells k_two1 (E := dig [48 + x, 48 + y / 10, 48 + y % 10, 48 + z / 10, 48 + z % 10]) (env_two1 hy hz h0 hx) ?_ (fun ι => vl_num ?_ ι)
  · unfold s_two
    simp only [app_list, decB_list, dec100 hy, dec200 hz, dec1 hx]
    rfl
  · simp only [AI.ev, dig, List.getD_cons_zero, List.getD_cons_succ]
    omega
theorem env_three1 {x y : Nat} (hy : y < 100) (h0 : x ≠ 0) (hx : x < 10) : Env [(48, 57), (48, 57), (49, 57)] (dig [48 + y / 10, 48 + y % 10, 48 + x]) := fun i l u e => by
  match i, e with
  | 0, e => cases e; simp only [dig, List.getD_cons_zero]; omega
  | 1, e => cases e; simp only [dig, List.getD_cons_succ, List.getD_cons_zero]; omega
  | 2, e => cases e; simp only [dig, List.getD_cons_succ, List.getD_cons_zero]; omega
theorem a_three1 {x y : Nat} (hy : y < 100) (h0 : x ≠ 0) (hx : x < 10) : Tells (s_three (decB (100 + y)) (decB x)) (numV ((x : Int) + (100 + (y : Int)))) := by
  refine tells k_three1 (E := dig [48 + y / 10, 48 + y % 10, 48 + x]) (env_three1 hy h0 hx) ?_ (fun ι => vl_num ?_ ι)
  · unfold s_three
    simp only [app_list, decB_list, dec100 hy, dec1 hx]
    rfl
  · simp only [AI.ev, dig, List.getD_cons_zero, List.getD_cons_succ]
    omega
theorem env_four1 {x y : Nat} (hy : y < 100) (h0 : x ≠ 0) (hx : x < 10) : Env [(49, 57), (48, 57), (48, 57)] (dig [48 + x, 48 + y / 10, 48 + y % 10]) := fun i l u e => by
  match i, e with
  | 0, e => cases e; simp only [dig, List.getD_cons_zero]; omega
  | 1, e => cases e; simp only [dig, List.getD_cons_succ, List.getD_cons_zero]; omega
  | 2, e => cases e; simp only [dig, List.getD_cons_succ, List.getD_cons_zero]; omega
theorem a_four1 {x y : Nat} (hy : y < 100) (h0 : x ≠ 0) (hx : x < 10) : Tells (s_four (decB x) (decB (100 + y))) (numV ((x : Int) + (100 + (y : Int)))) := by
  refine tells k_four1 (E := dig [48 + x, 48 + y / 10, 48 + y % 10]) (env_four1 hy h0 hx) ?_ (fun ι => vl_num ?_ ι)
  · unfold s_four
    simp only [app_list, decB_list, dec100 hy, dec1 hx]
    rfl
  · simp only [AI.ev, dig, List.getD_cons_zero, List.getD_cons_succ]
    omega
theorem env_five1 {x : Nat} (h0 : x ≠ 0) (hx : x < 10) : Env [(49, 57)] (dig [48 + x]) := fun i l u e => by
  match i, e with
  | 0, e => cases e; simp only [dig, List.getD_cons_zero]; omega
theorem a_five1 {x : Nat} (h0 : x ≠ 0) (hx : x < 10) : Falls (s_five (decB x)) := by
  refine falls k_five1 (E := dig [48 + x]) (env_five1 h0 hx) ?_
  unfold s_five
  simp only [app_list, decB_list, dec1 hx]
  rfl
theorem env_one2 {x y : Nat} (hy : y < 100) (h0 : ¬ x < 10) (hx : x < 100) : Env [(49, 57), (48, 57), (48, 57), (48, 57)] (dig [48 + x / 10, 48 + x % 10, 48 + y / 10, 48 + y % 10]) := fun i l u e => by
  match i, e with
  | 0, e => cases e; simp only [dig, List.getD_cons_zero]; omega
  | 1, e => cases e; simp only [dig, List.getD_cons_succ, List.getD_cons_zero]; omega
  | 2, e => cases e; simp only [dig, List.getD_cons_succ, List.getD_cons_zero]; omega
  | 3, e => cases e; simp only [dig, List.getD_cons_succ, List.getD_cons_zero]; omega
theorem a_one2 {x y : Nat} (hy : y < 100) (h0 : ¬ x < 10) (hx : x < 100) : Tells (s_one (decB x) (decB (100 + y))) (numV (1000 * (x : Int) + (100 + (y : Int)))) := by
  refine tells k_one2 (E := dig [48 + x / 10, 48 + x % 10, 48 + y / 10, 48 + y % 10]) (env_one2 hy h0 hx) ?_ (fun ι => vl_num ?_ ι)
  · unfold s_one
    simp only [app_list, decB_list, dec100 hy, dec2 h0 hx]
    rfl
  · simp only [AI.ev, dig, List.getD_cons_zero, List.getD_cons_succ]
    omega
theorem env_two2 {x y z : Nat} (hy : y < 100) (hz : z < 50) (h0 : ¬ x < 10) (hx : x < 100) : Env [(49, 57), (48, 57), (48, 57), (48, 57), (48, 57), (48, 57)] (dig [48 + x / 10, 48 + x % 10, 48 + y / 10, 48 + y % 10, 48 + z / 10, 48 + z % 10]) := fun i l u e => by
  match i, e with
  | 0, e => cases e; simp only [dig, List.getD_cons_zero]; omega
  | 1, e => cases e; simp only [dig, List.getD_cons_succ, List.getD_cons_zero]; omega
  | 2, e => cases e; simp only [dig, List.getD_cons_succ, List.getD_cons_zero]; omega
  | 3, e => cases e; simp only [dig, List.getD_cons_succ, List.getD_cons_zero]; omega
  | 4, e => cases e; simp only [dig, List.getD_cons_succ, List.getD_cons_zero]; omega
  | 5, e => cases e; simp only [dig, List.getD_cons_succ, List.getD_cons_zero]; omega
theorem a_two2 {x y z : Nat} (hy : y < 100) (hz : z < 50) (h0 : ¬ x < 10) (hx : x < 100) : Tells (s_two (decB x) (decB (100 + y)) (decB (200 + z))) (numV (1000 * (x : Int) + (200 + (z : Int)))) := by
  refine tells k_two2 (E := dig [48 + x / 10, 48 + x % 10, 48 + y / 10, 48 + y % 10, 48 + z / 10, 48 + z % 10]) (env_two2 hy hz h0 hx) ?_ (fun ι => vl_num ?_ ι)
  · unfold s_two
    simp only [app_list, decB_list, dec100 hy, dec200 hz, dec2 h0 hx]
    rfl
  · simp only [AI.ev, dig, List.getD_cons_zero, List.getD_cons_succ]
    omega
theorem env_three2 {x y : Nat} (hy : y < 100) (h0 : ¬ x < 10) (hx : x < 100) : Env [(48, 57), (48, 57), (49, 57), (48, 57)] (dig [48 + y / 10, 48 + y % 10, 48 + x / 10, 48 + x % 10]) := fun i l u e => by
  match i, e with
  | 0, e => cases e; simp only [dig, List.getD_cons_zero]; omega
  | 1, e => cases e; simp only [dig, List.getD_cons_succ, List.getD_cons_zero]; omega
  | 2, e => cases e; simp only [dig, List.getD_cons_succ, List.getD_cons_zero]; omega
  | 3, e => cases e; simp only [dig, List.getD_cons_succ, List.getD_cons_zero]; omega
theorem a_three2 {x y : Nat} (hy : y < 100) (h0 : ¬ x < 10) (hx : x < 100) : Tells (s_three (decB (100 + y)) (decB x)) (numV ((x : Int) + (100 + (y : Int)))) := by
  refine tells k_three2 (E := dig [48 + y / 10, 48 + y % 10, 48 + x / 10, 48 + x % 10]) (env_three2 hy h0 hx) ?_ (fun ι => vl_num ?_ ι)
  · unfold s_three
    simp only [app_list, decB_list, dec100 hy, dec2 h0 hx]
    rfl
  · simp only [AI.ev, dig, List.getD_cons_zero, List.getD_cons_succ]
    omega
theorem env_four2 {x y : Nat} (hy : y < 100) (h0 : ¬ x < 10) (hx : x < 100) : Env [(49, 57), (48, 57), (48, 57), (48, 57)] (dig [48 + x / 10, 48 + x % 10, 48 + y / 10, 48 + y % 10]) := fun i l u e => by
  match i, e with
  | 0, e => cases e; simp only [dig, List.getD_cons_zero]; omega
  | 1, e => cases e; simp only [dig, List.getD_cons_succ, List.getD_cons_zero]; omega
  | 2, e => cases e; simp only [dig, List.getD_cons_succ, List.getD_cons_zero]; omega
  | 3, e => cases e; simp only [dig, List.getD_cons_succ, List.getD_cons_zero]; omega
theorem a_four2 {x y : Nat} (hy : y < 100) (h0 : ¬ x < 10) (hx : x < 100) : Tells (s_four (decB x) (decB (100 + y))) (numV ((x : Int) + (100 + (y : Int)))) := by
  refine tells k_four2 (E := dig [48 + x / 10, 48 + x % 10, 48 + y / 10, 48 + y % 10]) (env_four2 hy h0 hx) ?_ (fun ι => vl_num ?_ ι)
  · unfold s_four
    simp only [app_list, decB_list, dec100 hy, dec2 h0 hx]
    rfl
  · simp only [AI.ev, dig, List.getD_cons_zero, List.getD_cons_succ]
    omega
theorem env_five2 {x : Nat} (h0 : ¬ x < 10) (hx : x < 100) : Env [(49, 57), (48, 57)] (dig [48 + x / 10, 48 + x % 10]) := fun i l u e => by
  match i, e with
  | 0, e => cases e; simp only [dig, List.getD_cons_zero]; omega
  | 1, e => cases e; simp only [dig, List.getD_cons_succ, List.getD_cons_zero]; omega
theorem a_five2 {x : Nat} (h0 : ¬ x < 10) (hx : x < 100) : Falls (s_five (decB x)) := by
  refine falls k_five2 (E := dig [48 + x / 10, 48 + x % 10]) (env_five2 h0 hx) ?_
  unfold s_five
  simp only [app_list, decB_list, dec2 h0 hx]
  rfl

theorem asks (x y z : Nat) (s : ByteArray) (v : Array Value) (W : World) (hx : x < 100) (hy : y < 100) (hz : z < 50) (h : Ask x y z s v) (hG : GIn W) : Calls Tryz.prog 5 #[.string s, .agg v] W fun e w' => e = .returned (.bool true) ∧ Below W.heap.size W w' := by
  suffices ht : Tells s v from ht W hG
  rcases h with ⟨rfl, rfl⟩ | ⟨rfl, rfl⟩ | ⟨rfl, rfl⟩ | ⟨rfl, rfl⟩
  · by_cases h0 : x = 0
    · subst h0
      exact a_one0 hy
    · by_cases h1 : x < 10
      · exact a_one1 hy h0 h1
      · exact a_one2 hy h1 hx
  · by_cases h0 : x = 0
    · subst h0
      exact a_two0 hy hz
    · by_cases h1 : x < 10
      · exact a_two1 hy hz h0 h1
      · exact a_two2 hy hz h1 hx
  · by_cases h0 : x = 0
    · subst h0
      exact a_three0 hy
    · by_cases h1 : x < 10
      · exact a_three1 hy h0 h1
      · exact a_three2 hy h1 hx
  · by_cases h0 : x = 0
    · subst h0
      exact a_four0 hy
    · by_cases h1 : x < 10
      · exact a_four1 hy h0 h1
      · exact a_four2 hy h1 hx
theorem fives (x : Nat) (s : ByteArray) (W : World) (hx : x < 100) (h : s = s_five (decB x)) (hG : GIn W) : Calls Tryz.prog 8 #[.string s, .int .i64 100] W fun e w' => e = .returned (.agg fiveV) ∧ Below W.heap.size W w' := by
  suffices ht : Falls s from ht W hG
  subst h
  by_cases h0 : x = 0
  · subst h0
    exact a_five0
  · by_cases h1 : x < 10
    · exact a_five1 h0 h1
    · exact a_five2 h1 hx

end Go.Proofs.YtiphlekkdehgoaaGreatDoor

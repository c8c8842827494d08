/-
  FnModes: what the law asks, text by text. (Written by wip/tools/rf/mkRmM.py.)
-/
import Derived.Test.YtjdabnpfinlefaaGreatDoorRmM
import Derived.Test.YtjdabnpfinlefaaGreatDoorRmB
import Derived.Test.YtjdabnpfinlefaaGreatDoorRmC
import Derived.Test.YtjdabnpfinlefaaGreatDoorRmD
import Derived.Test.YtjdabnpfinlefaaGreatDoorRmE
import Derived.Test.YtjdabnpfinlefaaGreatDoorRmF
import Derived.Test.YtjdabnpfinlefaaGreatDoorRmG
import Derived.Test.YtjdabnpfinlefaaGreatDoorRmH
import Derived.Test.YtjdabnpfinlefaaGreatDoorRmI
namespace Go.Proofs.YtjdabnpfinlefaaGreatDoor
open Go.RowKit
set_option maxRecDepth 100000

/-- Digits for the letters. -/
def dig (l : List Nat) : Nat → Int := fun i => ((l.getD i 0 : Nat) : Int)
theorem dec100 {y : Nat} (h : y < 100) : decL (100 + y) = [49, 48 + y / 10, 48 + y % 10] := by
  unfold decL
  rw [if_neg (by omega), if_neg (by omega), show (100 + y) / 100 = 1 by omega, show (100 + y) / 10 % 10 = y / 10 by omega, show (100 + y) % 10 = y % 10 by omega]
theorem dec1 {x : Nat} (h : x < 10) : decL x = [48 + x] := by unfold decL; rw [if_pos h]
theorem dec2 {x : Nat} (h : ¬ x < 10) (h2 : x < 100) : decL x = [48 + x / 10, 48 + x % 10] := by unfold decL; rw [if_neg h, if_pos h2]
theorem decB_list (n : Nat) : (decB n).data.toList = (decL n).map UInt8.ofNat := by unfold decB; simp
theorem app_list (a b : ByteArray) : (a ++ b).data.toList = a.data.toList ++ b.data.toList := by rw [ByteArray.data_append, Array.toList_append]

theorem env2 {y : Nat} (h : y < 100) : Env [(48, 57), (48, 57)] (dig [48 + y / 10, 48 + y % 10]) := fun i l u e => by
  match i, e with
  | 0, e => cases e; simp only [dig, List.getD_cons_zero]; omega
  | 1, e => cases e; simp only [dig, List.getD_cons_succ, List.getD_cons_zero]; omega
theorem env3 {y x : Nat} (h : y < 100) (h0 : x ≠ 0) (hx : x < 10) : Env [(48, 57), (48, 57), (49, 57)] (dig [48 + y / 10, 48 + y % 10, 48 + x]) := fun i l u e => by
  match i, e with
  | 0, e => cases e; simp only [dig, List.getD_cons_zero]; omega
  | 1, e => cases e; simp only [dig, List.getD_cons_succ, List.getD_cons_zero]; omega
  | 2, e => cases e; simp only [dig, List.getD_cons_succ, List.getD_cons_zero]; omega
theorem env4 {y x : Nat} (h : y < 100) (h0 : ¬ x < 10) (hx : x < 100) : Env [(48, 57), (48, 57), (49, 57), (48, 57)] (dig [48 + y / 10, 48 + y % 10, 48 + x / 10, 48 + x % 10]) := fun i l u e => by
  match i, e with
  | 0, e => cases e; simp only [dig, List.getD_cons_zero]; omega
  | 1, e => cases e; simp only [dig, List.getD_cons_succ, List.getD_cons_zero]; omega
  | 2, e => cases e; simp only [dig, List.getD_cons_succ, List.getD_cons_zero]; omega
  | 3, e => cases e; simp only [dig, List.getD_cons_succ, List.getD_cons_zero]; omega

theorem vl_num {E : Nat → Int} {e : AI} {z : Int} (h : e.ev E = z) (ι : Pl) : VL E ι [.int .i64 (.lit 3), .int .i64 e, .str 0 []] (numV z).toList := by
  refine VL.cons (by simp [V, AI.ev]) (VL.cons (by simp [V, h]) (VL.cons ?_ VL.nil))
  simp only [V]
  exact ⟨rfl, rfl⟩
theorem vl_txt {E : Nat → Int} {l : List AI} {s : ByteArray} (h : s.data.toList = l.map (byteOf E)) (ι : Pl) : VL E ι [.int .i64 (.lit 5), .int .i64 (.lit 0), .str l.length l] (txtV s).toList := by
  refine VL.cons (by simp [V, AI.ev]) (VL.cons (by simp [V, AI.ev]) (VL.cons ?_ VL.nil))
  simp only [V]
  exact ⟨trivial, by rw [bytes_eq h]⟩

abbrev Tells (s : ByteArray) (v : Array Value) : Prop := ∀ W, GIn W → Calls Tryz.prog 5 #[.string s, .agg v] W fun e w' => e = .returned (.bool true) ∧ Below W.heap.size W w'
theorem tells {bd : Bds} {l : List AI} {v : List AV} (hs : Says bd l v) {E : Nat → Int} (hE : Env bd E) {s : ByteArray} {vs : Array Value} (h : s.data.toList = l.map (byteOf E)) (hv : ∀ ι, VL E ι v vs.toList) : Tells s vs := fun W hG => by
  have := says_ok hs hE hG hv
  rw [bytes_eq h] at this
  exact this

theorem a_firstL0 {y : Nat} (hy : y < 100) : Tells (s_first (modeB false) (decB (100 + y)) (decB 0)) (numV (100 + (y : Int))) := by
  refine tells k_firstL0 (E := (dig [48 + y / 10, 48 + y % 10])) (env2 hy) ?_ (fun ι => vl_num ?_ ι)
  · unfold s_first modeB
    simp only [app_list, decB_list, dec100 hy, dec1 (by decide : 0 < 10)]
    rfl
  · simp only [AI.ev, dig, List.getD_cons_zero, List.getD_cons_succ]
    omega
theorem a_backL0 {y : Nat} (hy : y < 100) : Tells (s_back (modeB false) (decB (100 + y)) (decB 0)) (numV (100 + (y : Int))) := by
  refine tells k_backL0 (E := (dig [48 + y / 10, 48 + y % 10])) (env2 hy) ?_ (fun ι => vl_num ?_ ι)
  · unfold s_back modeB
    simp only [app_list, decB_list, dec100 hy, dec1 (by decide : 0 < 10)]
    rfl
  · simp only [AI.ev, dig, List.getD_cons_zero, List.getD_cons_succ]
    omega
theorem a_goneL0 {y : Nat} (hy : y < 100) : Tells (s_gone (modeB false) (decB (100 + y)) (decB 0)) (numV 0) := by
  refine tells k_goneL0 (E := (dig [48 + y / 10, 48 + y % 10])) (env2 hy) ?_ (fun ι => vl_num ?_ ι)
  · unfold s_gone modeB
    simp only [app_list, decB_list, dec100 hy, dec1 (by decide : 0 < 10)]
    rfl
  · rfl
theorem a_firstL1 {y x : Nat} (hy : y < 100) (h0 : x ≠ 0) (hx : x < 10) : Tells (s_first (modeB false) (decB (100 + y)) (decB x)) (numV (100 + (y : Int))) := by
  refine tells k_firstL1 (E := (dig [48 + y / 10, 48 + y % 10, 48 + x])) (env3 hy h0 hx) ?_ (fun ι => vl_num ?_ ι)
  · unfold s_first modeB
    simp only [app_list, decB_list, dec100 hy, dec1 hx]
    rfl
  · simp only [AI.ev, dig, List.getD_cons_zero, List.getD_cons_succ]
    omega
theorem a_backL1 {y x : Nat} (hy : y < 100) (h0 : x ≠ 0) (hx : x < 10) : Tells (s_back (modeB false) (decB (100 + y)) (decB x)) (numV (100 + (y : Int))) := by
  refine tells k_backL1 (E := (dig [48 + y / 10, 48 + y % 10, 48 + x])) (env3 hy h0 hx) ?_ (fun ι => vl_num ?_ ι)
  · unfold s_back modeB
    simp only [app_list, decB_list, dec100 hy, dec1 hx]
    rfl
  · simp only [AI.ev, dig, List.getD_cons_zero, List.getD_cons_succ]
    omega
theorem a_goneL1 {y x : Nat} (hy : y < 100) (h0 : x ≠ 0) (hx : x < 10) : Tells (s_gone (modeB false) (decB (100 + y)) (decB x)) (numV (x : Int)) := by
  refine tells k_goneL1 (E := (dig [48 + y / 10, 48 + y % 10, 48 + x])) (env3 hy h0 hx) ?_ (fun ι => vl_num ?_ ι)
  · unfold s_gone modeB
    simp only [app_list, decB_list, dec100 hy, dec1 hx]
    rfl
  · simp only [AI.ev, dig, List.getD_cons_zero, List.getD_cons_succ]
    omega
theorem a_firstL2 {y x : Nat} (hy : y < 100) (h0 : ¬ x < 10) (hx : x < 100) : Tells (s_first (modeB false) (decB (100 + y)) (decB x)) (numV (100 + (y : Int))) := by
  refine tells k_firstL2 (E := (dig [48 + y / 10, 48 + y % 10, 48 + x / 10, 48 + x % 10])) (env4 hy h0 hx) ?_ (fun ι => vl_num ?_ ι)
  · unfold s_first modeB
    simp only [app_list, decB_list, dec100 hy, dec2 h0 hx]
    rfl
  · simp only [AI.ev, dig, List.getD_cons_zero, List.getD_cons_succ]
    omega
theorem a_backL2 {y x : Nat} (hy : y < 100) (h0 : ¬ x < 10) (hx : x < 100) : Tells (s_back (modeB false) (decB (100 + y)) (decB x)) (numV (100 + (y : Int))) := by
  refine tells k_backL2 (E := (dig [48 + y / 10, 48 + y % 10, 48 + x / 10, 48 + x % 10])) (env4 hy h0 hx) ?_ (fun ι => vl_num ?_ ι)
  · unfold s_back modeB
    simp only [app_list, decB_list, dec100 hy, dec2 h0 hx]
    rfl
  · simp only [AI.ev, dig, List.getD_cons_zero, List.getD_cons_succ]
    omega
theorem a_goneL2 {y x : Nat} (hy : y < 100) (h0 : ¬ x < 10) (hx : x < 100) : Tells (s_gone (modeB false) (decB (100 + y)) (decB x)) (numV (x : Int)) := by
  refine tells k_goneL2 (E := (dig [48 + y / 10, 48 + y % 10, 48 + x / 10, 48 + x % 10])) (env4 hy h0 hx) ?_ (fun ι => vl_num ?_ ι)
  · unfold s_gone modeB
    simp only [app_list, decB_list, dec100 hy, dec2 h0 hx]
    rfl
  · simp only [AI.ev, dig, List.getD_cons_zero, List.getD_cons_succ]
    omega
theorem a_bringsL {y : Nat} (hy : y < 100) : Tells (s_brings (modeB false) (decB (100 + y))) (txtV ({ data := #[110, 117, 109, 98, 101, 114] } : ByteArray)) := by
  refine tells k_bringsL (E := (dig [48 + y / 10, 48 + y % 10])) (env2 hy) ?_ (fun ι => vl_txt ?_ ι)
  · unfold s_brings modeB
    simp only [app_list, decB_list, dec100 hy]
    rfl
  · rfl
theorem a_thisL : Tells (s_this (modeB false)) (txtV ({ data := #[116, 114, 117, 101] } : ByteArray)) := by
  refine tells k_thisL (E := fun _ => 0) (fun i l u h => (by cases h)) ?_ (fun ι => vl_txt ?_ ι)
  · unfold s_this modeB
    simp only [app_list]
    rfl
  · rfl
theorem a_firstS0 {y : Nat} (hy : y < 100) : Tells (s_first (modeB true) (decB (100 + y)) (decB 0)) (numV 0) := by
  refine tells k_firstS0 (E := (dig [48 + y / 10, 48 + y % 10])) (env2 hy) ?_ (fun ι => vl_num ?_ ι)
  · unfold s_first modeB
    simp only [app_list, decB_list, dec100 hy, dec1 (by decide : 0 < 10)]
    rfl
  · rfl
theorem a_backS0 {y : Nat} (hy : y < 100) : Tells (s_back (modeB true) (decB (100 + y)) (decB 0)) (numV 0) := by
  refine tells k_backS0 (E := (dig [48 + y / 10, 48 + y % 10])) (env2 hy) ?_ (fun ι => vl_num ?_ ι)
  · unfold s_back modeB
    simp only [app_list, decB_list, dec100 hy, dec1 (by decide : 0 < 10)]
    rfl
  · rfl
theorem a_goneS0 {y : Nat} (hy : y < 100) : Tells (s_gone (modeB true) (decB (100 + y)) (decB 0)) (numV 0) := by
  refine tells k_goneS0 (E := (dig [48 + y / 10, 48 + y % 10])) (env2 hy) ?_ (fun ι => vl_num ?_ ι)
  · unfold s_gone modeB
    simp only [app_list, decB_list, dec100 hy, dec1 (by decide : 0 < 10)]
    rfl
  · rfl
theorem a_firstS1 {y x : Nat} (hy : y < 100) (h0 : x ≠ 0) (hx : x < 10) : Tells (s_first (modeB true) (decB (100 + y)) (decB x)) (numV (x : Int)) := by
  refine tells k_firstS1 (E := (dig [48 + y / 10, 48 + y % 10, 48 + x])) (env3 hy h0 hx) ?_ (fun ι => vl_num ?_ ι)
  · unfold s_first modeB
    simp only [app_list, decB_list, dec100 hy, dec1 hx]
    rfl
  · simp only [AI.ev, dig, List.getD_cons_zero, List.getD_cons_succ]
    omega
theorem a_backS1 {y x : Nat} (hy : y < 100) (h0 : x ≠ 0) (hx : x < 10) : Tells (s_back (modeB true) (decB (100 + y)) (decB x)) (numV (x : Int)) := by
  refine tells k_backS1 (E := (dig [48 + y / 10, 48 + y % 10, 48 + x])) (env3 hy h0 hx) ?_ (fun ι => vl_num ?_ ι)
  · unfold s_back modeB
    simp only [app_list, decB_list, dec100 hy, dec1 hx]
    rfl
  · simp only [AI.ev, dig, List.getD_cons_zero, List.getD_cons_succ]
    omega
theorem a_goneS1 {y x : Nat} (hy : y < 100) (h0 : x ≠ 0) (hx : x < 10) : Tells (s_gone (modeB true) (decB (100 + y)) (decB x)) (numV (x : Int)) := by
  refine tells k_goneS1 (E := (dig [48 + y / 10, 48 + y % 10, 48 + x])) (env3 hy h0 hx) ?_ (fun ι => vl_num ?_ ι)
  · unfold s_gone modeB
    simp only [app_list, decB_list, dec100 hy, dec1 hx]
    rfl
  · simp only [AI.ev, dig, List.getD_cons_zero, List.getD_cons_succ]
    omega
theorem a_firstS2 {y x : Nat} (hy : y < 100) (h0 : ¬ x < 10) (hx : x < 100) : Tells (s_first (modeB true) (decB (100 + y)) (decB x)) (numV (x : Int)) := by
  refine tells k_firstS2 (E := (dig [48 + y / 10, 48 + y % 10, 48 + x / 10, 48 + x % 10])) (env4 hy h0 hx) ?_ (fun ι => vl_num ?_ ι)
  · unfold s_first modeB
    simp only [app_list, decB_list, dec100 hy, dec2 h0 hx]
    rfl
  · simp only [AI.ev, dig, List.getD_cons_zero, List.getD_cons_succ]
    omega
theorem a_backS2 {y x : Nat} (hy : y < 100) (h0 : ¬ x < 10) (hx : x < 100) : Tells (s_back (modeB true) (decB (100 + y)) (decB x)) (numV (x : Int)) := by
  refine tells k_backS2 (E := (dig [48 + y / 10, 48 + y % 10, 48 + x / 10, 48 + x % 10])) (env4 hy h0 hx) ?_ (fun ι => vl_num ?_ ι)
  · unfold s_back modeB
    simp only [app_list, decB_list, dec100 hy, dec2 h0 hx]
    rfl
  · simp only [AI.ev, dig, List.getD_cons_zero, List.getD_cons_succ]
    omega
theorem a_goneS2 {y x : Nat} (hy : y < 100) (h0 : ¬ x < 10) (hx : x < 100) : Tells (s_gone (modeB true) (decB (100 + y)) (decB x)) (numV (x : Int)) := by
  refine tells k_goneS2 (E := (dig [48 + y / 10, 48 + y % 10, 48 + x / 10, 48 + x % 10])) (env4 hy h0 hx) ?_ (fun ι => vl_num ?_ ι)
  · unfold s_gone modeB
    simp only [app_list, decB_list, dec100 hy, dec2 h0 hx]
    rfl
  · simp only [AI.ev, dig, List.getD_cons_zero, List.getD_cons_succ]
    omega
theorem a_bringsS {y : Nat} (hy : y < 100) : Tells (s_brings (modeB true) (decB (100 + y))) (txtV ({ data := #[117, 110, 100, 101, 102, 105, 110, 101, 100] } : ByteArray)) := by
  refine tells k_bringsS (E := (dig [48 + y / 10, 48 + y % 10])) (env2 hy) ?_ (fun ι => vl_txt ?_ ι)
  · unfold s_brings modeB
    simp only [app_list, decB_list, dec100 hy]
    rfl
  · rfl
theorem a_thisS : Tells (s_this (modeB true)) (txtV ({ data := #[102, 97, 108, 115, 101] } : ByteArray)) := by
  refine tells k_thisS (E := fun _ => 0) (fun i l u h => (by cases h)) ?_ (fun ι => vl_txt ?_ ι)
  · unfold s_this modeB
    simp only [app_list]
    rfl
  · rfl

theorem asks (strict : Bool) (x y : Nat) (s : ByteArray) (v : Array Value) (W : World) (hx : x < 100) (hy : y < 100) (h : Ask strict x y s v) (hG : GIn W) : Calls Tryz.prog 5 #[.string s, .agg v] W fun e w' => e = .returned (.bool true) ∧ Below W.heap.size W w' := by
  suffices ht : Tells s v from ht W hG
  cases strict with
  | false =>
    rcases h with ⟨rfl, rfl⟩ | ⟨rfl, rfl⟩ | ⟨rfl, rfl⟩ | ⟨rfl, rfl⟩ | ⟨rfl, rfl⟩
    · by_cases h0 : x = 0
      · subst h0
        exact a_firstL0 hy
      · by_cases h1 : x < 10
        · exact a_firstL1 hy h0 h1
        · exact a_firstL2 hy h1 hx
    · by_cases h0 : x = 0
      · subst h0
        exact a_backL0 hy
      · by_cases h1 : x < 10
        · exact a_backL1 hy h0 h1
        · exact a_backL2 hy h1 hx
    · by_cases h0 : x = 0
      · subst h0
        exact a_goneL0 hy
      · by_cases h1 : x < 10
        · exact a_goneL1 hy h0 h1
        · exact a_goneL2 hy h1 hx
    · exact a_bringsL hy
    · exact a_thisL
  | true =>
    rcases h with ⟨rfl, rfl⟩ | ⟨rfl, rfl⟩ | ⟨rfl, rfl⟩ | ⟨rfl, rfl⟩ | ⟨rfl, rfl⟩
    · by_cases h0 : x = 0
      · subst h0
        exact a_firstS0 hy
      · by_cases h1 : x < 10
        · exact a_firstS1 hy h0 h1
        · exact a_firstS2 hy h1 hx
    · by_cases h0 : x = 0
      · subst h0
        exact a_backS0 hy
      · by_cases h1 : x < 10
        · exact a_backS1 hy h0 h1
        · exact a_backS2 hy h1 hx
    · by_cases h0 : x = 0
      · subst h0
        exact a_goneS0 hy
      · by_cases h1 : x < 10
        · exact a_goneS1 hy h0 h1
        · exact a_goneS2 hy h1 hx
    · exact a_bringsS hy
    · exact a_thisS

end Go.Proofs.YtjdabnpfinlefaaGreatDoor

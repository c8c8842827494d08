/-
  FnShift: the law's walk. (Written by wip/tools/rf/mkRnL.py.)
-/
import Derived.Test.YtiphlekkdehgoaaGreatDoorRmK
import Derived.Deep.CutRange
namespace Go.Proofs.YtiphlekkdehgoaaGreatDoor
open Go.RowKit

/-- The three parts of a value. -/
def numV (z : Int) : Array Value := #[.int .i64 3, .int .i64 z, .string ⟨#[]⟩]
/-- What a run that throws tells. -/
def fiveV : Array Value := #[.int .i64 5, .int .i64 0, .string ({ data := #[82, 101, 102, 101, 114, 101, 110, 99, 101, 69, 114, 114, 111, 114] } : ByteArray), .bool true, .slice none 0 0, .int .i64 4, .int .i64 0]

def s_one (a b : ByteArray) : ByteArray := ({ data := #[118, 97, 114, 32, 120, 32, 61, 32] } : ByteArray) ++ a ++ ({ data := #[59, 32, 102, 117, 110, 99, 116, 105, 111, 110, 32, 102, 40, 41, 32, 123, 32, 102, 117, 110, 99, 116, 105, 111, 110, 32, 103, 40, 41, 32, 123, 32, 114, 101, 116, 117, 114, 110, 32, 120, 59, 32, 125, 32, 118, 97, 114, 32, 119, 97, 115, 32, 61, 32, 103, 40, 41, 59, 32, 101, 118, 97, 108, 40, 34, 118, 97, 114, 32, 120, 32, 61, 32] } : ByteArray) ++ b ++ ({ data := #[34, 41, 59, 32, 114, 101, 116, 117, 114, 110, 32, 49, 48, 48, 48, 32, 42, 32, 119, 97, 115, 32, 43, 32, 103, 40, 41, 59, 32, 125, 32, 102, 40, 41, 59] } : ByteArray)
def s_two (a b c : ByteArray) : ByteArray := ({ data := #[118, 97, 114, 32, 120, 32, 61, 32] } : ByteArray) ++ a ++ ({ data := #[44, 32, 111, 32, 61, 32, 123, 120, 58, 32] } : ByteArray) ++ b ++ ({ data := #[125, 59, 32, 119, 105, 116, 104, 32, 40, 111, 41, 32, 123, 32, 120, 32, 61, 32] } : ByteArray) ++ c ++ ({ data := #[59, 32, 125, 32, 49, 48, 48, 48, 32, 42, 32, 120, 32, 43, 32, 111, 46, 120, 59] } : ByteArray)
def s_three (b a : ByteArray) : ByteArray := ({ data := #[102, 117, 110, 99, 116, 105, 111, 110, 32, 102, 40, 120, 41, 32, 123, 32, 101, 118, 97, 108, 40, 34, 118, 97, 114, 32, 121, 32, 61, 32] } : ByteArray) ++ b ++ ({ data := #[34, 41, 59, 32, 118, 97, 114, 32, 119, 97, 115, 32, 61, 32, 121, 59, 32, 100, 101, 108, 101, 116, 101, 32, 121, 59, 32, 114, 101, 116, 117, 114, 110, 32, 116, 121, 112, 101, 111, 102, 32, 121, 32, 61, 61, 61, 32, 34, 117, 110, 100, 101, 102, 105, 110, 101, 100, 34, 32, 63, 32, 119, 97, 115, 32, 43, 32, 120, 32, 58, 32, 48, 59, 32, 125, 32, 102, 40] } : ByteArray) ++ a ++ ({ data := #[41, 59] } : ByteArray)
def s_four (a b : ByteArray) : ByteArray := ({ data := #[102, 117, 110, 99, 116, 105, 111, 110, 32, 102, 40, 41, 32, 123, 32, 116, 114, 121, 32, 123, 32, 116, 104, 114, 111, 119, 32] } : ByteArray) ++ a ++ ({ data := #[59, 32, 125, 32, 99, 97, 116, 99, 104, 32, 40, 101, 41, 32, 123, 32, 101, 118, 97, 108, 40, 34, 118, 97, 114, 32, 113, 32, 61, 32, 101, 32, 43, 32] } : ByteArray) ++ b ++ ({ data := #[34, 41, 59, 32, 125, 32, 114, 101, 116, 117, 114, 110, 32, 113, 59, 32, 125, 32, 102, 40, 41, 59] } : ByteArray)
def s_five (a : ByteArray) : ByteArray := ({ data := #[34, 117, 115, 101, 32, 115, 116, 114, 105, 99, 116, 34, 59, 32, 121, 32, 61, 32] } : ByteArray) ++ a ++ ({ data := #[59] } : ByteArray)

/-- What the law asks: four texts, and what each is to tell. -/
def Ask (x y z : Nat) (s : ByteArray) (v : Array Value) : Prop :=
  (s = s_one (decB x) (decB (100 + y)) ∧ v = numV (1000 * (x : Int) + (100 + (y : Int)))) ∨
  (s = s_two (decB x) (decB (100 + y)) (decB (200 + z)) ∧ v = numV (1000 * (x : Int) + (200 + (z : Int)))) ∨
  (s = s_three (decB (100 + y)) (decB x) ∧ v = numV ((x : Int) + (100 + (y : Int)))) ∨
  (s = s_four (decB x) (decB (100 + y)) ∧ v = numV ((x : Int) + (100 + (y : Int))))

theorem Below.on {w W W' : World} (h : Below w.heap.size w W) (hb : Below W.heap.size W W') : Below w.heap.size w W' := h.trans (hb.mono h.size)

set_option maxHeartbeats 16000000 in
set_option maxRecDepth 100000 in
theorem fnShift_walk (G : World → Prop) (hGk : ∀ W W', G W → Below W.heap.size W W' → G W') (a : Option Addr) (len cap : Nat) (cs : List UInt8) (w : World) (hl : cs.length = len) (hB : BytesIn w a cs) (hG : G w)
    (hD : ∀ (n : Nat) (z : Int) W, z = n → n < 250 → G W → Calls Tryz.prog 6 #[.int .i64 z] W fun e w' => e = .returned (.string (decB n)) ∧ Below W.heap.size W w')
    (hN : ∀ (z : Int) W, 0 ≤ z → z < 200000 → G W → Calls Tryz.prog 7 #[.int .i64 z] W fun e w' => e = .returned (.agg (numV z)) ∧ Below W.heap.size W w')
    (hS : ∀ (x y z : Nat) (s : ByteArray) (v : Array Value) W, x < 100 → y < 100 → z < 50 → Ask x y z s v → G W → Calls Tryz.prog 5 #[.string s, .agg v] W fun e w' => e = .returned (.bool true) ∧ Below W.heap.size W w')
    (hR : ∀ (x : Nat) (s : ByteArray) W, x < 100 → s = s_five (decB x) → G W → Calls Tryz.prog 8 #[.string s, .int .i64 100] W fun e w' => e = .returned (.agg #[.int .i64 5, .int .i64 0, .string ⟨#[82, 101, 102, 101, 114, 101, 110, 99, 101, 69, 114, 114, 111, 114]⟩, .bool true, .slice none 0 0, .int .i64 4, .int .i64 0]) ∧ Below W.heap.size W w') :
    Calls Tryz.prog 3 #[.slice a len cap] w fun e w' => e = .returned (.bool true) ∧ Below w.heap.size w w' := by
  have HA : Hid _ := fun (k m : Nat) (hm : 2 ≤ m) (hm' : m ≤ 100) (h : len ≤ 1048576) => lLwAt k m a len cap cs w hm hm' hl h hB
  have HD : Hid _ := fun (_ : Unit) => hD
  have HN : Hid _ := fun (_ : Unit) => hN
  have HS : Hid _ := fun (_ : Unit) => hS
  have HR : Hid _ := fun (_ : Unit) => hR
  have HG : Hid (G w) := hG
  have HZ : Hid (∀ n, (decB n).size ≤ 3) := fun n => decB_size n
  clear hB hD hN hS hR hG
  go_enter Tryz.func3, Tryz.ntmps3
  by_cases hlen : 1048576 < len
  · have hlen' : (1048576 : Int) < (len : Int) := by omega
    go_wp2_with fail
    go_ret
    exact ⟨rfl, Below.refl _ _⟩
  have hlen' : ¬ (1048576 : Int) < (len : Int) := by omega
  go_wp2_with fail
  refine (HA.out 0 100 (by omega) (by omega) (by omega)).mono ?_
  rintro e W ⟨x, hx, rfl, rfl⟩
  go_wp2_with fail
  refine (HA.out 1 100 (by omega) (by omega) (by omega)).mono ?_
  rintro e W ⟨y, hy, rfl, rfl⟩
  go_wp2_with fail
  refine (HA.out 2 50 (by omega) (by omega) (by omega)).mono ?_
  rintro e W ⟨z, hz, rfl, rfl⟩
  have zb := HZ.out (100 + y)
  have za := HZ.out x
  have zc := HZ.out (200 + z)
  clear HA
  go_wp2_with fail
  refine (HD.out () x _ _ (by omega) (by omega) HG.out).mono ?_
  rintro e W1 ⟨rfl, b1⟩
  have g1 : Hid (G W1) := hGk _ _ HG.out b1
  have c1 : Hid (Below W.heap.size W W1) := Below.on (Below.refl _ _) b1
  clear b1
  go_wp2_with fail
  refine (HD.out () (100 + y) _ _ (by omega) (by omega) g1.out).mono ?_
  rintro e W2 ⟨rfl, b2⟩
  have g2 : Hid (G W2) := hGk _ _ g1.out b2
  have c2 : Hid (Below W.heap.size W W2) := Below.on c1.out b2
  clear b2
  go_wp2_with fail
  refine (HN.out () _ _ (by omega) (by omega) g2.out).mono ?_
  rintro e W3 ⟨rfl, b3⟩
  have g3 : Hid (G W3) := hGk _ _ g2.out b3
  have c3 : Hid (Below W.heap.size W W3) := Below.on c2.out b3
  clear b3
  go_wp2_with fail
  refine (HS.out () x y z _ _ _ hx hy hz (.inl ⟨rfl, rfl⟩) g3.out).mono ?_
  rintro e W4 ⟨rfl, b4⟩
  have g4 : Hid (G W4) := hGk _ _ g3.out b4
  have c4 : Hid (Below W.heap.size W W4) := Below.on c3.out b4
  clear b4
  go_wp2_with fail
  refine (HD.out () x _ _ (by omega) (by omega) g4.out).mono ?_
  rintro e W5 ⟨rfl, b5⟩
  have g5 : Hid (G W5) := hGk _ _ g4.out b5
  have c5 : Hid (Below W.heap.size W W5) := Below.on c4.out b5
  clear b5
  go_wp2_with fail
  refine (HD.out () (100 + y) _ _ (by omega) (by omega) g5.out).mono ?_
  rintro e W6 ⟨rfl, b6⟩
  have g6 : Hid (G W6) := hGk _ _ g5.out b6
  have c6 : Hid (Below W.heap.size W W6) := Below.on c5.out b6
  clear b6
  go_wp2_with fail
  refine (HD.out () (200 + z) _ _ (by omega) (by omega) g6.out).mono ?_
  rintro e W7 ⟨rfl, b7⟩
  have g7 : Hid (G W7) := hGk _ _ g6.out b7
  have c7 : Hid (Below W.heap.size W W7) := Below.on c6.out b7
  clear b7
  go_wp2_with fail
  refine (HN.out () _ _ (by omega) (by omega) g7.out).mono ?_
  rintro e W8 ⟨rfl, b8⟩
  have g8 : Hid (G W8) := hGk _ _ g7.out b8
  have c8 : Hid (Below W.heap.size W W8) := Below.on c7.out b8
  clear b8
  go_wp2_with fail
  refine (HS.out () x y z _ _ _ hx hy hz (.inr (.inl ⟨rfl, rfl⟩)) g8.out).mono ?_
  rintro e W9 ⟨rfl, b9⟩
  have g9 : Hid (G W9) := hGk _ _ g8.out b9
  have c9 : Hid (Below W.heap.size W W9) := Below.on c8.out b9
  clear b9
  go_wp2_with fail
  refine (HD.out () (100 + y) _ _ (by omega) (by omega) g9.out).mono ?_
  rintro e W10 ⟨rfl, b10⟩
  have g10 : Hid (G W10) := hGk _ _ g9.out b10
  have c10 : Hid (Below W.heap.size W W10) := Below.on c9.out b10
  clear b10
  go_wp2_with fail
  refine (HD.out () x _ _ (by omega) (by omega) g10.out).mono ?_
  rintro e W11 ⟨rfl, b11⟩
  have g11 : Hid (G W11) := hGk _ _ g10.out b11
  have c11 : Hid (Below W.heap.size W W11) := Below.on c10.out b11
  clear b11
  go_wp2_with fail
  refine (HN.out () _ _ (by omega) (by omega) g11.out).mono ?_
  rintro e W12 ⟨rfl, b12⟩
  have g12 : Hid (G W12) := hGk _ _ g11.out b12
  have c12 : Hid (Below W.heap.size W W12) := Below.on c11.out b12
  clear b12
  go_wp2_with fail
  refine (HS.out () x y z _ _ _ hx hy hz (.inr (.inr (.inl ⟨rfl, rfl⟩))) g12.out).mono ?_
  rintro e W13 ⟨rfl, b13⟩
  have g13 : Hid (G W13) := hGk _ _ g12.out b13
  have c13 : Hid (Below W.heap.size W W13) := Below.on c12.out b13
  clear b13
  go_wp2_with fail
  refine (HD.out () x _ _ (by omega) (by omega) g13.out).mono ?_
  rintro e W14 ⟨rfl, b14⟩
  have g14 : Hid (G W14) := hGk _ _ g13.out b14
  have c14 : Hid (Below W.heap.size W W14) := Below.on c13.out b14
  clear b14
  go_wp2_with fail
  refine (HD.out () (100 + y) _ _ (by omega) (by omega) g14.out).mono ?_
  rintro e W15 ⟨rfl, b15⟩
  have g15 : Hid (G W15) := hGk _ _ g14.out b15
  have c15 : Hid (Below W.heap.size W W15) := Below.on c14.out b15
  clear b15
  go_wp2_with fail
  refine (HN.out () _ _ (by omega) (by omega) g15.out).mono ?_
  rintro e W16 ⟨rfl, b16⟩
  have g16 : Hid (G W16) := hGk _ _ g15.out b16
  have c16 : Hid (Below W.heap.size W W16) := Below.on c15.out b16
  clear b16
  go_wp2_with fail
  refine (HS.out () x y z _ _ _ hx hy hz (.inr (.inr (.inr ⟨rfl, rfl⟩))) g16.out).mono ?_
  rintro e W17 ⟨rfl, b17⟩
  have g17 : Hid (G W17) := hGk _ _ g16.out b17
  have c17 : Hid (Below W.heap.size W W17) := Below.on c16.out b17
  clear b17
  go_wp2_with fail
  refine (HD.out () x _ _ (by omega) (by omega) g17.out).mono ?_
  rintro e W18 ⟨rfl, b18⟩
  have g18 : Hid (G W18) := hGk _ _ g17.out b18
  have c18 : Hid (Below W.heap.size W W18) := Below.on c17.out b18
  clear b18
  go_wp2_with fail
  refine (HR.out () x _ _ hx rfl g18.out).mono ?_
  rintro e W19 ⟨rfl, b19⟩
  have g19 : Hid (G W19) := hGk _ _ g18.out b19
  have c19 : Hid (Below W.heap.size W W19) := Below.on c18.out b19
  clear b19
  go_wp2_with fail
  go_ret
  exact ⟨rfl, c19.out.alloc c19.out.size _⟩

end Go.Proofs.YtiphlekkdehgoaaGreatDoor

/-
  FnModes: the law's walk. (Written by wip/tools/rf/mkRmL.py.)
-/
import Derived.Test.YtjdabnpfinlefaaGreatDoorRmK
import Derived.Deep.CutRange
namespace Go.Proofs.YtjdabnpfinlefaaGreatDoor
open Go.RowKit

/-- The three parts of a value. -/
def numV (z : Int) : Array Value := #[.int .i64 3, .int .i64 z, .string ⟨#[]⟩]
def txtV (s : ByteArray) : Array Value := #[.int .i64 5, .int .i64 0, .string s]
def modeB (strict : Bool) : ByteArray := if strict then ({ data := #[34, 117, 115, 101, 32, 115, 116, 114, 105, 99, 116, 34, 59, 32] } : ByteArray) else { data := #[] }

def s_first (m b a : ByteArray) : ByteArray := ({ data := #[102, 117, 110, 99, 116, 105, 111, 110, 32, 102, 40, 120, 41, 32, 123, 32] } : ByteArray) ++ m ++ ({ data := #[97, 114, 103, 117, 109, 101, 110, 116, 115, 91, 48, 93, 32, 61, 32] } : ByteArray) ++ b ++ ({ data := #[59, 32, 114, 101, 116, 117, 114, 110, 32, 120, 59, 32, 125, 32, 102, 40] } : ByteArray) ++ a ++ ({ data := #[41, 59] } : ByteArray)
def s_back (m b a : ByteArray) : ByteArray := ({ data := #[102, 117, 110, 99, 116, 105, 111, 110, 32, 102, 40, 120, 41, 32, 123, 32] } : ByteArray) ++ m ++ ({ data := #[120, 32, 61, 32] } : ByteArray) ++ b ++ ({ data := #[59, 32, 114, 101, 116, 117, 114, 110, 32, 97, 114, 103, 117, 109, 101, 110, 116, 115, 91, 48, 93, 59, 32, 125, 32, 102, 40] } : ByteArray) ++ a ++ ({ data := #[41, 59] } : ByteArray)
def s_gone (m b a : ByteArray) : ByteArray := ({ data := #[102, 117, 110, 99, 116, 105, 111, 110, 32, 102, 40, 120, 41, 32, 123, 32] } : ByteArray) ++ m ++ ({ data := #[100, 101, 108, 101, 116, 101, 32, 97, 114, 103, 117, 109, 101, 110, 116, 115, 91, 48, 93, 59, 32, 97, 114, 103, 117, 109, 101, 110, 116, 115, 91, 48, 93, 32, 61, 32] } : ByteArray) ++ b ++ ({ data := #[59, 32, 114, 101, 116, 117, 114, 110, 32, 120, 59, 32, 125, 32, 102, 40] } : ByteArray) ++ a ++ ({ data := #[41, 59] } : ByteArray)
def s_brings (m b : ByteArray) : ByteArray := ({ data := #[102, 117, 110, 99, 116, 105, 111, 110, 32, 102, 40, 41, 32, 123, 32] } : ByteArray) ++ m ++ ({ data := #[101, 118, 97, 108, 40, 34, 118, 97, 114, 32, 122, 32, 61, 32] } : ByteArray) ++ b ++ ({ data := #[34, 41, 59, 32, 114, 101, 116, 117, 114, 110, 32, 116, 121, 112, 101, 111, 102, 32, 122, 59, 32, 125, 32, 102, 40, 41, 59] } : ByteArray)
def s_this (m : ByteArray) : ByteArray := ({ data := #[102, 117, 110, 99, 116, 105, 111, 110, 32, 102, 40, 41, 32, 123, 32] } : ByteArray) ++ m ++ ({ data := #[114, 101, 116, 117, 114, 110, 32, 116, 104, 105, 115, 59, 32, 125, 32, 112, 114, 105, 110, 116, 40, 102, 40, 41, 32, 61, 61, 61, 32, 116, 104, 105, 115, 41, 59, 32, 102, 40, 41, 32, 61, 61, 61, 32, 116, 104, 105, 115, 32, 63, 32, 34, 116, 114, 117, 101, 34, 32, 58, 32, 34, 102, 97, 108, 115, 101, 34, 59] } : ByteArray)

/-- What the law asks: five texts, and what each is to tell. -/
def Ask (strict : Bool) (x y : Nat) (s : ByteArray) (v : Array Value) : Prop :=
  (s = s_first (modeB strict) (decB (100 + y)) (decB x) ∧ v = numV (if strict then (x : Int) else 100 + (y : Int))) ∨
  (s = s_back (modeB strict) (decB (100 + y)) (decB x) ∧ v = numV (if strict then (x : Int) else 100 + (y : Int))) ∨
  (s = s_gone (modeB strict) (decB (100 + y)) (decB x) ∧ v = numV x) ∨
  (s = s_brings (modeB strict) (decB (100 + y)) ∧ v = txtV (if strict then ({ data := #[117, 110, 100, 101, 102, 105, 110, 101, 100] } : ByteArray) else ({ data := #[110, 117, 109, 98, 101, 114] } : ByteArray))) ∨
  (s = s_this (modeB strict) ∧ v = txtV (if strict then ({ data := #[102, 97, 108, 115, 101] } : ByteArray) else ({ data := #[116, 114, 117, 101] } : ByteArray)))

theorem Below.on {w W W' : World} (h : Below w.heap.size w W) (hb : Below W.heap.size W W') : Below w.heap.size w W' := h.trans (hb.mono h.size)

set_option maxHeartbeats 16000000 in
set_option maxRecDepth 100000 in
theorem fnModes_walk (G : World → Prop) (hGk : ∀ W W', G W → Below W.heap.size W W' → G W') (a : Option Addr) (len cap : Nat) (cs : List UInt8) (w : World) (hl : cs.length = len) (hB : BytesIn w a cs) (hG : G w)
    (hD : ∀ (n : Nat) (z : Int) W, z = n → n < 200 → G W → Calls Tryz.prog 6 #[.int .i64 z] W fun e w' => e = .returned (.string (decB n)) ∧ Below W.heap.size W w')
    (hN : ∀ (z : Int) W, 0 ≤ z → z < 200 → G W → Calls Tryz.prog 7 #[.int .i64 z] W fun e w' => e = .returned (.agg (numV z)) ∧ Below W.heap.size W w')
    (hS : ∀ (strict : Bool) (x y : Nat) (s : ByteArray) (v : Array Value) W, x < 100 → y < 100 → Ask strict x y s v → G W → Calls Tryz.prog 5 #[.string s, .agg v] W fun e w' => e = .returned (.bool true) ∧ Below W.heap.size W w') :
    Calls Tryz.prog 3 #[.slice a len cap] w fun e w' => e = .returned (.bool true) ∧ Below w.heap.size w w' := by
  have HA : Hid _ := fun (k m : Nat) (hm : 2 ≤ m) (hm' : m ≤ 100) (h : len ≤ 1048576) => lLwAt k m a len cap cs w hm hm' hl h hB
  have HD : Hid _ := fun (_ : Unit) => hD
  have HN : Hid _ := fun (_ : Unit) => hN
  have HS : Hid _ := fun (_ : Unit) => hS
  have HG : Hid (G w) := hG
  have HZ : Hid (∀ n, (decB n).size ≤ 3) := fun n => decB_size n
  clear hB hD hN hS hG
  go_enter Tryz.func3, Tryz.ntmps3
  by_cases hlen : 1048576 < len
  · have hlen' : (1048576 : Int) < (len : Int) := by omega
    go_wp2_with fail
    go_ret
    exact ⟨rfl, Below.refl _ _⟩
  have hlen' : ¬ (1048576 : Int) < (len : Int) := by omega
  go_wp2_with fail
  refine (HA.out 0 100 (by omega) (by omega) (by omega)).mono ?_
  rintro e W ⟨x, hx, rfl, rfl⟩
  go_wp2_with fail
  refine (HA.out 1 100 (by omega) (by omega) (by omega)).mono ?_
  rintro e W ⟨y, hy, rfl, rfl⟩
  go_wp2_with fail
  refine (HA.out 2 2 (by omega) (by omega) (by omega)).mono ?_
  rintro e W ⟨z, hz, rfl, rfl⟩
  have zb := HZ.out (100 + y)
  have za := HZ.out x
  clear HA
  obtain rfl | rfl : z = 0 ∨ z = 1 := by omega
  · go_wp2_with fail
    refine (HD.out () (100 + y) _ _ (by omega) (by omega) HG.out).mono ?_
    rintro e Wl1 ⟨rfl, bl1⟩
    have gl1 : Hid (G Wl1) := hGk _ _ HG.out bl1
    have cl1 : Hid (Below W.heap.size W Wl1) := Below.on (Below.refl _ _) bl1
    clear bl1
    go_wp2_with fail
    refine (HD.out () x _ _ (by omega) (by omega) gl1.out).mono ?_
    rintro e Wl2 ⟨rfl, bl2⟩
    have gl2 : Hid (G Wl2) := hGk _ _ gl1.out bl2
    have cl2 : Hid (Below W.heap.size W Wl2) := Below.on cl1.out bl2
    clear bl2
    go_wp2_with fail
    refine (HN.out () _ _ (by omega) (by omega) gl2.out).mono ?_
    rintro e Wl3 ⟨rfl, bl3⟩
    have gl3 : Hid (G Wl3) := hGk _ _ gl2.out bl3
    have cl3 : Hid (Below W.heap.size W Wl3) := Below.on cl2.out bl3
    clear bl3
    go_wp2_with fail
    refine (HS.out () false x y _ _ _ hx hy (.inl ⟨rfl, rfl⟩) gl3.out).mono ?_
    rintro e Wl4 ⟨rfl, bl4⟩
    have gl4 : Hid (G Wl4) := hGk _ _ gl3.out bl4
    have cl4 : Hid (Below W.heap.size W Wl4) := Below.on cl3.out bl4
    clear bl4
    go_wp2_with fail
    refine (HD.out () (100 + y) _ _ (by omega) (by omega) gl4.out).mono ?_
    rintro e Wl5 ⟨rfl, bl5⟩
    have gl5 : Hid (G Wl5) := hGk _ _ gl4.out bl5
    have cl5 : Hid (Below W.heap.size W Wl5) := Below.on cl4.out bl5
    clear bl5
    go_wp2_with fail
    refine (HD.out () x _ _ (by omega) (by omega) gl5.out).mono ?_
    rintro e Wl6 ⟨rfl, bl6⟩
    have gl6 : Hid (G Wl6) := hGk _ _ gl5.out bl6
    have cl6 : Hid (Below W.heap.size W Wl6) := Below.on cl5.out bl6
    clear bl6
    go_wp2_with fail
    refine (HN.out () _ _ (by omega) (by omega) gl6.out).mono ?_
    rintro e Wl7 ⟨rfl, bl7⟩
    have gl7 : Hid (G Wl7) := hGk _ _ gl6.out bl7
    have cl7 : Hid (Below W.heap.size W Wl7) := Below.on cl6.out bl7
    clear bl7
    go_wp2_with fail
    refine (HS.out () false x y _ _ _ hx hy (.inr (.inl ⟨rfl, rfl⟩)) gl7.out).mono ?_
    rintro e Wl8 ⟨rfl, bl8⟩
    have gl8 : Hid (G Wl8) := hGk _ _ gl7.out bl8
    have cl8 : Hid (Below W.heap.size W Wl8) := Below.on cl7.out bl8
    clear bl8
    go_wp2_with fail
    refine (HD.out () (100 + y) _ _ (by omega) (by omega) gl8.out).mono ?_
    rintro e Wl9 ⟨rfl, bl9⟩
    have gl9 : Hid (G Wl9) := hGk _ _ gl8.out bl9
    have cl9 : Hid (Below W.heap.size W Wl9) := Below.on cl8.out bl9
    clear bl9
    go_wp2_with fail
    refine (HD.out () x _ _ (by omega) (by omega) gl9.out).mono ?_
    rintro e Wl10 ⟨rfl, bl10⟩
    have gl10 : Hid (G Wl10) := hGk _ _ gl9.out bl10
    have cl10 : Hid (Below W.heap.size W Wl10) := Below.on cl9.out bl10
    clear bl10
    go_wp2_with fail
    refine (HN.out () _ _ (by omega) (by omega) gl10.out).mono ?_
    rintro e Wl11 ⟨rfl, bl11⟩
    have gl11 : Hid (G Wl11) := hGk _ _ gl10.out bl11
    have cl11 : Hid (Below W.heap.size W Wl11) := Below.on cl10.out bl11
    clear bl11
    go_wp2_with fail
    refine (HS.out () false x y _ _ _ hx hy (.inr (.inr (.inl ⟨rfl, rfl⟩))) gl11.out).mono ?_
    rintro e Wl12 ⟨rfl, bl12⟩
    have gl12 : Hid (G Wl12) := hGk _ _ gl11.out bl12
    have cl12 : Hid (Below W.heap.size W Wl12) := Below.on cl11.out bl12
    clear bl12
    go_wp2_with fail
    refine (HD.out () (100 + y) _ _ (by omega) (by omega) gl12.out).mono ?_
    rintro e Wl13 ⟨rfl, bl13⟩
    have gl13 : Hid (G Wl13) := hGk _ _ gl12.out bl13
    have cl13 : Hid (Below W.heap.size W Wl13) := Below.on cl12.out bl13
    clear bl13
    go_wp2_with fail
    refine (HS.out () false x y _ _ _ hx hy (.inr (.inr (.inr (.inl ⟨rfl, rfl⟩)))) gl13.out).mono ?_
    rintro e Wl14 ⟨rfl, bl14⟩
    have gl14 : Hid (G Wl14) := hGk _ _ gl13.out bl14
    have cl14 : Hid (Below W.heap.size W Wl14) := Below.on cl13.out bl14
    clear bl14
    go_wp2_with fail
    refine (HS.out () false x y _ _ _ hx hy (.inr (.inr (.inr (.inr ⟨rfl, rfl⟩)))) gl14.out).mono ?_
    rintro e Wl15 ⟨rfl, bl15⟩
    have gl15 : Hid (G Wl15) := hGk _ _ gl14.out bl15
    have cl15 : Hid (Below W.heap.size W Wl15) := Below.on cl14.out bl15
    clear bl15
    go_wp2_with fail
    go_ret
    exact ⟨rfl, cl15.out⟩
  · go_wp2_with fail
    refine (HD.out () (100 + y) _ _ (by omega) (by omega) HG.out).mono ?_
    rintro e Ws1 ⟨rfl, bs1⟩
    have gs1 : Hid (G Ws1) := hGk _ _ HG.out bs1
    have cs1 : Hid (Below W.heap.size W Ws1) := Below.on (Below.refl _ _) bs1
    clear bs1
    go_wp2_with fail
    refine (HD.out () x _ _ (by omega) (by omega) gs1.out).mono ?_
    rintro e Ws2 ⟨rfl, bs2⟩
    have gs2 : Hid (G Ws2) := hGk _ _ gs1.out bs2
    have cs2 : Hid (Below W.heap.size W Ws2) := Below.on cs1.out bs2
    clear bs2
    go_wp2_with fail
    refine (HN.out () _ _ (by omega) (by omega) gs2.out).mono ?_
    rintro e Ws3 ⟨rfl, bs3⟩
    have gs3 : Hid (G Ws3) := hGk _ _ gs2.out bs3
    have cs3 : Hid (Below W.heap.size W Ws3) := Below.on cs2.out bs3
    clear bs3
    go_wp2_with fail
    refine (HS.out () true x y _ _ _ hx hy (.inl ⟨rfl, rfl⟩) gs3.out).mono ?_
    rintro e Ws4 ⟨rfl, bs4⟩
    have gs4 : Hid (G Ws4) := hGk _ _ gs3.out bs4
    have cs4 : Hid (Below W.heap.size W Ws4) := Below.on cs3.out bs4
    clear bs4
    go_wp2_with fail
    refine (HD.out () (100 + y) _ _ (by omega) (by omega) gs4.out).mono ?_
    rintro e Ws5 ⟨rfl, bs5⟩
    have gs5 : Hid (G Ws5) := hGk _ _ gs4.out bs5
    have cs5 : Hid (Below W.heap.size W Ws5) := Below.on cs4.out bs5
    clear bs5
    go_wp2_with fail
    refine (HD.out () x _ _ (by omega) (by omega) gs5.out).mono ?_
    rintro e Ws6 ⟨rfl, bs6⟩
    have gs6 : Hid (G Ws6) := hGk _ _ gs5.out bs6
    have cs6 : Hid (Below W.heap.size W Ws6) := Below.on cs5.out bs6
    clear bs6
    go_wp2_with fail
    refine (HN.out () _ _ (by omega) (by omega) gs6.out).mono ?_
    rintro e Ws7 ⟨rfl, bs7⟩
    have gs7 : Hid (G Ws7) := hGk _ _ gs6.out bs7
    have cs7 : Hid (Below W.heap.size W Ws7) := Below.on cs6.out bs7
    clear bs7
    go_wp2_with fail
    refine (HS.out () true x y _ _ _ hx hy (.inr (.inl ⟨rfl, rfl⟩)) gs7.out).mono ?_
    rintro e Ws8 ⟨rfl, bs8⟩
    have gs8 : Hid (G Ws8) := hGk _ _ gs7.out bs8
    have cs8 : Hid (Below W.heap.size W Ws8) := Below.on cs7.out bs8
    clear bs8
    go_wp2_with fail
    refine (HD.out () (100 + y) _ _ (by omega) (by omega) gs8.out).mono ?_
    rintro e Ws9 ⟨rfl, bs9⟩
    have gs9 : Hid (G Ws9) := hGk _ _ gs8.out bs9
    have cs9 : Hid (Below W.heap.size W Ws9) := Below.on cs8.out bs9
    clear bs9
    go_wp2_with fail
    refine (HD.out () x _ _ (by omega) (by omega) gs9.out).mono ?_
    rintro e Ws10 ⟨rfl, bs10⟩
    have gs10 : Hid (G Ws10) := hGk _ _ gs9.out bs10
    have cs10 : Hid (Below W.heap.size W Ws10) := Below.on cs9.out bs10
    clear bs10
    go_wp2_with fail
    refine (HN.out () _ _ (by omega) (by omega) gs10.out).mono ?_
    rintro e Ws11 ⟨rfl, bs11⟩
    have gs11 : Hid (G Ws11) := hGk _ _ gs10.out bs11
    have cs11 : Hid (Below W.heap.size W Ws11) := Below.on cs10.out bs11
    clear bs11
    go_wp2_with fail
    refine (HS.out () true x y _ _ _ hx hy (.inr (.inr (.inl ⟨rfl, rfl⟩))) gs11.out).mono ?_
    rintro e Ws12 ⟨rfl, bs12⟩
    have gs12 : Hid (G Ws12) := hGk _ _ gs11.out bs12
    have cs12 : Hid (Below W.heap.size W Ws12) := Below.on cs11.out bs12
    clear bs12
    go_wp2_with fail
    refine (HD.out () (100 + y) _ _ (by omega) (by omega) gs12.out).mono ?_
    rintro e Ws13 ⟨rfl, bs13⟩
    have gs13 : Hid (G Ws13) := hGk _ _ gs12.out bs13
    have cs13 : Hid (Below W.heap.size W Ws13) := Below.on cs12.out bs13
    clear bs13
    go_wp2_with fail
    refine (HS.out () true x y _ _ _ hx hy (.inr (.inr (.inr (.inl ⟨rfl, rfl⟩)))) gs13.out).mono ?_
    rintro e Ws14 ⟨rfl, bs14⟩
    have gs14 : Hid (G Ws14) := hGk _ _ gs13.out bs14
    have cs14 : Hid (Below W.heap.size W Ws14) := Below.on cs13.out bs14
    clear bs14
    go_wp2_with fail
    refine (HS.out () true x y _ _ _ hx hy (.inr (.inr (.inr (.inr ⟨rfl, rfl⟩)))) gs14.out).mono ?_
    rintro e Ws15 ⟨rfl, bs15⟩
    have gs15 : Hid (G Ws15) := hGk _ _ gs14.out bs15
    have cs15 : Hid (Below W.heap.size W Ws15) := Below.on cs14.out bs15
    clear bs15
    go_wp2_with fail
    go_ret
    exact ⟨rfl, cs15.out⟩

end Go.Proofs.YtjdabnpfinlefaaGreatDoor

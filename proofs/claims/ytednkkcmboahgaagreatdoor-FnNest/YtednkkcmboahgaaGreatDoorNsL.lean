/-
  FnNest: the law's first pieces, walked by hand.
-/
import Derived.Test.YtednkkcmboahgaaGreatDoorNsC
import Derived.Test.YtednkkcmboahgaaGreatDoorRmK
import Derived.Test.YtednkkcmboahgaaGreatDoorRpI
namespace Go.Proofs.YtednkkcmboahgaaGreatDoor
open Go.RowKit

/-- The slots one by one. -/
def TRL (E : Nat → Int) (ι : Pl) (tm : TM) : Nat → List Value → Prop
  | _, [] => True
  | i, v :: r => V E ι (getT tm i) v ∧ TRL E ι tm (i + 1) r
theorem TRL.get {E : Nat → Int} {ι : Pl} {tm : TM} : ∀ {l : List Value} {i : Nat}, TRL E ι tm i l → ∀ j v, l[j]? = some v → V E ι (getT tm (i + j)) v
  | [], _, _, j, v, h => by simp at h
  | x :: r, i, h, 0, v, hv => by
    simp only [List.getElem?_cons_zero, Option.some.injEq] at hv
    subst hv
    exact h.1
  | x :: r, i, h, j + 1, v, hv => by
    have := h.2.get j v (by simpa using hv)
    rwa [show i + (j + 1) = i + 1 + j by omega]

theorem tr_of {E : Nat → Int} {ι : Pl} {tm : TM} {l : List Value} (hn : l.length = tm.n) (h : TRL E ι tm 0 l) : TR E ι tm l.toArray := by
  refine ⟨by simpa using hn, fun t ht => ?_⟩
  have hlt : t < l.length := by omega
  have := h.get t l[t] (by rw [List.getElem?_eq_getElem hlt])
  rw [Nat.zero_add] at this
  simpa [Array.getD, hlt] using this
def isU : AV → Bool
  | .tuple [] => true
  | _ => false
theorem isU_eq : ∀ {a : AV}, isU a = true → a = .tuple []
  | .tuple [], _ => rfl
theorem TRL.undefs {E : Nat → Int} {ι : Pl} {tm : TM} : ∀ (n i : Nat), ((List.range' i n).all fun j => isU (getT tm j)) = true → TRL E ι tm i (List.replicate n undef)
  | 0, _, _ => trivial
  | n + 1, i, h => by
    simp only [List.range'_succ, List.all_cons, Bool.and_eq_true] at h
    refine ⟨?_, TRL.undefs n (i + 1) h.2⟩
    rw [isU_eq h.1]
    exact V.undef
section
variable {E : Nat → Int} {ι : Pl}
theorem vJ {a : Option Addr} {l c : Nat} : V E ι .junk (.slice a l c) := by simp [V]
theorem vI {k : IntKind} {z : Int} : V E ι (.int k (.lit z)) (.int k z) := by simp [V, AI.ev]
theorem vS {k : IntKind} {i : Nat} : V E ι (.int k (.sym i)) (.int k (E i)) := by simp [V, AI.ev]
theorem vB {b : Bool} : V E ι (.bool b) (.bool b) := by simp [V]
theorem tail_undef (d k : Nat) (x : Bool) : ((List.range' 28 125).all fun j => isU (getT (tmM d k x) j)) = true := by kernel_rfl
end
/-- The law's frame behind its first pieces. -/
theorem tr_nest {ι : Pl} {a : Option Addr} {len cap d k : Nat} {x : Bool} : TR (fun _ => (len : Int)) ι (tmM d k x) (List.toArray ([.slice a len cap, undef, .bool false, .int .i64 (d : Int), .int .i64 (k : Int), .bool x, undef, undef, undef, undef, undef, undef, undef, undef, undef, undef,
    .slice a len cap, .int .i64 (len : Int), .bool false, .slice a len cap, .int .i64 ((d - 1 : Nat) : Int), .int .i64 (d : Int), .slice a len cap, .int .i64 (d : Int), .int .i64 (k : Int), .slice a len cap, .int .i64 ((bif x then 1 else 0 : Nat) : Int), .bool x] ++ List.replicate 125 undef)) :=
  tr_of rfl ⟨vJ, V.undef, vB, vI, vI, vB, V.undef, V.undef, V.undef, V.undef, V.undef, V.undef, V.undef, V.undef, V.undef, V.undef, vJ, vS, vB, vJ, vI, vI, vJ, vI, vI, vJ, vI, vB, TRL.undefs 125 28 (tail_undef d k x)⟩

set_option maxHeartbeats 16000000 in
set_option maxRecDepth 100000 in
theorem lwAny (k m : Nat) (a : Option Addr) (len cap : Nat) (cs : List UInt8) (w : World) (hm : 1 ≤ m) (hm' : m ≤ 100) (hl : cs.length = len) (hlb : len ≤ 1048576) (hB : BytesIn w a cs) :
    Calls Tryz.prog 4 #[.slice a len cap, .int .i64 k, .int .i64 m] w fun e w' => ∃ r : Nat, r < m ∧ e = .returned (.int .i64 r) ∧ w' = w := by
  by_cases h1 : 2 ≤ m
  · exact lLwAt k m a len cap cs w h1 hm' hl hlb hB
  · have hm1 : (m : Int) ≤ 1 := by omega
    go_enter Tryz.func4, Tryz.ntmps4
    go_wp2_with fail
    go_ret
    exact ⟨0, by omega, rfl, rfl⟩

set_option maxHeartbeats 16000000 in
set_option maxRecDepth 100000 in
theorem fnNest_walk (a : Option Addr) (len cap : Nat) (cs : List UInt8) (w : World) (hl : cs.length = len) (hB : BytesIn w a cs)
    (hM : ∀ (d k : Nat) (x : Bool), 1 ≤ d → d ≤ 6 → k < d → ∃ T, TabOk Tryz.prog T ∧ T.bd = [] ∧ ∃ ι h n h1, Rel T w.heap.size (fun _ => (len : Int)) ι h w ∧ runX T n ⟨3, tmM d k x, [.code restN], [], false, none⟩ h = some (.bool true, h1)) :
    Calls Tryz.prog 3 #[.slice a len cap] w fun e w' => e = .returned (.bool true) ∧ Below w.heap.size w w' := by
  have HA : Hid _ := fun (k m : Nat) (hm : 1 ≤ m) (hm' : m ≤ 100) (h : len ≤ 1048576) => lwAny k m a len cap cs w hm hm' hl h hB
  have HM : Hid _ := fun (_ : Unit) => hM
  clear hB hM
  refine calls_mid5 (r := restN) Tryz.func3 rfl ?_
  simp only [Tryz.ntmps3, List.size_toArray, List.length_cons, List.length_nil, Nat.reduceAdd, Nat.reduceSub, Array.replicate_succ,
     Array.replicate_zero, List.push_toArray, List.append_toArray, List.nil_append, List.cons_append]
  by_cases hlen : 1048576 < len
  · have hlen' : (1048576 : Int) < (len : Int) := by omega
    go_wp2_with fail
    simp only [midP]
    go_wp2_with fail
    simp only [midP]
    go_ret
    exact ⟨rfl, Below.refl _ _⟩
  have hlen' : ¬ (1048576 : Int) < (len : Int) := by omega
  go_wp2_with fail
  simp only [midP]
  go_wp2_with fail
  simp only [midP]
  go_wp2_with fail
  refine (HA.out 0 6 (by omega) (by omega) (by omega)).mono ?_
  rintro e W ⟨x, hx, rfl, rfl⟩
  go_wp2_with fail
  simp only [midP]
  obtain ⟨d, hd⟩ : ∃ d : Nat, d = x + 1 := ⟨_, rfl⟩
  have hd' : (1 : Int) + (x : Int) = (d : Int) := by omega
  simp only [hd']
  have hd1 : 1 ≤ d := by omega
  have hd6 : d ≤ 6 := by omega
  have HX : Hid (x = d - 1) := (by omega : x = d - 1)
  clear hd hd' hx
  go_wp2_with fail
  refine (HA.out 1 d (by omega) (by omega) (by omega)).mono ?_
  rintro e W ⟨k, hk, rfl, rfl⟩
  go_wp2_with fail
  simp only [midP]
  go_wp2_with fail
  refine (HA.out 2 2 (by omega) (by omega) (by omega)).mono ?_
  rintro e W ⟨y, hy, rfl, rfl⟩
  go_wp2_with fail
  simp only [midP]
  have e18 : decide ((1048576 : Int) < (len : Int)) = false := by simp [hlen']
  have hx := HX.out
  subst hx
  rw [e18]
  have fin : ∀ x : Bool, MidOk Tryz.prog 3 restN (fun e w' => e = .returned (.bool true) ∧ Below W.heap.size W w') ⟨List.toArray ([.slice a len cap, undef, .bool false, .int .i64 (d : Int), .int .i64 (k : Int), .bool x, undef, undef, undef, undef, undef, undef, undef, undef, undef, undef,
    .slice a len cap, .int .i64 (len : Int), .bool false, .slice a len cap, .int .i64 ((d - 1 : Nat) : Int), .int .i64 (d : Int), .slice a len cap, .int .i64 (d : Int), .int .i64 (k : Int), .slice a len cap, .int .i64 ((bif x then 1 else 0 : Nat) : Int), .bool x] ++ List.replicate 125 undef), []⟩ W := fun x => by
    obtain ⟨T, hT, hbd, ι, h, n, h1, hr, hrun⟩ := HM.out () d k x hd1 hd6 hk
    refine ⟨rfl, T, hT, W.heap.size, fun _ => (len : Int), ι, tmM d k x, h, n, .bool true, h1, ?_, tr_nest, hr, hrun, fun κ v w2 hv hg => ?_⟩
    · rw [hbd]
      exact env_nil _
    · simp only [V] at hv
      subst hv
      exact ⟨rfl, hg.below⟩
  have hy' : y = 0 ∨ y = 1 := by omega
  rcases hy' with rfl | rfl
  · exact fin false
  · exact fin true

end Go.Proofs.YtednkkcmboahgaaGreatDoor

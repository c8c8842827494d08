/-
  FnNest: the rest of the law, at each of its texts, by the runs. (Written by wip/tools/rf/mknsd.py.)
-/
import Derived.Test.YtednkkcmboahgaaGreatDoorNsC
import Derived.Test.YtednkkcmboahgaaGreatDoorRqA
import Derived.Test.YtednkkcmboahgaaGreatDoorRqB
import Derived.Test.YtednkkcmboahgaaGreatDoorRqC
import Derived.Test.YtednkkcmboahgaaGreatDoorRqD
import Derived.Test.YtednkkcmboahgaaGreatDoorRqE
import Derived.Test.YtednkkcmboahgaaGreatDoorRqF
import Derived.Test.YtednkkcmboahgaaGreatDoorRqG
import Derived.Test.YtednkkcmboahgaaGreatDoorRqH
import Derived.Test.YtednkkcmboahgaaGreatDoorRqI
import Derived.Test.YtednkkcmboahgaaGreatDoorRqJ
import Derived.Test.YtednkkcmboahgaaGreatDoorRqK
import Derived.Test.YtednkkcmboahgaaGreatDoorRqL
namespace Go.Proofs.YtednkkcmboahgaaGreatDoor
open Go.RowKit
set_option maxRecDepth 100000

theorem env_one {k : Nat} {u : Int} (h : 48 + (k : Int) ≤ u) : Env [(48, u)] (sg k) := fun i l v e => by
  cases i with
  | zero =>
    simp only [List.getElem?_cons_zero, Option.some.injEq, Prod.mk.injEq] at e
    obtain ⟨rfl, rfl⟩ := e
    have hs : sg k 0 = 48 + (k : Int) := by
      show ((48 + k : Nat) : Int) = _
      omega
    rw [hs]
    omega
  | succ i => simp at e
theorem chkL_spec {x : Option (AV × AH)} (h : chkL x = true) : ∃ h1, x = some (.bool true, h1) := by
  unfold chkL at h
  split at h
  · rename_i b h1
    subst h
    exact ⟨h1, rfl⟩
  · cases h
/-- What the law's walk asks. -/
def RestOk (len : Nat) (w : World) (d k : Nat) (x : Bool) : Prop := ∃ T, TabOk Tryz.prog T ∧ T.bd = [] ∧ ∃ ι h n h1, Rel T w.heap.size (fun _ => (len : Int)) ι h w ∧ runX T n ⟨3, tmM d k x, [.code restN], [], false, none⟩ h = some (.bool true, h1)
theorem rest_of {len : Nat} {w : World} (hw : tabN.inv.p w.heap.size w) {hk : Trie HK} (hT : TabOk Tryz.prog (tabN.re hk [] 15)) {d k : Nat} {x : Bool}
    (hr : ∀ t0 t1 t3 t4 t5, chkL (runX (tabN.re hk [] 15) 60000 ⟨3, tmM d k x, [.code restN], [], false, none⟩ (h0 t0 t1 t3 t4 t5)) = true) : RestOk len w d k x := by
  obtain ⟨κ0, y, ⟨t0, t1, t3, t4, t5, rfl⟩, hrel⟩ := startN w.heap.size (fun _ => (len : Int)) w hw (Nat.le_refl _)
  obtain ⟨h1, hh⟩ := chkL_spec (hr t0 t1 t3 t4 t5)
  exact ⟨_, hT, rfl, κ0, _, 60000, h1, hrel.re', hh⟩

theorem b1_0 {k : Nat} (hk : k < 1) {rna : AV} (fA : freeVs (fixVs (sg k) ta1_0 ++ [.int .i64 (.lit 5000)]) = true) (kN : ∀ t0 t1 t3 t4 t5, chkM (callX (tabN.re (hkScr (mR1_0 k)) [] 15) 60000 6 (fixVs (sg k) ta1_0 ++ [.int .i64 (.lit 5000)]) (h0 t0 t1 t3 t4 t5)) [] rna [] = true) : TabOk Tryz.prog (tabN.re (hkAll (.mem (fixVs (sg k) ta1_0 ++ [.int .i64 (.lit 5000)]) rna []) (.two (mR1_0 k) (mV1_0 k)) (mS1_0 k)) [] 15) :=
  nestOk (bd := bd1) (m := 7) (N := 22) (ta := ta1_0) (ua := ua1_0) (tka := tk1_0_a) (tkb := tk1_0_b) (tkn := tk1_0_n) (uka := uk1_0_a) (ukb := uk1_0_b) (ukn := uk1_0_n) (sra := sr1_0_a) (srb := sr1_0_b) (srn := sr1_0_n) (ura := ur1_0_a) (urb := ur1_0_b) (urn := ur1_0_n) (us := .str 44 u1_0) (env_one (by omega)) (by kernel_rfl) (by kernel_rfl) (by kernel_rfl) (by kernel_rfl) (by kernel_rfl) (by kernel_rfl) (by kernel_rfl) rfl (by kernel_rfl) kT1_0 kU1_0 kR1_0 kW1_0 kS1_0 fA kN
theorem b1_1 {k : Nat} (hk : k < 1) {rna : AV} (fA : freeVs (fixVs (sg k) ta1_1 ++ [.int .i64 (.lit 5000)]) = true) (kN : ∀ t0 t1 t3 t4 t5, chkM (callX (tabN.re (hkScr (mR1_1 k)) [] 15) 60000 6 (fixVs (sg k) ta1_1 ++ [.int .i64 (.lit 5000)]) (h0 t0 t1 t3 t4 t5)) [] rna [] = true) : TabOk Tryz.prog (tabN.re (hkAll (.mem (fixVs (sg k) ta1_1 ++ [.int .i64 (.lit 5000)]) rna []) (.two (mR1_1 k) (mV1_1 k)) (mS1_1 k)) [] 15) :=
  nestOk (bd := bd1) (m := 13) (N := 28) (ta := ta1_1) (ua := ua1_1) (tka := tk1_1_a) (tkb := tk1_1_b) (tkn := tk1_1_n) (uka := uk1_1_a) (ukb := uk1_1_b) (ukn := uk1_1_n) (sra := sr1_1_a) (srb := sr1_1_b) (srn := sr1_1_n) (ura := ur1_1_a) (urb := ur1_1_b) (urn := ur1_1_n) (us := .str 76 u1_1) (env_one (by omega)) (by kernel_rfl) (by kernel_rfl) (by kernel_rfl) (by kernel_rfl) (by kernel_rfl) (by kernel_rfl) (by kernel_rfl) rfl (by kernel_rfl) kT1_1 kU1_1 kR1_1 kW1_1 kS1_1 fA kN
theorem b2_0 {k : Nat} (hk : k < 2) {rna : AV} (fA : freeVs (fixVs (sg k) ta2_0 ++ [.int .i64 (.lit 5000)]) = true) (kN : ∀ t0 t1 t3 t4 t5, chkM (callX (tabN.re (hkScr (mR2_0 k)) [] 15) 60000 6 (fixVs (sg k) ta2_0 ++ [.int .i64 (.lit 5000)]) (h0 t0 t1 t3 t4 t5)) [] rna [] = true) : TabOk Tryz.prog (tabN.re (hkAll (.mem (fixVs (sg k) ta2_0 ++ [.int .i64 (.lit 5000)]) rna []) (.two (mR2_0 k) (mV2_0 k)) (mS2_0 k)) [] 15) :=
  nestOk (bd := bd2) (m := 12) (N := 27) (ta := ta2_0) (ua := ua2_0) (tka := tk2_0_a) (tkb := tk2_0_b) (tkn := tk2_0_n) (uka := uk2_0_a) (ukb := uk2_0_b) (ukn := uk2_0_n) (sra := sr2_0_a) (srb := sr2_0_b) (srn := sr2_0_n) (ura := ur2_0_a) (urb := ur2_0_b) (urn := ur2_0_n) (us := .str 84 u2_0) (env_one (by omega)) (by kernel_rfl) (by kernel_rfl) (by kernel_rfl) (by kernel_rfl) (by kernel_rfl) (by kernel_rfl) (by kernel_rfl) rfl (by kernel_rfl) kT2_0 kU2_0 kR2_0 kW2_0 kS2_0 fA kN
theorem b2_1 {k : Nat} (hk : k < 2) {rna : AV} (fA : freeVs (fixVs (sg k) ta2_1 ++ [.int .i64 (.lit 5000)]) = true) (kN : ∀ t0 t1 t3 t4 t5, chkM (callX (tabN.re (hkScr (mR2_1 k)) [] 15) 60000 6 (fixVs (sg k) ta2_1 ++ [.int .i64 (.lit 5000)]) (h0 t0 t1 t3 t4 t5)) [] rna [] = true) : TabOk Tryz.prog (tabN.re (hkAll (.mem (fixVs (sg k) ta2_1 ++ [.int .i64 (.lit 5000)]) rna []) (.two (mR2_1 k) (mV2_1 k)) (mS2_1 k)) [] 15) :=
  nestOk (bd := bd2) (m := 18) (N := 33) (ta := ta2_1) (ua := ua2_1) (tka := tk2_1_a) (tkb := tk2_1_b) (tkn := tk2_1_n) (uka := uk2_1_a) (ukb := uk2_1_b) (ukn := uk2_1_n) (sra := sr2_1_a) (srb := sr2_1_b) (srn := sr2_1_n) (ura := ur2_1_a) (urb := ur2_1_b) (urn := ur2_1_n) (us := .str 116 u2_1) (env_one (by omega)) (by kernel_rfl) (by kernel_rfl) (by kernel_rfl) (by kernel_rfl) (by kernel_rfl) (by kernel_rfl) (by kernel_rfl) rfl (by kernel_rfl) kT2_1 kU2_1 kR2_1 kW2_1 kS2_1 fA kN
theorem b3_0 {k : Nat} (hk : k < 3) {rna : AV} (fA : freeVs (fixVs (sg k) ta3_0 ++ [.int .i64 (.lit 5000)]) = true) (kN : ∀ t0 t1 t3 t4 t5, chkM (callX (tabN.re (hkScr (mR3_0 k)) [] 15) 60000 6 (fixVs (sg k) ta3_0 ++ [.int .i64 (.lit 5000)]) (h0 t0 t1 t3 t4 t5)) [] rna [] = true) : TabOk Tryz.prog (tabN.re (hkAll (.mem (fixVs (sg k) ta3_0 ++ [.int .i64 (.lit 5000)]) rna []) (.two (mR3_0 k) (mV3_0 k)) (mS3_0 k)) [] 15) :=
  nestOk (bd := bd3) (m := 17) (N := 32) (ta := ta3_0) (ua := ua3_0) (tka := tk3_0_a) (tkb := tk3_0_b) (tkn := tk3_0_n) (uka := uk3_0_a) (ukb := uk3_0_b) (ukn := uk3_0_n) (sra := sr3_0_a) (srb := sr3_0_b) (srn := sr3_0_n) (ura := ur3_0_a) (urb := ur3_0_b) (urn := ur3_0_n) (us := .str 124 u3_0) (env_one (by omega)) (by kernel_rfl) (by kernel_rfl) (by kernel_rfl) (by kernel_rfl) (by kernel_rfl) (by kernel_rfl) (by kernel_rfl) rfl (by kernel_rfl) kT3_0 kU3_0 kR3_0 kW3_0 kS3_0 fA kN
theorem b3_1 {k : Nat} (hk : k < 3) {rna : AV} (fA : freeVs (fixVs (sg k) ta3_1 ++ [.int .i64 (.lit 5000)]) = true) (kN : ∀ t0 t1 t3 t4 t5, chkM (callX (tabN.re (hkScr (mR3_1 k)) [] 15) 60000 6 (fixVs (sg k) ta3_1 ++ [.int .i64 (.lit 5000)]) (h0 t0 t1 t3 t4 t5)) [] rna [] = true) : TabOk Tryz.prog (tabN.re (hkAll (.mem (fixVs (sg k) ta3_1 ++ [.int .i64 (.lit 5000)]) rna []) (.two (mR3_1 k) (mV3_1 k)) (mS3_1 k)) [] 15) :=
  nestOk (bd := bd3) (m := 23) (N := 38) (ta := ta3_1) (ua := ua3_1) (tka := tk3_1_a) (tkb := tk3_1_b) (tkn := tk3_1_n) (uka := uk3_1_a) (ukb := uk3_1_b) (ukn := uk3_1_n) (sra := sr3_1_a) (srb := sr3_1_b) (srn := sr3_1_n) (ura := ur3_1_a) (urb := ur3_1_b) (urn := ur3_1_n) (us := .str 156 u3_1) (env_one (by omega)) (by kernel_rfl) (by kernel_rfl) (by kernel_rfl) (by kernel_rfl) (by kernel_rfl) (by kernel_rfl) (by kernel_rfl) rfl (by kernel_rfl) kT3_1 kU3_1 kR3_1 kW3_1 kS3_1 fA kN
theorem b4_0 {k : Nat} (hk : k < 4) {rna : AV} (fA : freeVs (fixVs (sg k) ta4_0 ++ [.int .i64 (.lit 5000)]) = true) (kN : ∀ t0 t1 t3 t4 t5, chkM (callX (tabN.re (hkScr (mR4_0 k)) [] 15) 60000 6 (fixVs (sg k) ta4_0 ++ [.int .i64 (.lit 5000)]) (h0 t0 t1 t3 t4 t5)) [] rna [] = true) : TabOk Tryz.prog (tabN.re (hkAll (.mem (fixVs (sg k) ta4_0 ++ [.int .i64 (.lit 5000)]) rna []) (.two (mR4_0 k) (mV4_0 k)) (mS4_0 k)) [] 15) :=
  nestOk (bd := bd4) (m := 22) (N := 37) (ta := ta4_0) (ua := ua4_0) (tka := tk4_0_a) (tkb := tk4_0_b) (tkn := tk4_0_n) (uka := uk4_0_a) (ukb := uk4_0_b) (ukn := uk4_0_n) (sra := sr4_0_a) (srb := sr4_0_b) (srn := sr4_0_n) (ura := ur4_0_a) (urb := ur4_0_b) (urn := ur4_0_n) (us := .str 164 u4_0) (env_one (by omega)) (by kernel_rfl) (by kernel_rfl) (by kernel_rfl) (by kernel_rfl) (by kernel_rfl) (by kernel_rfl) (by kernel_rfl) rfl (by kernel_rfl) kT4_0 kU4_0 kR4_0 kW4_0 kS4_0 fA kN
theorem b4_1 {k : Nat} (hk : k < 4) {rna : AV} (fA : freeVs (fixVs (sg k) ta4_1 ++ [.int .i64 (.lit 5000)]) = true) (kN : ∀ t0 t1 t3 t4 t5, chkM (callX (tabN.re (hkScr (mR4_1 k)) [] 15) 60000 6 (fixVs (sg k) ta4_1 ++ [.int .i64 (.lit 5000)]) (h0 t0 t1 t3 t4 t5)) [] rna [] = true) : TabOk Tryz.prog (tabN.re (hkAll (.mem (fixVs (sg k) ta4_1 ++ [.int .i64 (.lit 5000)]) rna []) (.two (mR4_1 k) (mV4_1 k)) (mS4_1 k)) [] 15) :=
  nestOk (bd := bd4) (m := 28) (N := 43) (ta := ta4_1) (ua := ua4_1) (tka := tk4_1_a) (tkb := tk4_1_b) (tkn := tk4_1_n) (uka := uk4_1_a) (ukb := uk4_1_b) (ukn := uk4_1_n) (sra := sr4_1_a) (srb := sr4_1_b) (srn := sr4_1_n) (ura := ur4_1_a) (urb := ur4_1_b) (urn := ur4_1_n) (us := .str 196 u4_1) (env_one (by omega)) (by kernel_rfl) (by kernel_rfl) (by kernel_rfl) (by kernel_rfl) (by kernel_rfl) (by kernel_rfl) (by kernel_rfl) rfl (by kernel_rfl) kT4_1 kU4_1 kR4_1 kW4_1 kS4_1 fA kN
theorem b5_0 {k : Nat} (hk : k < 5) {rna : AV} (fA : freeVs (fixVs (sg k) ta5_0 ++ [.int .i64 (.lit 5000)]) = true) (kN : ∀ t0 t1 t3 t4 t5, chkM (callX (tabN.re (hkScr (mR5_0 k)) [] 15) 60000 6 (fixVs (sg k) ta5_0 ++ [.int .i64 (.lit 5000)]) (h0 t0 t1 t3 t4 t5)) [] rna [] = true) : TabOk Tryz.prog (tabN.re (hkAll (.mem (fixVs (sg k) ta5_0 ++ [.int .i64 (.lit 5000)]) rna []) (.two (mR5_0 k) (mV5_0 k)) (mS5_0 k)) [] 15) :=
  nestOk (bd := bd5) (m := 27) (N := 42) (ta := ta5_0) (ua := ua5_0) (tka := tk5_0_a) (tkb := tk5_0_b) (tkn := tk5_0_n) (uka := uk5_0_a) (ukb := uk5_0_b) (ukn := uk5_0_n) (sra := sr5_0_a) (srb := sr5_0_b) (srn := sr5_0_n) (ura := ur5_0_a) (urb := ur5_0_b) (urn := ur5_0_n) (us := .str 204 u5_0) (env_one (by omega)) (by kernel_rfl) (by kernel_rfl) (by kernel_rfl) (by kernel_rfl) (by kernel_rfl) (by kernel_rfl) (by kernel_rfl) rfl (by kernel_rfl) kT5_0 kU5_0 kR5_0 kW5_0 kS5_0 fA kN
theorem b5_1 {k : Nat} (hk : k < 5) {rna : AV} (fA : freeVs (fixVs (sg k) ta5_1 ++ [.int .i64 (.lit 5000)]) = true) (kN : ∀ t0 t1 t3 t4 t5, chkM (callX (tabN.re (hkScr (mR5_1 k)) [] 15) 60000 6 (fixVs (sg k) ta5_1 ++ [.int .i64 (.lit 5000)]) (h0 t0 t1 t3 t4 t5)) [] rna [] = true) : TabOk Tryz.prog (tabN.re (hkAll (.mem (fixVs (sg k) ta5_1 ++ [.int .i64 (.lit 5000)]) rna []) (.two (mR5_1 k) (mV5_1 k)) (mS5_1 k)) [] 15) :=
  nestOk (bd := bd5) (m := 33) (N := 48) (ta := ta5_1) (ua := ua5_1) (tka := tk5_1_a) (tkb := tk5_1_b) (tkn := tk5_1_n) (uka := uk5_1_a) (ukb := uk5_1_b) (ukn := uk5_1_n) (sra := sr5_1_a) (srb := sr5_1_b) (srn := sr5_1_n) (ura := ur5_1_a) (urb := ur5_1_b) (urn := ur5_1_n) (us := .str 236 u5_1) (env_one (by omega)) (by kernel_rfl) (by kernel_rfl) (by kernel_rfl) (by kernel_rfl) (by kernel_rfl) (by kernel_rfl) (by kernel_rfl) rfl (by kernel_rfl) kT5_1 kU5_1 kR5_1 kW5_1 kS5_1 fA kN
theorem b6_0 {k : Nat} (hk : k < 6) {rna : AV} (fA : freeVs (fixVs (sg k) ta6_0 ++ [.int .i64 (.lit 5000)]) = true) (kN : ∀ t0 t1 t3 t4 t5, chkM (callX (tabN.re (hkScr (mR6_0 k)) [] 15) 60000 6 (fixVs (sg k) ta6_0 ++ [.int .i64 (.lit 5000)]) (h0 t0 t1 t3 t4 t5)) [] rna [] = true) : TabOk Tryz.prog (tabN.re (hkAll (.mem (fixVs (sg k) ta6_0 ++ [.int .i64 (.lit 5000)]) rna []) (.two (mR6_0 k) (mV6_0 k)) (mS6_0 k)) [] 15) :=
  nestOk (bd := bd6) (m := 32) (N := 47) (ta := ta6_0) (ua := ua6_0) (tka := tk6_0_a) (tkb := tk6_0_b) (tkn := tk6_0_n) (uka := uk6_0_a) (ukb := uk6_0_b) (ukn := uk6_0_n) (sra := sr6_0_a) (srb := sr6_0_b) (srn := sr6_0_n) (ura := ur6_0_a) (urb := ur6_0_b) (urn := ur6_0_n) (us := .str 244 u6_0) (env_one (by omega)) (by kernel_rfl) (by kernel_rfl) (by kernel_rfl) (by kernel_rfl) (by kernel_rfl) (by kernel_rfl) (by kernel_rfl) rfl (by kernel_rfl) kT6_0 kU6_0 kR6_0 kW6_0 kS6_0 fA kN
theorem b6_1 {k : Nat} (hk : k < 6) {rna : AV} (fA : freeVs (fixVs (sg k) ta6_1 ++ [.int .i64 (.lit 5000)]) = true) (kN : ∀ t0 t1 t3 t4 t5, chkM (callX (tabN.re (hkScr (mR6_1 k)) [] 15) 60000 6 (fixVs (sg k) ta6_1 ++ [.int .i64 (.lit 5000)]) (h0 t0 t1 t3 t4 t5)) [] rna [] = true) : TabOk Tryz.prog (tabN.re (hkAll (.mem (fixVs (sg k) ta6_1 ++ [.int .i64 (.lit 5000)]) rna []) (.two (mR6_1 k) (mV6_1 k)) (mS6_1 k)) [] 15) :=
  nestOk (bd := bd6) (m := 38) (N := 53) (ta := ta6_1) (ua := ua6_1) (tka := tk6_1_a) (tkb := tk6_1_b) (tkn := tk6_1_n) (uka := uk6_1_a) (ukb := uk6_1_b) (ukn := uk6_1_n) (sra := sr6_1_a) (srb := sr6_1_b) (srn := sr6_1_n) (ura := ur6_1_a) (urb := ur6_1_b) (urn := ur6_1_n) (us := .str 276 u6_1) (env_one (by omega)) (by kernel_rfl) (by kernel_rfl) (by kernel_rfl) (by kernel_rfl) (by kernel_rfl) (by kernel_rfl) (by kernel_rfl) rfl (by kernel_rfl) kT6_1 kU6_1 kR6_1 kW6_1 kS6_1 fA kN
theorem r1_0_0 {len : Nat} {w : World} (hw : tabN.inv.p w.heap.size w) : RestOk len w 1 0 false := rest_of hw (b1_0 (by omega) (by kernel_rfl) kN1_0_0) kL1_0_0
theorem r1_1_0 {len : Nat} {w : World} (hw : tabN.inv.p w.heap.size w) : RestOk len w 1 0 true := rest_of hw (b1_1 (by omega) (by kernel_rfl) kN1_1_0) kL1_1_0
theorem r2_0_0 {len : Nat} {w : World} (hw : tabN.inv.p w.heap.size w) : RestOk len w 2 0 false := rest_of hw (b2_0 (by omega) (by kernel_rfl) kN2_0_0) kL2_0_0
theorem r2_0_1 {len : Nat} {w : World} (hw : tabN.inv.p w.heap.size w) : RestOk len w 2 1 false := rest_of hw (b2_0 (by omega) (by kernel_rfl) kN2_0_1) kL2_0_1
theorem r2_1_0 {len : Nat} {w : World} (hw : tabN.inv.p w.heap.size w) : RestOk len w 2 0 true := rest_of hw (b2_1 (by omega) (by kernel_rfl) kN2_1_0) kL2_1_0
theorem r2_1_1 {len : Nat} {w : World} (hw : tabN.inv.p w.heap.size w) : RestOk len w 2 1 true := rest_of hw (b2_1 (by omega) (by kernel_rfl) kN2_1_1) kL2_1_1
theorem r3_0_0 {len : Nat} {w : World} (hw : tabN.inv.p w.heap.size w) : RestOk len w 3 0 false := rest_of hw (b3_0 (by omega) (by kernel_rfl) kN3_0_0) kL3_0_0
theorem r3_0_1 {len : Nat} {w : World} (hw : tabN.inv.p w.heap.size w) : RestOk len w 3 1 false := rest_of hw (b3_0 (by omega) (by kernel_rfl) kN3_0_1) kL3_0_1
theorem r3_0_2 {len : Nat} {w : World} (hw : tabN.inv.p w.heap.size w) : RestOk len w 3 2 false := rest_of hw (b3_0 (by omega) (by kernel_rfl) kN3_0_2) kL3_0_2
theorem r3_1_0 {len : Nat} {w : World} (hw : tabN.inv.p w.heap.size w) : RestOk len w 3 0 true := rest_of hw (b3_1 (by omega) (by kernel_rfl) kN3_1_0) kL3_1_0
theorem r3_1_1 {len : Nat} {w : World} (hw : tabN.inv.p w.heap.size w) : RestOk len w 3 1 true := rest_of hw (b3_1 (by omega) (by kernel_rfl) kN3_1_1) kL3_1_1
theorem r3_1_2 {len : Nat} {w : World} (hw : tabN.inv.p w.heap.size w) : RestOk len w 3 2 true := rest_of hw (b3_1 (by omega) (by kernel_rfl) kN3_1_2) kL3_1_2
theorem r4_0_0 {len : Nat} {w : World} (hw : tabN.inv.p w.heap.size w) : RestOk len w 4 0 false := rest_of hw (b4_0 (by omega) (by kernel_rfl) kN4_0_0) kL4_0_0
theorem r4_0_1 {len : Nat} {w : World} (hw : tabN.inv.p w.heap.size w) : RestOk len w 4 1 false := rest_of hw (b4_0 (by omega) (by kernel_rfl) kN4_0_1) kL4_0_1
theorem r4_0_2 {len : Nat} {w : World} (hw : tabN.inv.p w.heap.size w) : RestOk len w 4 2 false := rest_of hw (b4_0 (by omega) (by kernel_rfl) kN4_0_2) kL4_0_2
theorem r4_0_3 {len : Nat} {w : World} (hw : tabN.inv.p w.heap.size w) : RestOk len w 4 3 false := rest_of hw (b4_0 (by omega) (by kernel_rfl) kN4_0_3) kL4_0_3
theorem r4_1_0 {len : Nat} {w : World} (hw : tabN.inv.p w.heap.size w) : RestOk len w 4 0 true := rest_of hw (b4_1 (by omega) (by kernel_rfl) kN4_1_0) kL4_1_0
theorem r4_1_1 {len : Nat} {w : World} (hw : tabN.inv.p w.heap.size w) : RestOk len w 4 1 true := rest_of hw (b4_1 (by omega) (by kernel_rfl) kN4_1_1) kL4_1_1
theorem r4_1_2 {len : Nat} {w : World} (hw : tabN.inv.p w.heap.size w) : RestOk len w 4 2 true := rest_of hw (b4_1 (by omega) (by kernel_rfl) kN4_1_2) kL4_1_2
theorem r4_1_3 {len : Nat} {w : World} (hw : tabN.inv.p w.heap.size w) : RestOk len w 4 3 true := rest_of hw (b4_1 (by omega) (by kernel_rfl) kN4_1_3) kL4_1_3
theorem r5_0_0 {len : Nat} {w : World} (hw : tabN.inv.p w.heap.size w) : RestOk len w 5 0 false := rest_of hw (b5_0 (by omega) (by kernel_rfl) kN5_0_0) kL5_0_0
theorem r5_0_1 {len : Nat} {w : World} (hw : tabN.inv.p w.heap.size w) : RestOk len w 5 1 false := rest_of hw (b5_0 (by omega) (by kernel_rfl) kN5_0_1) kL5_0_1
theorem r5_0_2 {len : Nat} {w : World} (hw : tabN.inv.p w.heap.size w) : RestOk len w 5 2 false := rest_of hw (b5_0 (by omega) (by kernel_rfl) kN5_0_2) kL5_0_2
theorem r5_0_3 {len : Nat} {w : World} (hw : tabN.inv.p w.heap.size w) : RestOk len w 5 3 false := rest_of hw (b5_0 (by omega) (by kernel_rfl) kN5_0_3) kL5_0_3
theorem r5_0_4 {len : Nat} {w : World} (hw : tabN.inv.p w.heap.size w) : RestOk len w 5 4 false := rest_of hw (b5_0 (by omega) (by kernel_rfl) kN5_0_4) kL5_0_4
theorem r5_1_0 {len : Nat} {w : World} (hw : tabN.inv.p w.heap.size w) : RestOk len w 5 0 true := rest_of hw (b5_1 (by omega) (by kernel_rfl) kN5_1_0) kL5_1_0
theorem r5_1_1 {len : Nat} {w : World} (hw : tabN.inv.p w.heap.size w) : RestOk len w 5 1 true := rest_of hw (b5_1 (by omega) (by kernel_rfl) kN5_1_1) kL5_1_1
theorem r5_1_2 {len : Nat} {w : World} (hw : tabN.inv.p w.heap.size w) : RestOk len w 5 2 true := rest_of hw (b5_1 (by omega) (by kernel_rfl) kN5_1_2) kL5_1_2
theorem r5_1_3 {len : Nat} {w : World} (hw : tabN.inv.p w.heap.size w) : RestOk len w 5 3 true := rest_of hw (b5_1 (by omega) (by kernel_rfl) kN5_1_3) kL5_1_3
theorem r5_1_4 {len : Nat} {w : World} (hw : tabN.inv.p w.heap.size w) : RestOk len w 5 4 true := rest_of hw (b5_1 (by omega) (by kernel_rfl) kN5_1_4) kL5_1_4
theorem r6_0_0 {len : Nat} {w : World} (hw : tabN.inv.p w.heap.size w) : RestOk len w 6 0 false := rest_of hw (b6_0 (by omega) (by kernel_rfl) kN6_0_0) kL6_0_0
theorem r6_0_1 {len : Nat} {w : World} (hw : tabN.inv.p w.heap.size w) : RestOk len w 6 1 false := rest_of hw (b6_0 (by omega) (by kernel_rfl) kN6_0_1) kL6_0_1
theorem r6_0_2 {len : Nat} {w : World} (hw : tabN.inv.p w.heap.size w) : RestOk len w 6 2 false := rest_of hw (b6_0 (by omega) (by kernel_rfl) kN6_0_2) kL6_0_2
theorem r6_0_3 {len : Nat} {w : World} (hw : tabN.inv.p w.heap.size w) : RestOk len w 6 3 false := rest_of hw (b6_0 (by omega) (by kernel_rfl) kN6_0_3) kL6_0_3
theorem r6_0_4 {len : Nat} {w : World} (hw : tabN.inv.p w.heap.size w) : RestOk len w 6 4 false := rest_of hw (b6_0 (by omega) (by kernel_rfl) kN6_0_4) kL6_0_4
theorem r6_0_5 {len : Nat} {w : World} (hw : tabN.inv.p w.heap.size w) : RestOk len w 6 5 false := rest_of hw (b6_0 (by omega) (by kernel_rfl) kN6_0_5) kL6_0_5
theorem r6_1_0 {len : Nat} {w : World} (hw : tabN.inv.p w.heap.size w) : RestOk len w 6 0 true := rest_of hw (b6_1 (by omega) (by kernel_rfl) kN6_1_0) kL6_1_0
theorem r6_1_1 {len : Nat} {w : World} (hw : tabN.inv.p w.heap.size w) : RestOk len w 6 1 true := rest_of hw (b6_1 (by omega) (by kernel_rfl) kN6_1_1) kL6_1_1
theorem r6_1_2 {len : Nat} {w : World} (hw : tabN.inv.p w.heap.size w) : RestOk len w 6 2 true := rest_of hw (b6_1 (by omega) (by kernel_rfl) kN6_1_2) kL6_1_2
theorem r6_1_3 {len : Nat} {w : World} (hw : tabN.inv.p w.heap.size w) : RestOk len w 6 3 true := rest_of hw (b6_1 (by omega) (by kernel_rfl) kN6_1_3) kL6_1_3
theorem r6_1_4 {len : Nat} {w : World} (hw : tabN.inv.p w.heap.size w) : RestOk len w 6 4 true := rest_of hw (b6_1 (by omega) (by kernel_rfl) kN6_1_4) kL6_1_4
theorem r6_1_5 {len : Nat} {w : World} (hw : tabN.inv.p w.heap.size w) : RestOk len w 6 5 true := rest_of hw (b6_1 (by omega) (by kernel_rfl) kN6_1_5) kL6_1_5

theorem rests {len : Nat} {w : World} (hw : tabN.inv.p w.heap.size w) (d k : Nat) (x : Bool) (h1 : 1 ≤ d) (h6 : d ≤ 6) (hk : k < d) : RestOk len w d k x := by
  have hd : d = 1 ∨ d = 2 ∨ d = 3 ∨ d = 4 ∨ d = 5 ∨ d = 6 := by omega
  rcases hd with rfl | rfl | rfl | rfl | rfl | rfl
  · have hk' : k = 0 := by omega
    subst hk'
    cases x
    · exact r1_0_0 hw
    · exact r1_1_0 hw
  · have hk' : k = 0 ∨ k = 1 := by omega
    rcases hk' with rfl | rfl <;> cases x
    · exact r2_0_0 hw
    · exact r2_1_0 hw
    · exact r2_0_1 hw
    · exact r2_1_1 hw
  · have hk' : k = 0 ∨ k = 1 ∨ k = 2 := by omega
    rcases hk' with rfl | rfl | rfl <;> cases x
    · exact r3_0_0 hw
    · exact r3_1_0 hw
    · exact r3_0_1 hw
    · exact r3_1_1 hw
    · exact r3_0_2 hw
    · exact r3_1_2 hw
  · have hk' : k = 0 ∨ k = 1 ∨ k = 2 ∨ k = 3 := by omega
    rcases hk' with rfl | rfl | rfl | rfl <;> cases x
    · exact r4_0_0 hw
    · exact r4_1_0 hw
    · exact r4_0_1 hw
    · exact r4_1_1 hw
    · exact r4_0_2 hw
    · exact r4_1_2 hw
    · exact r4_0_3 hw
    · exact r4_1_3 hw
  · have hk' : k = 0 ∨ k = 1 ∨ k = 2 ∨ k = 3 ∨ k = 4 := by omega
    rcases hk' with rfl | rfl | rfl | rfl | rfl <;> cases x
    · exact r5_0_0 hw
    · exact r5_1_0 hw
    · exact r5_0_1 hw
    · exact r5_1_1 hw
    · exact r5_0_2 hw
    · exact r5_1_2 hw
    · exact r5_0_3 hw
    · exact r5_1_3 hw
    · exact r5_0_4 hw
    · exact r5_1_4 hw
  · have hk' : k = 0 ∨ k = 1 ∨ k = 2 ∨ k = 3 ∨ k = 4 ∨ k = 5 := by omega
    rcases hk' with rfl | rfl | rfl | rfl | rfl | rfl <;> cases x
    · exact r6_0_0 hw
    · exact r6_1_0 hw
    · exact r6_0_1 hw
    · exact r6_1_1 hw
    · exact r6_0_2 hw
    · exact r6_1_2 hw
    · exact r6_0_3 hw
    · exact r6_1_3 hw
    · exact r6_0_4 hw
    · exact r6_1_4 hw
    · exact r6_0_5 hw
    · exact r6_1_5 hw

end Go.Proofs.YtednkkcmboahgaaGreatDoor

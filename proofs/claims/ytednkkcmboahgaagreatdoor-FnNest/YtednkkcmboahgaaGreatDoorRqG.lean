/-
  FnNest: runs of Run, and of the law behind its first pieces (1 without, 1 with, 2 without, 2 with, 3 without, 3 with). (Written by wip/tools/rf/mknest2.py.)
-/
import Derived.Test.YtednkkcmboahgaaGreatDoorRpI
namespace Go.Proofs.YtednkkcmboahgaaGreatDoor

set_option maxRecDepth 100000 in
theorem kN1_0_0 (t0 t1 t3 t4 t5 : Nat) : chkM (callX (tabN.re (hkScr (mR1_0 0)) [] 15) 60000 6 (fixVs (sg 0) ta1_0 ++ [.int .i64 (.lit 5000)]) (h0 t0 t1 t3 t4 t5)) [] rn1_0_0_a [] = true := by kernel_rfl
set_option maxRecDepth 100000 in
theorem kL1_0_0 (t0 t1 t3 t4 t5 : Nat) : chkL (runX (tabN.re (hkAll mN1_0_0 (.two (mR1_0 0) (mV1_0 0)) (mS1_0 0)) [] 15) 60000 ⟨3, tmM 1 0 false, [.code restN], [], false, none⟩ (h0 t0 t1 t3 t4 t5)) = true := by kernel_rfl
set_option maxRecDepth 100000 in
theorem kN1_1_0 (t0 t1 t3 t4 t5 : Nat) : chkM (callX (tabN.re (hkScr (mR1_1 0)) [] 15) 60000 6 (fixVs (sg 0) ta1_1 ++ [.int .i64 (.lit 5000)]) (h0 t0 t1 t3 t4 t5)) [] rn1_1_0_a [] = true := by kernel_rfl
set_option maxRecDepth 100000 in
theorem kL1_1_0 (t0 t1 t3 t4 t5 : Nat) : chkL (runX (tabN.re (hkAll mN1_1_0 (.two (mR1_1 0) (mV1_1 0)) (mS1_1 0)) [] 15) 60000 ⟨3, tmM 1 0 true, [.code restN], [], false, none⟩ (h0 t0 t1 t3 t4 t5)) = true := by kernel_rfl
set_option maxRecDepth 100000 in
theorem kN2_0_0 (t0 t1 t3 t4 t5 : Nat) : chkM (callX (tabN.re (hkScr (mR2_0 0)) [] 15) 60000 6 (fixVs (sg 0) ta2_0 ++ [.int .i64 (.lit 5000)]) (h0 t0 t1 t3 t4 t5)) [] rn2_0_0_a [] = true := by kernel_rfl
set_option maxRecDepth 100000 in
theorem kL2_0_0 (t0 t1 t3 t4 t5 : Nat) : chkL (runX (tabN.re (hkAll mN2_0_0 (.two (mR2_0 0) (mV2_0 0)) (mS2_0 0)) [] 15) 60000 ⟨3, tmM 2 0 false, [.code restN], [], false, none⟩ (h0 t0 t1 t3 t4 t5)) = true := by kernel_rfl
set_option maxRecDepth 100000 in
theorem kN2_0_1 (t0 t1 t3 t4 t5 : Nat) : chkM (callX (tabN.re (hkScr (mR2_0 1)) [] 15) 60000 6 (fixVs (sg 1) ta2_0 ++ [.int .i64 (.lit 5000)]) (h0 t0 t1 t3 t4 t5)) [] rn2_0_1_a [] = true := by kernel_rfl
set_option maxRecDepth 100000 in
theorem kL2_0_1 (t0 t1 t3 t4 t5 : Nat) : chkL (runX (tabN.re (hkAll mN2_0_1 (.two (mR2_0 1) (mV2_0 1)) (mS2_0 1)) [] 15) 60000 ⟨3, tmM 2 1 false, [.code restN], [], false, none⟩ (h0 t0 t1 t3 t4 t5)) = true := by kernel_rfl
set_option maxRecDepth 100000 in
theorem kN2_1_0 (t0 t1 t3 t4 t5 : Nat) : chkM (callX (tabN.re (hkScr (mR2_1 0)) [] 15) 60000 6 (fixVs (sg 0) ta2_1 ++ [.int .i64 (.lit 5000)]) (h0 t0 t1 t3 t4 t5)) [] rn2_1_0_a [] = true := by kernel_rfl
set_option maxRecDepth 100000 in
theorem kL2_1_0 (t0 t1 t3 t4 t5 : Nat) : chkL (runX (tabN.re (hkAll mN2_1_0 (.two (mR2_1 0) (mV2_1 0)) (mS2_1 0)) [] 15) 60000 ⟨3, tmM 2 0 true, [.code restN], [], false, none⟩ (h0 t0 t1 t3 t4 t5)) = true := by kernel_rfl
set_option maxRecDepth 100000 in
theorem kN2_1_1 (t0 t1 t3 t4 t5 : Nat) : chkM (callX (tabN.re (hkScr (mR2_1 1)) [] 15) 60000 6 (fixVs (sg 1) ta2_1 ++ [.int .i64 (.lit 5000)]) (h0 t0 t1 t3 t4 t5)) [] rn2_1_1_a [] = true := by kernel_rfl
set_option maxRecDepth 100000 in
theorem kL2_1_1 (t0 t1 t3 t4 t5 : Nat) : chkL (runX (tabN.re (hkAll mN2_1_1 (.two (mR2_1 1) (mV2_1 1)) (mS2_1 1)) [] 15) 60000 ⟨3, tmM 2 1 true, [.code restN], [], false, none⟩ (h0 t0 t1 t3 t4 t5)) = true := by kernel_rfl
set_option maxRecDepth 100000 in
theorem kN3_0_0 (t0 t1 t3 t4 t5 : Nat) : chkM (callX (tabN.re (hkScr (mR3_0 0)) [] 15) 60000 6 (fixVs (sg 0) ta3_0 ++ [.int .i64 (.lit 5000)]) (h0 t0 t1 t3 t4 t5)) [] rn3_0_0_a [] = true := by kernel_rfl
set_option maxRecDepth 100000 in
theorem kL3_0_0 (t0 t1 t3 t4 t5 : Nat) : chkL (runX (tabN.re (hkAll mN3_0_0 (.two (mR3_0 0) (mV3_0 0)) (mS3_0 0)) [] 15) 60000 ⟨3, tmM 3 0 false, [.code restN], [], false, none⟩ (h0 t0 t1 t3 t4 t5)) = true := by kernel_rfl
set_option maxRecDepth 100000 in
theorem kN3_0_1 (t0 t1 t3 t4 t5 : Nat) : chkM (callX (tabN.re (hkScr (mR3_0 1)) [] 15) 60000 6 (fixVs (sg 1) ta3_0 ++ [.int .i64 (.lit 5000)]) (h0 t0 t1 t3 t4 t5)) [] rn3_0_1_a [] = true := by kernel_rfl
set_option maxRecDepth 100000 in
theorem kL3_0_1 (t0 t1 t3 t4 t5 : Nat) : chkL (runX (tabN.re (hkAll mN3_0_1 (.two (mR3_0 1) (mV3_0 1)) (mS3_0 1)) [] 15) 60000 ⟨3, tmM 3 1 false, [.code restN], [], false, none⟩ (h0 t0 t1 t3 t4 t5)) = true := by kernel_rfl
set_option maxRecDepth 100000 in
theorem kN3_0_2 (t0 t1 t3 t4 t5 : Nat) : chkM (callX (tabN.re (hkScr (mR3_0 2)) [] 15) 60000 6 (fixVs (sg 2) ta3_0 ++ [.int .i64 (.lit 5000)]) (h0 t0 t1 t3 t4 t5)) [] rn3_0_2_a [] = true := by kernel_rfl
set_option maxRecDepth 100000 in
theorem kL3_0_2 (t0 t1 t3 t4 t5 : Nat) : chkL (runX (tabN.re (hkAll mN3_0_2 (.two (mR3_0 2) (mV3_0 2)) (mS3_0 2)) [] 15) 60000 ⟨3, tmM 3 2 false, [.code restN], [], false, none⟩ (h0 t0 t1 t3 t4 t5)) = true := by kernel_rfl
set_option maxRecDepth 100000 in
theorem kN3_1_0 (t0 t1 t3 t4 t5 : Nat) : chkM (callX (tabN.re (hkScr (mR3_1 0)) [] 15) 60000 6 (fixVs (sg 0) ta3_1 ++ [.int .i64 (.lit 5000)]) (h0 t0 t1 t3 t4 t5)) [] rn3_1_0_a [] = true := by kernel_rfl
set_option maxRecDepth 100000 in
theorem kL3_1_0 (t0 t1 t3 t4 t5 : Nat) : chkL (runX (tabN.re (hkAll mN3_1_0 (.two (mR3_1 0) (mV3_1 0)) (mS3_1 0)) [] 15) 60000 ⟨3, tmM 3 0 true, [.code restN], [], false, none⟩ (h0 t0 t1 t3 t4 t5)) = true := by kernel_rfl
set_option maxRecDepth 100000 in
theorem kN3_1_1 (t0 t1 t3 t4 t5 : Nat) : chkM (callX (tabN.re (hkScr (mR3_1 1)) [] 15) 60000 6 (fixVs (sg 1) ta3_1 ++ [.int .i64 (.lit 5000)]) (h0 t0 t1 t3 t4 t5)) [] rn3_1_1_a [] = true := by kernel_rfl
set_option maxRecDepth 100000 in
theorem kL3_1_1 (t0 t1 t3 t4 t5 : Nat) : chkL (runX (tabN.re (hkAll mN3_1_1 (.two (mR3_1 1) (mV3_1 1)) (mS3_1 1)) [] 15) 60000 ⟨3, tmM 3 1 true, [.code restN], [], false, none⟩ (h0 t0 t1 t3 t4 t5)) = true := by kernel_rfl
set_option maxRecDepth 100000 in
theorem kN3_1_2 (t0 t1 t3 t4 t5 : Nat) : chkM (callX (tabN.re (hkScr (mR3_1 2)) [] 15) 60000 6 (fixVs (sg 2) ta3_1 ++ [.int .i64 (.lit 5000)]) (h0 t0 t1 t3 t4 t5)) [] rn3_1_2_a [] = true := by kernel_rfl
set_option maxRecDepth 100000 in
theorem kL3_1_2 (t0 t1 t3 t4 t5 : Nat) : chkL (runX (tabN.re (hkAll mN3_1_2 (.two (mR3_1 2) (mV3_1 2)) (mS3_1 2)) [] 15) 60000 ⟨3, tmM 3 2 true, [.code restN], [], false, none⟩ (h0 t0 t1 t3 t4 t5)) = true := by kernel_rfl

end Go.Proofs.YtednkkcmboahgaaGreatDoor

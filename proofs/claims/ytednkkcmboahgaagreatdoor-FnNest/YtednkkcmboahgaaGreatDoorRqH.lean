/-
  FnNest: runs of Run, and of the law behind its first pieces (4 without, 4 with). (Written by wip/tools/rf/mknest2.py.)
-/
import Derived.Test.YtednkkcmboahgaaGreatDoorRpI
namespace Go.Proofs.YtednkkcmboahgaaGreatDoor

set_option maxRecDepth 100000 in
theorem kN4_0_0 (t0 t1 t3 t4 t5 : Nat) : chkM (callX (tabN.re (hkScr (mR4_0 0)) [] 15) 60000 6 (fixVs (sg 0) ta4_0 ++ [.int .i64 (.lit 5000)]) (h0 t0 t1 t3 t4 t5)) [] rn4_0_0_a [] = true := by kernel_rfl
set_option maxRecDepth 100000 in
theorem kL4_0_0 (t0 t1 t3 t4 t5 : Nat) : chkL (runX (tabN.re (hkAll mN4_0_0 (.two (mR4_0 0) (mV4_0 0)) (mS4_0 0)) [] 15) 60000 ⟨3, tmM 4 0 false, [.code restN], [], false, none⟩ (h0 t0 t1 t3 t4 t5)) = true := by kernel_rfl
set_option maxRecDepth 100000 in
theorem kN4_0_1 (t0 t1 t3 t4 t5 : Nat) : chkM (callX (tabN.re (hkScr (mR4_0 1)) [] 15) 60000 6 (fixVs (sg 1) ta4_0 ++ [.int .i64 (.lit 5000)]) (h0 t0 t1 t3 t4 t5)) [] rn4_0_1_a [] = true := by kernel_rfl
set_option maxRecDepth 100000 in
theorem kL4_0_1 (t0 t1 t3 t4 t5 : Nat) : chkL (runX (tabN.re (hkAll mN4_0_1 (.two (mR4_0 1) (mV4_0 1)) (mS4_0 1)) [] 15) 60000 ⟨3, tmM 4 1 false, [.code restN], [], false, none⟩ (h0 t0 t1 t3 t4 t5)) = true := by kernel_rfl
set_option maxRecDepth 100000 in
theorem kN4_0_2 (t0 t1 t3 t4 t5 : Nat) : chkM (callX (tabN.re (hkScr (mR4_0 2)) [] 15) 60000 6 (fixVs (sg 2) ta4_0 ++ [.int .i64 (.lit 5000)]) (h0 t0 t1 t3 t4 t5)) [] rn4_0_2_a [] = true := by kernel_rfl
set_option maxRecDepth 100000 in
theorem kL4_0_2 (t0 t1 t3 t4 t5 : Nat) : chkL (runX (tabN.re (hkAll mN4_0_2 (.two (mR4_0 2) (mV4_0 2)) (mS4_0 2)) [] 15) 60000 ⟨3, tmM 4 2 false, [.code restN], [], false, none⟩ (h0 t0 t1 t3 t4 t5)) = true := by kernel_rfl
set_option maxRecDepth 100000 in
theorem kN4_0_3 (t0 t1 t3 t4 t5 : Nat) : chkM (callX (tabN.re (hkScr (mR4_0 3)) [] 15) 60000 6 (fixVs (sg 3) ta4_0 ++ [.int .i64 (.lit 5000)]) (h0 t0 t1 t3 t4 t5)) [] rn4_0_3_a [] = true := by kernel_rfl
set_option maxRecDepth 100000 in
theorem kL4_0_3 (t0 t1 t3 t4 t5 : Nat) : chkL (runX (tabN.re (hkAll mN4_0_3 (.two (mR4_0 3) (mV4_0 3)) (mS4_0 3)) [] 15) 60000 ⟨3, tmM 4 3 false, [.code restN], [], false, none⟩ (h0 t0 t1 t3 t4 t5)) = true := by kernel_rfl
set_option maxRecDepth 100000 in
theorem kN4_1_0 (t0 t1 t3 t4 t5 : Nat) : chkM (callX (tabN.re (hkScr (mR4_1 0)) [] 15) 60000 6 (fixVs (sg 0) ta4_1 ++ [.int .i64 (.lit 5000)]) (h0 t0 t1 t3 t4 t5)) [] rn4_1_0_a [] = true := by kernel_rfl
set_option maxRecDepth 100000 in
theorem kL4_1_0 (t0 t1 t3 t4 t5 : Nat) : chkL (runX (tabN.re (hkAll mN4_1_0 (.two (mR4_1 0) (mV4_1 0)) (mS4_1 0)) [] 15) 60000 ⟨3, tmM 4 0 true, [.code restN], [], false, none⟩ (h0 t0 t1 t3 t4 t5)) = true := by kernel_rfl
set_option maxRecDepth 100000 in
theorem kN4_1_1 (t0 t1 t3 t4 t5 : Nat) : chkM (callX (tabN.re (hkScr (mR4_1 1)) [] 15) 60000 6 (fixVs (sg 1) ta4_1 ++ [.int .i64 (.lit 5000)]) (h0 t0 t1 t3 t4 t5)) [] rn4_1_1_a [] = true := by kernel_rfl
set_option maxRecDepth 100000 in
theorem kL4_1_1 (t0 t1 t3 t4 t5 : Nat) : chkL (runX (tabN.re (hkAll mN4_1_1 (.two (mR4_1 1) (mV4_1 1)) (mS4_1 1)) [] 15) 60000 ⟨3, tmM 4 1 true, [.code restN], [], false, none⟩ (h0 t0 t1 t3 t4 t5)) = true := by kernel_rfl
set_option maxRecDepth 100000 in
theorem kN4_1_2 (t0 t1 t3 t4 t5 : Nat) : chkM (callX (tabN.re (hkScr (mR4_1 2)) [] 15) 60000 6 (fixVs (sg 2) ta4_1 ++ [.int .i64 (.lit 5000)]) (h0 t0 t1 t3 t4 t5)) [] rn4_1_2_a [] = true := by kernel_rfl
set_option maxRecDepth 100000 in
theorem kL4_1_2 (t0 t1 t3 t4 t5 : Nat) : chkL (runX (tabN.re (hkAll mN4_1_2 (.two (mR4_1 2) (mV4_1 2)) (mS4_1 2)) [] 15) 60000 ⟨3, tmM 4 2 true, [.code restN], [], false, none⟩ (h0 t0 t1 t3 t4 t5)) = true := by kernel_rfl
set_option maxRecDepth 100000 in
theorem kN4_1_3 (t0 t1 t3 t4 t5 : Nat) : chkM (callX (tabN.re (hkScr (mR4_1 3)) [] 15) 60000 6 (fixVs (sg 3) ta4_1 ++ [.int .i64 (.lit 5000)]) (h0 t0 t1 t3 t4 t5)) [] rn4_1_3_a [] = true := by kernel_rfl
set_option maxRecDepth 100000 in
theorem kL4_1_3 (t0 t1 t3 t4 t5 : Nat) : chkL (runX (tabN.re (hkAll mN4_1_3 (.two (mR4_1 3) (mV4_1 3)) (mS4_1 3)) [] 15) 60000 ⟨3, tmM 4 3 true, [.code restN], [], false, none⟩ (h0 t0 t1 t3 t4 t5)) = true := by kernel_rfl

end Go.Proofs.YtednkkcmboahgaaGreatDoor

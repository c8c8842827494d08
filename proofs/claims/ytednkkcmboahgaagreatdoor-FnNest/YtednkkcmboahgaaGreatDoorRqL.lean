/-
  FnNest: runs of Run, and of the law behind its first pieces (6 with). (Written by wip/tools/rf/mknest2.py.)
-/
import Derived.Test.YtednkkcmboahgaaGreatDoorRpI
namespace Go.Proofs.YtednkkcmboahgaaGreatDoor

set_option maxRecDepth 100000 in
theorem kN6_1_0 (t0 t1 t3 t4 t5 : Nat) : chkM (callX (tabN.re (hkScr (mR6_1 0)) [] 15) 60000 6 (fixVs (sg 0) ta6_1 ++ [.int .i64 (.lit 5000)]) (h0 t0 t1 t3 t4 t5)) [] rn6_1_0_a [] = true := by kernel_rfl
set_option maxRecDepth 100000 in
theorem kL6_1_0 (t0 t1 t3 t4 t5 : Nat) : chkL (runX (tabN.re (hkAll mN6_1_0 (.two (mR6_1 0) (mV6_1 0)) (mS6_1 0)) [] 15) 60000 ⟨3, tmM 6 0 true, [.code restN], [], false, none⟩ (h0 t0 t1 t3 t4 t5)) = true := by kernel_rfl
set_option maxRecDepth 100000 in
theorem kN6_1_1 (t0 t1 t3 t4 t5 : Nat) : chkM (callX (tabN.re (hkScr (mR6_1 1)) [] 15) 60000 6 (fixVs (sg 1) ta6_1 ++ [.int .i64 (.lit 5000)]) (h0 t0 t1 t3 t4 t5)) [] rn6_1_1_a [] = true := by kernel_rfl
set_option maxRecDepth 100000 in
theorem kL6_1_1 (t0 t1 t3 t4 t5 : Nat) : chkL (runX (tabN.re (hkAll mN6_1_1 (.two (mR6_1 1) (mV6_1 1)) (mS6_1 1)) [] 15) 60000 ⟨3, tmM 6 1 true, [.code restN], [], false, none⟩ (h0 t0 t1 t3 t4 t5)) = true := by kernel_rfl
set_option maxRecDepth 100000 in
theorem kN6_1_2 (t0 t1 t3 t4 t5 : Nat) : chkM (callX (tabN.re (hkScr (mR6_1 2)) [] 15) 60000 6 (fixVs (sg 2) ta6_1 ++ [.int .i64 (.lit 5000)]) (h0 t0 t1 t3 t4 t5)) [] rn6_1_2_a [] = true := by kernel_rfl
set_option maxRecDepth 100000 in
theorem kL6_1_2 (t0 t1 t3 t4 t5 : Nat) : chkL (runX (tabN.re (hkAll mN6_1_2 (.two (mR6_1 2) (mV6_1 2)) (mS6_1 2)) [] 15) 60000 ⟨3, tmM 6 2 true, [.code restN], [], false, none⟩ (h0 t0 t1 t3 t4 t5)) = true := by kernel_rfl
set_option maxRecDepth 100000 in
theorem kN6_1_3 (t0 t1 t3 t4 t5 : Nat) : chkM (callX (tabN.re (hkScr (mR6_1 3)) [] 15) 60000 6 (fixVs (sg 3) ta6_1 ++ [.int .i64 (.lit 5000)]) (h0 t0 t1 t3 t4 t5)) [] rn6_1_3_a [] = true := by kernel_rfl
set_option maxRecDepth 100000 in
theorem kL6_1_3 (t0 t1 t3 t4 t5 : Nat) : chkL (runX (tabN.re (hkAll mN6_1_3 (.two (mR6_1 3) (mV6_1 3)) (mS6_1 3)) [] 15) 60000 ⟨3, tmM 6 3 true, [.code restN], [], false, none⟩ (h0 t0 t1 t3 t4 t5)) = true := by kernel_rfl
set_option maxRecDepth 100000 in
theorem kN6_1_4 (t0 t1 t3 t4 t5 : Nat) : chkM (callX (tabN.re (hkScr (mR6_1 4)) [] 15) 60000 6 (fixVs (sg 4) ta6_1 ++ [.int .i64 (.lit 5000)]) (h0 t0 t1 t3 t4 t5)) [] rn6_1_4_a [] = true := by kernel_rfl
set_option maxRecDepth 100000 in
theorem kL6_1_4 (t0 t1 t3 t4 t5 : Nat) : chkL (runX (tabN.re (hkAll mN6_1_4 (.two (mR6_1 4) (mV6_1 4)) (mS6_1 4)) [] 15) 60000 ⟨3, tmM 6 4 true, [.code restN], [], false, none⟩ (h0 t0 t1 t3 t4 t5)) = true := by kernel_rfl
set_option maxRecDepth 100000 in
theorem kN6_1_5 (t0 t1 t3 t4 t5 : Nat) : chkM (callX (tabN.re (hkScr (mR6_1 5)) [] 15) 60000 6 (fixVs (sg 5) ta6_1 ++ [.int .i64 (.lit 5000)]) (h0 t0 t1 t3 t4 t5)) [] rn6_1_5_a [] = true := by kernel_rfl
set_option maxRecDepth 100000 in
theorem kL6_1_5 (t0 t1 t3 t4 t5 : Nat) : chkL (runX (tabN.re (hkAll mN6_1_5 (.two (mR6_1 5) (mV6_1 5)) (mS6_1 5)) [] 15) 60000 ⟨3, tmM 6 5 true, [.code restN], [], false, none⟩ (h0 t0 t1 t3 t4 t5)) = true := by kernel_rfl

end Go.Proofs.YtednkkcmboahgaaGreatDoor

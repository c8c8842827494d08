/-
  FnNest: runs of Run, and of the law behind its first pieces (6 without). (Written by wip/tools/rf/mknest2.py.)
-/
import Derived.Test.YtednkkcmboahgaaGreatDoorRpI
namespace Go.Proofs.YtednkkcmboahgaaGreatDoor

set_option maxRecDepth 100000 in
theorem kN6_0_0 (t0 t1 t3 t4 t5 : Nat) : chkM (callX (tabN.re (hkScr (mR6_0 0)) [] 15) 60000 6 (fixVs (sg 0) ta6_0 ++ [.int .i64 (.lit 5000)]) (h0 t0 t1 t3 t4 t5)) [] rn6_0_0_a [] = true := by kernel_rfl
set_option maxRecDepth 100000 in
theorem kL6_0_0 (t0 t1 t3 t4 t5 : Nat) : chkL (runX (tabN.re (hkAll mN6_0_0 (.two (mR6_0 0) (mV6_0 0)) (mS6_0 0)) [] 15) 60000 ⟨3, tmM 6 0 false, [.code restN], [], false, none⟩ (h0 t0 t1 t3 t4 t5)) = true := by kernel_rfl
set_option maxRecDepth 100000 in
theorem kN6_0_1 (t0 t1 t3 t4 t5 : Nat) : chkM (callX (tabN.re (hkScr (mR6_0 1)) [] 15) 60000 6 (fixVs (sg 1) ta6_0 ++ [.int .i64 (.lit 5000)]) (h0 t0 t1 t3 t4 t5)) [] rn6_0_1_a [] = true := by kernel_rfl
set_option maxRecDepth 100000 in
theorem kL6_0_1 (t0 t1 t3 t4 t5 : Nat) : chkL (runX (tabN.re (hkAll mN6_0_1 (.two (mR6_0 1) (mV6_0 1)) (mS6_0 1)) [] 15) 60000 ⟨3, tmM 6 1 false, [.code restN], [], false, none⟩ (h0 t0 t1 t3 t4 t5)) = true := by kernel_rfl
set_option maxRecDepth 100000 in
theorem kN6_0_2 (t0 t1 t3 t4 t5 : Nat) : chkM (callX (tabN.re (hkScr (mR6_0 2)) [] 15) 60000 6 (fixVs (sg 2) ta6_0 ++ [.int .i64 (.lit 5000)]) (h0 t0 t1 t3 t4 t5)) [] rn6_0_2_a [] = true := by kernel_rfl
set_option maxRecDepth 100000 in
theorem kL6_0_2 (t0 t1 t3 t4 t5 : Nat) : chkL (runX (tabN.re (hkAll mN6_0_2 (.two (mR6_0 2) (mV6_0 2)) (mS6_0 2)) [] 15) 60000 ⟨3, tmM 6 2 false, [.code restN], [], false, none⟩ (h0 t0 t1 t3 t4 t5)) = true := by kernel_rfl
set_option maxRecDepth 100000 in
theorem kN6_0_3 (t0 t1 t3 t4 t5 : Nat) : chkM (callX (tabN.re (hkScr (mR6_0 3)) [] 15) 60000 6 (fixVs (sg 3) ta6_0 ++ [.int .i64 (.lit 5000)]) (h0 t0 t1 t3 t4 t5)) [] rn6_0_3_a [] = true := by kernel_rfl
set_option maxRecDepth 100000 in
theorem kL6_0_3 (t0 t1 t3 t4 t5 : Nat) : chkL (runX (tabN.re (hkAll mN6_0_3 (.two (mR6_0 3) (mV6_0 3)) (mS6_0 3)) [] 15) 60000 ⟨3, tmM 6 3 false, [.code restN], [], false, none⟩ (h0 t0 t1 t3 t4 t5)) = true := by kernel_rfl
set_option maxRecDepth 100000 in
theorem kN6_0_4 (t0 t1 t3 t4 t5 : Nat) : chkM (callX (tabN.re (hkScr (mR6_0 4)) [] 15) 60000 6 (fixVs (sg 4) ta6_0 ++ [.int .i64 (.lit 5000)]) (h0 t0 t1 t3 t4 t5)) [] rn6_0_4_a [] = true := by kernel_rfl
set_option maxRecDepth 100000 in
theorem kL6_0_4 (t0 t1 t3 t4 t5 : Nat) : chkL (runX (tabN.re (hkAll mN6_0_4 (.two (mR6_0 4) (mV6_0 4)) (mS6_0 4)) [] 15) 60000 ⟨3, tmM 6 4 false, [.code restN], [], false, none⟩ (h0 t0 t1 t3 t4 t5)) = true := by kernel_rfl
set_option maxRecDepth 100000 in
theorem kN6_0_5 (t0 t1 t3 t4 t5 : Nat) : chkM (callX (tabN.re (hkScr (mR6_0 5)) [] 15) 60000 6 (fixVs (sg 5) ta6_0 ++ [.int .i64 (.lit 5000)]) (h0 t0 t1 t3 t4 t5)) [] rn6_0_5_a [] = true := by kernel_rfl
set_option maxRecDepth 100000 in
theorem kL6_0_5 (t0 t1 t3 t4 t5 : Nat) : chkL (runX (tabN.re (hkAll mN6_0_5 (.two (mR6_0 5) (mV6_0 5)) (mS6_0 5)) [] 15) 60000 ⟨3, tmM 6 5 false, [.code restN], [], false, none⟩ (h0 t0 t1 t3 t4 t5)) = true := by kernel_rfl

end Go.Proofs.YtednkkcmboahgaaGreatDoor

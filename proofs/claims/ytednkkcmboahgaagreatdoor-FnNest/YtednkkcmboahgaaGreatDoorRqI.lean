/-
  FnNest: runs of Run, and of the law behind its first pieces (5 without). (Written by wip/tools/rf/mknest2.py.)
-/
import Derived.Test.YtednkkcmboahgaaGreatDoorRpI
namespace Go.Proofs.YtednkkcmboahgaaGreatDoor

set_option maxRecDepth 100000 in
theorem kN5_0_0 (t0 t1 t3 t4 t5 : Nat) : chkM (callX (tabN.re (hkScr (mR5_0 0)) [] 15) 60000 6 (fixVs (sg 0) ta5_0 ++ [.int .i64 (.lit 5000)]) (h0 t0 t1 t3 t4 t5)) [] rn5_0_0_a [] = true := by kernel_rfl
set_option maxRecDepth 100000 in
theorem kL5_0_0 (t0 t1 t3 t4 t5 : Nat) : chkL (runX (tabN.re (hkAll mN5_0_0 (.two (mR5_0 0) (mV5_0 0)) (mS5_0 0)) [] 15) 60000 ⟨3, tmM 5 0 false, [.code restN], [], false, none⟩ (h0 t0 t1 t3 t4 t5)) = true := by kernel_rfl
set_option maxRecDepth 100000 in
theorem kN5_0_1 (t0 t1 t3 t4 t5 : Nat) : chkM (callX (tabN.re (hkScr (mR5_0 1)) [] 15) 60000 6 (fixVs (sg 1) ta5_0 ++ [.int .i64 (.lit 5000)]) (h0 t0 t1 t3 t4 t5)) [] rn5_0_1_a [] = true := by kernel_rfl
set_option maxRecDepth 100000 in
theorem kL5_0_1 (t0 t1 t3 t4 t5 : Nat) : chkL (runX (tabN.re (hkAll mN5_0_1 (.two (mR5_0 1) (mV5_0 1)) (mS5_0 1)) [] 15) 60000 ⟨3, tmM 5 1 false, [.code restN], [], false, none⟩ (h0 t0 t1 t3 t4 t5)) = true := by kernel_rfl
set_option maxRecDepth 100000 in
theorem kN5_0_2 (t0 t1 t3 t4 t5 : Nat) : chkM (callX (tabN.re (hkScr (mR5_0 2)) [] 15) 60000 6 (fixVs (sg 2) ta5_0 ++ [.int .i64 (.lit 5000)]) (h0 t0 t1 t3 t4 t5)) [] rn5_0_2_a [] = true := by kernel_rfl
set_option maxRecDepth 100000 in
theorem kL5_0_2 (t0 t1 t3 t4 t5 : Nat) : chkL (runX (tabN.re (hkAll mN5_0_2 (.two (mR5_0 2) (mV5_0 2)) (mS5_0 2)) [] 15) 60000 ⟨3, tmM 5 2 false, [.code restN], [], false, none⟩ (h0 t0 t1 t3 t4 t5)) = true := by kernel_rfl
set_option maxRecDepth 100000 in
theorem kN5_0_3 (t0 t1 t3 t4 t5 : Nat) : chkM (callX (tabN.re (hkScr (mR5_0 3)) [] 15) 60000 6 (fixVs (sg 3) ta5_0 ++ [.int .i64 (.lit 5000)]) (h0 t0 t1 t3 t4 t5)) [] rn5_0_3_a [] = true := by kernel_rfl
set_option maxRecDepth 100000 in
theorem kL5_0_3 (t0 t1 t3 t4 t5 : Nat) : chkL (runX (tabN.re (hkAll mN5_0_3 (.two (mR5_0 3) (mV5_0 3)) (mS5_0 3)) [] 15) 60000 ⟨3, tmM 5 3 false, [.code restN], [], false, none⟩ (h0 t0 t1 t3 t4 t5)) = true := by kernel_rfl
set_option maxRecDepth 100000 in
theorem kN5_0_4 (t0 t1 t3 t4 t5 : Nat) : chkM (callX (tabN.re (hkScr (mR5_0 4)) [] 15) 60000 6 (fixVs (sg 4) ta5_0 ++ [.int .i64 (.lit 5000)]) (h0 t0 t1 t3 t4 t5)) [] rn5_0_4_a [] = true := by kernel_rfl
set_option maxRecDepth 100000 in
theorem kL5_0_4 (t0 t1 t3 t4 t5 : Nat) : chkL (runX (tabN.re (hkAll mN5_0_4 (.two (mR5_0 4) (mV5_0 4)) (mS5_0 4)) [] 15) 60000 ⟨3, tmM 5 4 false, [.code restN], [], false, none⟩ (h0 t0 t1 t3 t4 t5)) = true := by kernel_rfl

end Go.Proofs.YtednkkcmboahgaaGreatDoor

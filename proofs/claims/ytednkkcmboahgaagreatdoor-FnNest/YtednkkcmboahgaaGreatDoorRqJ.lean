/-
  FnNest: runs of Run, and of the law behind its first pieces (5 with). (Written by wip/tools/rf/mknest2.py.)
-/
import Derived.Test.YtednkkcmboahgaaGreatDoorRpI
namespace Go.Proofs.YtednkkcmboahgaaGreatDoor

set_option maxRecDepth 100000 in
theorem kN5_1_0 (t0 t1 t3 t4 t5 : Nat) : chkM (callX (tabN.re (hkScr (mR5_1 0)) [] 15) 60000 6 (fixVs (sg 0) ta5_1 ++ [.int .i64 (.lit 5000)]) (h0 t0 t1 t3 t4 t5)) [] rn5_1_0_a [] = true := by kernel_rfl
set_option maxRecDepth 100000 in
theorem kL5_1_0 (t0 t1 t3 t4 t5 : Nat) : chkL (runX (tabN.re (hkAll mN5_1_0 (.two (mR5_1 0) (mV5_1 0)) (mS5_1 0)) [] 15) 60000 ⟨3, tmM 5 0 true, [.code restN], [], false, none⟩ (h0 t0 t1 t3 t4 t5)) = true := by kernel_rfl
set_option maxRecDepth 100000 in
theorem kN5_1_1 (t0 t1 t3 t4 t5 : Nat) : chkM (callX (tabN.re (hkScr (mR5_1 1)) [] 15) 60000 6 (fixVs (sg 1) ta5_1 ++ [.int .i64 (.lit 5000)]) (h0 t0 t1 t3 t4 t5)) [] rn5_1_1_a [] = true := by kernel_rfl
set_option maxRecDepth 100000 in
theorem kL5_1_1 (t0 t1 t3 t4 t5 : Nat) : chkL (runX (tabN.re (hkAll mN5_1_1 (.two (mR5_1 1) (mV5_1 1)) (mS5_1 1)) [] 15) 60000 ⟨3, tmM 5 1 true, [.code restN], [], false, none⟩ (h0 t0 t1 t3 t4 t5)) = true := by kernel_rfl
set_option maxRecDepth 100000 in
theorem kN5_1_2 (t0 t1 t3 t4 t5 : Nat) : chkM (callX (tabN.re (hkScr (mR5_1 2)) [] 15) 60000 6 (fixVs (sg 2) ta5_1 ++ [.int .i64 (.lit 5000)]) (h0 t0 t1 t3 t4 t5)) [] rn5_1_2_a [] = true := by kernel_rfl
set_option maxRecDepth 100000 in
theorem kL5_1_2 (t0 t1 t3 t4 t5 : Nat) : chkL (runX (tabN.re (hkAll mN5_1_2 (.two (mR5_1 2) (mV5_1 2)) (mS5_1 2)) [] 15) 60000 ⟨3, tmM 5 2 true, [.code restN], [], false, none⟩ (h0 t0 t1 t3 t4 t5)) = true := by kernel_rfl
set_option maxRecDepth 100000 in
theorem kN5_1_3 (t0 t1 t3 t4 t5 : Nat) : chkM (callX (tabN.re (hkScr (mR5_1 3)) [] 15) 60000 6 (fixVs (sg 3) ta5_1 ++ [.int .i64 (.lit 5000)]) (h0 t0 t1 t3 t4 t5)) [] rn5_1_3_a [] = true := by kernel_rfl
set_option maxRecDepth 100000 in
theorem kL5_1_3 (t0 t1 t3 t4 t5 : Nat) : chkL (runX (tabN.re (hkAll mN5_1_3 (.two (mR5_1 3) (mV5_1 3)) (mS5_1 3)) [] 15) 60000 ⟨3, tmM 5 3 true, [.code restN], [], false, none⟩ (h0 t0 t1 t3 t4 t5)) = true := by kernel_rfl
set_option maxRecDepth 100000 in
theorem kN5_1_4 (t0 t1 t3 t4 t5 : Nat) : chkM (callX (tabN.re (hkScr (mR5_1 4)) [] 15) 60000 6 (fixVs (sg 4) ta5_1 ++ [.int .i64 (.lit 5000)]) (h0 t0 t1 t3 t4 t5)) [] rn5_1_4_a [] = true := by kernel_rfl
set_option maxRecDepth 100000 in
theorem kL5_1_4 (t0 t1 t3 t4 t5 : Nat) : chkL (runX (tabN.re (hkAll mN5_1_4 (.two (mR5_1 4) (mV5_1 4)) (mS5_1 4)) [] 15) 60000 ⟨3, tmM 5 4 true, [.code restN], [], false, none⟩ (h0 t0 t1 t3 t4 t5)) = true := by kernel_rfl

end Go.Proofs.YtednkkcmboahgaaGreatDoor

/-
  FnNest: runs of Tokens, ScriptRead and Show, the digit left open (1 without, 1 with, 2 without, 2 with, 3 without, 3 with). (Written by wip/tools/rf/mknest2.py.)
-/
import Derived.Test.YtednkkcmboahgaaGreatDoorRpH
namespace Go.Proofs.YtednkkcmboahgaaGreatDoor

set_option maxRecDepth 100000 in
theorem kT1_0 (t0 t1 t3 t4 t5 : Nat) : chkM (callX (tabN.re .leaf bd1 15) 60000 25 ta1_0 (h0 t0 t1 t3 t4 t5)) tk1_0_n tk1_0_a tk1_0_b = true := by kernel_rfl
set_option maxRecDepth 100000 in
theorem kU1_0 (t0 t1 t3 t4 t5 : Nat) : chkM (callX (tabN.re .leaf bd1 15) 60000 25 ua1_0 (h0 t0 t1 t3 t4 t5)) uk1_0_n uk1_0_a uk1_0_b = true := by kernel_rfl
set_option maxRecDepth 100000 in
theorem kR1_0 (t0 t1 t3 t4 t5 : Nat) : chkM (callX (tabN.re (hkTok mT1_0) bd1 15) 60000 7 ta1_0 (h0 t0 t1 t3 t4 t5)) sr1_0_n sr1_0_a sr1_0_b = true := by kernel_rfl
set_option maxRecDepth 100000 in
theorem kW1_0 (t0 t1 t3 t4 t5 : Nat) : chkM (callX (tabN.re (hkTok mU1_0) bd1 15) 60000 7 ua1_0 (h0 t0 t1 t3 t4 t5)) ur1_0_n ur1_0_a ur1_0_b = true := by kernel_rfl
set_option maxRecDepth 100000 in
theorem kS1_0 (t0 t1 t3 t4 t5 : Nat) : chkR (callX (tabN.re (hkScr mW1_0) bd1 22) 60000 13 (instVs (fun i => 15 + i) (nodeOf sr1_0_a)) (layL (fun i => 15 + i) sr1_0_b (h0 t0 t1 t3 t4 t5))) (.str 44 u1_0) = true := by kernel_rfl
set_option maxRecDepth 100000 in
theorem kT1_1 (t0 t1 t3 t4 t5 : Nat) : chkM (callX (tabN.re .leaf bd1 15) 60000 25 ta1_1 (h0 t0 t1 t3 t4 t5)) tk1_1_n tk1_1_a tk1_1_b = true := by kernel_rfl
set_option maxRecDepth 100000 in
theorem kU1_1 (t0 t1 t3 t4 t5 : Nat) : chkM (callX (tabN.re .leaf bd1 15) 60000 25 ua1_1 (h0 t0 t1 t3 t4 t5)) uk1_1_n uk1_1_a uk1_1_b = true := by kernel_rfl
set_option maxRecDepth 100000 in
theorem kR1_1 (t0 t1 t3 t4 t5 : Nat) : chkM (callX (tabN.re (hkTok mT1_1) bd1 15) 60000 7 ta1_1 (h0 t0 t1 t3 t4 t5)) sr1_1_n sr1_1_a sr1_1_b = true := by kernel_rfl
set_option maxRecDepth 100000 in
theorem kW1_1 (t0 t1 t3 t4 t5 : Nat) : chkM (callX (tabN.re (hkTok mU1_1) bd1 15) 60000 7 ua1_1 (h0 t0 t1 t3 t4 t5)) ur1_1_n ur1_1_a ur1_1_b = true := by kernel_rfl
set_option maxRecDepth 100000 in
theorem kS1_1 (t0 t1 t3 t4 t5 : Nat) : chkR (callX (tabN.re (hkScr mW1_1) bd1 28) 60000 13 (instVs (fun i => 15 + i) (nodeOf sr1_1_a)) (layL (fun i => 15 + i) sr1_1_b (h0 t0 t1 t3 t4 t5))) (.str 76 u1_1) = true := by kernel_rfl
set_option maxRecDepth 100000 in
theorem kT2_0 (t0 t1 t3 t4 t5 : Nat) : chkM (callX (tabN.re .leaf bd2 15) 60000 25 ta2_0 (h0 t0 t1 t3 t4 t5)) tk2_0_n tk2_0_a tk2_0_b = true := by kernel_rfl
set_option maxRecDepth 100000 in
theorem kU2_0 (t0 t1 t3 t4 t5 : Nat) : chkM (callX (tabN.re .leaf bd2 15) 60000 25 ua2_0 (h0 t0 t1 t3 t4 t5)) uk2_0_n uk2_0_a uk2_0_b = true := by kernel_rfl
set_option maxRecDepth 100000 in
theorem kR2_0 (t0 t1 t3 t4 t5 : Nat) : chkM (callX (tabN.re (hkTok mT2_0) bd2 15) 60000 7 ta2_0 (h0 t0 t1 t3 t4 t5)) sr2_0_n sr2_0_a sr2_0_b = true := by kernel_rfl
set_option maxRecDepth 100000 in
theorem kW2_0 (t0 t1 t3 t4 t5 : Nat) : chkM (callX (tabN.re (hkTok mU2_0) bd2 15) 60000 7 ua2_0 (h0 t0 t1 t3 t4 t5)) ur2_0_n ur2_0_a ur2_0_b = true := by kernel_rfl
set_option maxRecDepth 100000 in
theorem kS2_0 (t0 t1 t3 t4 t5 : Nat) : chkR (callX (tabN.re (hkScr mW2_0) bd2 27) 60000 13 (instVs (fun i => 15 + i) (nodeOf sr2_0_a)) (layL (fun i => 15 + i) sr2_0_b (h0 t0 t1 t3 t4 t5))) (.str 84 u2_0) = true := by kernel_rfl
set_option maxRecDepth 100000 in
theorem kT2_1 (t0 t1 t3 t4 t5 : Nat) : chkM (callX (tabN.re .leaf bd2 15) 60000 25 ta2_1 (h0 t0 t1 t3 t4 t5)) tk2_1_n tk2_1_a tk2_1_b = true := by kernel_rfl
set_option maxRecDepth 100000 in
theorem kU2_1 (t0 t1 t3 t4 t5 : Nat) : chkM (callX (tabN.re .leaf bd2 15) 60000 25 ua2_1 (h0 t0 t1 t3 t4 t5)) uk2_1_n uk2_1_a uk2_1_b = true := by kernel_rfl
set_option maxRecDepth 100000 in
theorem kR2_1 (t0 t1 t3 t4 t5 : Nat) : chkM (callX (tabN.re (hkTok mT2_1) bd2 15) 60000 7 ta2_1 (h0 t0 t1 t3 t4 t5)) sr2_1_n sr2_1_a sr2_1_b = true := by kernel_rfl
set_option maxRecDepth 100000 in
theorem kW2_1 (t0 t1 t3 t4 t5 : Nat) : chkM (callX (tabN.re (hkTok mU2_1) bd2 15) 60000 7 ua2_1 (h0 t0 t1 t3 t4 t5)) ur2_1_n ur2_1_a ur2_1_b = true := by kernel_rfl
set_option maxRecDepth 100000 in
theorem kS2_1 (t0 t1 t3 t4 t5 : Nat) : chkR (callX (tabN.re (hkScr mW2_1) bd2 33) 60000 13 (instVs (fun i => 15 + i) (nodeOf sr2_1_a)) (layL (fun i => 15 + i) sr2_1_b (h0 t0 t1 t3 t4 t5))) (.str 116 u2_1) = true := by kernel_rfl
set_option maxRecDepth 100000 in
theorem kT3_0 (t0 t1 t3 t4 t5 : Nat) : chkM (callX (tabN.re .leaf bd3 15) 60000 25 ta3_0 (h0 t0 t1 t3 t4 t5)) tk3_0_n tk3_0_a tk3_0_b = true := by kernel_rfl
set_option maxRecDepth 100000 in
theorem kU3_0 (t0 t1 t3 t4 t5 : Nat) : chkM (callX (tabN.re .leaf bd3 15) 60000 25 ua3_0 (h0 t0 t1 t3 t4 t5)) uk3_0_n uk3_0_a uk3_0_b = true := by kernel_rfl
set_option maxRecDepth 100000 in
theorem kR3_0 (t0 t1 t3 t4 t5 : Nat) : chkM (callX (tabN.re (hkTok mT3_0) bd3 15) 60000 7 ta3_0 (h0 t0 t1 t3 t4 t5)) sr3_0_n sr3_0_a sr3_0_b = true := by kernel_rfl
set_option maxRecDepth 100000 in
theorem kW3_0 (t0 t1 t3 t4 t5 : Nat) : chkM (callX (tabN.re (hkTok mU3_0) bd3 15) 60000 7 ua3_0 (h0 t0 t1 t3 t4 t5)) ur3_0_n ur3_0_a ur3_0_b = true := by kernel_rfl
set_option maxRecDepth 100000 in
theorem kS3_0 (t0 t1 t3 t4 t5 : Nat) : chkR (callX (tabN.re (hkScr mW3_0) bd3 32) 60000 13 (instVs (fun i => 15 + i) (nodeOf sr3_0_a)) (layL (fun i => 15 + i) sr3_0_b (h0 t0 t1 t3 t4 t5))) (.str 124 u3_0) = true := by kernel_rfl
set_option maxRecDepth 100000 in
theorem kT3_1 (t0 t1 t3 t4 t5 : Nat) : chkM (callX (tabN.re .leaf bd3 15) 60000 25 ta3_1 (h0 t0 t1 t3 t4 t5)) tk3_1_n tk3_1_a tk3_1_b = true := by kernel_rfl
set_option maxRecDepth 100000 in
theorem kU3_1 (t0 t1 t3 t4 t5 : Nat) : chkM (callX (tabN.re .leaf bd3 15) 60000 25 ua3_1 (h0 t0 t1 t3 t4 t5)) uk3_1_n uk3_1_a uk3_1_b = true := by kernel_rfl
set_option maxRecDepth 100000 in
theorem kR3_1 (t0 t1 t3 t4 t5 : Nat) : chkM (callX (tabN.re (hkTok mT3_1) bd3 15) 60000 7 ta3_1 (h0 t0 t1 t3 t4 t5)) sr3_1_n sr3_1_a sr3_1_b = true := by kernel_rfl
set_option maxRecDepth 100000 in
theorem kW3_1 (t0 t1 t3 t4 t5 : Nat) : chkM (callX (tabN.re (hkTok mU3_1) bd3 15) 60000 7 ua3_1 (h0 t0 t1 t3 t4 t5)) ur3_1_n ur3_1_a ur3_1_b = true := by kernel_rfl
set_option maxRecDepth 100000 in
theorem kS3_1 (t0 t1 t3 t4 t5 : Nat) : chkR (callX (tabN.re (hkScr mW3_1) bd3 38) 60000 13 (instVs (fun i => 15 + i) (nodeOf sr3_1_a)) (layL (fun i => 15 + i) sr3_1_b (h0 t0 t1 t3 t4 t5))) (.str 156 u3_1) = true := by kernel_rfl

end Go.Proofs.YtednkkcmboahgaaGreatDoor

/-
  FnNest: runs of Tokens, ScriptRead and Show, the digit left open (5 with). (Written by wip/tools/rf/mknest2.py.)
-/
import Derived.Test.YtednkkcmboahgaaGreatDoorRpH
namespace Go.Proofs.YtednkkcmboahgaaGreatDoor

set_option maxRecDepth 100000 in
theorem kT5_1 (t0 t1 t3 t4 t5 : Nat) : chkM (callX (tabN.re .leaf bd5 15) 60000 25 ta5_1 (h0 t0 t1 t3 t4 t5)) tk5_1_n tk5_1_a tk5_1_b = true := by kernel_rfl
set_option maxRecDepth 100000 in
theorem kU5_1 (t0 t1 t3 t4 t5 : Nat) : chkM (callX (tabN.re .leaf bd5 15) 60000 25 ua5_1 (h0 t0 t1 t3 t4 t5)) uk5_1_n uk5_1_a uk5_1_b = true := by kernel_rfl
set_option maxRecDepth 100000 in
theorem kR5_1 (t0 t1 t3 t4 t5 : Nat) : chkM (callX (tabN.re (hkTok mT5_1) bd5 15) 60000 7 ta5_1 (h0 t0 t1 t3 t4 t5)) sr5_1_n sr5_1_a sr5_1_b = true := by kernel_rfl
set_option maxRecDepth 100000 in
theorem kW5_1 (t0 t1 t3 t4 t5 : Nat) : chkM (callX (tabN.re (hkTok mU5_1) bd5 15) 60000 7 ua5_1 (h0 t0 t1 t3 t4 t5)) ur5_1_n ur5_1_a ur5_1_b = true := by kernel_rfl
set_option maxRecDepth 100000 in
theorem kS5_1 (t0 t1 t3 t4 t5 : Nat) : chkR (callX (tabN.re (hkScr mW5_1) bd5 48) 60000 13 (instVs (fun i => 15 + i) (nodeOf sr5_1_a)) (layL (fun i => 15 + i) sr5_1_b (h0 t0 t1 t3 t4 t5))) (.str 236 u5_1) = true := by kernel_rfl

end Go.Proofs.YtednkkcmboahgaaGreatDoor

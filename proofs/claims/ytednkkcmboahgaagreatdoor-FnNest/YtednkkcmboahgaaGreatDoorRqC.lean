/-
  FnNest: runs of Tokens, ScriptRead and Show, the digit left open (5 without). (Written by wip/tools/rf/mknest2.py.)
-/
import Derived.Test.YtednkkcmboahgaaGreatDoorRpH
namespace Go.Proofs.YtednkkcmboahgaaGreatDoor

set_option maxRecDepth 100000 in
theorem kT5_0 (t0 t1 t3 t4 t5 : Nat) : chkM (callX (tabN.re .leaf bd5 15) 60000 25 ta5_0 (h0 t0 t1 t3 t4 t5)) tk5_0_n tk5_0_a tk5_0_b = true := by kernel_rfl
set_option maxRecDepth 100000 in
theorem kU5_0 (t0 t1 t3 t4 t5 : Nat) : chkM (callX (tabN.re .leaf bd5 15) 60000 25 ua5_0 (h0 t0 t1 t3 t4 t5)) uk5_0_n uk5_0_a uk5_0_b = true := by kernel_rfl
set_option maxRecDepth 100000 in
theorem kR5_0 (t0 t1 t3 t4 t5 : Nat) : chkM (callX (tabN.re (hkTok mT5_0) bd5 15) 60000 7 ta5_0 (h0 t0 t1 t3 t4 t5)) sr5_0_n sr5_0_a sr5_0_b = true := by kernel_rfl
set_option maxRecDepth 100000 in
theorem kW5_0 (t0 t1 t3 t4 t5 : Nat) : chkM (callX (tabN.re (hkTok mU5_0) bd5 15) 60000 7 ua5_0 (h0 t0 t1 t3 t4 t5)) ur5_0_n ur5_0_a ur5_0_b = true := by kernel_rfl
set_option maxRecDepth 100000 in
theorem kS5_0 (t0 t1 t3 t4 t5 : Nat) : chkR (callX (tabN.re (hkScr mW5_0) bd5 42) 60000 13 (instVs (fun i => 15 + i) (nodeOf sr5_0_a)) (layL (fun i => 15 + i) sr5_0_b (h0 t0 t1 t3 t4 t5))) (.str 204 u5_0) = true := by kernel_rfl

end Go.Proofs.YtednkkcmboahgaaGreatDoor

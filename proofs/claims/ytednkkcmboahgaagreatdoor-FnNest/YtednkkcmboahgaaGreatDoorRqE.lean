/-
  FnNest: runs of Tokens, ScriptRead and Show, the digit left open (6 without). (Written by wip/tools/rf/mknest2.py.)
-/
import Derived.Test.YtednkkcmboahgaaGreatDoorRpH
namespace Go.Proofs.YtednkkcmboahgaaGreatDoor

set_option maxRecDepth 100000 in
theorem kT6_0 (t0 t1 t3 t4 t5 : Nat) : chkM (callX (tabN.re .leaf bd6 15) 60000 25 ta6_0 (h0 t0 t1 t3 t4 t5)) tk6_0_n tk6_0_a tk6_0_b = true := by kernel_rfl
set_option maxRecDepth 100000 in
theorem kU6_0 (t0 t1 t3 t4 t5 : Nat) : chkM (callX (tabN.re .leaf bd6 15) 60000 25 ua6_0 (h0 t0 t1 t3 t4 t5)) uk6_0_n uk6_0_a uk6_0_b = true := by kernel_rfl
set_option maxRecDepth 100000 in
theorem kR6_0 (t0 t1 t3 t4 t5 : Nat) : chkM (callX (tabN.re (hkTok mT6_0) bd6 15) 60000 7 ta6_0 (h0 t0 t1 t3 t4 t5)) sr6_0_n sr6_0_a sr6_0_b = true := by kernel_rfl
set_option maxRecDepth 100000 in
theorem kW6_0 (t0 t1 t3 t4 t5 : Nat) : chkM (callX (tabN.re (hkTok mU6_0) bd6 15) 60000 7 ua6_0 (h0 t0 t1 t3 t4 t5)) ur6_0_n ur6_0_a ur6_0_b = true := by kernel_rfl
set_option maxRecDepth 100000 in
theorem kS6_0 (t0 t1 t3 t4 t5 : Nat) : chkR (callX (tabN.re (hkScr mW6_0) bd6 47) 60000 13 (instVs (fun i => 15 + i) (nodeOf sr6_0_a)) (layL (fun i => 15 + i) sr6_0_b (h0 t0 t1 t3 t4 t5))) (.str 244 u6_0) = true := by kernel_rfl

end Go.Proofs.YtednkkcmboahgaaGreatDoor

/-
  FnNest: runs of Tokens, ScriptRead and Show, the digit left open (6 with). (Written by wip/tools/rf/mknest2.py.)
-/
import Derived.Test.YtednkkcmboahgaaGreatDoorRpH
namespace Go.Proofs.YtednkkcmboahgaaGreatDoor

set_option maxRecDepth 100000 in
theorem kT6_1 (t0 t1 t3 t4 t5 : Nat) : chkM (callX (tabN.re .leaf bd6 15) 60000 25 ta6_1 (h0 t0 t1 t3 t4 t5)) tk6_1_n tk6_1_a tk6_1_b = true := by kernel_rfl
set_option maxRecDepth 100000 in
theorem kU6_1 (t0 t1 t3 t4 t5 : Nat) : chkM (callX (tabN.re .leaf bd6 15) 60000 25 ua6_1 (h0 t0 t1 t3 t4 t5)) uk6_1_n uk6_1_a uk6_1_b = true := by kernel_rfl
set_option maxRecDepth 100000 in
theorem kR6_1 (t0 t1 t3 t4 t5 : Nat) : chkM (callX (tabN.re (hkTok mT6_1) bd6 15) 60000 7 ta6_1 (h0 t0 t1 t3 t4 t5)) sr6_1_n sr6_1_a sr6_1_b = true := by kernel_rfl
set_option maxRecDepth 100000 in
theorem kW6_1 (t0 t1 t3 t4 t5 : Nat) : chkM (callX (tabN.re (hkTok mU6_1) bd6 15) 60000 7 ua6_1 (h0 t0 t1 t3 t4 t5)) ur6_1_n ur6_1_a ur6_1_b = true := by kernel_rfl
set_option maxRecDepth 100000 in
theorem kS6_1 (t0 t1 t3 t4 t5 : Nat) : chkR (callX (tabN.re (hkScr mW6_1) bd6 53) 60000 13 (instVs (fun i => 15 + i) (nodeOf sr6_1_a)) (layL (fun i => 15 + i) sr6_1_b (h0 t0 t1 t3 t4 t5))) (.str 276 u6_1) = true := by kernel_rfl

end Go.Proofs.YtednkkcmboahgaaGreatDoor

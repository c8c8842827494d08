/-
  FnNest: runs of Tokens, ScriptRead and Show, the digit left open (4 without, 4 with). (Written by wip/tools/rf/mknest2.py.)
-/
import Derived.Test.YtednkkcmboahgaaGreatDoorRpH
namespace Go.Proofs.YtednkkcmboahgaaGreatDoor

set_option maxRecDepth 100000 in
theorem kT4_0 (t0 t1 t3 t4 t5 : Nat) : chkM (callX (tabN.re .leaf bd4 15) 60000 25 ta4_0 (h0 t0 t1 t3 t4 t5)) tk4_0_n tk4_0_a tk4_0_b = true := by kernel_rfl
set_option maxRecDepth 100000 in
theorem kU4_0 (t0 t1 t3 t4 t5 : Nat) : chkM (callX (tabN.re .leaf bd4 15) 60000 25 ua4_0 (h0 t0 t1 t3 t4 t5)) uk4_0_n uk4_0_a uk4_0_b = true := by kernel_rfl
set_option maxRecDepth 100000 in
theorem kR4_0 (t0 t1 t3 t4 t5 : Nat) : chkM (callX (tabN.re (hkTok mT4_0) bd4 15) 60000 7 ta4_0 (h0 t0 t1 t3 t4 t5)) sr4_0_n sr4_0_a sr4_0_b = true := by kernel_rfl
set_option maxRecDepth 100000 in
theorem kW4_0 (t0 t1 t3 t4 t5 : Nat) : chkM (callX (tabN.re (hkTok mU4_0) bd4 15) 60000 7 ua4_0 (h0 t0 t1 t3 t4 t5)) ur4_0_n ur4_0_a ur4_0_b = true := by kernel_rfl
set_option maxRecDepth 100000 in
theorem kS4_0 (t0 t1 t3 t4 t5 : Nat) : chkR (callX (tabN.re (hkScr mW4_0) bd4 37) 60000 13 (instVs (fun i => 15 + i) (nodeOf sr4_0_a)) (layL (fun i => 15 + i) sr4_0_b (h0 t0 t1 t3 t4 t5))) (.str 164 u4_0) = true := by kernel_rfl
set_option maxRecDepth 100000 in
theorem kT4_1 (t0 t1 t3 t4 t5 : Nat) : chkM (callX (tabN.re .leaf bd4 15) 60000 25 ta4_1 (h0 t0 t1 t3 t4 t5)) tk4_1_n tk4_1_a tk4_1_b = true := by kernel_rfl
set_option maxRecDepth 100000 in
theorem kU4_1 (t0 t1 t3 t4 t5 : Nat) : chkM (callX (tabN.re .leaf bd4 15) 60000 25 ua4_1 (h0 t0 t1 t3 t4 t5)) uk4_1_n uk4_1_a uk4_1_b = true := by kernel_rfl
set_option maxRecDepth 100000 in
theorem kR4_1 (t0 t1 t3 t4 t5 : Nat) : chkM (callX (tabN.re (hkTok mT4_1) bd4 15) 60000 7 ta4_1 (h0 t0 t1 t3 t4 t5)) sr4_1_n sr4_1_a sr4_1_b = true := by kernel_rfl
set_option maxRecDepth 100000 in
theorem kW4_1 (t0 t1 t3 t4 t5 : Nat) : chkM (callX (tabN.re (hkTok mU4_1) bd4 15) 60000 7 ua4_1 (h0 t0 t1 t3 t4 t5)) ur4_1_n ur4_1_a ur4_1_b = true := by kernel_rfl
set_option maxRecDepth 100000 in
theorem kS4_1 (t0 t1 t3 t4 t5 : Nat) : chkR (callX (tabN.re (hkScr mW4_1) bd4 43) 60000 13 (instVs (fun i => 15 + i) (nodeOf sr4_1_a)) (layL (fun i => 15 + i) sr4_1_b (h0 t0 t1 t3 t4 t5))) (.str 196 u4_1) = true := by kernel_rfl

end Go.Proofs.YtednkkcmboahgaaGreatDoor

/-
  FnModes: texts that are run by the kernel. (Written by wip/tools/rf/mkmodes.py.)
-/
import Derived.Test.YtjdabnpfinlefaaGreatDoorRmA
import Derived.KernelRfl
namespace Go.Proofs.YtjdabnpfinlefaaGreatDoor

set_option maxRecDepth 1000000
theorem k_firstL1 : Says b_firstL1 t_firstL1 v_firstL1 := fun t0 t1 t3 t4 t5 => by kernel_rfl
theorem k_backL1 : Says b_backL1 t_backL1 v_backL1 := fun t0 t1 t3 t4 t5 => by kernel_rfl
theorem k_goneL1 : Says b_goneL1 t_goneL1 v_goneL1 := fun t0 t1 t3 t4 t5 => by kernel_rfl

end Go.Proofs.YtjdabnpfinlefaaGreatDoor

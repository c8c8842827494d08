/-
  FnModes: texts that are run by the kernel. (Written by wip/tools/rf/mkmodes.py.)
-/
import Derived.Test.YtjdabnpfinlefaaGreatDoorRmA
import Derived.KernelRfl
namespace Go.Proofs.YtjdabnpfinlefaaGreatDoor

set_option maxRecDepth 1000000
theorem k_firstL2 : Says b_firstL2 t_firstL2 v_firstL2 := fun t0 t1 t3 t4 t5 => by kernel_rfl
theorem k_backL2 : Says b_backL2 t_backL2 v_backL2 := fun t0 t1 t3 t4 t5 => by kernel_rfl
theorem k_goneL2 : Says b_goneL2 t_goneL2 v_goneL2 := fun t0 t1 t3 t4 t5 => by kernel_rfl

end Go.Proofs.YtjdabnpfinlefaaGreatDoor

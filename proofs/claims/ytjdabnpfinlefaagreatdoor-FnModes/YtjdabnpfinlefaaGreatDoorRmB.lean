/-
  FnModes: texts that are run by the kernel. (Written by wip/tools/rf/mkmodes.py.)
-/
import Derived.Test.YtjdabnpfinlefaaGreatDoorRmA
import Derived.KernelRfl
namespace Go.Proofs.YtjdabnpfinlefaaGreatDoor

set_option maxRecDepth 1000000
theorem k_firstL0 : Says b_firstL0 t_firstL0 v_firstL0 := fun t0 t1 t3 t4 t5 => by kernel_rfl
theorem k_backL0 : Says b_backL0 t_backL0 v_backL0 := fun t0 t1 t3 t4 t5 => by kernel_rfl
theorem k_goneL0 : Says b_goneL0 t_goneL0 v_goneL0 := fun t0 t1 t3 t4 t5 => by kernel_rfl

end Go.Proofs.YtjdabnpfinlefaaGreatDoor

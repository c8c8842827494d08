/-
  FnModes: texts that are run by the kernel. (Written by wip/tools/rf/mkmodes.py.)
-/
import Derived.Test.YtjdabnpfinlefaaGreatDoorRmA
import Derived.KernelRfl
namespace Go.Proofs.YtjdabnpfinlefaaGreatDoor

set_option maxRecDepth 1000000
theorem k_firstS1 : Says b_firstS1 t_firstS1 v_firstS1 := fun t0 t1 t3 t4 t5 => by kernel_rfl
theorem k_backS1 : Says b_backS1 t_backS1 v_backS1 := fun t0 t1 t3 t4 t5 => by kernel_rfl
theorem k_goneS1 : Says b_goneS1 t_goneS1 v_goneS1 := fun t0 t1 t3 t4 t5 => by kernel_rfl

end Go.Proofs.YtjdabnpfinlefaaGreatDoor

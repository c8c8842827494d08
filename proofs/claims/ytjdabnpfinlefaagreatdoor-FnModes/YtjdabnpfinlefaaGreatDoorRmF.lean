/-
  FnModes: texts that are run by the kernel. (Written by wip/tools/rf/mkmodes.py.)
-/
import Derived.Test.YtjdabnpfinlefaaGreatDoorRmA
import Derived.KernelRfl
namespace Go.Proofs.YtjdabnpfinlefaaGreatDoor

set_option maxRecDepth 1000000
theorem k_firstS0 : Says b_firstS0 t_firstS0 v_firstS0 := fun t0 t1 t3 t4 t5 => by kernel_rfl
theorem k_backS0 : Says b_backS0 t_backS0 v_backS0 := fun t0 t1 t3 t4 t5 => by kernel_rfl
theorem k_goneS0 : Says b_goneS0 t_goneS0 v_goneS0 := fun t0 t1 t3 t4 t5 => by kernel_rfl

end Go.Proofs.YtjdabnpfinlefaaGreatDoor

/-
  FnModes: texts that are run by the kernel. (Written by wip/tools/rf/mkmodes.py.)
-/
import Derived.Test.YtjdabnpfinlefaaGreatDoorRmA
import Derived.KernelRfl
namespace Go.Proofs.YtjdabnpfinlefaaGreatDoor

set_option maxRecDepth 1000000
theorem k_firstS2 : Says b_firstS2 t_firstS2 v_firstS2 := fun t0 t1 t3 t4 t5 => by kernel_rfl
theorem k_backS2 : Says b_backS2 t_backS2 v_backS2 := fun t0 t1 t3 t4 t5 => by kernel_rfl
theorem k_goneS2 : Says b_goneS2 t_goneS2 v_goneS2 := fun t0 t1 t3 t4 t5 => by kernel_rfl

end Go.Proofs.YtjdabnpfinlefaaGreatDoor

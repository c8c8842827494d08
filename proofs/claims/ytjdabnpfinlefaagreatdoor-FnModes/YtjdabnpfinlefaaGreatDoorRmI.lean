/-
  FnModes: texts that are run by the kernel. (Written by wip/tools/rf/mkmodes.py.)
-/
import Derived.Test.YtjdabnpfinlefaaGreatDoorRmA
import Derived.KernelRfl
namespace Go.Proofs.YtjdabnpfinlefaaGreatDoor

set_option maxRecDepth 1000000
theorem k_bringsS : Says b_bringsS t_bringsS v_bringsS := fun t0 t1 t3 t4 t5 => by kernel_rfl
theorem k_thisS : Says b_thisS t_thisS v_thisS := fun t0 t1 t3 t4 t5 => by kernel_rfl

end Go.Proofs.YtjdabnpfinlefaaGreatDoor

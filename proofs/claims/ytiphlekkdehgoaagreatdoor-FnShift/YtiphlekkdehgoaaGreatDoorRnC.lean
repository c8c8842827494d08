/-
  FnShift: texts that are run by the kernel. (Written by wip/tools/rf/mkshift.py.)
-/
import Derived.Test.YtiphlekkdehgoaaGreatDoorRnA
import Derived.KernelRfl
namespace Go.Proofs.YtiphlekkdehgoaaGreatDoor

set_option maxRecDepth 1000000
theorem k_three0 : Says b_three0 t_three0 v_three0 := fun t0 t1 t3 t4 t5 => by kernel_rfl
theorem k_four0 : Says b_four0 t_four0 v_four0 := fun t0 t1 t3 t4 t5 => by kernel_rfl

end Go.Proofs.YtiphlekkdehgoaaGreatDoor

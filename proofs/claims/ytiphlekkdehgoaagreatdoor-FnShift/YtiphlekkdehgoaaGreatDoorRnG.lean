/-
  FnShift: texts that are run by the kernel. (Written by wip/tools/rf/mkshift.py.)
-/
import Derived.Test.YtiphlekkdehgoaaGreatDoorRnA
import Derived.KernelRfl
namespace Go.Proofs.YtiphlekkdehgoaaGreatDoor

set_option maxRecDepth 1000000
theorem k_three2 : Says b_three2 t_three2 v_three2 := fun t0 t1 t3 t4 t5 => by kernel_rfl
theorem k_four2 : Says b_four2 t_four2 v_four2 := fun t0 t1 t3 t4 t5 => by kernel_rfl

end Go.Proofs.YtiphlekkdehgoaaGreatDoor

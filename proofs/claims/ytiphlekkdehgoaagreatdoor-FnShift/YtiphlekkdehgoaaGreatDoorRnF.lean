/-
  FnShift: texts that are run by the kernel. (Written by wip/tools/rf/mkshift.py.)
-/
import Derived.Test.YtiphlekkdehgoaaGreatDoorRnA
import Derived.KernelRfl
namespace Go.Proofs.YtiphlekkdehgoaaGreatDoor

set_option maxRecDepth 1000000
theorem k_one2 : Says b_one2 t_one2 v_one2 := fun t0 t1 t3 t4 t5 => by kernel_rfl
theorem k_two2 : Says b_two2 t_two2 v_two2 := fun t0 t1 t3 t4 t5 => by kernel_rfl

end Go.Proofs.YtiphlekkdehgoaaGreatDoor

/-
  FnShift: texts that are run by the kernel. (Written by wip/tools/rf/mkshift.py.)
-/
import Derived.Test.YtiphlekkdehgoaaGreatDoorRnA
import Derived.KernelRfl
namespace Go.Proofs.YtiphlekkdehgoaaGreatDoor

set_option maxRecDepth 1000000
theorem k_one1 : Says b_one1 t_one1 v_one1 := fun t0 t1 t3 t4 t5 => by kernel_rfl
theorem k_two1 : Says b_two1 t_two1 v_two1 := fun t0 t1 t3 t4 t5 => by kernel_rfl

end Go.Proofs.YtiphlekkdehgoaaGreatDoor

/-
  FnShift: texts that are run by the kernel. (Written by wip/tools/rf/mkshift.py.)
-/
import Derived.Test.YtiphlekkdehgoaaGreatDoorRnA
import Derived.KernelRfl
namespace Go.Proofs.YtiphlekkdehgoaaGreatDoor

set_option maxRecDepth 1000000
theorem k_one0 : Says b_one0 t_one0 v_one0 := fun t0 t1 t3 t4 t5 => by kernel_rfl
theorem k_two0 : Says b_two0 t_two0 v_two0 := fun t0 t1 t3 t4 t5 => by kernel_rfl
theorem k_five0 : Throws b_five0 t_five0 := fun t0 t1 t3 t4 t5 => by kernel_rfl
theorem k_five1 : Throws b_five1 t_five1 := fun t0 t1 t3 t4 t5 => by kernel_rfl
theorem k_five2 : Throws b_five2 t_five2 := fun t0 t1 t3 t4 t5 => by kernel_rfl

end Go.Proofs.YtiphlekkdehgoaaGreatDoor

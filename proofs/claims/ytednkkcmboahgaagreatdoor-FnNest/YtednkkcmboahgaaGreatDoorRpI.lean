/-
  FnNest: the law's slots, behind its first pieces. (Written by wip/tools/rf/mknest2.py.)
-/
import Derived.Test.YtednkkcmboahgaaGreatDoorRpH
namespace Go.Proofs.YtednkkcmboahgaaGreatDoor

/-- The law's slots, behind its first pieces. -/
noncomputable def tmM (d k : Nat) (x : Bool) : TM := ⟨153, (.node (some .junk) (.node none (.node (some (.int .i64 (.lit (.ofNat d)))) (.node none .leaf (.node (some (.int .i64 (.lit (.ofNat d)))) .leaf .leaf)) (.node none (.node (some .junk) .leaf .leaf) (.node (some (.bool x)) .leaf .leaf))) (.node (some (.bool x)) (.node none (.node (some (.int .i64 (.sym 0))) .leaf .leaf) (.node (some .junk) .leaf .leaf)) (.node none (.node (some (.int .i64 (.lit (.ofNat d)))) .leaf .leaf) .leaf))) (.node (some (.bool false)) (.node (some (.int .i64 (.lit (.ofNat k)))) (.node none (.node (some .junk) .leaf .leaf) (.node (some (.int .i64 (.lit (.ofNat k)))) .leaf .leaf)) (.node none (.node (some (.int .i64 (.lit (.ofNat (d - 1))))) .leaf .leaf) .leaf)) (.node none (.node none (.node (some (.bool false)) .leaf .leaf) (.node (some (.int .i64 (.lit (.ofNat (bif x then 1 else 0))))) .leaf .leaf)) (.node none (.node (some .junk) .leaf .leaf) .leaf))))⟩

end Go.Proofs.YtednkkcmboahgaaGreatDoor

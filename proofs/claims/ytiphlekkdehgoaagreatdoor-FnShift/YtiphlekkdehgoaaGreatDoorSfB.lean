/-
  errors.Is at an error that was thrown: it leads to the one of its variable.
-/
import Derived.Test.YtiphlekkdehgoaaGreatDoorSfA
namespace Go.Proofs.YtiphlekkdehgoaaGreatDoor
open Go.RowKit Go.Extern.Stop Go.Stop Go.Extern

theorem Tryz.isMComp (h : Value) (w : World) : (Go.method 471 173 (.agg #[h]) "Comparable").run Tryz.prog w = .ok (328, .agg #[h]) w := by kernel_rfl
theorem Tryz.isMUnwrap (b o : Nat) (w : World) : (Go.method 471 72 (.pointer (some ⟨b, o, none⟩)) "Unwrap").run Tryz.prog w = .ok (318, .pointer (some ⟨b, o, none⟩)) w := by kernel_rfl
theorem Tryz.isO (v : Value) (w : World) : (ReflectliteType.typeOf #[.iface 336 v]).run Tryz.prog w = .ok (.iface 173 (.agg #[.pointer (some ⟨12, 336, none⟩)])) w := by kernel_rfl
theorem Tryz.isC (w : World) : ((ReflectliteType.method fun t => do Rtype.noPackHeld "Comparable" t; (fun a : TypeInfo => Value.bool a.comparable) <$> typeInfo t) #[.agg #[.pointer (some ⟨12, 336, none⟩)]]).run Tryz.prog w = .ok (.bool true) w := by kernel_rfl
theorem Tryz.noIsT (v : Value) (xT : TypeId) (w : World) : (Instr.typeAssert (.iface 72 v) xT 175 true).run Tryz.prog w = .ok (.tuple #[.nilIface, .bool false]) w := run_typeAssert_lacksB Tryz.underlying175 (by kernel_rfl) (by kernel_rfl) v xT w
theorem Tryz.hasUnT (v : Value) (xT : TypeId) (w : World) : (Instr.typeAssert (.iface 72 v) xT 178 true).run Tryz.prog w = .ok (.tuple #[.iface 72 v, .bool true]) w := run_typeAssert_hasB Tryz.underlying178 (by kernel_rfl) v xT w
theorem Tryz.noIsE (v : Value) (xT : TypeId) (w : World) : (Instr.typeAssert (.iface 336 v) xT 175 true).run Tryz.prog w = .ok (.tuple #[.nilIface, .bool false]) w := run_typeAssert_lacksB Tryz.underlying175 (by kernel_rfl) (by kernel_rfl) v xT w
theorem Tryz.noUnE (v : Value) (xT : TypeId) (w : World) : (Instr.typeAssert (.iface 336 v) xT 178 true).run Tryz.prog w = .ok (.tuple #[.nilIface, .bool false]) w := run_typeAssert_lacksB Tryz.underlying178 (by kernel_rfl) (by kernel_rfl) v xT w
theorem Tryz.noUnsE (v : Value) (xT : TypeId) (w : World) : (Instr.typeAssert (.iface 336 v) xT 179 true).run Tryz.prog w = .ok (.tuple #[.nilIface, .bool false]) w := run_typeAssert_lacksB Tryz.underlying179 (by kernel_rfl) (by kernel_rfl) v xT w

/-- The error of the variable. -/
def ThrIn (W : World) (b : Addr) : Prop := W.cell? ⟨3, 0, none⟩ = some (.iface 336 (.pointer (some b)))

/-- Two places apart, in plain blocks. -/
def ApartA (w : World) (b m : Addr) : Prop := b ≠ m ∧ (∃ c t, w.heap[b.block]? = some (.cells c t (0, 0))) ∧ ∃ c t, w.heap[m.block]? = some (.cells c t (0, 0))

theorem eqOther {w : World} {b m : Addr} (h : ApartA w b m) : (binOp .eql 67 (.iface 336 (.pointer (some b))) (.iface 336 (.pointer (some m)))).run Tryz.prog w = .ok (.bool false) w := by
  obtain ⟨hne, ⟨c, t, h1⟩, ⟨c', t', h2⟩⟩ := h
  exact run_eql_iface_ptr_other w Tryz.underlying67 Tryz.underlying336 (i := Tryz.t336) (j := Tryz.t360) (by kernel_rfl) (by kernel_rfl) (by kernel_rfl) (by rw [show Tryz.t360.size = 1 by kernel_rfl]; decide) hne h1 h2
theorem eqSame (w : World) (b : Addr) : (binOp .eql 67 (.iface 336 (.pointer (some b))) (.iface 336 (.pointer (some b)))).run Tryz.prog w = .ok (.bool true) w :=
  run_eql_iface_ptr_same w b Tryz.underlying67 Tryz.underlying336 (i := Tryz.t336) (j := Tryz.t360) (by kernel_rfl) (by kernel_rfl) (by kernel_rfl)
theorem eqTypes (x y : Value) (w : World) : (binOp .eql 67 (.iface 72 x) (.iface 336 y)).run Tryz.prog w = .ok (.bool false) w :=
  run_eql_iface_types 72 336 x y Tryz.underlying67 (by decide) w

set_option maxHeartbeats 4000000 in
set_option maxRecDepth 100000 in
theorem isYes (e b : Addr) (he : e.spot = none) (w : World) (h : ThrIn w b) : Calls Tryz.prog 51 #[.iface 72 (.pointer (some e)), .iface 336 (.pointer (some b)), .bool true] w fun ev w' => ev = .returned (.bool true) ∧ w' = w := by
  unfold ThrIn at h
  have d1 := Tryz.noIsT
  have d2 := Tryz.hasUnT
  have d6 := Tryz.isMUnwrap
  have q1 := eqTypes
  have q2 := eqSame
  obtain ⟨eb, eo, es⟩ := e
  simp only at he
  subst he
  go_enter Tryz.func51, Tryz.ntmps51
  go_wp2
  refine wp_loop_rounds 2 ?_
  rw [rounds_succ]
  go_wp2
  rw [rounds_succ]
  go_wp2
  go_ret
  exact ⟨rfl, rfl⟩

set_option maxHeartbeats 4000000 in
set_option maxRecDepth 100000 in
theorem isNo (e b m : Addr) (he : e.spot = none) (w : World) (h : ThrIn w b) (hm : ApartA w b m) : Calls Tryz.prog 51 #[.iface 72 (.pointer (some e)), .iface 336 (.pointer (some m)), .bool true] w fun ev w' => ev = .returned (.bool false) ∧ w' = w := by
  unfold ThrIn at h
  have d1 := Tryz.noIsT
  have d2 := Tryz.hasUnT
  have d3 := Tryz.noIsE
  have d4 := Tryz.noUnE
  have d5 := Tryz.noUnsE
  have d6 := Tryz.isMUnwrap
  have q1 := eqTypes
  have q2 := eqOther hm
  obtain ⟨eb, eo, es⟩ := e
  simp only at he
  subst he
  clear hm
  go_enter Tryz.func51, Tryz.ntmps51
  go_wp2
  refine wp_loop_rounds 2 ?_
  rw [rounds_succ]
  go_wp2
  rw [rounds_succ]
  go_wp2
  go_ret
  exact ⟨rfl, rfl⟩

set_option maxHeartbeats 4000000 in
set_option maxRecDepth 100000 in
theorem isTop (r : Bool) (e m : Addr) (w : World) (hi : Calls Tryz.prog 51 #[.iface 72 (.pointer (some e)), .iface 336 (.pointer (some m)), .bool true] w fun ev w' => ev = .returned (.bool r) ∧ w' = w) : Calls Tryz.prog 18 #[.iface 72 (.pointer (some e)), .iface 336 (.pointer (some m))] w fun ev w' => ev = .returned (.bool r) ∧ Below w.heap.size w w' := by
  have HI : Hid _ := fun (_ : Unit) => hi
  have c7 := @run_callFunc_extern Tryz.prog 50 _ ReflectliteType.typeOf Tryz.func50 (by kernel_rfl) (by kernel_rfl) (by kernel_rfl) (by kernel_rfl)
  have c8 := @run_callFunc_extern Tryz.prog 328 _ (ReflectliteType.method fun t => do Rtype.noPackHeld "Comparable" t; pure (.bool (← typeInfo t).comparable)) Tryz.func328 (by kernel_rfl) (by kernel_rfl) (by kernel_rfl) (by kernel_rfl)
  have d1 := Tryz.isMComp
  have d2 := Tryz.isO
  have d3 := Tryz.isC
  clear hi
  go_enter Tryz.func18, Tryz.ntmps18
  go_wp2_with fail
  refine (HI.out ()).mono ?_
  rintro ev w' ⟨rfl, rfl⟩
  go_wp2
  go_ret
  exact ⟨rfl, Below.refl _ _⟩

end Go.Proofs.YtiphlekkdehgoaaGreatDoor

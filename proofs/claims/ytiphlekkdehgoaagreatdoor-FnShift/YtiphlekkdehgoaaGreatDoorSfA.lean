/-
  errors.As at an error that was thrown.
-/
import Derived.Test.YtiphlekkdehgoaaGreatDoorRows
import Derived.WalkKit
import Derived.WalkSpells
import Derived.WalkLawsBesides
import Derived.Below
import Derived.Deep.Light
import Derived.LaidEql
import Derived.Stop.Asserts
import Derived.RowKitTokens
namespace Go.Proofs.YtiphlekkdehgoaaGreatDoor
open Go.RowKit Go.Extern.Stop Go.Stop Go.Extern

theorem Tryz.asV2 (t : Addr) (w : World) : (ReflectliteValue.unpack (.iface 75 (.pointer (some t)))).run Tryz.prog w
    = .ok (.agg #[.pointer (some ⟨12, 75, none⟩), .pointer (some ⟨w.heap.size, 0, none⟩), .int .u64 150]) (w.alloc (.cells #[.pointer (some t)] 75)) := by kernel_rfl
theorem Tryz.asV1 (e : Addr) (w : World) : (ReflectliteValue.unpack (.iface 72 (.pointer (some e)))).run Tryz.prog w
    = .ok (.agg #[.pointer (some ⟨12, 72, none⟩), .pointer (some ⟨w.heap.size, 0, none⟩), .int .u64 150]) (w.alloc (.cells #[.pointer (some e)] 72)) := by kernel_rfl
theorem Tryz.asT2 (a : Addr) (w : World) : (ReflectliteValue.methodAny (ReflectliteValue.valueError "reflectlite.Value.Type" 0) (fun t _ _ _ => ReflectliteType.toType t) #[.agg #[.pointer (some ⟨12, 75, none⟩), .pointer (some a), .int .u64 150]]).run Tryz.prog w
    = .ok (.iface 173 (.agg #[.pointer (some ⟨12, 75, none⟩)])) w := by kernel_rfl
theorem Tryz.asMKind (h : Value) (w : World) : (Go.method 471 173 (.agg #[h]) "Kind").run Tryz.prog w = .ok (298, h) w := by kernel_rfl
theorem Tryz.asMElem (h : Value) (w : World) : (Go.method 471 173 (.agg #[h]) "Elem").run Tryz.prog w = .ok (329, .agg #[h]) w := by kernel_rfl
theorem Tryz.asMImpl (h : Value) (w : World) : (Go.method 471 173 (.agg #[h]) "Implements").run Tryz.prog w = .ok (330, .agg #[h]) w := by kernel_rfl
theorem Tryz.asMTo (h : Value) (w : World) : (Go.method 471 173 (.agg #[h]) "AssignableTo").run Tryz.prog w = .ok (327, .agg #[h]) w := by kernel_rfl
theorem Tryz.asK2 (w : World) : ((ReflectliteType.abiMethod fun t => (fun a : Nat => Value.int IntKind.u8 (a : Int)) <$> Rtype.kind t) #[.pointer (some ⟨12, 75, none⟩)]).run Tryz.prog w = .ok (.int .u8 22) w := by kernel_rfl
theorem Tryz.asK1 (w : World) : ((ReflectliteType.abiMethod fun t => (fun a : Nat => Value.int IntKind.u8 (a : Int)) <$> Rtype.kind t) #[.pointer (some ⟨12, 72, none⟩)]).run Tryz.prog w = .ok (.int .u8 22) w := by kernel_rfl
theorem Tryz.asE2 (w : World) : (ReflectliteType.method ReflectliteType.elem #[.agg #[.pointer (some ⟨12, 75, none⟩)]]).run Tryz.prog w = .ok (.iface 173 (.agg #[.pointer (some ⟨12, 72, none⟩)])) w := by kernel_rfl
theorem Tryz.asI1 (w : World) : (ReflectliteType.relation "Implements" ReflectliteType.implements_ #[.agg #[.pointer (some ⟨12, 72, none⟩)], .iface 173 (.agg #[.pointer (some ⟨12, 67, none⟩)])]).run Tryz.prog w = .ok (.bool true) w := by kernel_rfl
theorem Tryz.asO1 (v : Value) (w : World) : (ReflectliteType.typeOf #[.iface 72 v]).run Tryz.prog w = .ok (.iface 173 (.agg #[.pointer (some ⟨12, 72, none⟩)])) w := by kernel_rfl
theorem Tryz.asA1 (w : World) : (ReflectliteType.relation "AssignableTo" ReflectliteType.assignableTo #[.agg #[.pointer (some ⟨12, 72, none⟩)], .iface 173 (.agg #[.pointer (some ⟨12, 72, none⟩)])]).run Tryz.prog w = .ok (.bool true) w := by kernel_rfl

theorem Tryz.asP2 (a : Addr) (w : World) : (ReflectliteValue.parts (.agg #[.pointer (some ⟨12, 75, none⟩), .pointer (some a), .int .u64 150])).run Tryz.prog w = .ok (some (75, a, 150)) w := by kernel_rfl
theorem Tryz.asP1 (a : Addr) (w : World) : (ReflectliteValue.parts (.agg #[.pointer (some ⟨12, 72, none⟩), .pointer (some a), .int .u64 150])).run Tryz.prog w = .ok (some (72, a, 150)) w := by kernel_rfl
theorem Tryz.asP1a (a : Addr) (w : World) : (ReflectliteValue.parts (.agg #[.pointer (some ⟨12, 72, none⟩), .pointer (some a), .int .u64 406])).run Tryz.prog w = .ok (some (72, a, 406)) w := by kernel_rfl
theorem Tryz.asElem2 (w : World) : (Rtype.elem? 75).run Tryz.prog w = .ok (some 72) w := by kernel_rfl
theorem Tryz.asMk1 (p : Addr) (w : World) : (ReflectliteValue.mk 72 p ReflectliteValue.flagAddr).run Tryz.prog w = .ok (.agg #[.pointer (some ⟨12, 72, none⟩), .pointer (some p), .int .u64 406]) w := by kernel_rfl
theorem Tryz.asDirect (w : World) : (Rtype.directlyAssignable 72 72).run Tryz.prog w = .ok true w := by kernel_rfl

/-- The target that is pointed to is not nil. -/
theorem Tryz.asIsNil (a p : Addr) (W : World) (ha : W.cell? a = some (.pointer (some p))) :
    (ReflectliteValue.method (ReflectliteValue.valueError "reflectlite.Value.IsNil" 0) ReflectliteValue.isNil #[.agg #[.pointer (some ⟨12, 75, none⟩), .pointer (some a), .int .u64 150]]).run Tryz.prog W = .ok (.bool false) W := by
  change Sem.run Tryz.prog (ReflectliteValue.parts (.agg #[.pointer (some ⟨12, 75, none⟩), .pointer (some a), .int .u64 150]) >>= _) W = _
  simp only [Sem.run_bind, Tryz.asP2, Result.andThen]
  simp [ReflectliteValue.isNil, loadVar, isAgg, underlying, Tryz.underlying75, ha, Result.andThen]
/-- What is pointed to. -/
theorem Tryz.asElemV (a p : Addr) (W : World) (ha : W.cell? a = some (.pointer (some p))) :
    (ReflectliteValue.method (ReflectliteValue.valueError "reflectlite.Value.Elem" 0) ReflectliteValue.elem #[.agg #[.pointer (some ⟨12, 75, none⟩), .pointer (some a), .int .u64 150]]).run Tryz.prog W
      = .ok (.agg #[.pointer (some ⟨12, 72, none⟩), .pointer (some p), .int .u64 406]) W := by
  change Sem.run Tryz.prog (ReflectliteValue.parts (.agg #[.pointer (some ⟨12, 75, none⟩), .pointer (some a), .int .u64 150]) >>= _) W = _
  simp only [Sem.run_bind, Tryz.asP2, Result.andThen]
  simp [ReflectliteValue.elem, loadVar, isAgg, underlying, Tryz.underlying75, ha, Result.andThen, Tryz.asElem2, Tryz.asMk1]
/-- It gets the error. -/
theorem Tryz.asSet (ta b e : Addr) (old : Value) (W : World) (hb : W.cell? b = some (.pointer (some e))) (ht : W.cell? ta = some old) (hf : W.frozen? ta = false) :
    (ReflectliteValue.set #[.agg #[.pointer (some ⟨12, 72, none⟩), .pointer (some ta), .int .u64 406], .agg #[.pointer (some ⟨12, 72, none⟩), .pointer (some b), .int .u64 150]]).run Tryz.prog W
      = .ok (.tuple #[]) (W.setCell ta (.pointer (some e))) := by
  change Sem.run Tryz.prog (ReflectliteValue.parts (.agg #[.pointer (some ⟨12, 72, none⟩), .pointer (some ta), .int .u64 406]) >>= fun x => ReflectliteValue.parts (.agg #[.pointer (some ⟨12, 72, none⟩), .pointer (some b), .int .u64 150]) >>= _) W = _
  simp only [Sem.run_bind, Tryz.asP1a, Tryz.asP1, Result.andThen]
  simp [ReflectliteValue.flagAddr, loadVar, isAgg, underlying, Tryz.underlying72, hb, Result.andThen, Tryz.asDirect, storeVar, Value.cells, storeCells, Addr.add]
  rw [run_store Tryz.prog W ta _ _ (by rfl)]
  simp [ht, hf]

/-- The variable of package errors that holds the handle of the type error. -/
def ErrIn (W : World) : Prop := W.cell? ⟨2, 0, none⟩ = some (.iface 173 (.agg #[.pointer (some ⟨12, 67, none⟩)]))
theorem ErrIn.lt {W : World} (h : ErrIn W) : 2 < W.heap.size := by
  rcases Nat.lt_or_ge 2 W.heap.size with g | g
  · exact g
  · unfold ErrIn at h; simp [World.cell?, Array.getElem?_eq_none g] at h
theorem ErrIn.keep {W W' : World} (h : ErrIn W) (hb : Below W.heap.size W W') : ErrIn W' := by
  have e := hb.block _ h.lt
  unfold ErrIn World.cell? at *
  simp only at h ⊢
  rw [e]
  exact h

set_option maxHeartbeats 4000000 in
theorem asHit (e t : Addr) (old : Value) (w : World) (hg : ErrIn w) (ht0 : w.cell? t = some old) (hf0 : w.frozen? t = false) :
    Calls Tryz.prog 19 #[.iface 72 (.pointer (some e)), .iface 75 (.pointer (some t))] w fun ev w' => ev = .returned (.bool true) ∧ ∃ w1, Below w.heap.size w w1 ∧ w' = w1.setCell t (.pointer (some e)) := by
  have hlt := hg.lt
  have c1 := @run_callFunc_extern Tryz.prog 52 _ (fun args => ReflectliteValue.unpack (args.getD 0 (.tuple #[]))) Tryz.func52 (by kernel_rfl) (by kernel_rfl) (by kernel_rfl) (by kernel_rfl)
  have c2 := @run_callFunc_extern Tryz.prog 53 _ (ReflectliteValue.methodAny (ReflectliteValue.valueError "reflectlite.Value.Type" 0) (fun t _ _ _ => ReflectliteType.toType t)) Tryz.func53 (by kernel_rfl) (by kernel_rfl) (by kernel_rfl) (by kernel_rfl)
  have c3 := @run_callFunc_extern Tryz.prog 54 _ (ReflectliteValue.method (ReflectliteValue.valueError "reflectlite.Value.IsNil" 0) ReflectliteValue.isNil) Tryz.func54 (by kernel_rfl) (by kernel_rfl) (by kernel_rfl) (by kernel_rfl)
  have c4 := @run_callFunc_extern Tryz.prog 298 _ (ReflectliteType.abiMethod fun t => do pure (.int .u8 (← Rtype.kind t))) Tryz.func298 (by kernel_rfl) (by kernel_rfl) (by kernel_rfl) (by kernel_rfl)
  have c5 := @run_callFunc_extern Tryz.prog 329 _ (ReflectliteType.method ReflectliteType.elem) Tryz.func329 (by kernel_rfl) (by kernel_rfl) (by kernel_rfl) (by kernel_rfl)
  have c6 := @run_callFunc_extern Tryz.prog 330 _ (ReflectliteType.relation "Implements" ReflectliteType.implements_) Tryz.func330 (by kernel_rfl) (by kernel_rfl) (by kernel_rfl) (by kernel_rfl)
  have c7 := @run_callFunc_extern Tryz.prog 50 _ ReflectliteType.typeOf Tryz.func50 (by kernel_rfl) (by kernel_rfl) (by kernel_rfl) (by kernel_rfl)
  have c8 := @run_callFunc_extern Tryz.prog 327 _ (ReflectliteType.relation "AssignableTo" ReflectliteType.assignableTo) Tryz.func327 (by kernel_rfl) (by kernel_rfl) (by kernel_rfl) (by kernel_rfl)
  have c9 := @run_callFunc_extern Tryz.prog 100 _ (ReflectliteValue.method (ReflectliteValue.valueError "reflectlite.Value.Elem" 0) ReflectliteValue.elem) Tryz.func100 (by kernel_rfl) (by kernel_rfl) (by kernel_rfl) (by kernel_rfl)
  have c10 := @run_callFunc_extern Tryz.prog 101 _ ReflectliteValue.set Tryz.func101 (by kernel_rfl) (by kernel_rfl) (by kernel_rfl) (by kernel_rfl)
  have d1 := Tryz.asV2
  have d2 := Tryz.asV1
  have d3 := Tryz.asT2
  have d4 := Tryz.asMKind
  have d5 := Tryz.asMElem
  have d6 := Tryz.asMImpl
  have d7 := Tryz.asMTo
  have d8 := Tryz.asK2
  have d9 := Tryz.asK1
  have d10 := Tryz.asE2
  have d11 := Tryz.asI1
  have d12 := Tryz.asO1
  have d13 := Tryz.asA1
  have htl : t.block < w.heap.size := by
    rcases Nat.lt_or_ge t.block w.heap.size with h | h
    · exact h
    · simp [World.cell?, Array.getElem?_eq_none h] at ht0
  obtain ⟨o1, ho1⟩ : ∃ o, Obj.cells #[.pointer (some t)] 75 = o := ⟨_, rfl⟩
  obtain ⟨o2, ho2⟩ : ∃ o, Obj.cells #[.pointer (some ⟨12, 75, none⟩), .pointer (some ⟨w.heap.size, 0, none⟩), .int .u64 150] 102 = o := ⟨_, rfl⟩
  obtain ⟨o4, ho4⟩ : ∃ o, Obj.cells #[.pointer (some e)] 72 = o := ⟨_, rfl⟩
  have n8 := Tryz.asIsNil ⟨w.heap.size, 0, none⟩ t ((w.alloc o1).alloc o2) (by rw [← ho1]; simp)
  have hg2 : ((w.alloc o1).alloc o2).cell? ⟨2, 0, none⟩ = some (.iface 173 (.agg #[.pointer (some ⟨12, 67, none⟩)])) := by
    rw [World.cell?_alloc_lt _ _ ⟨2, 0, none⟩ (by rw [World.size_alloc]; show 2 < _; omega), World.cell?_alloc_lt _ _ ⟨2, 0, none⟩ hlt]; exact hg
  have el := Tryz.asElemV ⟨w.heap.size, 0, none⟩ t (((w.alloc o1).alloc o2).alloc o2) (by rw [World.cell?_alloc_lt _ _ ⟨w.heap.size, 0, none⟩ (by simp; omega), World.cell?_alloc_lt _ _ ⟨w.heap.size, 0, none⟩ (by simp), ← ho1]; simp)
  have st := Tryz.asSet t ⟨w.heap.size + 1 + 1 + 1, 0, none⟩ e old ((((w.alloc o1).alloc o2).alloc o2).alloc o4)
    (by rw [← ho4, World.cell?_alloc_at _ _ _ _ (by simp)]; rfl)
    (by rw [World.cell?_alloc_lt _ _ t (by simp; omega), World.cell?_alloc_lt _ _ t (by simp; omega), World.cell?_alloc_lt _ _ t (by simp; omega), World.cell?_alloc_lt _ _ t htl]; exact ht0)
    (by rw [World.frozen?_alloc_old _ _ t (by simp; omega), World.frozen?_alloc_old _ _ t (by simp; omega), World.frozen?_alloc_old _ _ t (by simp; omega), World.frozen?_alloc_old _ _ t (Nat.ne_of_lt htl)]; exact hf0)
  have HB : Hid (Below w.heap.size w ((((w.alloc o1).alloc o2).alloc o2).alloc o4)) := ((((Below.refl _ _).alloc (Nat.le_refl _) _).alloc (by simp) _).alloc (by simp; omega) _).alloc (by simp; omega) _
  subst ho1 ho2 ho4
  clear hg
  go_enter Tryz.func19, Tryz.ntmps19
  go_wp2
  refine wp_loop_rounds 1 ?_
  rw [rounds_succ]
  go_wp2
  go_ret
  exact ⟨rfl, _, HB.out, rfl⟩

end Go.Proofs.YtiphlekkdehgoaaGreatDoor

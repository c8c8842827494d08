/-
  errors.As at the program's own error: nil, and an error of the target's own type.
-/
import Derived.Test.YtoficeamogbbhabDoorValB
import Derived.LaidEql
import Derived.Stop.Asserts
import Derived.RowKitTokens
namespace Go.Proofs.YtoficeamogbbhabDoor
open Go.RowKit Go.Extern.Stop Go.Stop Go.Extern

/-- errors.As of no error. -/
theorem asNil (t : Value) (w : World) : Calls Tryd.prog 27 #[.nilIface, t] w fun e w' => e = .returned (.bool false) ∧ w' = w := by
  go_enter Tryd.func27, Tryd.ntmps27
  go_wp2
  go_ret
  exact ⟨rfl, rfl⟩

/-- The handle of a type, and a Value of it that lies at a. -/
def hT (t : TypeId) : Value := .pointer (some ⟨8, t, none⟩)
def vT (t : TypeId) (a : Addr) (f : Int) : Value := .agg #[.pointer (some ⟨8, t, none⟩), .pointer (some a), .int .u64 f]

theorem Tryd.asV2 (t : Addr) (w : World) : (ReflectliteValue.unpack (.iface 48 (.pointer (some t)))).run Tryd.prog w
    = .ok (.agg #[.pointer (some ⟨8, 48, none⟩), .pointer (some ⟨w.heap.size, 0, none⟩), .int .u64 150]) (w.alloc (.cells #[.pointer (some t)] 48)) := by kernel_rfl
theorem Tryd.asV1 (e : Addr) (w : World) : (ReflectliteValue.unpack (.iface 46 (.pointer (some e)))).run Tryd.prog w
    = .ok (.agg #[.pointer (some ⟨8, 46, none⟩), .pointer (some ⟨w.heap.size, 0, none⟩), .int .u64 150]) (w.alloc (.cells #[.pointer (some e)] 46)) := by kernel_rfl
theorem Tryd.asT2 (a : Addr) (w : World) : (ReflectliteValue.methodAny (ReflectliteValue.valueError "reflectlite.Value.Type" 0) (fun t _ _ _ => ReflectliteType.toType t) #[.agg #[.pointer (some ⟨8, 48, none⟩), .pointer (some a), .int .u64 150]]).run Tryd.prog w
    = .ok (.iface 91 (.agg #[.pointer (some ⟨8, 48, none⟩)])) w := by kernel_rfl
theorem Tryd.asMKind (h : Value) (w : World) : (Go.method 255 91 (.agg #[h]) "Kind").run Tryd.prog w = .ok (96, h) w := by kernel_rfl
theorem Tryd.asMElem (h : Value) (w : World) : (Go.method 255 91 (.agg #[h]) "Elem").run Tryd.prog w = .ok (106, .agg #[h]) w := by kernel_rfl
theorem Tryd.asMImpl (h : Value) (w : World) : (Go.method 255 91 (.agg #[h]) "Implements").run Tryd.prog w = .ok (107, .agg #[h]) w := by kernel_rfl
theorem Tryd.asMTo (h : Value) (w : World) : (Go.method 255 91 (.agg #[h]) "AssignableTo").run Tryd.prog w = .ok (104, .agg #[h]) w := by kernel_rfl
theorem Tryd.asK2 (w : World) : ((ReflectliteType.abiMethod fun t => (fun a : Nat => Value.int IntKind.u8 (a : Int)) <$> Rtype.kind t) #[.pointer (some ⟨8, 48, none⟩)]).run Tryd.prog w = .ok (.int .u8 22) w := by kernel_rfl
theorem Tryd.asK1 (w : World) : ((ReflectliteType.abiMethod fun t => (fun a : Nat => Value.int IntKind.u8 (a : Int)) <$> Rtype.kind t) #[.pointer (some ⟨8, 46, none⟩)]).run Tryd.prog w = .ok (.int .u8 22) w := by kernel_rfl
theorem Tryd.asE2 (w : World) : (ReflectliteType.method ReflectliteType.elem #[.agg #[.pointer (some ⟨8, 48, none⟩)]]).run Tryd.prog w = .ok (.iface 91 (.agg #[.pointer (some ⟨8, 46, none⟩)])) w := by kernel_rfl
theorem Tryd.asI1 (w : World) : (ReflectliteType.relation "Implements" ReflectliteType.implements_ #[.agg #[.pointer (some ⟨8, 46, none⟩)], .iface 91 (.agg #[.pointer (some ⟨8, 34, none⟩)])]).run Tryd.prog w = .ok (.bool true) w := by kernel_rfl
theorem Tryd.asO1 (v : Value) (w : World) : (ReflectliteType.typeOf #[.iface 46 v]).run Tryd.prog w = .ok (.iface 91 (.agg #[.pointer (some ⟨8, 46, none⟩)])) w := by kernel_rfl
theorem Tryd.asA1 (w : World) : (ReflectliteType.relation "AssignableTo" ReflectliteType.assignableTo #[.agg #[.pointer (some ⟨8, 46, none⟩)], .iface 91 (.agg #[.pointer (some ⟨8, 46, none⟩)])]).run Tryd.prog w = .ok (.bool true) w := by kernel_rfl

theorem Tryd.asP2 (a : Addr) (w : World) : (ReflectliteValue.parts (.agg #[.pointer (some ⟨8, 48, none⟩), .pointer (some a), .int .u64 150])).run Tryd.prog w = .ok (some (48, a, 150)) w := by kernel_rfl
theorem Tryd.asP1 (a : Addr) (w : World) : (ReflectliteValue.parts (.agg #[.pointer (some ⟨8, 46, none⟩), .pointer (some a), .int .u64 150])).run Tryd.prog w = .ok (some (46, a, 150)) w := by kernel_rfl
theorem Tryd.asP1a (a : Addr) (w : World) : (ReflectliteValue.parts (.agg #[.pointer (some ⟨8, 46, none⟩), .pointer (some a), .int .u64 406])).run Tryd.prog w = .ok (some (46, a, 406)) w := by kernel_rfl
theorem Tryd.asElem2 (w : World) : (Rtype.elem? 48).run Tryd.prog w = .ok (some 46) w := by kernel_rfl
theorem Tryd.asMk1 (p : Addr) (w : World) : (ReflectliteValue.mk 46 p ReflectliteValue.flagAddr).run Tryd.prog w = .ok (.agg #[.pointer (some ⟨8, 46, none⟩), .pointer (some p), .int .u64 406]) w := by kernel_rfl
theorem Tryd.asDirect (w : World) : (Rtype.directlyAssignable 46 46).run Tryd.prog w = .ok true w := by kernel_rfl

/-- The target that is pointed to is not nil. -/
theorem Tryd.asIsNil (a p : Addr) (W : World) (ha : W.cell? a = some (.pointer (some p))) :
    (ReflectliteValue.method (ReflectliteValue.valueError "reflectlite.Value.IsNil" 0) ReflectliteValue.isNil #[.agg #[.pointer (some ⟨8, 48, none⟩), .pointer (some a), .int .u64 150]]).run Tryd.prog W = .ok (.bool false) W := by
  change Sem.run Tryd.prog (ReflectliteValue.parts (.agg #[.pointer (some ⟨8, 48, none⟩), .pointer (some a), .int .u64 150]) >>= _) W = _
  simp only [Sem.run_bind, Tryd.asP2, Result.andThen]
  simp [ReflectliteValue.isNil, loadVar, isAgg, underlying, Tryd.underlying48, ha, Result.andThen]
/-- What is pointed to. -/
theorem Tryd.asElemV (a p : Addr) (W : World) (ha : W.cell? a = some (.pointer (some p))) :
    (ReflectliteValue.method (ReflectliteValue.valueError "reflectlite.Value.Elem" 0) ReflectliteValue.elem #[.agg #[.pointer (some ⟨8, 48, none⟩), .pointer (some a), .int .u64 150]]).run Tryd.prog W
      = .ok (.agg #[.pointer (some ⟨8, 46, none⟩), .pointer (some p), .int .u64 406]) W := by
  change Sem.run Tryd.prog (ReflectliteValue.parts (.agg #[.pointer (some ⟨8, 48, none⟩), .pointer (some a), .int .u64 150]) >>= _) W = _
  simp only [Sem.run_bind, Tryd.asP2, Result.andThen]
  simp [ReflectliteValue.elem, loadVar, isAgg, underlying, Tryd.underlying48, ha, Result.andThen, Tryd.asElem2, Tryd.asMk1]
/-- It gets the error. -/
theorem Tryd.asSet (ta b e : Addr) (old : Value) (W : World) (hb : W.cell? b = some (.pointer (some e))) (ht : W.cell? ta = some old) (hf : W.frozen? ta = false) :
    (ReflectliteValue.set #[.agg #[.pointer (some ⟨8, 46, none⟩), .pointer (some ta), .int .u64 406], .agg #[.pointer (some ⟨8, 46, none⟩), .pointer (some b), .int .u64 150]]).run Tryd.prog W
      = .ok (.tuple #[]) (W.setCell ta (.pointer (some e))) := by
  change Sem.run Tryd.prog (ReflectliteValue.parts (.agg #[.pointer (some ⟨8, 46, none⟩), .pointer (some ta), .int .u64 406]) >>= fun x => ReflectliteValue.parts (.agg #[.pointer (some ⟨8, 46, none⟩), .pointer (some b), .int .u64 150]) >>= _) W = _
  simp only [Sem.run_bind, Tryd.asP1a, Tryd.asP1, Result.andThen]
  simp [ReflectliteValue.flagAddr, loadVar, isAgg, underlying, Tryd.underlying46, hb, Result.andThen, Tryd.asDirect, storeVar, Value.cells, storeCells, Addr.add]
  rw [run_store Tryd.prog W ta _ _ (by rfl)]
  simp [ht, hf]

/-- The variable of package errors that holds the handle of the type error. -/
def ErrIn (W : World) : Prop := W.cell? ⟨1, 0, none⟩ = some (.iface 91 (.agg #[.pointer (some ⟨8, 34, none⟩)]))
theorem ErrIn.lt {W : World} (h : ErrIn W) : 1 < W.heap.size := by
  rcases Nat.lt_or_ge 1 W.heap.size with g | g
  · exact g
  · unfold ErrIn at h; simp [World.cell?, Array.getElem?_eq_none g] at h
theorem ErrIn.keep {W W' : World} (h : ErrIn W) (hb : Below W.heap.size W W') : ErrIn W' := by
  have e := hb.block _ h.lt
  unfold ErrIn World.cell? at *
  simp only at h ⊢
  rw [e]
  exact h

set_option maxHeartbeats 4000000 in
theorem asHit (e t : Addr) (old : Value) (w : World) (hg : ErrIn w) (ht0 : w.cell? t = some old) (hf0 : w.frozen? t = false) :
    Calls Tryd.prog 27 #[.iface 46 (.pointer (some e)), .iface 48 (.pointer (some t))] w fun ev w' => ev = .returned (.bool true) ∧ ∃ w1, Below w.heap.size w w1 ∧ w' = w1.setCell t (.pointer (some e)) := by
  have hlt := hg.lt
  have c1 := @run_callFunc_extern Tryd.prog 36 _ (fun args => ReflectliteValue.unpack (args.getD 0 (.tuple #[]))) Tryd.func36 (by kernel_rfl) (by kernel_rfl) (by kernel_rfl) (by kernel_rfl)
  have c2 := @run_callFunc_extern Tryd.prog 37 _ (ReflectliteValue.methodAny (ReflectliteValue.valueError "reflectlite.Value.Type" 0) (fun t _ _ _ => ReflectliteType.toType t)) Tryd.func37 (by kernel_rfl) (by kernel_rfl) (by kernel_rfl) (by kernel_rfl)
  have c3 := @run_callFunc_extern Tryd.prog 38 _ (ReflectliteValue.method (ReflectliteValue.valueError "reflectlite.Value.IsNil" 0) ReflectliteValue.isNil) Tryd.func38 (by kernel_rfl) (by kernel_rfl) (by kernel_rfl) (by kernel_rfl)
  have c4 := @run_callFunc_extern Tryd.prog 96 _ (ReflectliteType.abiMethod fun t => do pure (.int .u8 (← Rtype.kind t))) Tryd.func96 (by kernel_rfl) (by kernel_rfl) (by kernel_rfl) (by kernel_rfl)
  have c5 := @run_callFunc_extern Tryd.prog 106 _ (ReflectliteType.method ReflectliteType.elem) Tryd.func106 (by kernel_rfl) (by kernel_rfl) (by kernel_rfl) (by kernel_rfl)
  have c6 := @run_callFunc_extern Tryd.prog 107 _ (ReflectliteType.relation "Implements" ReflectliteType.implements_) Tryd.func107 (by kernel_rfl) (by kernel_rfl) (by kernel_rfl) (by kernel_rfl)
  have c7 := @run_callFunc_extern Tryd.prog 55 _ ReflectliteType.typeOf Tryd.func55 (by kernel_rfl) (by kernel_rfl) (by kernel_rfl) (by kernel_rfl)
  have c8 := @run_callFunc_extern Tryd.prog 104 _ (ReflectliteType.relation "AssignableTo" ReflectliteType.assignableTo) Tryd.func104 (by kernel_rfl) (by kernel_rfl) (by kernel_rfl) (by kernel_rfl)
  have c9 := @run_callFunc_extern Tryd.prog 56 _ (ReflectliteValue.method (ReflectliteValue.valueError "reflectlite.Value.Elem" 0) ReflectliteValue.elem) Tryd.func56 (by kernel_rfl) (by kernel_rfl) (by kernel_rfl) (by kernel_rfl)
  have c10 := @run_callFunc_extern Tryd.prog 57 _ ReflectliteValue.set Tryd.func57 (by kernel_rfl) (by kernel_rfl) (by kernel_rfl) (by kernel_rfl)
  have d1 := Tryd.asV2
  have d2 := Tryd.asV1
  have d3 := Tryd.asT2
  have d4 := Tryd.asMKind
  have d5 := Tryd.asMElem
  have d6 := Tryd.asMImpl
  have d7 := Tryd.asMTo
  have d8 := Tryd.asK2
  have d9 := Tryd.asK1
  have d10 := Tryd.asE2
  have d11 := Tryd.asI1
  have d12 := Tryd.asO1
  have d13 := Tryd.asA1
  have htl : t.block < w.heap.size := by
    rcases Nat.lt_or_ge t.block w.heap.size with h | h
    · exact h
    · simp [World.cell?, Array.getElem?_eq_none h] at ht0
  obtain ⟨o1, ho1⟩ : ∃ o, Obj.cells #[.pointer (some t)] 48 = o := ⟨_, rfl⟩
  obtain ⟨o2, ho2⟩ : ∃ o, Obj.cells #[.pointer (some ⟨8, 48, none⟩), .pointer (some ⟨w.heap.size, 0, none⟩), .int .u64 150] 59 = o := ⟨_, rfl⟩
  obtain ⟨o4, ho4⟩ : ∃ o, Obj.cells #[.pointer (some e)] 46 = o := ⟨_, rfl⟩
  have n8 := Tryd.asIsNil ⟨w.heap.size, 0, none⟩ t ((w.alloc o1).alloc o2) (by rw [← ho1]; simp)
  have hg2 : ((w.alloc o1).alloc o2).cell? ⟨1, 0, none⟩ = some (.iface 91 (.agg #[.pointer (some ⟨8, 34, none⟩)])) := by
    rw [World.cell?_alloc_lt _ _ ⟨1, 0, none⟩ (by simp; omega), World.cell?_alloc_lt _ _ ⟨1, 0, none⟩ hlt]; exact hg
  have el := Tryd.asElemV ⟨w.heap.size, 0, none⟩ t (((w.alloc o1).alloc o2).alloc o2) (by rw [World.cell?_alloc_lt _ _ ⟨w.heap.size, 0, none⟩ (by simp; omega), World.cell?_alloc_lt _ _ ⟨w.heap.size, 0, none⟩ (by simp), ← ho1]; simp)
  have st := Tryd.asSet t ⟨w.heap.size + 1 + 1 + 1, 0, none⟩ e old ((((w.alloc o1).alloc o2).alloc o2).alloc o4)
    (by rw [← ho4, World.cell?_alloc_at _ _ _ _ (by simp)]; rfl)
    (by rw [World.cell?_alloc_lt _ _ t (by simp; omega), World.cell?_alloc_lt _ _ t (by simp; omega), World.cell?_alloc_lt _ _ t (by simp; omega), World.cell?_alloc_lt _ _ t htl]; exact ht0)
    (by rw [World.frozen?_alloc_old _ _ t (by simp; omega), World.frozen?_alloc_old _ _ t (by simp; omega), World.frozen?_alloc_old _ _ t (by simp; omega), World.frozen?_alloc_old _ _ t (Nat.ne_of_lt htl)]; exact hf0)
  have HB : Hid (Below w.heap.size w ((((w.alloc o1).alloc o2).alloc o2).alloc o4)) := ((((Below.refl _ _).alloc (Nat.le_refl _) _).alloc (by simp) _).alloc (by simp; omega) _).alloc (by simp; omega) _
  subst ho1 ho2 ho4
  clear hg
  go_enter Tryd.func27, Tryd.ntmps27
  go_wp2
  refine wp_loop_rounds 1 ?_
  rw [rounds_succ]
  go_wp2
  go_ret
  exact ⟨rfl, _, HB.out, rfl⟩

end Go.Proofs.YtoficeamogbbhabDoor

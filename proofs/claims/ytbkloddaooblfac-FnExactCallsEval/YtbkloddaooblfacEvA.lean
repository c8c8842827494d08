/-
  'open = append(open, kid)' within a round: whatever order is drawn. (Written by wip/tools/mkEvA.py.)
-/
import Derived.Test.YtbkloddaooblfacEvB
import Derived.Laws.OwnMore
import Derived.Laws.AppendOwn
import Derived.OrdersIn
namespace Go.Proofs.Ytbkloddaooblfac
open Go.RowKit Go.Shelf

attribute [local go_sem] Oper.semAt_some

def ap0 : Oper := { dst := some 43, op := Op.load 54 (Operand.tmp 7), type := 54, pos := "l06_scope.go:157", after := #[], guard := none }
def ap1 : Oper := { dst := some 44, op := Op.load 56 (Operand.tmp 10), type := 56, pos := "l06_scope.go:157", after := #[], guard := none }
def ap2 : Oper := { dst := some 45, op := Op.call { callee := Callee.builtin Builtin.len, args := #[Operand.tmp 43], argTypes := #[54] }, type := 3, pos := "l06_scope.go:157", after := #[{ on := 0, ground := Ground.data }], guard := none }
def ap3 : Oper := { dst := some 46, op := Op.buildSlice 54 1 #[(0, Operand.const (Value.agg #[Value.int IntKind.i64 0, Value.string { data := #[] }, Value.int IntKind.i64 0, Value.slice none 0 0, Value.bool false, Value.slice none 0 0]))], type := 54, pos := "l06_scope.go:157", after := #[], guard := none }
def ap4 : Oper := { dst := some 47, op := Op.call { callee := Callee.builtin Builtin.append, args := #[Operand.tmp 43, Operand.tmp 46], argTypes := #[54, 54] }, type := 54, pos := "l06_scope.go:157", after := #[{ on := 0, ground := Ground.data }, { on := 3, ground := Ground.data }, { on := 0, ground := Ground.phase }, { on := 1, ground := Ground.phase }, { on := 2, ground := Ground.phase }, { on := 3, ground := Ground.phase }], guard := none }
def ap5 : Oper := { dst := some 48, op := Op.indexAddr 54 (Operand.tmp 47) (Operand.tmp 45), type := 0, pos := "l06_scope.go:157", after := #[{ on := 4, ground := Ground.data }, { on := 2, ground := Ground.data }, { on := 0, ground := Ground.phase }, { on := 1, ground := Ground.phase }, { on := 2, ground := Ground.phase }, { on := 3, ground := Ground.phase }, { on := 4, ground := Ground.phase }, { on := 7, ground := Ground.gcOnly Departure.appendInPlace }], guard := none }
def ap6 : Oper := { dst := none, op := Op.store 56 (Operand.tmp 48) (Operand.tmp 44), type := 0, pos := "l06_scope.go:157", after := #[{ on := 5, ground := Ground.data }, { on := 1, ground := Ground.data }, { on := 4, ground := Ground.chain }, { on := 0, ground := Ground.phase }, { on := 1, ground := Ground.phase }, { on := 2, ground := Ground.phase }, { on := 3, ground := Ground.phase }, { on := 4, ground := Ground.phase }, { on := 7, ground := Ground.gcOnly Departure.appendInPlace }], guard := none }
def ap7 : Oper := { dst := none, op := Op.store 54 (Operand.tmp 7) (Operand.tmp 47), type := 0, pos := "l06_scope.go:157", after := #[{ on := 4, ground := Ground.data }, { on := 4, ground := Ground.chain }, { on := 6, ground := Ground.textOnly Departure.appendInPlace }, { on := 0, ground := Ground.phase }, { on := 1, ground := Ground.phase }, { on := 2, ground := Ground.phase }, { on := 3, ground := Ground.phase }, { on := 4, ground := Ground.phase }, { on := 5, ground := Ground.textOnly Departure.appendInPlace }, { on := 6, ground := Ground.textOnly Departure.appendInPlace }], guard := none }
def appOps : Array Oper := #[ap0, ap1, ap2, ap3, ap4, ap5, ap6, ap7]

section
variable {l n : Nat} {P : Program} {ops : Array Oper} {Q : Exit → Act → World → Prop} {i : Nat} {o : Oper} {K : Act → World → Prop} {a : Act} {w w' : World}
theorem opV (ho : ops[i]? = some o) (hg : o.guard = none) (hd : ∀ c, o.op ≠ .defer c) {v : Value} (hrun : (execOp a.eval o).run P w = .ok (.value v) w') (h : K (a.put o.dst v) w') : wpOpIn (Fence.wide.inRound l) n P ops Q i K a w := by
  unfold wpOpIn
  rw [ho]
  simp only []
  rw [if_pos (by simp [Region.wanted, hg])]
  refine ⟨fun _ _ => trivial, ?_⟩
  rw [Fence.inRound_round, Oper.semAt_some l _ o hd, hrun]
  exact h
theorem opS (ho : ops[i]? = some o) (hg : o.guard = none) (hd : ∀ c, o.op ≠ .defer c) (hrun : (execOp a.eval o).run P w = .ok .skip w') (h : K (a.put o.dst undef) w') : wpOpIn (Fence.wide.inRound l) n P ops Q i K a w := by
  unfold wpOpIn
  rw [ho]
  simp only []
  rw [if_pos (by simp [Region.wanted, hg])]
  refine ⟨fun _ _ => trivial, ?_⟩
  rw [Fence.inRound_round, Oper.semAt_some l _ o hd, hrun]
  exact h
end

theorem Try.mixed : Try.prog.follows .mixedOrders = true := by kernel_rfl

section
variable (ρ : Operand → Value) (w : World)
set_option maxHeartbeats 1000000
theorem ar0 {O : Nat} {va : Option Addr} {vl vc : Nat} (h : ρ (.tmp 7) = .pointer (some ⟨O, 0, none⟩)) (hO : w.cell? ⟨O, 0, none⟩ = some (.slice va vl vc)) : (execOp ρ ap0).run Try.prog w = .ok (.value (.slice va vl vc)) w := by
  unfold ap0
  go_simp
theorem ar1 {X : Nat} {k : Int} {t : ByteArray} {n : Int} {na : Option Addr} {nl nc : Nat} {s : Bool} {ka : Option Addr} {kl kc : Nat} (h : ρ (.tmp 10) = .pointer (some ⟨X, 0, none⟩))
    (q0 : w.cell? ⟨X, 0, none⟩ = some (.int .i64 k)) (q1 : w.cell? ⟨X, 1, none⟩ = some (.string t)) (q2 : w.cell? ⟨X, 2, none⟩ = some (.int .i64 n)) (q3 : w.cell? ⟨X, 3, none⟩ = some (.slice na nl nc)) (q4 : w.cell? ⟨X, 4, none⟩ = some (.bool s)) (q5 : w.cell? ⟨X, 5, none⟩ = some (.slice ka kl kc)) :
    (execOp ρ ap1).run Try.prog w = .ok (.value (.agg #[.int .i64 k, .string t, .int .i64 n, .slice na nl nc, .bool s, .slice ka kl kc])) w := by
  unfold ap1
  go_simp
theorem ar2 {va : Option Addr} {vl vc : Nat} (h : ρ (.tmp 43) = .slice va vl vc) : (execOp ρ ap2).run Try.prog w = .ok (.value (.int .i64 (vl : Int))) w := by
  unfold ap2
  go_simp
theorem ar3 (h : ∀ v, ρ (.const v) = v) : (execOp ρ ap3).run Try.prog w = .ok (.value (.slice (some ⟨w.heap.size, 0, none⟩) 1 1)) (w.alloc (.cells #[.int .i64 0, .string ⟨#[]⟩, .int .i64 0, .slice none 0 0, .bool false, .slice none 0 0] 56)) := by
  unfold ap3
  go_simp
theorem ar4 {va : Option Addr} {vl vc B : Nat} {xs : List Value} (h : ρ (.tmp 43) = .slice va vl vc) {g : Nat} (h2 : ρ (.tmp 46) = .slice (some ⟨g, 0, none⟩) 1 1) (hown : w.ownsRow B 56 6 (.slice va vl vc) vl xs) (hl : vl ≤ 3000000) (hB : B ≤ w.heap.size)
    (hc : ∀ j u, (zeroN.cells.toList)[j]? = some u → w.cell? ((⟨g, 0, none⟩ : Addr).add j) = some u) :
    ∃ v' w', (execOp ρ ap4).run Try.prog w = .ok (.value v') w' ∧ w'.ownsRow B 56 6 v' (vl + 1) (xs ++ zeroN.cells.toList) ∧ w.grownBy w' (Value.ownBlock (.slice va vl vc)) := by
  obtain ⟨i0, hi, hz0, hz1, hz2⟩ := info_parts Try.infoNode
  obtain ⟨v', w', hrun, r1, r2, _⟩ := run_append_own (P := Try.prog) w B 54 54 56 i0 zeroN 6 88 Try.underlying54 hi hz0 hz1 hz2 rfl (by decide) (.slice va vl vc) vl xs hown ⟨g, 0, none⟩ 1 1 zeroN.cells.toList rfl hc (by
    intro u hu
    simp only [zeroN, Value.cells, List.mem_cons, List.not_mem_nil, or_false] at hu
    rcases hu with rfl | rfl | rfl | rfl | rfl | rfl <;> rfl) (by unfold maxLen; omega) (by omega) hB
  refine ⟨v', w', ?_, r1, r2⟩
  unfold ap4
  simp [execOp, resolve, invoke, builtin, h, h2, hrun, Result.andThen]
theorem ar5 {g vl cap : Nat} (h : ρ (.tmp 47) = .slice (some ⟨g, 0, none⟩) (vl + 1) cap) (h2 : ρ (.tmp 45) = .int .i64 (vl : Int)) (_hl : vl ≤ 3000000) : (execOp ρ ap5).run Try.prog w = .ok (.value (.pointer (some ⟨g, vl * 6, none⟩))) w := by
  have h3 : (vl : Int) < (vl : Int) + 1 := by omega
  unfold ap5
  go_simp
def setSix (w : World) (g o : Nat) (k : Int) (t : ByteArray) (n : Int) (na : Option Addr) (nl nc : Nat) (s : Bool) (ka : Option Addr) (kl kc : Nat) : World :=
  (((((w.setCell ⟨g, o, none⟩ (.int .i64 k)).setCell ⟨g, o + 1, none⟩ (.string t)).setCell ⟨g, o + 2, none⟩ (.int .i64 n)).setCell ⟨g, o + 3, none⟩ (.slice na nl nc)).setCell ⟨g, o + 4, none⟩ (.bool s)).setCell ⟨g, o + 5, none⟩ (.slice ka kl kc)
theorem ar6 {g o : Nat} {k : Int} {t : ByteArray} {n : Int} {na : Option Addr} {nl nc : Nat} {s : Bool} {ka : Option Addr} {kl kc : Nat} (h : ρ (.tmp 48) = .pointer (some ⟨g, o, none⟩)) (h2 : ρ (.tmp 44) = .agg #[.int .i64 k, .string t, .int .i64 n, .slice na nl nc, .bool s, .slice ka kl kc])
    {c0 c1 c2 c3 c4 c5 : Value} (q0 : w.cell? ⟨g, o, none⟩ = some c0) (q1 : w.cell? ⟨g, o + 1, none⟩ = some c1) (q2 : w.cell? ⟨g, o + 2, none⟩ = some c2) (q3 : w.cell? ⟨g, o + 3, none⟩ = some c3) (q4 : w.cell? ⟨g, o + 4, none⟩ = some c4) (q5 : w.cell? ⟨g, o + 5, none⟩ = some c5)
    (f0 : ∀ j, w.frozen? ⟨g, j, none⟩ = false) :
    (execOp ρ ap6).run Try.prog w = .ok .skip (setSix w g o k t n na nl nc s ka kl kc) := by
  unfold ap6 setSix
  go_simp
theorem ar7 {O : Nat} {va : Option Addr} {vl vc : Nat} {u : Value} (h : ρ (.tmp 7) = .pointer (some ⟨O, 0, none⟩)) (h2 : ρ (.tmp 47) = .slice va vl vc) (hO : w.cell? ⟨O, 0, none⟩ = some u) (hf : w.frozen? ⟨O, 0, none⟩ = false) : (execOp ρ ap7).run Try.prog w = .ok .skip (w.setCell ⟨O, 0, none⟩ (.slice va vl vc)) := by
  unfold ap7
  go_simp
end


set_option maxRecDepth 100000 in
set_option maxHeartbeats 4000000 in
/-- The four operations ahead of the append, in whatever order. -/
theorem appHead (l m O X : Nat) (va : Option Addr) (vl vc : Nat) (k : Int) (t : ByteArray) (n : Int) (na : Option Addr) (nl nc : Nat) (s : Bool) (ka : Option Addr) (kl kc : Nat) (D : World) (Q : Exit → Act → World → Prop) (x0 x1 x2 x3 x4 x5 x6 x8 x9 x11 x12 x13 x14 x15 x16 x17 x18 x19 x20 x21 x22 x23 x24 x25 x26 x27 x28 x29 x30 x31 x32 x33 x34 x35 x36 x37 x38 x39 x40 x41 x42 x43 x44 x45 x46 x47 x48 : Value) (ds : List Deferred)
    (hO : D.cell? ⟨O, 0, none⟩ = some (.slice va vl vc))
    (q0 : D.cell? ⟨X, 0, none⟩ = some (.int .i64 k)) (q1 : D.cell? ⟨X, 1, none⟩ = some (.string t)) (q2 : D.cell? ⟨X, 2, none⟩ = some (.int .i64 n)) (q3 : D.cell? ⟨X, 3, none⟩ = some (.slice na nl nc)) (q4 : D.cell? ⟨X, 4, none⟩ = some (.bool s)) (q5 : D.cell? ⟨X, 5, none⟩ = some (.slice ka kl kc))
    (H0123 : wpAnyIn (Fence.wide.inRound l) m Try.prog .any appOps Q 4 #[true, true, true, true, false, false, false, false] { tmps := #[x0, x1, x2, x3, x4, x5, x6, .pointer (some ⟨O, 0, none⟩), x8, x9, .pointer (some ⟨X, 0, none⟩), x11, x12, x13, x14, x15, x16, x17, x18, x19, x20, x21, x22, x23, x24, x25, x26, x27, x28, x29, x30, x31, x32, x33, x34, x35, x36, x37, x38, x39, x40, x41, x42, .slice va vl vc, .agg #[.int .i64 k, .string t, .int .i64 n, .slice na nl nc, .bool s, .slice ka kl kc], .int .i64 (vl : Int), .slice (some ⟨D.heap.size, 0, none⟩) 1 1, x47, x48], defers := ds } (D.alloc (.cells #[.int .i64 0, .string ⟨#[]⟩, .int .i64 0, .slice none 0 0, .bool false, .slice none 0 0] 56))) :
    wpAnyIn (Fence.wide.inRound l) m Try.prog .any appOps Q 8 #[false, false, false, false, false, false, false, false] { tmps := #[x0, x1, x2, x3, x4, x5, x6, .pointer (some ⟨O, 0, none⟩), x8, x9, .pointer (some ⟨X, 0, none⟩), x11, x12, x13, x14, x15, x16, x17, x18, x19, x20, x21, x22, x23, x24, x25, x26, x27, x28, x29, x30, x31, x32, x33, x34, x35, x36, x37, x38, x39, x40, x41, x42, x43, x44, x45, x46, x47, x48], defers := ds } D := by
  have hO1 := (((Below.refl D.heap.size D).alloc (Nat.le_refl _) (.cells #[.int .i64 0, .string ⟨#[]⟩, .int .i64 0, .slice none 0 0, .bool false, .slice none 0 0] 56)).cell (World.block_lt_of_cell? D _ hO)).trans hO
  have r0 := (((Below.refl D.heap.size D).alloc (Nat.le_refl _) (.cells #[.int .i64 0, .string ⟨#[]⟩, .int .i64 0, .slice none 0 0, .bool false, .slice none 0 0] 56)).cell (World.block_lt_of_cell? D _ q0)).trans q0
  have r1 := (((Below.refl D.heap.size D).alloc (Nat.le_refl _) (.cells #[.int .i64 0, .string ⟨#[]⟩, .int .i64 0, .slice none 0 0, .bool false, .slice none 0 0] 56)).cell (World.block_lt_of_cell? D _ q1)).trans q1
  have r2 := (((Below.refl D.heap.size D).alloc (Nat.le_refl _) (.cells #[.int .i64 0, .string ⟨#[]⟩, .int .i64 0, .slice none 0 0, .bool false, .slice none 0 0] 56)).cell (World.block_lt_of_cell? D _ q2)).trans q2
  have r3 := (((Below.refl D.heap.size D).alloc (Nat.le_refl _) (.cells #[.int .i64 0, .string ⟨#[]⟩, .int .i64 0, .slice none 0 0, .bool false, .slice none 0 0] 56)).cell (World.block_lt_of_cell? D _ q3)).trans q3
  have r4 := (((Below.refl D.heap.size D).alloc (Nat.le_refl _) (.cells #[.int .i64 0, .string ⟨#[]⟩, .int .i64 0, .slice none 0 0, .bool false, .slice none 0 0] 56)).cell (World.block_lt_of_cell? D _ q4)).trans q4
  have r5 := (((Below.refl D.heap.size D).alloc (Nat.le_refl _) (.cells #[.int .i64 0, .string ⟨#[]⟩, .int .i64 0, .slice none 0 0, .bool false, .slice none 0 0] 56)).cell (World.block_lt_of_cell? D _ q5)).trans q5
  have H012 : wpAnyIn (Fence.wide.inRound l) m Try.prog .any appOps Q 5 #[true, true, true, false, false, false, false, false] { tmps := #[x0, x1, x2, x3, x4, x5, x6, .pointer (some ⟨O, 0, none⟩), x8, x9, .pointer (some ⟨X, 0, none⟩), x11, x12, x13, x14, x15, x16, x17, x18, x19, x20, x21, x22, x23, x24, x25, x26, x27, x28, x29, x30, x31, x32, x33, x34, x35, x36, x37, x38, x39, x40, x41, x42, .slice va vl vc, .agg #[.int .i64 k, .string t, .int .i64 n, .slice na nl nc, .bool s, .slice ka kl kc], .int .i64 (vl : Int), x46, x47, x48], defers := ds } D := by
    refine wpAnyIn_all (rs := [3]) (by kernel_rfl) (by simp) ?_
    intro i hi
    obtain rfl : i = 3 := by simpa using hi
    refine opV (o := ap3) rfl rfl (fun _ h => by cases h) (ar3 _ _ (fun _ => rfl)) ?_
    exact H0123
  have H013 : wpAnyIn (Fence.wide.inRound l) m Try.prog .any appOps Q 5 #[true, true, false, true, false, false, false, false] { tmps := #[x0, x1, x2, x3, x4, x5, x6, .pointer (some ⟨O, 0, none⟩), x8, x9, .pointer (some ⟨X, 0, none⟩), x11, x12, x13, x14, x15, x16, x17, x18, x19, x20, x21, x22, x23, x24, x25, x26, x27, x28, x29, x30, x31, x32, x33, x34, x35, x36, x37, x38, x39, x40, x41, x42, .slice va vl vc, .agg #[.int .i64 k, .string t, .int .i64 n, .slice na nl nc, .bool s, .slice ka kl kc], x45, .slice (some ⟨D.heap.size, 0, none⟩) 1 1, x47, x48], defers := ds } (D.alloc (.cells #[.int .i64 0, .string ⟨#[]⟩, .int .i64 0, .slice none 0 0, .bool false, .slice none 0 0] 56)) := by
    refine wpAnyIn_all (rs := [2]) (by kernel_rfl) (by simp) ?_
    intro i hi
    obtain rfl : i = 2 := by simpa using hi
    refine opV (o := ap2) rfl rfl (fun _ h => by cases h) (ar2 _ _ rfl) ?_
    exact H0123
  have H023 : wpAnyIn (Fence.wide.inRound l) m Try.prog .any appOps Q 5 #[true, false, true, true, false, false, false, false] { tmps := #[x0, x1, x2, x3, x4, x5, x6, .pointer (some ⟨O, 0, none⟩), x8, x9, .pointer (some ⟨X, 0, none⟩), x11, x12, x13, x14, x15, x16, x17, x18, x19, x20, x21, x22, x23, x24, x25, x26, x27, x28, x29, x30, x31, x32, x33, x34, x35, x36, x37, x38, x39, x40, x41, x42, .slice va vl vc, x44, .int .i64 (vl : Int), .slice (some ⟨D.heap.size, 0, none⟩) 1 1, x47, x48], defers := ds } (D.alloc (.cells #[.int .i64 0, .string ⟨#[]⟩, .int .i64 0, .slice none 0 0, .bool false, .slice none 0 0] 56)) := by
    refine wpAnyIn_all (rs := [1]) (by kernel_rfl) (by simp) ?_
    intro i hi
    obtain rfl : i = 1 := by simpa using hi
    refine opV (o := ap1) rfl rfl (fun _ h => by cases h) (ar1 _ _ rfl r0 r1 r2 r3 r4 r5) ?_
    exact H0123
  have H01 : wpAnyIn (Fence.wide.inRound l) m Try.prog .any appOps Q 6 #[true, true, false, false, false, false, false, false] { tmps := #[x0, x1, x2, x3, x4, x5, x6, .pointer (some ⟨O, 0, none⟩), x8, x9, .pointer (some ⟨X, 0, none⟩), x11, x12, x13, x14, x15, x16, x17, x18, x19, x20, x21, x22, x23, x24, x25, x26, x27, x28, x29, x30, x31, x32, x33, x34, x35, x36, x37, x38, x39, x40, x41, x42, .slice va vl vc, .agg #[.int .i64 k, .string t, .int .i64 n, .slice na nl nc, .bool s, .slice ka kl kc], x45, x46, x47, x48], defers := ds } D := by
    refine wpAnyIn_all (rs := [2, 3]) (by kernel_rfl) (by simp) ?_
    intro i hi
    have hi' : i = 2 ∨ i = 3 := by simpa using hi
    rcases hi' with rfl | rfl
    · refine opV (o := ap2) rfl rfl (fun _ h => by cases h) (ar2 _ _ rfl) ?_
      exact H012
    · refine opV (o := ap3) rfl rfl (fun _ h => by cases h) (ar3 _ _ (fun _ => rfl)) ?_
      exact H013
  have H02 : wpAnyIn (Fence.wide.inRound l) m Try.prog .any appOps Q 6 #[true, false, true, false, false, false, false, false] { tmps := #[x0, x1, x2, x3, x4, x5, x6, .pointer (some ⟨O, 0, none⟩), x8, x9, .pointer (some ⟨X, 0, none⟩), x11, x12, x13, x14, x15, x16, x17, x18, x19, x20, x21, x22, x23, x24, x25, x26, x27, x28, x29, x30, x31, x32, x33, x34, x35, x36, x37, x38, x39, x40, x41, x42, .slice va vl vc, x44, .int .i64 (vl : Int), x46, x47, x48], defers := ds } D := by
    refine wpAnyIn_all (rs := [1, 3]) (by kernel_rfl) (by simp) ?_
    intro i hi
    have hi' : i = 1 ∨ i = 3 := by simpa using hi
    rcases hi' with rfl | rfl
    · refine opV (o := ap1) rfl rfl (fun _ h => by cases h) (ar1 _ _ rfl q0 q1 q2 q3 q4 q5) ?_
      exact H012
    · refine opV (o := ap3) rfl rfl (fun _ h => by cases h) (ar3 _ _ (fun _ => rfl)) ?_
      exact H023
  have H03 : wpAnyIn (Fence.wide.inRound l) m Try.prog .any appOps Q 6 #[true, false, false, true, false, false, false, false] { tmps := #[x0, x1, x2, x3, x4, x5, x6, .pointer (some ⟨O, 0, none⟩), x8, x9, .pointer (some ⟨X, 0, none⟩), x11, x12, x13, x14, x15, x16, x17, x18, x19, x20, x21, x22, x23, x24, x25, x26, x27, x28, x29, x30, x31, x32, x33, x34, x35, x36, x37, x38, x39, x40, x41, x42, .slice va vl vc, x44, x45, .slice (some ⟨D.heap.size, 0, none⟩) 1 1, x47, x48], defers := ds } (D.alloc (.cells #[.int .i64 0, .string ⟨#[]⟩, .int .i64 0, .slice none 0 0, .bool false, .slice none 0 0] 56)) := by
    refine wpAnyIn_all (rs := [1, 2]) (by kernel_rfl) (by simp) ?_
    intro i hi
    have hi' : i = 1 ∨ i = 2 := by simpa using hi
    rcases hi' with rfl | rfl
    · refine opV (o := ap1) rfl rfl (fun _ h => by cases h) (ar1 _ _ rfl r0 r1 r2 r3 r4 r5) ?_
      exact H013
    · refine opV (o := ap2) rfl rfl (fun _ h => by cases h) (ar2 _ _ rfl) ?_
      exact H023
  have H13 : wpAnyIn (Fence.wide.inRound l) m Try.prog .any appOps Q 6 #[false, true, false, true, false, false, false, false] { tmps := #[x0, x1, x2, x3, x4, x5, x6, .pointer (some ⟨O, 0, none⟩), x8, x9, .pointer (some ⟨X, 0, none⟩), x11, x12, x13, x14, x15, x16, x17, x18, x19, x20, x21, x22, x23, x24, x25, x26, x27, x28, x29, x30, x31, x32, x33, x34, x35, x36, x37, x38, x39, x40, x41, x42, x43, .agg #[.int .i64 k, .string t, .int .i64 n, .slice na nl nc, .bool s, .slice ka kl kc], x45, .slice (some ⟨D.heap.size, 0, none⟩) 1 1, x47, x48], defers := ds } (D.alloc (.cells #[.int .i64 0, .string ⟨#[]⟩, .int .i64 0, .slice none 0 0, .bool false, .slice none 0 0] 56)) := by
    refine wpAnyIn_all (rs := [0]) (by kernel_rfl) (by simp) ?_
    intro i hi
    obtain rfl : i = 0 := by simpa using hi
    refine opV (o := ap0) rfl rfl (fun _ h => by cases h) (ar0 _ _ rfl hO1) ?_
    exact H013
  have H0 : wpAnyIn (Fence.wide.inRound l) m Try.prog .any appOps Q 7 #[true, false, false, false, false, false, false, false] { tmps := #[x0, x1, x2, x3, x4, x5, x6, .pointer (some ⟨O, 0, none⟩), x8, x9, .pointer (some ⟨X, 0, none⟩), x11, x12, x13, x14, x15, x16, x17, x18, x19, x20, x21, x22, x23, x24, x25, x26, x27, x28, x29, x30, x31, x32, x33, x34, x35, x36, x37, x38, x39, x40, x41, x42, .slice va vl vc, x44, x45, x46, x47, x48], defers := ds } D := by
    refine wpAnyIn_all (rs := [1, 2, 3]) (by kernel_rfl) (by simp) ?_
    intro i hi
    have hi' : i = 1 ∨ i = 2 ∨ i = 3 := by simpa using hi
    rcases hi' with rfl | rfl | rfl
    · refine opV (o := ap1) rfl rfl (fun _ h => by cases h) (ar1 _ _ rfl q0 q1 q2 q3 q4 q5) ?_
      exact H01
    · refine opV (o := ap2) rfl rfl (fun _ h => by cases h) (ar2 _ _ rfl) ?_
      exact H02
    · refine opV (o := ap3) rfl rfl (fun _ h => by cases h) (ar3 _ _ (fun _ => rfl)) ?_
      exact H03
  have H1 : wpAnyIn (Fence.wide.inRound l) m Try.prog .any appOps Q 7 #[false, true, false, false, false, false, false, false] { tmps := #[x0, x1, x2, x3, x4, x5, x6, .pointer (some ⟨O, 0, none⟩), x8, x9, .pointer (some ⟨X, 0, none⟩), x11, x12, x13, x14, x15, x16, x17, x18, x19, x20, x21, x22, x23, x24, x25, x26, x27, x28, x29, x30, x31, x32, x33, x34, x35, x36, x37, x38, x39, x40, x41, x42, x43, .agg #[.int .i64 k, .string t, .int .i64 n, .slice na nl nc, .bool s, .slice ka kl kc], x45, x46, x47, x48], defers := ds } D := by
    refine wpAnyIn_all (rs := [0, 3]) (by kernel_rfl) (by simp) ?_
    intro i hi
    have hi' : i = 0 ∨ i = 3 := by simpa using hi
    rcases hi' with rfl | rfl
    · refine opV (o := ap0) rfl rfl (fun _ h => by cases h) (ar0 _ _ rfl hO) ?_
      exact H01
    · refine opV (o := ap3) rfl rfl (fun _ h => by cases h) (ar3 _ _ (fun _ => rfl)) ?_
      exact H13
  have H3 : wpAnyIn (Fence.wide.inRound l) m Try.prog .any appOps Q 7 #[false, false, false, true, false, false, false, false] { tmps := #[x0, x1, x2, x3, x4, x5, x6, .pointer (some ⟨O, 0, none⟩), x8, x9, .pointer (some ⟨X, 0, none⟩), x11, x12, x13, x14, x15, x16, x17, x18, x19, x20, x21, x22, x23, x24, x25, x26, x27, x28, x29, x30, x31, x32, x33, x34, x35, x36, x37, x38, x39, x40, x41, x42, x43, x44, x45, .slice (some ⟨D.heap.size, 0, none⟩) 1 1, x47, x48], defers := ds } (D.alloc (.cells #[.int .i64 0, .string ⟨#[]⟩, .int .i64 0, .slice none 0 0, .bool false, .slice none 0 0] 56)) := by
    refine wpAnyIn_all (rs := [0, 1]) (by kernel_rfl) (by simp) ?_
    intro i hi
    have hi' : i = 0 ∨ i = 1 := by simpa using hi
    rcases hi' with rfl | rfl
    · refine opV (o := ap0) rfl rfl (fun _ h => by cases h) (ar0 _ _ rfl hO1) ?_
      exact H03
    · refine opV (o := ap1) rfl rfl (fun _ h => by cases h) (ar1 _ _ rfl r0 r1 r2 r3 r4 r5) ?_
      exact H13
  refine wpAnyIn_all (rs := [0, 1, 3]) (by kernel_rfl) (by simp) ?_
  intro i hi
  have hi' : i = 0 ∨ i = 1 ∨ i = 3 := by simpa using hi
  rcases hi' with rfl | rfl | rfl
  · refine opV (o := ap0) rfl rfl (fun _ h => by cases h) (ar0 _ _ rfl hO) ?_
    exact H0
  · refine opV (o := ap1) rfl rfl (fun _ h => by cases h) (ar1 _ _ rfl q0 q1 q2 q3 q4 q5) ?_
    exact H1
  · refine opV (o := ap3) rfl rfl (fun _ h => by cases h) (ar3 _ _ (fun _ => rfl)) ?_
    exact H3

end Go.Proofs.Ytbkloddaooblfac

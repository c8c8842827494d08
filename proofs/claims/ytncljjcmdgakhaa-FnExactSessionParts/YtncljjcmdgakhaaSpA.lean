/-
  'texts = append(texts, strings.Clone(program))' within a round: whatever order is drawn. (Written by wip/tools/mkSpA.py.)
-/
import Derived.Test.YtncljjcmdgakhaaSpT
import Derived.Laws.OwnMore
import Derived.Laws.AppendOwn
import Derived.RangeFuncBox
import Derived.OrdersIn
namespace Go.Proofs.Ytncljjcmdgakhaa
open Go.RowKit Go.Shelf

attribute [local go_sem] Oper.semAt_some

def sp0 : Oper := { dst := some 12, op := Op.load 22 (Operand.tmp 4), type := 22, pos := "l08_session.go:57", after := #[], guard := none }
def sp1 : Oper := { dst := some 13, op := Op.move (Operand.tmp 5), type := 9, pos := "l08_session.go:57", after := #[], guard := none }
def sp2 : Oper := { dst := some 14, op := Op.call { callee := Callee.value (Operand.func 15), args := #[Operand.tmp 13], argTypes := #[9] }, type := 9, pos := "l08_session.go:57", after := #[{ on := 1, ground := Ground.data }], guard := none }
def sp3 : Oper := { dst := some 15, op := Op.buildSlice 22 1 #[(0, Operand.tmp 14)], type := 22, pos := "l08_session.go:57", after := #[{ on := 2, ground := Ground.data }], guard := none }
def sp4 : Oper := { dst := some 16, op := Op.call { callee := Callee.builtin Builtin.append, args := #[Operand.tmp 12, Operand.tmp 15], argTypes := #[22, 22] }, type := 22, pos := "l08_session.go:57", after := #[{ on := 0, ground := Ground.data }, { on := 3, ground := Ground.data }, { on := 2, ground := Ground.chain }], guard := none }
def sp5 : Oper := { dst := none, op := Op.store 22 (Operand.tmp 4) (Operand.tmp 16), type := 0, pos := "l08_session.go:57", after := #[{ on := 4, ground := Ground.data }, { on := 4, ground := Ground.chain }, { on := 0, ground := Ground.phase }, { on := 1, ground := Ground.phase }, { on := 2, ground := Ground.phase }, { on := 3, ground := Ground.phase }, { on := 4, ground := Ground.phase }], guard := none }
def spOps : Array Oper := #[sp0, sp1, sp2, sp3, sp4, sp5]

section
variable {l n : Nat} {P : Program} {ops : Array Oper} {Q : Exit → Act → World → Prop} {i : Nat} {o : Oper} {K : Act → World → Prop} {a : Act} {w w' : World}
theorem opV (ho : ops[i]? = some o) (hg : o.guard = none) (hd : ∀ c, o.op ≠ .defer c) {v : Value} (hrun : (execOp a.eval o).run P w = .ok (.value v) w') (h : K (a.put o.dst v) w') : wpOpIn (Fence.wide.inRound l) n P ops Q i K a w := by
  unfold wpOpIn
  rw [ho]
  simp only []
  rw [if_pos (by simp [Region.wanted, hg])]
  refine ⟨fun _ _ => trivial, ?_⟩
  rw [Fence.inRound_round, Oper.semAt_some l _ o hd, hrun]
  exact h
theorem opS (ho : ops[i]? = some o) (hg : o.guard = none) (hd : ∀ c, o.op ≠ .defer c) (hrun : (execOp a.eval o).run P w = .ok .skip w') (h : K (a.put o.dst undef) w') : wpOpIn (Fence.wide.inRound l) n P ops Q i K a w := by
  unfold wpOpIn
  rw [ho]
  simp only []
  rw [if_pos (by simp [Region.wanted, hg])]
  refine ⟨fun _ _ => trivial, ?_⟩
  rw [Fence.inRound_round, Oper.semAt_some l _ o hd, hrun]
  exact h
theorem opC (ho : ops[i]? = some o) (hg : o.guard = none) (hd : ∀ c, o.op ≠ .defer c) {f : Nat} {args : Array Value} (hrun : (execOp a.eval o).run P w = .ok (.enter f args) w') (hc : CallsIn (Fence.wide.inRound l) (n - 1) P f args w' fun e w2 => ∃ v, e = .returned v ∧ K (a.put o.dst v) w2) : wpOpIn (Fence.wide.inRound l) n P ops Q i K a w := by
  unfold wpOpIn
  rw [ho]
  simp only []
  rw [if_pos (by simp [Region.wanted, hg])]
  refine ⟨fun _ _ => trivial, ?_⟩
  rw [Fence.inRound_round, Oper.semAt_some l _ o hd, hrun]
  refine ⟨fun h => (by cases h), hc.mono ?_⟩
  rintro e w2 ⟨v, rfl, h⟩
  exact h
end

section
variable (ρ : Operand → Value) (w : World)
set_option maxHeartbeats 1000000
theorem sr0 {O : Nat} {va : Option Addr} {vl vc : Nat} (h : ρ (.tmp 4) = .pointer (some ⟨O, 0, none⟩)) (hO : w.cell? ⟨O, 0, none⟩ = some (.slice va vl vc)) : (execOp ρ sp0).run Try.prog w = .ok (.value (.slice va vl vc)) w := by
  unfold sp0
  go_simp
theorem sr1 {x : ByteArray} (h : ρ (.tmp 5) = .string x) : (execOp ρ sp1).run Try.prog w = .ok (.value (.string x)) w := by
  unfold sp1
  go_simp
theorem sr2 {x : ByteArray} (h : ρ (.tmp 13) = .string x) (hf : ∀ v, ρ (.func v) = .func (.func v) #[] #[]) : (execOp ρ sp2).run Try.prog w = .ok (.enter 15 #[.string x]) w := by
  have e := hf 15
  unfold sp2
  go_simp
theorem sr3 {x : ByteArray} (h : ρ (.tmp 14) = .string x) : (execOp ρ sp3).run Try.prog w = .ok (.value (.slice (some ⟨w.heap.size, 0, none⟩) 1 1)) (w.alloc (.cells #[.string x] 9)) := by
  unfold sp3
  go_simp
theorem sr4 {va : Option Addr} {vl vc B : Nat} {xs : List Value} {x : ByteArray} (h : ρ (.tmp 12) = .slice va vl vc) {g : Nat} (h2 : ρ (.tmp 15) = .slice (some ⟨g, 0, none⟩) 1 1) (hown : w.ownsRow B 9 1 (.slice va vl vc) vl xs) (hl : vl ≤ 3000000) (hB : B ≤ w.heap.size)
    (hc : ∀ j u, [Value.string x][j]? = some u → w.cell? ((⟨g, 0, none⟩ : Addr).add j) = some u) :
    ∃ v' w', (execOp ρ sp4).run Try.prog w = .ok (.value v') w' ∧ w'.ownsRow B 9 1 v' (vl + 1) (xs ++ [.string x]) ∧ w.grownBy w' (Value.ownBlock (.slice va vl vc)) := by
  obtain ⟨i0, hi, hz0, hz1, hz2⟩ := info_parts Try.infoStr
  obtain ⟨v', w', hrun, r1, r2, _⟩ := run_append_own (P := Try.prog) w B 22 22 9 i0 (.string ByteArray.empty) 1 16 Try.underlying22 hi hz0 hz1 hz2 rfl (by decide) (.slice va vl vc) vl xs hown ⟨g, 0, none⟩ 1 1 [.string x] rfl hc (by
    intro u hu
    simp only [List.mem_singleton] at hu
    subst hu; rfl) (by unfold maxLen; omega) (by omega) hB
  refine ⟨v', w', ?_, r1, r2⟩
  unfold sp4
  simp [execOp, resolve, invoke, builtin, h, h2, hrun, Result.andThen]
theorem sr5 {O : Nat} {va : Option Addr} {vl vc : Nat} {u : Value} (h : ρ (.tmp 4) = .pointer (some ⟨O, 0, none⟩)) (h2 : ρ (.tmp 16) = .slice va vl vc) (hO : w.cell? ⟨O, 0, none⟩ = some u) (hf : w.frozen? ⟨O, 0, none⟩ = false) : (execOp ρ sp5).run Try.prog w = .ok .skip (w.setCell ⟨O, 0, none⟩ (.slice va vl vc)) := by
  unfold sp5
  go_simp
end

set_option maxRecDepth 100000 in
set_option maxHeartbeats 4000000 in
theorem spApp (l m O B : Nat) (x : ByteArray) (hx : x.size ≤ 4000) (va : Option Addr) (vl vc : Nat) (xs : List Value) (D : World) (Q : Exit → Act → World → Prop) (x0 x1 x2 x3 x6 x7 x8 x9 x10 x11 x12 x13 x14 x15 x16 x17 : Value) (ds : List Deferred)
    (hO : Boxed D O 22 (.slice va vl vc)) (hrow : D.ownsRow B 9 1 (.slice va vl vc) vl xs) (hB : B ≤ D.heap.size) (hl : vl ≤ 3000000)
    (hK : ∀ w2 v2 w3 a, Below D.heap.size D w2 → w3.ownsRow B 9 1 v2 (vl + 1) (xs ++ [.string x]) → (w2.alloc (.cells #[.string x] 9)).grownBy w3 (Value.ownBlock (.slice va vl vc)) → Boxed w3 O 22 (.slice va vl vc) → Q .normal a (w3.setCell ⟨O, 0, none⟩ v2)) :
    wpAnyIn (Fence.wide.inRound l) m Try.prog .any spOps Q 6 #[false, false, false, false, false, false] { tmps := #[x0, x1, x2, x3, .pointer (some ⟨O, 0, none⟩), .string x, x6, x7, x8, x9, x10, x11, x12, x13, x14, x15, x16, x17], defers := ds } D := by
  have HC : Hid (∀ W, CallsIn (Fence.wide.inRound l) (m - 1) Try.prog 15 #[.string x] W fun e w' => e = .returned (.string x) ∧ Below W.heap.size W w') := fun W => CallsIn.inRound l (callsIn_wide.2 (iClone x W hx))
  have HO : Hid (∀ w2, Below D.heap.size D w2 → Boxed w2 O 22 (.slice va vl vc) ∧ w2.ownsRow B 9 1 (.slice va vl vc) vl xs ∧ B ≤ w2.heap.size) := fun w2 hb => ⟨(hb.block O hO.lt).trans hO, row_same hrow (fun q hq => hb.block q (World.ownsRow.lt hrow q hq).2), Nat.le_trans hB hb.size⟩
  have H13 : ∀ w2, Below D.heap.size D w2 → wpAnyIn (Fence.wide.inRound l) m Try.prog .any spOps Q 2 #[true, true, true, true, false, false] { tmps := #[x0, x1, x2, x3, .pointer (some ⟨O, 0, none⟩), .string x, x6, x7, x8, x9, x10, x11, .slice va vl vc, .string x, .string x, .slice (some ⟨w2.heap.size, 0, none⟩) 1 1, x16, x17], defers := ds } (w2.alloc (.cells #[.string x] 9)) := by
    intro w2 hb
    obtain ⟨h1, h2, h3⟩ := HO.out w2 hb
    refine wpAnyIn_all (rs := [4]) (by kernel_rfl) (by simp) ?_
    intro i hi
    obtain rfl : i = 4 := by simpa using hi
    obtain ⟨v2, w3, hrun, r1, r2⟩ := sr4 (Act.eval { tmps := #[x0, x1, x2, x3, .pointer (some ⟨O, 0, none⟩), .string x, x6, x7, x8, x9, x10, x11, .slice va vl vc, .string x, .string x, .slice (some ⟨w2.heap.size, 0, none⟩) 1 1, x16, x17], defers := ds }) (w2.alloc (.cells #[.string x] 9)) (x := x) (g := w2.heap.size) rfl rfl (World.ownsRow.alloc h2 _) hl (by simp; omega) (cell_one_new w2 _ 9)
    refine opV (o := sp4) rfl rfl (fun _ h => by cases h) hrun ?_
    have hb3 : Boxed w3 O 22 (.slice va vl vc) := (h1.alloc _).kept r2 (h1.not_row (by decide) h2)
    have hq := fun a => hK w2 v2 w3 a hb r1 r2 hb3
    obtain ⟨g2, c2, rfl⟩ := ownsRow_succ r1
    refine wpAnyIn_all (rs := [5]) (by kernel_rfl) (by simp) ?_
    intro i hi
    obtain rfl : i = 5 := by simpa using hi
    refine opS (o := sp5) rfl rfl (fun _ h => by cases h) (sr5 _ _ rfl rfl hb3.cell hb3.frozen) ?_
    exact wpAnyIn_done (by kernel_rfl) (hq _) _
  have H03 : ∀ w2, Below D.heap.size D w2 → wpAnyIn (Fence.wide.inRound l) m Try.prog .any spOps Q 3 #[false, true, true, true, false, false] { tmps := #[x0, x1, x2, x3, .pointer (some ⟨O, 0, none⟩), .string x, x6, x7, x8, x9, x10, x11, x12, .string x, .string x, .slice (some ⟨w2.heap.size, 0, none⟩) 1 1, x16, x17], defers := ds } (w2.alloc (.cells #[.string x] 9)) := by
    intro w2 hb
    obtain ⟨h1, h2, h3⟩ := HO.out w2 hb
    refine wpAnyIn_all (rs := [0]) (by kernel_rfl) (by simp) ?_
    intro i hi
    obtain rfl : i = 0 := by simpa using hi
    refine opV (o := sp0) rfl rfl (fun _ h => by cases h) (sr0 _ _ rfl (h1.alloc _).cell) ?_
    exact H13 w2 hb
  have H12 : ∀ w2, Below D.heap.size D w2 → wpAnyIn (Fence.wide.inRound l) m Try.prog .any spOps Q 3 #[true, true, true, false, false, false] { tmps := #[x0, x1, x2, x3, .pointer (some ⟨O, 0, none⟩), .string x, x6, x7, x8, x9, x10, x11, .slice va vl vc, .string x, .string x, x15, x16, x17], defers := ds } w2 := by
    intro w2 hb
    refine wpAnyIn_all (rs := [3]) (by kernel_rfl) (by simp) ?_
    intro i hi
    obtain rfl : i = 3 := by simpa using hi
    refine opV (o := sp3) rfl rfl (fun _ h => by cases h) (sr3 _ _ rfl) ?_
    exact H13 w2 hb
  have H02 : ∀ w2, Below D.heap.size D w2 → wpAnyIn (Fence.wide.inRound l) m Try.prog .any spOps Q 4 #[false, true, true, false, false, false] { tmps := #[x0, x1, x2, x3, .pointer (some ⟨O, 0, none⟩), .string x, x6, x7, x8, x9, x10, x11, x12, .string x, .string x, x15, x16, x17], defers := ds } w2 := by
    intro w2 hb
    obtain ⟨h1, h2, h3⟩ := HO.out w2 hb
    refine wpAnyIn_all (rs := [0, 3]) (by kernel_rfl) (by simp) ?_
    intro i hi
    have hi' : i = 0 ∨ i = 3 := by simpa using hi
    rcases hi' with rfl | rfl
    · refine opV (o := sp0) rfl rfl (fun _ h => by cases h) (sr0 _ _ rfl h1.cell) ?_
      exact H12 w2 hb
    · refine opV (o := sp3) rfl rfl (fun _ h => by cases h) (sr3 _ _ rfl) ?_
      exact H03 w2 hb
  have H11 : wpAnyIn (Fence.wide.inRound l) m Try.prog .any spOps Q 4 #[true, true, false, false, false, false] { tmps := #[x0, x1, x2, x3, .pointer (some ⟨O, 0, none⟩), .string x, x6, x7, x8, x9, x10, x11, .slice va vl vc, .string x, x14, x15, x16, x17], defers := ds } D := by
    refine wpAnyIn_all (rs := [2]) (by kernel_rfl) (by simp) ?_
    intro i hi
    obtain rfl : i = 2 := by simpa using hi
    refine opC (o := sp2) rfl rfl (fun _ h => by cases h) (sr2 _ _ rfl (fun _ => rfl)) ?_
    refine (HC.out D).mono ?_
    rintro e w2 ⟨rfl, hb⟩
    exact ⟨_, rfl, H12 w2 hb⟩
  have H01 : wpAnyIn (Fence.wide.inRound l) m Try.prog .any spOps Q 5 #[false, true, false, false, false, false] { tmps := #[x0, x1, x2, x3, .pointer (some ⟨O, 0, none⟩), .string x, x6, x7, x8, x9, x10, x11, x12, .string x, x14, x15, x16, x17], defers := ds } D := by
    refine wpAnyIn_all (rs := [0, 2]) (by kernel_rfl) (by simp) ?_
    intro i hi
    have hi' : i = 0 ∨ i = 2 := by simpa using hi
    rcases hi' with rfl | rfl
    · refine opV (o := sp0) rfl rfl (fun _ h => by cases h) (sr0 _ _ rfl hO.cell) ?_
      exact H11
    · refine opC (o := sp2) rfl rfl (fun _ h => by cases h) (sr2 _ _ rfl (fun _ => rfl)) ?_
      refine (HC.out D).mono ?_
      rintro e w2 ⟨rfl, hb⟩
      exact ⟨_, rfl, H02 w2 hb⟩
  have H10 : wpAnyIn (Fence.wide.inRound l) m Try.prog .any spOps Q 5 #[true, false, false, false, false, false] { tmps := #[x0, x1, x2, x3, .pointer (some ⟨O, 0, none⟩), .string x, x6, x7, x8, x9, x10, x11, .slice va vl vc, x13, x14, x15, x16, x17], defers := ds } D := by
    refine wpAnyIn_all (rs := [1]) (by kernel_rfl) (by simp) ?_
    intro i hi
    obtain rfl : i = 1 := by simpa using hi
    refine opV (o := sp1) rfl rfl (fun _ h => by cases h) (sr1 _ _ rfl) ?_
    exact H11
  refine wpAnyIn_all (rs := [0, 1]) (by kernel_rfl) (by simp) ?_
  intro i hi
  have hi' : i = 0 ∨ i = 1 := by simpa using hi
  rcases hi' with rfl | rfl
  · refine opV (o := sp0) rfl rfl (fun _ h => by cases h) (sr0 _ _ rfl hO.cell) ?_
    exact H10
  · refine opV (o := sp1) rfl rfl (fun _ h => by cases h) (sr1 _ _ rfl) ?_
    exact H01

end Go.Proofs.Ytncljjcmdgakhaa

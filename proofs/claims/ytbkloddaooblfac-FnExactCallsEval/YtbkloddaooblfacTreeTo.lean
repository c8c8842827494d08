/-
  The walks of the law's functions that copy a tree: toStringS, toNodeS, toNode.
-/
import Derived.Test.YtbkloddaooblfacTreeSz
import Derived.Deep.OwnRows
import Derived.Laws.MakeOwn
namespace Go.Proofs.Ytbkloddaooblfac
open Go.RowKit

theorem Try.infoStr : (Try.prog.info? 9).map (fun i => (i.zero, i.size, i.bytes)) = some (some (.string ByteArray.empty), 1, 16) := by kernel_rfl
def zeroN : Value := .agg #[.int .i64 0, .string ByteArray.empty, .int .i64 0, .slice none 0 0, .bool false, .slice none 0 0]
theorem Try.infoNode : (Try.prog.info? 56).map (fun i => (i.zero, i.size, i.bytes)) = some (some zeroN, 6, 88) := by kernel_rfl

/-- 'make([]impl.Node, n)'. -/
theorem run_makeN (n : Nat) (hn : n ≤ 1048576) (w : World) :
    (Instr.makeSlice 54 (.int .i64 (n : Int)) (.int .i64 (n : Int))).run Try.prog w = .ok (.slice (some ⟨w.heap.size, 0, none⟩) n n) (w.alloc (.cells (madeCells zeroN.cells (n * 6)) 56)) := by
  obtain ⟨i, hi, hzz⟩ := Option.map_eq_some_iff.1 Try.infoNode
  simp only [Prod.mk.injEq] at hzz
  obtain ⟨hz, hs, hb⟩ := hzz
  have hr := run_make (P := Try.prog) w 54 56 i zeroN Try.underlying54 hi hz .i64 .i64 n n (by omega) (Int.le_refl _) (by rw [hb]; omega) (by omega)
  simp only [Int.toNat_natCast, hs] at hr
  exact hr

theorem Below.rowIs {w w' : World} {b n : Nat} {t : TypeId} {f : Nat → Value} (h : w.rowIs b t n f) (hb : Below w.heap.size w w') : w'.rowIs b t n f := h.of_block (hb.block b h.lt)

set_option maxHeartbeats 1000000 in
theorem lToStr (a : Option Addr) (cap B : Nat) (ns : List ByteArray) (w : World) (hn : ns.length ≤ 1048576) (h : StrsIn w B a ns) :
    Calls Try.prog 59 #[.slice a ns.length cap] w fun e w' => e = .returned (.slice (some ⟨w.heap.size, 0, none⟩) ns.length ns.length) ∧ StrsIn w' w.heap.size (some ⟨w.heap.size, 0, none⟩) ns ∧ Below w.heap.size w w' := by
  have hmk := run_make_row' (P := Try.prog) 44 9 (.string ByteArray.empty) 16 Try.underlying44 Try.infoStr rfl .i64 .i64 ns.length (by omega) (by omega)
  have hb0 : ∀ o, Below w.heap.size w (w.alloc o) := fun o => (Below.refl _ _).alloc (Nat.le_refl _) o
  have HB0 : Hid (∀ o, Below w.heap.size w (w.alloc o)) := hb0
  clear hb0
  rcases h with rfl | ⟨b, o, rfl, _, hc⟩
  · clear hn
    simp only [List.length_nil, Int.natCast_zero] at hmk ⊢
    go_enter Try.func59, Try.ntmps59
    go_wp2
    refine wp_loop_rounds 1 ?_
    rw [rounds_succ]
    go_wp2
    go_ret
    exact ⟨rfl, .inl rfl, HB0.out _⟩
  · have HC : Hid (∀ i (h : i < ns.length), w.cell? ⟨b, o + i, none⟩ = some (.string ns[i])) := hc
    clear hc
    have hrow := World.rowIs_made w (.string ByteArray.empty) ns.length 9
    have HR : Hid ((w.alloc (.cells (madeCells #[.string ByteArray.empty] ns.length) 9)).rowIs w.heap.size 9 ns.length (fun _ => .string ByteArray.empty)) := hrow
    clear hrow
    go_enter Try.func59, Try.ntmps59
    go_wp2
    go_loopw [4] (fun vi wr => ∃ (i : Nat) (f : Nat → Value), i ≤ ns.length ∧ vi = .int .i64 i ∧ wr.rowIs w.heap.size 9 ns.length f ∧ Below w.heap.size w wr ∧ Hid (∀ j (h : j < ns.length), j < i → f j = .string ns[j])) (fun vi _ => ns.length - (intOf vi).toNat)
    case atStart => exact ⟨0, _, Nat.zero_le _, rfl, HR.out, HB0.out _, fun j _ h => by omega⟩
    case round =>
      obtain ⟨i, f, hi, rfl, hrow, hb, HF⟩ := hrel
      by_cases hlt : i < ns.length
      · have hcell0 := HC.out i hlt
        have hcell := (hb.cell (World.block_lt_of_cell? w _ hcell0)).trans hcell0
        have hd := hrow.cell hlt
        have hf := hrow.frozen i
        have hlt' : (i : Int) < (ns.length : Int) := by omega
        have hset := hrow.set i (.string ns[i])
        have HF2 : Hid (∀ j (h : j < ns.length), j < i + 1 → (if j = i then (.string ns[i]) else f j) = .string ns[j]) := by
          intro j hj hji
          by_cases e : j = i
          · subst e; rw [if_pos rfl]
          · rw [if_neg e]; exact HF.out j hj (by omega)
        clear hcell0
        have HS : Hid ((wr.setCell ⟨w.heap.size, i, none⟩ (.string ns[i])).rowIs w.heap.size 9 ns.length (fun j => if j = i then (.string ns[i]) else f j)) := hset
        clear hset
        go_wp2_with fail
        exact ⟨⟨i + 1, _, by omega, by go_num, HS.out, hb.setCell (Nat.le_refl _) _, HF2⟩, by simp [intOf]; omega⟩
      · have hil : i = ns.length := by omega
        go_wp2_with fail
        go_ret
        refine ⟨rfl, .inr ⟨w.heap.size, 0, rfl, Nat.le_refl _, fun j hj => ?_⟩, hb⟩
        rw [Nat.zero_add, hrow.cell hj, HF.out j hj (by omega)]

/-- A block of cells of which none is frozen. -/
def Plain (w : World) (b : Nat) : Prop := ∃ c t, w.heap[b]? = some (.cells c t (0, 0))
theorem Plain.lt {w : World} {b : Nat} (h : Plain w b) : b < w.heap.size := by
  obtain ⟨c, t, h⟩ := h
  exact (Array.getElem?_eq_some_iff.1 h).1
theorem Plain.under {w w' : World} {b : Nat} (h : Plain w b) (hb : Below w.heap.size w w') : Plain w' b := by
  obtain ⟨c, t, e⟩ := h
  exact ⟨c, t, (hb.block b (Array.getElem?_eq_some_iff.1 e).1).trans e⟩
theorem Plain.set {w : World} {b : Nat} (h : Plain w b) (p : Addr) (u : Value) : Plain (w.setCell p u) b := by
  obtain ⟨c, t, e⟩ := h
  by_cases hb : b = p.block
  · subst hb
    simp only [World.setCell, Plain, Array.getElem?_modify, e]
    exact ⟨_, _, rfl⟩
  · exact ⟨c, t, (Below.heap_setCell w p u b hb).trans e⟩

def ToOK (t : PT) : Prop := ∀ (B : Nat) (c : NC) (fp : List Nat) (w : World), szT t ≤ 1048576 → NIn w B t c fp →
  Calls Try.prog 32 #[.agg (t.cells c)] w fun e w' => ∃ c' fp', e = .returned (.agg (t.cells c')) ∧ NIn w' w.heap.size t c' fp' ∧ Below w.heap.size w w' ∧ fp'.Nodup ∧ (∀ x ∈ fp', w.heap.size ≤ x ∧ Plain w' x)

def SixF (f : Nat → Value) (o : Nat) : PT → NC → Prop
  | .node k t n ns s ks, c => f o = (.int .i64 k) ∧ f (o + 1) = (.string t) ∧ f (o + 2) = (.int .i64 n) ∧ f (o + 3) = (.slice c.na ns.length c.nc) ∧ f (o + 4) = (.bool s) ∧ f (o + 5) = (.slice c.ka ks.length c.kc)

end Go.Proofs.Ytbkloddaooblfac

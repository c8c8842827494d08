/-
  The walks of the program's own and parent, of a holder of either type.
-/
import Derived.Test.YtlmlmdmechhalaaHpG
import Derived.Test.YtlmlmdmechhalaaHpK
namespace Go.Proofs.Ytlmlmdmechhalaa
open Go.RowKit
open Hp (PP OO propC rP kl encP putAll)

theorem Try.mOwnH (b : Nat) (w : World) : (Go.method 271 135 (.pointer (some ⟨b, 0, none⟩)) "loop.example/g00317/impl.own").run Try.prog w = .ok (116, .pointer (some ⟨b, 0, none⟩)) w := by kernel_rfl
theorem Try.mOwnA (b : Nat) (w : World) : (Go.method 271 126 (.pointer (some ⟨b, 0, none⟩)) "loop.example/g00317/impl.own").run Try.prog w = .ok (111, .pointer (some ⟨b, 0, none⟩)) w := by kernel_rfl
theorem Try.mParH (b : Nat) (w : World) : (Go.method 271 135 (.pointer (some ⟨b, 0, none⟩)) "loop.example/g00317/impl.parent").run Try.prog w = .ok (112, .pointer (some ⟨b, 0, none⟩)) w := by kernel_rfl
theorem Try.mParA (b : Nat) (w : World) : (Go.method 271 126 (.pointer (some ⟨b, 0, none⟩)) "loop.example/g00317/impl.parent").run Try.prog w = .ok (112, .pointer (some ⟨b, 0, none⟩)) w := by kernel_rfl
theorem Try.zeroP (w : World) : (zeroValue 78).run Try.prog w = .ok (.agg (propC Hp.zeroP)) w := by kernel_rfl

theorem look_prop {w : World} {lo : Nat} {x : OO} {c : HC} (h : HeldAt w lo x c) (key : ByteArray) (hk : key.size ≤ 9223372036854775807) :
    (Instr.lookup 127 (.map (some c.m)) (.string key) true).run Try.prog w = .ok (.tuple #[.agg (propC ((x.ps.find? (Hp.same key)).getD Hp.zeroP)), .bool (x.ps.find? (Hp.same key)).isSome]) w := by
  obtain ⟨h1, h2, h3, h4, ⟨n, D, h5, h6, h7⟩, h8⟩ := h
  have hkey := WideMaps.keyOf_string_mk (P := Try.prog) (k := 9) Try.underlying9 (s := key) (by unfold maxLen; omega)
  obtain ⟨v, ps, hrun, hv⟩ := h6.look_ok keyedS Try.underlying127 (Try.zeroP w) (Hp.rP_mk Hp.zeroP) hkey
  rw [Hp.Reads.got h7 key hv] at hrun
  have e : Maps.has D (kl key) = (x.ps.find? (Hp.same key)).isSome := h7.has key
  rw [← e]
  exact hrun

set_option maxHeartbeats 4000000 in
theorem iOwn (w : World) (lo : Nat) (x : OO) (c : HC) (key : ByteArray) (hk : key.size ≤ 9223372036854775807) (h : HeldAt w lo x c) :
    Calls Try.prog 116 #[.pointer (some ⟨c.b, 0, none⟩), .string key] w fun e w' => e = .returned (.tuple #[.agg (propC ((x.ps.find? (Hp.same key)).getD Hp.zeroP)), .bool (x.ps.find? (Hp.same key)).isSome]) ∧ Below w.heap.size w w' := by
  have hlook : ∀ o, (Instr.lookup 127 (.map (some c.m)) (.string key) true).run Try.prog (w.alloc o) = .ok (.tuple #[.agg (propC ((x.ps.find? (Hp.same key)).getD Hp.zeroP)), .bool (x.ps.find? (Hp.same key)).isSome]) (w.alloc o) := fun o => look_prop (h.under ((Below.refl _ _).alloc (Nat.le_refl _) o)) key hk
  have hc2 : w.cell? ⟨c.b, 2, none⟩ = some (.map (some c.m)) := (four_of h.2.2.2.1).1.2.2.1
  have hb := (h.mine (.inl rfl)).2
  have HB0 : Hid (∀ o1 o2, Below w.heap.size w ((w.alloc o1).alloc o2)) := fun o1 o2 => ((Below.refl _ _).alloc (Nat.le_refl _) o1).alloc (by simp) o2
  clear h
  generalize (x.ps.find? (Hp.same key)).isSome = B at *
  generalize (x.ps.find? (Hp.same key)).getD Hp.zeroP = p at *
  generalize c.m = m at *
  generalize c.b = b at *
  obtain ⟨pk, ⟨p1, p2, p3⟩, p4, p5⟩ := p
  unfold propC at *
  dsimp only at *
  go_enter Try.func116, Try.ntmps116
  go_wp2_with fail
  refine bodyPost_ret (v := .tuple #[.agg #[.string pk, .int .i64 p1, .int .i64 p2, .string p3, .bool p4, .bool p5], .bool B]) (by simp [results, Try.results116, go_sem]) rfl ⟨rfl, ?_⟩
  exact HB0.out _ _

theorem Try.lookNone (key : ByteArray) (hk : key.size ≤ 9223372036854775807) (w : World) : (Instr.lookup 131 (.map none) (.string key) true).run Try.prog w = .ok (.tuple #[.pointer none, .bool false]) w := by
  have hkey := WideMaps.keyOf_string_mk (P := Try.prog) (k := 9) Try.underlying9 (s := key) (by unfold maxLen; omega)
  have hz : (zeroValue 163).run Try.prog w = .ok (.pointer none) w := by kernel_rfl
  exact Maps.look_nil true keyedS Try.underlying131 hz hkey

theorem six_same {W : World} {b : Nat} {t : TypeId} {v0 v1 v2 v3 v4 v5 : Value} (h : W.heap[b]? = some (.cells #[v0, v1, v2, v3, v4, v5] t (0, 0))) :
    (W.cell? ⟨b, 0, none⟩ = some v0 ∧ W.cell? ⟨b, 1, none⟩ = some v1 ∧ W.cell? ⟨b, 2, none⟩ = some v2 ∧ W.cell? ⟨b, 3, none⟩ = some v3 ∧ W.cell? ⟨b, 4, none⟩ = some v4 ∧ W.cell? ⟨b, 5, none⟩ = some v5) ∧
    (W.frozen? ⟨b, 0, none⟩ = false ∧ W.frozen? ⟨b, 1, none⟩ = false ∧ W.frozen? ⟨b, 2, none⟩ = false ∧ W.frozen? ⟨b, 3, none⟩ = false ∧ W.frozen? ⟨b, 4, none⟩ = false ∧ W.frozen? ⟨b, 5, none⟩ = false) := by
  simp [World.cell?, World.frozen?, h]

theorem six_stored (W : World) (b : Nat) (t : TypeId) (u0 u1 u2 u3 u4 u5 : Value) {v0 v1 v2 v3 v4 v5 : Value} (h : W.heap[b]? = some (.cells #[v0, v1, v2, v3, v4, v5] t (0, 0))) :
    (((((((W.setCell ⟨b, 0, none⟩ u0).setCell ⟨b, 1, none⟩ u1).setCell ⟨b, 2, none⟩ u2).setCell ⟨b, 3, none⟩ u3).setCell ⟨b, 4, none⟩ u4).setCell ⟨b, 5, none⟩ u5).heap[b]? = some (.cells #[u0, u1, u2, u3, u4, u5] t (0, 0))) ∧
    ∀ B a, Below B a W → B ≤ b → Below B a ((((((W.setCell ⟨b, 0, none⟩ u0).setCell ⟨b, 1, none⟩ u1).setCell ⟨b, 2, none⟩ u2).setCell ⟨b, 3, none⟩ u3).setCell ⟨b, 4, none⟩ u4).setCell ⟨b, 5, none⟩ u5) :=
  ⟨blk_set (blk_set (blk_set (blk_set (blk_set (blk_set h 0 u0) 1 u1) 2 u2) 3 u3) 4 u4) 5 u5,
   fun _ _ k hb => (((((k.setCell (p := ⟨b, 0, none⟩) hb u0).setCell (p := ⟨b, 1, none⟩) hb u1).setCell (p := ⟨b, 2, none⟩) hb u2).setCell (p := ⟨b, 3, none⟩) hb u3).setCell (p := ⟨b, 4, none⟩) hb u4).setCell (p := ⟨b, 5, none⟩) hb u5⟩

set_option maxHeartbeats 4000000 in
set_option maxRecDepth 100000 in
theorem iOwnA (w : World) (lo : Nat) (x : OO) (c : HC) (key : ByteArray) (hk : key.size ≤ 9223372036854775807) (h : HeldAt w lo x c) (ht : c.t = 133) :
    Calls Try.prog 111 #[.pointer (some ⟨c.b, 0, none⟩), .string key] w fun e w' => e = .returned (.tuple #[.agg (propC ((x.ps.find? (Hp.same key)).getD Hp.zeroP)), .bool (x.ps.find? (Hp.same key)).isSome]) ∧ Below w.heap.size w w' := by
  have C1 := fun (W : World) (hW : Below w.heap.size w W) => iOwn W lo x c key hk (h.under hW)
  have hL := Try.lookNone key hk
  have hc5 : w.cell? ⟨c.b, 5, none⟩ = some (.map none) := by
    have h4 := h.2.2.2.1
    rw [ht, tl_args] at h4
    simp [World.cell?, h4]
  have hb := (h.mine (.inl rfl)).2
  have HB0 : Hid (∀ o, Below w.heap.size w (w.alloc o)) := fun o => (Below.refl _ _).alloc (Nat.le_refl _) o
  clear h ht
  generalize (x.ps.find? (Hp.same key)).isSome = B at *
  generalize (x.ps.find? (Hp.same key)).getD Hp.zeroP = p at *
  generalize c.b = b at *
  obtain ⟨pk, ⟨p1, p2, p3⟩, p4, p5⟩ := p
  unfold propC at *
  dsimp only at *
  have H1 : Hid _ := C1
  clear C1
  go_enter Try.func111, Try.ntmps111
  go_wp2_with fail
  refine (H1.out _ (HB0.out _)).mono ?_
  rintro e w1 ⟨rfl, hb1⟩
  have hX1 := (hb1.block w.heap.size (by simp)).trans (heap_alloc_new w (.cells #[.string ⟨#[]⟩, .int .i64 0, .int .i64 0, .string ⟨#[]⟩, .bool false, .bool false] 78))
  have hbw := (HB0.out (.cells #[.string ⟨#[]⟩, .int .i64 0, .int .i64 0, .string ⟨#[]⟩, .bool false, .bool false] 78)).trans (hb1.mono (HB0.out _).size)
  have hc5' := (World.cell?_of_block (a := ⟨b, 5, none⟩) (hbw.block b hb)).trans hc5
  have hbl : b < w1.heap.size := by have := hbw.size; omega
  have hwl : w.heap.size < w1.heap.size := World.block_lt_of_cell? w1 _ (six_same hX1).1.1
  obtain ⟨⟨x0, x1, x2, x3, x4, x5⟩, y0, y1, y2, y3, y4, y5⟩ := six_same hX1
  have HX : Hid (_ ∧ _) := ⟨hX1, hbw⟩
  clear hX1 hbw hb1 hc5 H1 HB0
  go_wp2_with fail
  obtain ⟨st1, st2⟩ := six_stored w1 w.heap.size 78 (.string pk) (.int .i64 p1) (.int .i64 p2) (.string p3) (.bool p4) (.bool p5) HX.out.1
  generalize World.setCell _ _ _ = W9 at st1 st2 ⊢
  have hb9 := st2 _ _ HX.out.2 (Nat.le_refl _)
  have hb10 : Below w.heap.size w (W9.alloc (.cells #[.string pk, .int .i64 p1, .int .i64 p2, .string p3, .bool p4, .bool p5] 78)) := hb9.alloc hb9.size _
  have st3 := (Below.heap_alloc W9 (.cells #[.string pk, .int .i64 p1, .int .i64 p2, .string p3, .bool p4, .bool p5] 78) _ (Array.getElem?_eq_some_iff.1 st1).1).trans st1
  generalize W9.alloc _ = W10 at hb10 st3 ⊢
  obtain ⟨⟨z0, z1, z2, z3, z4, z5⟩, -⟩ := six_same st3
  exact bodyPost_ret (v := .tuple #[.agg #[.string pk, .int .i64 p1, .int .i64 p2, .string p3, .bool p4, .bool p5], .bool B]) (by simp [results, Try.results111, go_sem, z0, z1, z2, z3, z4, z5]) rfl ⟨rfl, hb10⟩

set_option maxHeartbeats 4000000 in
theorem iParent (w : World) (lo : Nat) (x : OO) (c : HC) (h : HeldAt w lo x c) :
    Calls Try.prog 112 #[.pointer (some ⟨c.b, 0, none⟩)] w fun e w' => e = .returned (.int .i64 x.pro) ∧ w' = w := by
  have hc1 : w.cell? ⟨c.b, 1, none⟩ = some (.int .i64 x.pro) := (four_of h.2.2.2.1).1.2.1
  clear h
  generalize x.pro = pro at *
  generalize c.b = b at *
  go_enter Try.func112, Try.ntmps112
  go_wp2_with fail
  go_ret
  exact ⟨rfl, rfl⟩

end Go.Proofs.Ytlmlmdmechhalaa

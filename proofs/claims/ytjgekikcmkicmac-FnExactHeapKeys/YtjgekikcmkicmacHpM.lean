/-
  The walks of the program's own and parent, of a holder of either type.
-/
import Derived.Test.YtjgekikcmkicmacHpG
import Derived.Test.YtjgekikcmkicmacHpK
namespace Go.Proofs.Ytjgekikcmkicmac
open Go.RowKit
open Hp (PP OO propC rP kl encP putAll)

theorem Try.mOwnH (b : Nat) (w : World) : (Go.method 269 143 (.pointer (some ⟨b, 0, none⟩)) "loop.example/g00317/impl.own").run Try.prog w = .ok (112, .pointer (some ⟨b, 0, none⟩)) w := by kernel_rfl
theorem Try.mOwnA (b : Nat) (w : World) : (Go.method 269 136 (.pointer (some ⟨b, 0, none⟩)) "loop.example/g00317/impl.own").run Try.prog w = .ok (112, .pointer (some ⟨b, 0, none⟩)) w := by kernel_rfl
theorem Try.mParH (b : Nat) (w : World) : (Go.method 269 143 (.pointer (some ⟨b, 0, none⟩)) "loop.example/g00317/impl.parent").run Try.prog w = .ok (113, .pointer (some ⟨b, 0, none⟩)) w := by kernel_rfl
theorem Try.mParA (b : Nat) (w : World) : (Go.method 269 136 (.pointer (some ⟨b, 0, none⟩)) "loop.example/g00317/impl.parent").run Try.prog w = .ok (113, .pointer (some ⟨b, 0, none⟩)) w := by kernel_rfl
theorem Try.zeroP (w : World) : (zeroValue 70).run Try.prog w = .ok (.agg (propC Hp.zeroP)) w := by kernel_rfl

theorem look_prop {w : World} {lo : Nat} {x : OO} {c : HC} (h : HeldAt w lo x c) (key : ByteArray) (hk : key.size ≤ 9223372036854775807) :
    (Instr.lookup 137 (.map (some c.m)) (.string key) true).run Try.prog w = .ok (.tuple #[.agg (propC ((x.ps.find? (Hp.same key)).getD Hp.zeroP)), .bool (x.ps.find? (Hp.same key)).isSome]) w := by
  obtain ⟨h1, h2, h3, h4, ⟨n, D, h5, h6, h7⟩, h8⟩ := h
  have hkey := WideMaps.keyOf_string_mk (P := Try.prog) (k := 9) Try.underlying9 (s := key) (by unfold maxLen; omega)
  obtain ⟨v, ps, hrun, hv⟩ := h6.look_ok keyedS Try.underlying137 (Try.zeroP w) (Hp.rP_mk Hp.zeroP) hkey
  rw [Hp.Reads.got h7 key hv] at hrun
  have e : Maps.has D (kl key) = (x.ps.find? (Hp.same key)).isSome := h7.has key
  rw [← e]
  exact hrun

set_option maxHeartbeats 4000000 in
theorem iOwn (w : World) (lo : Nat) (x : OO) (c : HC) (key : ByteArray) (hk : key.size ≤ 9223372036854775807) (h : HeldAt w lo x c) :
    Calls Try.prog 112 #[.pointer (some ⟨c.b, 0, none⟩), .string key] w fun e w' => e = .returned (.tuple #[.agg (propC ((x.ps.find? (Hp.same key)).getD Hp.zeroP)), .bool (x.ps.find? (Hp.same key)).isSome]) ∧ Below w.heap.size w w' := by
  have hlook : ∀ o, (Instr.lookup 137 (.map (some c.m)) (.string key) true).run Try.prog (w.alloc o) = .ok (.tuple #[.agg (propC ((x.ps.find? (Hp.same key)).getD Hp.zeroP)), .bool (x.ps.find? (Hp.same key)).isSome]) (w.alloc o) := fun o => look_prop (h.under ((Below.refl _ _).alloc (Nat.le_refl _) o)) key hk
  have hc2 : w.cell? ⟨c.b, 2, none⟩ = some (.map (some c.m)) := (four_of h.2.2.2.1).1.2.2.1
  have hb := (h.mine (.inl rfl)).2
  have HB0 : Hid (∀ o1 o2, Below w.heap.size w ((w.alloc o1).alloc o2)) := fun o1 o2 => ((Below.refl _ _).alloc (Nat.le_refl _) o1).alloc (by simp) o2
  clear h
  generalize (x.ps.find? (Hp.same key)).isSome = B at *
  generalize (x.ps.find? (Hp.same key)).getD Hp.zeroP = p at *
  generalize c.m = m at *
  generalize c.b = b at *
  obtain ⟨pk, ⟨p1, p2, p3⟩, p4, p5⟩ := p
  unfold propC at *
  dsimp only at *
  go_enter Try.func112, Try.ntmps112
  go_wp2_with fail
  refine bodyPost_ret (v := .tuple #[.agg #[.string pk, .int .i64 p1, .int .i64 p2, .string p3, .bool p4, .bool p5], .bool B]) (by simp [results, Try.results112, go_sem]) rfl ⟨rfl, ?_⟩
  exact HB0.out _ _

set_option maxHeartbeats 4000000 in
theorem iParent (w : World) (lo : Nat) (x : OO) (c : HC) (h : HeldAt w lo x c) :
    Calls Try.prog 113 #[.pointer (some ⟨c.b, 0, none⟩)] w fun e w' => e = .returned (.int .i64 x.pro) ∧ w' = w := by
  have hc1 : w.cell? ⟨c.b, 1, none⟩ = some (.int .i64 x.pro) := (four_of h.2.2.2.1).1.2.1
  clear h
  generalize x.pro = pro at *
  generalize c.b = b at *
  go_enter Try.func113, Try.ntmps113
  go_wp2_with fail
  go_ret
  exact ⟨rfl, rfl⟩

end Go.Proofs.Ytjgekikcmkicmac

/-
  The walks of the program's holderOf and holdersOf.
-/
import Derived.Test.YtlmlmdmechhalaaHpF2
import Derived.Test.YtlmlmdmechhalaaHpI2
import Derived.Test.YtlmlmdmechhalaaHpS
namespace Go.Proofs.Ytlmlmdmechhalaa
open Go.RowKit
open Hp (PP OO propC rP kl encP putAll)

set_option maxHeartbeats 4000000 in
set_option maxRecDepth 100000 in
theorem iHolderOf (w : World) (x : OO) (c : OC) (B : Nat) (hn : x.ps.length ≤ 1048576) (hok : ∀ p ∈ x.ps, OkP p) (hps : PsIn w B c.pa x.ps) :
    Calls Try.prog 75 #[.agg (objC x c)] w fun e w' => ∃ b m a1 cap1 T t, e = .returned (.tuple #[.iface T (.pointer (some ⟨b, 0, none⟩)), .bool (unlB x.ps)]) ∧ Below w.heap.size w w' ∧ ((T = 135 ∧ t = 130) ∨ (T = 126 ∧ t = 133)) ∧
      w.heap.size ≤ b ∧ w'.heap[b]? = some (.cells (.int .i64 x.cls :: .int .i64 x.pro :: .map (some m) :: .slice a1 x.ps.length cap1 :: tl t).toArray t (0, 0)) ∧ w'.ownsMap Try.prog 9 rP m x.ps.length (putAll x.ps) ∧ w'.ownsRow (b + 1) 147 2 (.slice a1 x.ps.length cap1) x.ps.length (keysV x.ps) ∧ b + 1 ≤ m := by
  have C1 : ∀ (W : World) (b : Nat) (t : TypeId) (r : List Value), Below w.heap.size w W → w.heap.size ≤ b → W.heap[b]? = some (.cells (.int .i64 0 :: .int .i64 0 :: .map none :: .slice none 0 0 :: r).toArray t (0, 0)) →
      Calls Try.prog 83 #[.pointer (some ⟨b, 0, none⟩), .agg (objC x c)] W fun e w' => ∃ m a1 cap1, e = .returned (.bool (unlB x.ps)) ∧ Below w.heap.size w w' ∧ W.heap.size ≤ w'.heap.size ∧
      w'.heap[b]? = some (.cells (.int .i64 x.cls :: .int .i64 x.pro :: .map (some m) :: .slice a1 x.ps.length cap1 :: r).toArray t (0, 0)) ∧ w'.ownsMap Try.prog 9 rP m x.ps.length (putAll x.ps) ∧ w'.ownsRow W.heap.size 147 2 (.slice a1 x.ps.length cap1) x.ps.length (keysV x.ps) ∧ W.heap.size ≤ m := fun W b t r hW hb hbb => iFill w W b t r x c B hn hok hps hW hb hbb
  obtain ⟨cls, pro, ps⟩ := x
  unfold objC at *
  dsimp only at *
  generalize c.pa = pa at *
  generalize c.pc = pc at *
  generalize unlB ps = U at *
  generalize keysV ps = KV at *
  generalize putAll ps = PA at *
  have H1 : Hid _ := C1
  clear C1 hps hok hn
  have HB0 : Hid (∀ o1 o2, Below w.heap.size w ((w.alloc o1).alloc o2)) := fun o1 o2 => ((Below.refl _ _).alloc (Nat.le_refl _) o1).alloc (by simp) o2
  go_enter Try.func75, Try.ntmps75
  have hnew : ∀ o1 o2, ((w.alloc o1).alloc o2).heap[w.heap.size + 1]? = some o2 := fun o1 o2 => by
    have := heap_alloc_new (w.alloc o1) o2
    rwa [World.size_alloc] at this
  have HNEW : Hid (∀ o1 o2, ((w.alloc o1).alloc o2).heap[w.heap.size + 1]? = some o2) := hnew
  clear hnew
  by_cases h2 : cls = 2
  · subst h2
    go_wp2_with fail
    generalize hW : (w.alloc _).alloc _ = W
    have hBW : Below w.heap.size w W := by rw [← hW]; exact HB0.out _ _
    have hS : W.heap.size = w.heap.size + 1 + 1 := by rw [← hW]; simp
    have hHb : W.heap[w.heap.size + 1]? = some (.cells (.int .i64 0 :: .int .i64 0 :: .map none :: .slice none 0 0 :: tl 133).toArray 133 (0, 0)) := by rw [← hW, tl_args]; exact HNEW.out _ _
    have hF : W.heap[w.heap.size]? = some (.cells #[.int .i64 2, .int .i64 pro, .slice pa ps.length pc] 76 (0, 0)) := by
      rw [← hW, Below.heap_alloc _ _ _ (by simp)]; exact heap_alloc_new _ _
    obtain ⟨p0, p1, p2⟩ := three_ofF hF
    clear hW HNEW HB0 hF
    generalize hF : w.heap.size = F at *
    go_region_with (go_at_call 83; refine (H1.out _ (F + 1) 133 _ hBW.drew (by omega) hHb).mono ?_; rintro e w1 ⟨m, a1, cap1, rfl, r1, r2, r3, r4, r5, r6⟩)
    all_goals
      go_wp2_with fail
      refine bodyPost_ret (v := .tuple #[.iface 126 (.pointer (some ⟨F + 1, 0, none⟩)), .bool U]) (by simp [results, Try.results75, go_sem]) rfl ⟨F + 1, m, a1, cap1, _, _, rfl, (by rw [hF]; exact r1), .inr ⟨rfl, rfl⟩, by omega, r3, r4, World.ownsRow.mono r5 (by show F + 1 + 1 ≤ W.heap.size; omega), ?_⟩
      have r6' : W.heap.size ≤ m := r6
      omega
  · have h2a : (cls == 2) = false := by simp [h2]
    go_wp2_with fail
    refine (H1.out _ (w.heap.size + 1) 130 (tl 130) (HB0.out _ _) (by omega) (by rw [tl_held]; exact HNEW.out _ _)).mono ?_
    rintro e w1 ⟨m, a1, cap1, rfl, r1, r2, r3, r4, r5, r6⟩
    go_wp2_with fail
    rw [World.size_alloc, World.size_alloc] at r5 r6
    exact bodyPost_ret (v := .tuple #[.iface 135 (.pointer (some ⟨w.heap.size + 1, 0, none⟩)), .bool U]) (by simp [results, Try.results75, go_sem]) rfl ⟨w.heap.size + 1, m, a1, cap1, _, _, rfl, r1, .inl ⟨rfl, rfl⟩, by omega, r3, r4, World.ownsRow.mono r5 (by omega), by omega⟩

end Go.Proofs.Ytlmlmdmechhalaa

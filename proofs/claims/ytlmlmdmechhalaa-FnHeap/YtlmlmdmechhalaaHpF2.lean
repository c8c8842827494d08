/-
  The walk of the program's (*held).fill.
-/
import Derived.Test.YtlmlmdmechhalaaHpF
import Derived.Deep.Onto
namespace Go.Proofs.Ytlmlmdmechhalaa
open Go.RowKit
open Hp (PP OO propC rP kl encP putAll)

/-- 'len(m)', in a region that draws. -/
theorem step_len {H : Type} {P : Program} {ops : Array Oper} {o : Oper} {a : Act} {w : World} {K : Act → World → Prop} {Q : Exit → Act → World → Prop} {E : Prop}
    (hg : o.guard = none) (m : Operand) (t k e : TypeId) (hop : o.op = Op.call { callee := Callee.builtin Builtin.len, args := #[m], argTypes := #[t] }) (ht : P.underlying t = some (.map k e))
    (R : Value → Option (DataW H × List MemPlace)) (b n : Nat) (D : DataW H) (hm : a.eval m = .map (some b)) (hown : w.ownsMap P k R b n D) (hK : K (a.put o.dst (.int .i64 (Maps.size D))) w) :
    if Region.wanted o (yielded ops a.tmps) = true then Oper.wp P o a w K Q else E := by
  have hw : Region.wanted o (yielded ops a.tmps) = true := by simp [Region.wanted, hg]
  rw [if_pos hw]
  unfold Oper.wp
  simp [execOp, hop, resolve, invoke, builtin, hm, hown.len ht o.type, Result.andThen]
  exact hK

noncomputable def unlB (ps : List PP) : Bool := @decide (Hp.Unlike ps) (Classical.propDecidable _)
theorem unlB_size (ps : List PP) : ((Maps.size (putAll ps) : Int) == (ps.length : Int)) = unlB ps := by
  unfold unlB
  by_cases h : Hp.Unlike ps
  · have := (Hp.putAll_size ps).2 h
    simp [h, this]
  · have := (Hp.putAll_sizes ps).2.1 h
    simp [h]
    omega

theorem run_makeM (n : Nat) (W : World) : (Instr.makeMap 127 (some (.int .i64 (n : Int)))).run Try.prog W = .ok (.map (some W.heap.size)) (W.alloc (.map #[] 0)) := by
  simp [Instr.makeMap, run_underlying Try.underlying127, asInt, asIntOf, Result.andThen]
/-- 'make(map[K]V, n)': the world behind it goes by a name of its own. -/
theorem makesM (n : Nat) : ∃ mk : World → World, (∀ W, mk W = W.alloc (.map #[] 0)) ∧ (∀ W, (Instr.makeMap 127 (some (.int .i64 (n : Int)))).run Try.prog W = .ok (.map (some W.heap.size)) (mk W)) ∧
    (∀ W b o, b < W.heap.size → (mk W).cell? ⟨b, o, none⟩ = W.cell? ⟨b, o, none⟩) ∧ (∀ W b o, b < W.heap.size → (mk W).frozen? ⟨b, o, none⟩ = W.frozen? ⟨b, o, none⟩) ∧ (∀ W, (mk W).heap.size = W.heap.size + 1) :=
  ⟨fun W => W.alloc (.map #[] 0), fun _ => rfl, fun W => run_makeM n W, fun W b _ h => World.cell?_of_block (w := W) (Below.heap_alloc W _ b h), fun W b _ h => World.frozen?_of_block (w := W) (Below.heap_alloc W _ b h), fun _ => World.size_alloc _ _⟩
theorem run_makeS (n : Nat) (hn : n ≤ 1048576) (W : World) : (Instr.makeSlice 128 (.int .i64 0) (.int .i64 (n : Int))).run Try.prog W = .ok (.slice (some ⟨W.heap.size, 0, none⟩) 0 n) (W.alloc (.cells (madeCells #[.string ByteArray.empty, .bool false] (n * 2)) 147)) := by
  obtain ⟨i, hi, hzz⟩ := Option.map_eq_some_iff.1 Try.infoListed
  simp only [Prod.mk.injEq] at hzz
  obtain ⟨hz, hs, hb⟩ := hzz
  have hr := run_make (P := Try.prog) W 128 147 i (.agg #[.string ByteArray.empty, .bool false]) Try.underlying128 hi hz .i64 .i64 0 n (by omega) (by omega) (by rw [hb]; omega) (by omega)
  simp only [Int.toNat_natCast, hs] at hr
  exact hr

/-- 'make([]listed, 0, n)': the world behind it goes by a name of its own. -/
theorem makesS (n : Nat) (hn : n ≤ 1048576) : ∃ mk : World → World, (∀ W, mk W = W.alloc (.cells (madeCells #[.string ByteArray.empty, .bool false] (n * 2)) 147)) ∧ (∀ W, (Instr.makeSlice 128 (.int .i64 0) (.int .i64 (n : Int))).run Try.prog W = .ok (.slice (some ⟨W.heap.size, 0, none⟩) 0 n) (mk W)) ∧
    (∀ W b o, b < W.heap.size → (mk W).cell? ⟨b, o, none⟩ = W.cell? ⟨b, o, none⟩) ∧ (∀ W b o, b < W.heap.size → (mk W).frozen? ⟨b, o, none⟩ = W.frozen? ⟨b, o, none⟩) ∧ (∀ W, (mk W).heap.size = W.heap.size + 1) :=
  ⟨fun W => W.alloc (.cells (madeCells #[.string ByteArray.empty, .bool false] (n * 2)) 147), fun _ => rfl, fun W => run_makeS n hn W, fun W b _ h => World.cell?_of_block (w := W) (Below.heap_alloc W _ b h), fun W b _ h => World.frozen?_of_block (w := W) (Below.heap_alloc W _ b h), fun _ => World.size_alloc _ _⟩

theorem three_ofF {W : World} {b : Nat} {t : TypeId} {v0 v1 v2 : Value} (h : W.heap[b]? = some (.cells #[v0, v1, v2] t (0, 0))) :
    W.cell? ⟨b, 0, none⟩ = some v0 ∧ W.cell? ⟨b, 1, none⟩ = some v1 ∧ W.cell? ⟨b, 2, none⟩ = some v2 := by
  simp [World.cell?, h]
def lstL (p : PP) : List Value := [.string p.key, .bool p.hid]
/-- The order of Props, as it lies. -/
def keysV (ps : List PP) : List Value := ps.flatMap lstL
theorem keysV_take (ps : List PP) (k : Nat) (hk : k < ps.length) : keysV (ps.take (k + 1)) = keysV (ps.take k) ++ [.string ps[k].key, .bool ps[k].hid] := by
  unfold keysV; rw [List.take_succ_eq_append_getElem hk, List.flatMap_append]; simp [lstL]
theorem keysV_at (ps : List PP) (i : Nat) (hi : i < ps.length) (o : Nat) (ho : o < 2) : (keysV ps)[i * 2 + o]? = (lstL ps[i])[o]? := by
  unfold keysV
  induction ps generalizing i with
  | nil => simp at hi
  | cons p r ih =>
    rw [List.flatMap_cons]
    cases i with
    | zero => rw [List.getElem?_append_left (by simp [lstL]; omega)]; simp
    | succ i =>
      rw [List.getElem?_append_right (by simp [lstL]; omega)]
      have e : (i + 1) * 2 + o - (lstL p).length = i * 2 + o := by simp [lstL]; omega
      rw [e, ih i (by simpa using hi)]
      rfl

/-- What stands behind the order: that it is not lent; of an object of arguments, that no Prop is one with a name. -/
def tl (t : TypeId) : List Value := if t = 133 then [.bool false, .map none] else [.bool false]
theorem tl_held : tl 130 = [.bool false] := by unfold tl; rw [if_neg (by decide)]
theorem tl_args : tl 133 = [.bool false, .map none] := by unfold tl; rw [if_pos rfl]

/-- What stands when the loop of fill begins. -/
theorem fill_start (w0 w : World) (b n : Nat) (t tF : TypeId) (cls pro : Int) (r : List Value) (FC mc : Array Value) (hw : Below w0.heap.size w0 w) (hb0 : w0.heap.size ≤ b) (hn : n ≤ 1048576) (hmc : mc.size = n * 2)
    (hb : w.heap[b]? = some (.cells (.int .i64 0 :: .int .i64 0 :: .map none :: .slice none 0 0 :: r).toArray t (0, 0))) (W : World)
    (hW : ((((((w.setCell ⟨b, 0, none⟩ (.int .i64 cls)).setCell ⟨b, 1, none⟩ (.int .i64 pro)).alloc (.cells FC tF)).alloc (.map #[] 0)).setCell ⟨b, 2, none⟩ (.map (some (w.heap.size + 1)))).alloc (.cells mc 147)).setCell ⟨b, 3, none⟩ (.slice (some ⟨w.heap.size + 1 + 1, 0, none⟩) 0 n) = W) :
    W.heap[w.heap.size]? = some (.cells FC tF (0, 0)) ∧ W.heap[b]? = some (.cells (.int .i64 cls :: .int .i64 pro :: .map (some (w.heap.size + 1)) :: .slice (some ⟨w.heap.size + 1 + 1, 0, none⟩) 0 n :: r).toArray t (0, 0)) ∧
      W.ownsMap Try.prog 9 rP (w.heap.size + 1) 0 (.map []) ∧ W.ownsRow (w.heap.size + 1) 147 2 (.slice (some ⟨w.heap.size + 1 + 1, 0, none⟩) 0 n) 0 [] ∧ Below w0.heap.size w0 W ∧ W.heap.size = w.heap.size + 3 := by
  subst hW
  have hbl : b < w.heap.size := (Array.getElem?_eq_some_iff.1 hb).1
  have hws := hw.size
  generalize hA1 : (w.setCell ⟨b, 0, none⟩ (.int .i64 cls)).setCell ⟨b, 1, none⟩ (.int .i64 pro) = A1
  have s1 : A1.heap.size = w.heap.size := by rw [← hA1]; simp [World.setCell]
  have b1 : A1.heap[b]? = some (.cells (.int .i64 cls :: .int .i64 pro :: .map none :: .slice none 0 0 :: r).toArray t (0, 0)) := by rw [← hA1]; exact blk_1 (blk_0 hb _) _
  have l1 : Below w0.heap.size w0 A1 := by rw [← hA1]; exact (hw.setCell (p := ⟨b, 0, none⟩) hb0 _).setCell (p := ⟨b, 1, none⟩) hb0 _
  clear hA1
  generalize hA2 : A1.alloc (.cells FC tF) = A2
  have s2 : A2.heap.size = w.heap.size + 1 := by rw [← hA2, World.size_alloc, s1]
  have f2 : A2.heap[w.heap.size]? = some (.cells FC tF (0, 0)) := by rw [← hA2, ← s1]; exact heap_alloc_new _ _
  have b2 : A2.heap[b]? = some (.cells (.int .i64 cls :: .int .i64 pro :: .map none :: .slice none 0 0 :: r).toArray t (0, 0)) := by rw [← hA2, Below.heap_alloc A1 _ b (by omega)]; exact b1
  have l2 : Below w0.heap.size w0 A2 := by rw [← hA2]; exact l1.alloc l1.size _
  clear hA2 b1 l1 s1
  have m3 : (A2.alloc (.map #[] 0)).ownsMap Try.prog 9 rP (w.heap.size + 1) 0 (.map []) := by
    have := World.ownsMap_made A2 Try.prog 9 rP
    rwa [s2] at this
  generalize hA3 : A2.alloc (.map #[] 0) = A3 at m3 ⊢
  have s3 : A3.heap.size = w.heap.size + 1 + 1 := by rw [← hA3, World.size_alloc, s2]
  have f3 : A3.heap[w.heap.size]? = some (.cells FC tF (0, 0)) := by rw [← hA3, Below.heap_alloc A2 _ _ (by omega)]; exact f2
  have b3 : A3.heap[b]? = some (.cells (.int .i64 cls :: .int .i64 pro :: .map none :: .slice none 0 0 :: r).toArray t (0, 0)) := by rw [← hA3, Below.heap_alloc A2 _ b (by omega)]; exact b2
  have l3 : Below w0.heap.size w0 A3 := by rw [← hA3]; exact l2.alloc l2.size _
  clear hA3 s2 f2 b2 l2
  have m4 := m3.setCell (a := ⟨b, 2, none⟩) (by show w.heap.size + 1 ≠ b; omega) (.map (some (w.heap.size + 1)))
  generalize hA4 : A3.setCell ⟨b, 2, none⟩ (.map (some (w.heap.size + 1))) = A4 at m4 ⊢
  have s4 : A4.heap.size = w.heap.size + 1 + 1 := by rw [← hA4]; simp [World.setCell, s3]
  have f4 : A4.heap[w.heap.size]? = some (.cells FC tF (0, 0)) := by rw [← hA4, Below.heap_setCell _ _ _ _ (by show w.heap.size ≠ b; omega)]; exact f3
  have b4 : A4.heap[b]? = some (.cells (.int .i64 cls :: .int .i64 pro :: .map (some (w.heap.size + 1)) :: .slice none 0 0 :: r).toArray t (0, 0)) := by rw [← hA4]; exact blk_2 b3 _
  have l4 : Below w0.heap.size w0 A4 := by rw [← hA4]; exact l3.setCell (p := ⟨b, 2, none⟩) hb0 _
  clear hA4 s3 f3 b3 l3 m3
  have o5 : (A4.alloc (.cells mc 147)).ownsRow (w.heap.size + 1) 147 2 (.slice (some ⟨w.heap.size + 1 + 1, 0, none⟩) 0 n) 0 [] := by
    have := World.ownsRow_made (base := w.heap.size + 1) (e := 147) (size := 2) A4 mc n (by omega) (by unfold maxLen; omega) (by omega)
    rwa [s4] at this
  have m5 := m4.alloc (.cells mc 147)
  generalize hA5 : A4.alloc (.cells mc 147) = A5 at o5 m5 ⊢
  have s5 : A5.heap.size = w.heap.size + 3 := by rw [← hA5, World.size_alloc, s4]
  have f5 : A5.heap[w.heap.size]? = some (.cells FC tF (0, 0)) := by rw [← hA5, Below.heap_alloc A4 _ _ (by omega)]; exact f4
  have b5 : A5.heap[b]? = some (.cells (.int .i64 cls :: .int .i64 pro :: .map (some (w.heap.size + 1)) :: .slice none 0 0 :: r).toArray t (0, 0)) := by rw [← hA5, Below.heap_alloc A4 _ b (by omega)]; exact b4
  have l5 : Below w0.heap.size w0 A5 := by rw [← hA5]; exact l4.alloc l4.size _
  clear hA5 s4 f4 b4 l4 m4
  refine ⟨?_, blk_3 b5 _, m5.setCell (a := ⟨b, 3, none⟩) (by show w.heap.size + 1 ≠ b; omega) _, World.ownsRow.kept o5 (grown_set A5 ⟨b, 3, none⟩ _) (.inr fun e => absurd (own_apart o5 e).1 (by show ¬ w.heap.size + 1 ≤ b; omega)), l5.setCell (p := ⟨b, 3, none⟩) hb0 _, by simp [World.setCell, s5]⟩
  rw [Below.heap_setCell _ _ _ _ (by show w.heap.size ≠ b; omega)]; exact f5

set_option maxHeartbeats 4000000 in
set_option maxRecDepth 100000 in
theorem iFill (w0 w : World) (b : Nat) (t : TypeId) (r : List Value) (x : OO) (c : OC) (B : Nat) (hn : x.ps.length ≤ 1048576) (hok : ∀ p ∈ x.ps, OkP p) (hps : PsIn w0 B c.pa x.ps) (hw : Below w0.heap.size w0 w) (hb0 : w0.heap.size ≤ b)
    (hb : w.heap[b]? = some (.cells (.int .i64 0 :: .int .i64 0 :: .map none :: .slice none 0 0 :: r).toArray t (0, 0))) :
    Calls Try.prog 83 #[.pointer (some ⟨b, 0, none⟩), .agg (objC x c)] w fun e w' => ∃ m a1 cap1, e = .returned (.bool (unlB x.ps)) ∧ Below w0.heap.size w0 w' ∧ w.heap.size ≤ w'.heap.size ∧
      w'.heap[b]? = some (.cells (.int .i64 x.cls :: .int .i64 x.pro :: .map (some m) :: .slice a1 x.ps.length cap1 :: r).toArray t (0, 0)) ∧ w'.ownsMap Try.prog 9 rP m x.ps.length (putAll x.ps) ∧ w'.ownsRow w.heap.size 147 2 (.slice a1 x.ps.length cap1) x.ps.length (keysV x.ps) ∧ w.heap.size ≤ m := by
  obtain ⟨cls, pro, ps⟩ := x
  unfold objC
  dsimp only at *
  obtain ⟨mk, hmk, hmm, hmc, hmf, hmz⟩ := makesM ps.length
  have HMK : Hid (∀ W, mk W = W.alloc (.map #[] 0)) := hmk
  clear hmk
  obtain ⟨mq, hqk, hqm, hqc, hqf, hqz⟩ := makesS ps.length hn
  have HQK : Hid (∀ W, mq W = W.alloc (.cells (madeCells #[.string ByteArray.empty, .bool false] (ps.length * 2)) 147)) := hqk
  clear hqk
  have hbl : b < w.heap.size := (Array.getElem?_eq_some_iff.1 hb).1
  obtain ⟨⟨c0, c1, c2, c3⟩, f0, f1, f2, f3⟩ := four_of hb
  have HP : Hid (PsIn w0 B c.pa ps ∧ (∀ p ∈ ps, OkP p) ∧ Below w0.heap.size w0 w) := ⟨hps, hok, hw⟩
  have HB : Hid (w.heap[b]? = some (.cells (.int .i64 0 :: .int .i64 0 :: .map none :: .slice none 0 0 :: r).toArray t (0, 0))) := hb
  clear hps hok hw hb
  generalize c.pa = pa at *
  generalize c.pc = pc at *
  have x1 : w.heap.size < w.heap.size + 1 + 1 := by omega
  have x2 : w.heap.size < w.heap.size + 1 + 1 + 1 := by omega
  have x3 : b < w.heap.size + 1 := by omega
  have x4 : b < w.heap.size + 1 + 1 := by omega
  have x5 : b < w.heap.size + 1 + 1 + 1 := by omega
  go_enter Try.func83, Try.ntmps83
  go_wp2_with fail
  generalize hW1 : World.setCell (mq _) _ _ = W1
  rw [HQK.out, HMK.out] at hW1
  obtain ⟨hF, hBb, hM, hO, hL, hS⟩ := fill_start w0 w b ps.length t 76 cls pro r #[.int .i64 cls, .int .i64 pro, .slice pa ps.length pc] (madeCells #[.string ByteArray.empty, .bool false] (ps.length * 2)) HP.out.2.2 hb0 hn (size_madeCells _ _) HB.out W1 hW1
  clear hW1 c0 c1 c2 c3 f0 f1 f2 f3 hmm hmc hmf hmz HMK hqm hqc hqf hqz HQK x1 x2 x3 x4 x5 mk mq HB
  have hFb : w.heap.size ≠ b := by omega
  generalize hFF : w.heap.size = F at *
  have HST : Hid (_ ∧ _ ∧ _ ∧ _ ∧ _) := ⟨hF, hBb, hM, hO, hL⟩
  clear hF hBb hM hO hL
  go_loopw [34] (fun vi wr => ∃ (k : Nat) (a1 : Option Addr) (cap1 : Nat), k ≤ ps.length ∧ vi = .int .i64 k ∧ F + 3 ≤ wr.heap.size ∧ Hid (wr.heap[F]? = some (.cells #[.int .i64 cls, .int .i64 pro, .slice pa ps.length pc] 76 (0, 0)) ∧ wr.heap[b]? = some (.cells (.int .i64 cls :: .int .i64 pro :: .map (some (F + 1)) :: .slice a1 k cap1 :: r).toArray t (0, 0)) ∧ wr.ownsMap Try.prog 9 rP (F + 1) k (putAll (ps.take k)) ∧ wr.ownsRow (F + 1) 147 2 (.slice a1 k cap1) k (keysV (ps.take k)) ∧ Below w0.heap.size w0 wr)) (fun vi _ => ps.length - (intOf vi).toNat)
  case atStart => exact ⟨0, _, _, Nat.zero_le _, rfl, by omega, HST.out⟩
  case round =>
    obtain ⟨k, a1, cap1, hk, rfl, hsz, HR⟩ := hrel
    obtain ⟨hF, hBb, hM, hO, hL⟩ := HR.out
    by_cases hkl : k < ps.length
    · rcases HP.out.1 with rfl | ⟨b', o', rfl, hB', hc'⟩
      · simp at hkl
      have hkl' : (k : Int) < (ps.length : Int) := by omega
      have h6 := (hc' k hkl).keep hB' (.of_below hL B)
      have HCAL : Hid _ := fun (W : World) (h1 : W.heap[b]? = some (.cells (.int .i64 cls :: .int .i64 pro :: .map (some (F + 1)) :: .slice a1 k cap1 :: r).toArray t (0, 0))) (h2 : W.ownsMap Try.prog 9 rP (F + 1) k (putAll (ps.take k))) (h3 : W.ownsRow (F + 1) 147 2 (.slice a1 k cap1) k (keysV (ps.take k))) => iAdd2 W b (F + 1) k k (F + 1) t cls pro a1 cap1 r (putAll (ps.take k)) (keysV (ps.take k)) ps[k] h1 h2 h3 (by omega) (Nat.le_refl _) (by omega) (by omega) (HP.out.2.1 _ (List.getElem_mem hkl)).1
      have HNX : Hid ((putAll (ps.take k)).put (kl ps[k].key) (encP ps[k]) = putAll (ps.take (k + 1)) ∧ keysV (ps.take k) ++ [.string ps[k].key, .bool ps[k].hid] = keysV (ps.take (k + 1))) := ⟨by rw [List.take_succ_eq_append_getElem hkl, Hp.putAll_snoc], (keysV_take ps k hkl).symm⟩
      generalize ps[k] = x at *
      obtain ⟨key, ⟨vk, vn, vt⟩, hd, fx⟩ := x
      obtain ⟨h60, h61, h62, h63, h64, h65⟩ := h6
      dsimp only at h60 h61 h62 h63 h64 h65 HNX
      unfold propC at HCAL
      dsimp only at HCAL
      clear hF hBb hM hO hc'
      go_wp2_with fail
      generalize hWP : wr.alloc _ = wp
      obtain ⟨hF, hBb, hM, hO, hL⟩ := HR.out
      have hBP : Below wr.heap.size wr wp := by rw [← hWP]; exact (Below.refl _ _).alloc (Nat.le_refl _) _
      have hMP : wp.ownsMap Try.prog 9 rP (F + 1) k (putAll (ps.take k)) := by rw [← hWP]; exact hM.alloc _
      have hOP : wp.ownsRow (F + 1) 147 2 (.slice a1 k cap1) k (keysV (ps.take k)) := by rw [← hWP]; exact World.ownsRow.alloc hO _
      clear hWP
      refine (HCAL.out wp ((hBP.block b (by omega)).trans hBb) hMP hOP).mono ?_
      rintro e w1 ⟨a2, cap2, rfl, r1, r2, r3, r4, r5⟩
      rw [HNX.out.1] at r2
      rw [HNX.out.2] at r3
      have r6 : w1.heap[F]? = some (.cells #[.int .i64 cls, .int .i64 pro, .slice (some ⟨b', o', none⟩) ps.length pc] 76 (0, 0)) := (r5 F (by have := hBP.size; omega) (by omega) (by omega) (fun e => by have := (World.ownsRow.lt hOP F e).1; omega)).trans ((hBP.block F (by omega)).trans hF)
      have r7 : Below w0.heap.size w0 w1 := (hL.trans (hBP.mono hL.size)).trans (r4.mono hb0)
      have r8 : F + 3 ≤ w1.heap.size := by have := r4.size; have := hBP.size; omega
      have HRR : Hid (_ ∧ _ ∧ _ ∧ _ ∧ _) := ⟨r6, r1, r2, r3, r7⟩
      clear r1 r2 r3 r4 r5 r6 r7 hF hBb hM hO hL hMP hOP
      go_wp2_with fail
      exact ⟨⟨k + 1, a2, cap2, by omega, by go_num, r8, HRR.out⟩, by simp [intOf]; omega⟩
    · have hkk : k = ps.length := by omega
      subst hkk
      rw [List.take_length] at hM hO
      have hkl' : ¬ (ps.length : Int) < (ps.length : Int) := by omega
      obtain ⟨⟨c0, c1, c2, c3⟩, -⟩ := four_of hBb
      obtain ⟨p0, p1, p2⟩ := three_ofF hF
      have HE : Hid (_ ∧ _ ∧ _ ∧ _) := ⟨hBb, hM, hO, hL⟩
      clear hM hO hL hBb hF
      go_wp2_with fail
      go_region_law (refine step_len rfl (.tmp 45) 127 9 78 rfl Try.underlying127 rP (F + 1) ps.length (putAll ps) (by rfl) (World.ownsMap.drew HE.out.2.1) ?_)
      all_goals
        go_wp2_with fail
        go_ret
        obtain ⟨e1, e2, e3, e4⟩ := HE.out
        exact ⟨F + 1, a1, cap1, vretB (unlB_size ps), e4.drew, by show w.heap.size ≤ wr.heap.size; omega, e1, e2, World.ownsRow.mono e3 (by omega), by omega⟩

end Go.Proofs.Ytlmlmdmechhalaa

/-
  The walks of the program's copyOfProp and told (of one holder).
-/
import Derived.Test.YtlmlmdmechhalaaHpQ
import Derived.Test.YtlmlmdmechhalaaMkT
import Derived.Test.YtlmlmdmechhalaaRegL
namespace Go.Proofs.Ytlmlmdmechhalaa
open Go.RowKit
open Hp (PP OO propC rP kl encP putAll)

set_option maxHeartbeats 4000000 in
theorem iCopyProp (p : PP) (w : World) (hk : p.key.size ≤ 1048576) (hs : p.v.text.size ≤ 1048576) : Calls Try.prog 72 #[.agg (propC p)] w fun e w' => e = .returned (.agg (propC p)) ∧ Below w.heap.size w w' := by
  obtain ⟨key, ⟨k, n, t⟩, hd, fx⟩ := p
  have H1 : Hid _ := fun (W : World) => iClone key W hk
  have C2 := fun (W : World) => iCopyValue ⟨k, n, t⟩ W hs
  unfold vC at C2
  unfold propC at *
  dsimp only at *
  have H2 : Hid _ := C2
  clear C2
  have HN : Hid (∀ o1 o2, ((w.alloc o1).alloc o2).heap[w.heap.size]? = some o1 ∧ ((w.alloc o1).alloc o2).heap[w.heap.size + 1]? = some o2 ∧ Below w.heap.size w ((w.alloc o1).alloc o2) ∧ w.heap.size + 1 < ((w.alloc o1).alloc o2).heap.size) := fun o1 o2 => ⟨(Below.heap_alloc _ _ _ (by simp)).trans (heap_alloc_new _ _), by have := heap_alloc_new (w.alloc o1) o2; rwa [World.size_alloc] at this, ((Below.refl _ _).alloc (Nat.le_refl _) o1).alloc (by simp) o2, by simp⟩
  go_enter Try.func72, Try.ntmps72
  go_wp2_with fail
  refine (H1.out _).mono ?_
  rintro e w1 ⟨rfl, hb1⟩
  obtain ⟨n1, n2, n3, n4⟩ := HN.out (.cells #[.string key, .int .i64 k, .int .i64 n, .string t, .bool hd, .bool fx] 78) (.cells #[.string ⟨#[]⟩, .int .i64 0, .int .i64 0, .string ⟨#[]⟩, .bool false, .bool false] 78)
  have k1 := (hb1.block _ (by omega)).trans n1
  have k2 := (hb1.block _ n4).trans n2
  have hbw := n3.trans (hb1.mono n3.size)
  have hs1 : w.heap.size + 1 < w1.heap.size := by have := hb1.size; omega
  clear n1 n2 n3 n4 hb1 HN
  have hne : w.heap.size ≠ w.heap.size + 1 := by omega
  have hne2 : w.heap.size + 1 ≠ w.heap.size := by omega
  generalize hA : w.heap.size + 1 = A at *
  obtain ⟨⟨x0, x1, x2, x3, x4, x5⟩, y0, y1, y2, y3, y4, y5⟩ := six_same k1
  have HK : Hid (_ ∧ _ ∧ _) := ⟨k1, k2, hbw⟩
  clear k1 k2 hbw
  go_wp2_with fail
  generalize hW1 : w1.setCell _ _ = W1
  have k1 : W1.heap[w.heap.size]? = some (.cells #[.string key, .int .i64 k, .int .i64 n, .string t, .bool hd, .bool fx] 78 (0, 0)) := by rw [← hW1]; exact blk_set HK.out.1 0 _
  have k2 := (Below.heap_setCell w1 ⟨w.heap.size, 0, none⟩ (.string key) A (by show A ≠ w.heap.size; omega)).trans HK.out.2.1
  rw [hW1] at k2
  have hbw : Below w.heap.size w W1 := by rw [← hW1]; exact HK.out.2.2.setCell (p := ⟨w.heap.size, 0, none⟩) (Nat.le_refl _) _
  have hs2 : A < W1.heap.size := by rw [← hW1]; simp [World.setCell]; omega
  clear hW1 HK x0 x1 x2 x3 x4 x5 y0 y1 y2 y3 y4 y5
  refine (H2.out _).mono ?_
  rintro e w2 ⟨rfl, hb2⟩
  have k3 := (hb2.block _ (by omega)).trans k1
  have k4 := (hb2.block _ hs2).trans k2
  have hbw2 := hbw.trans (hb2.mono hbw.size)
  obtain ⟨⟨x0, x1, x2, x3, x4, x5⟩, y0, y1, y2, y3, y4, y5⟩ := six_same k3
  obtain ⟨⟨z0, z1, z2, z3, z4, z5⟩, u0, u1, u2, u3, u4, u5⟩ := six_same k4
  have HK : Hid (_ ∧ _ ∧ _) := ⟨k3, k4, hbw2⟩
  clear k1 k2 k3 k4 hbw hbw2 hb2
  go_wp2_with fail
  obtain ⟨k3, k4, hbw2⟩ := HK.out
  have hfar : ∀ (W : World) (o : Nat) (u : Value), (W.setCell ⟨w.heap.size, o, none⟩ u).heap[A]? = W.heap[A]? := fun W o u => Below.heap_setCell W ⟨w.heap.size, o, none⟩ u A (by show A ≠ w.heap.size; omega)
  have k5 := (hfar ((w2.setCell ⟨w.heap.size, 1, none⟩ (.int .i64 k)).setCell ⟨w.heap.size, 2, none⟩ (.int .i64 n)) 3 (.string t)).trans ((hfar (w2.setCell ⟨w.heap.size, 1, none⟩ (.int .i64 k)) 2 (.int .i64 n)).trans ((hfar w2 1 (.int .i64 k)).trans k4))
  have hb3 : Below w.heap.size w (((w2.setCell ⟨w.heap.size, 1, none⟩ (.int .i64 k)).setCell ⟨w.heap.size, 2, none⟩ (.int .i64 n)).setCell ⟨w.heap.size, 3, none⟩ (.string t)) := ((hbw2.setCell (p := ⟨w.heap.size, 1, none⟩) (Nat.le_refl _) _).setCell (p := ⟨w.heap.size, 2, none⟩) (Nat.le_refl _) _).setCell (p := ⟨w.heap.size, 3, none⟩) (Nat.le_refl _) _
  obtain ⟨st1, st2⟩ := six_stored _ A 78 (.string key) (.int .i64 k) (.int .i64 n) (.string t) (.bool hd) (.bool fx) k5
  have hb4 := st2 _ _ hb3 (by omega)
  clear st2 k3 k4 k5 hbw2 hb3 HK x0 x1 x2 x3 x4 x5 y0 y1 y2 y3 y4 y5 z0 z1 z2 z3 z4 z5 u0 u1 u2 u3 u4 u5
  generalize World.setCell _ ⟨A, 5, none⟩ _ = W9 at st1 hb4 ⊢
  obtain ⟨⟨z0, z1, z2, z3, z4, z5⟩, -⟩ := six_same st1
  exact bodyPost_ret (v := .agg #[.string key, .int .i64 k, .int .i64 n, .string t, .bool hd, .bool fx]) (by simp [results, Try.results72, go_sem, z0, z1, z2, z3, z4, z5]) rfl ⟨rfl, hb4⟩

/-! ### rows of Props of the call's own -/
def propL (p : PP) : List Value := (propC p).toList
/-- The slice value v owns the Props, among the blocks from B on. -/
def POwn (w : World) (B : Nat) (v : Value) (ps : List PP) : Prop := w.ownsRow B 78 6 v ps.length (ps.flatMap propL)
theorem propL_len (p : PP) : (propL p).length = 6 := rfl
theorem flatP_len (ps : List PP) : (ps.flatMap propL).length = ps.length * 6 := by
  induction ps with
  | nil => rfl
  | cons p r ih => simp only [List.flatMap_cons, List.length_append, propL_len, List.length_cons]; omega
theorem flatP_at (ps : List PP) (i : Nat) (hi : i < ps.length) (o : Nat) (ho : o < 6) : (ps.flatMap propL)[i * 6 + o]? = (propL ps[i])[o]? := by
  induction ps generalizing i with
  | nil => simp at hi
  | cons p r ih =>
    rw [List.flatMap_cons]
    cases i with
    | zero => rw [List.getElem?_append_left (by rw [propL_len]; omega)]; simp
    | succ i =>
      rw [List.getElem?_append_right (by rw [propL_len]; omega), propL_len]
      have e : (i + 1) * 6 + o - 6 = i * 6 + o := by omega
      rw [e, ih i (by simpa using hi)]
      rfl
theorem POwn.under {w w' : World} {B : Nat} {v : Value} {ps : List PP} (h : POwn w B v ps) (hb : Below w.heap.size w w') : POwn w' B v ps := row_same h fun q hq => hb.block q (World.ownsRow.lt h q hq).2
/-- 'props = append(props, p)', props a slice of the call's own. -/
theorem app_prop {w : World} {ops : Array Oper} {rest : List Oper} {o : Oper} {a : Act} {Q : Exit → Act → World → Prop} (hgd : o.guard = none) (s x : Operand)
    (ho : o.op = .call { callee := .builtin .append, args := #[s, x], argTypes := #[74, 74] })
    (B : Nat) (v : Value) (ps : List PP) (hs : a.eval s = v) (hown : POwn w B v ps)
    (ad : Addr) (p : PP) (hx : a.eval x = .slice (some ad) 1 1) (hnews : ∀ j u, (propL p)[j]? = some u → w.cell? (ad.add j) = some u)
    (hlen : ps.length ≤ 1100000) (hB : B ≤ w.heap.size)
    (h : ∀ v' w', POwn w' B v' (ps ++ [p]) → w.grownBy w' v.ownBlock → wpList Try.prog ops Q rest (a.put o.dst v') w') : wpList Try.prog ops Q (o :: rest) a w := by
  obtain ⟨i0, hi, hz0, hz1, hz2⟩ := info_parts Try.infoProp
  refine wpList_append_own w hgd s x 74 ho B 78 i0 zeroPr 6 56 Try.underlying74 hi hz0 hz1 hz2 rfl (by decide) v ps.length (ps.flatMap propL) hs hown ad 1 1 (propL p) hx rfl hnews
    (fun u hu => ?_) (by unfold maxLen; omega) (by omega) hB (fun v' w' h1 h2 _ => h v' w' ?_ h2)
  · simp only [propL, propC, List.mem_cons, List.mem_nil_iff, or_false] at hu
    rcases hu with rfl | rfl | rfl | rfl | rfl | rfl <;> rfl
  · unfold POwn
    rw [List.length_append, List.flatMap_append]
    simpa using h1

/-- The same, in a region that draws. -/
theorem step1_prop {w : World} {o : Oper} {a : Act} {K : Act → World → Prop} {Q : Exit → Act → World → Prop} (hgd : o.guard = none) (s x : Operand)
    (ho : o.op = .call { callee := .builtin .append, args := #[s, x], argTypes := #[74, 74] })
    (B : Nat) (v : Value) (ps : List PP) (hs : a.eval s = v) (hown : POwn w B v ps)
    (ad : Addr) (p : PP) (hx : a.eval x = .slice (some ad) 1 1) (hnews : ∀ j u, (propL p)[j]? = some u → w.cell? (ad.add j) = some u)
    (hlen : ps.length ≤ 1100000) (hB : B ≤ w.heap.size)
    (hK : ∀ v' w', POwn w' B v' (ps ++ [p]) → w.grownBy w' v.ownBlock → K (a.put o.dst v') w') :
    Oper.wp Try.prog o a w K Q := by
  obtain ⟨i0, hi, hz0, hz1, hz2⟩ := info_parts Try.infoProp
  have hw : Region.wanted o (yielded #[] a.tmps) = true := by simp [Region.wanted, hgd]
  suffices hh : if Region.wanted o (yielded #[] a.tmps) = true then Oper.wp Try.prog o a w K Q else True by rwa [if_pos hw] at hh
  refine step_append_own hgd s x 74 ho B 78 i0 zeroPr 6 56 Try.underlying74 hi hz0 hz1 hz2 rfl (by decide) v ps.length (ps.flatMap propL) hs hown ad 1 1 (propL p) hx rfl hnews
    (fun u hu => ?_) (by unfold maxLen; omega) (by omega) hB (fun v' w' h1 h2 => hK v' w' ?_ h2)
  · simp only [propL, propC, List.mem_cons, List.mem_nil_iff, or_false] at hu
    rcases hu with rfl | rfl | rfl | rfl | rfl | rfl <;> rfl
  · unfold POwn
    rw [List.length_append, List.flatMap_append]
    simpa using h1

set_option maxHeartbeats 4000000 in
set_option maxRecDepth 100000 in
theorem iTold (w : World) (lo : Nat) (x : OO) (c : HC) (hn : x.ps.length ≤ 1048577) (hks : ∀ p ∈ x.ps, p.key.size ≤ 1048576 ∧ p.v.text.size ≤ 1048576) (hu : Hp.Unlike x.ps) (h : HeldAt w lo x c) :
    Calls Try.prog 115 #[.pointer (some ⟨c.b, 0, none⟩)] w fun e w' => ∃ a cap, e = .returned (.agg #[.int .i64 x.cls, .int .i64 x.pro, .slice a x.ps.length cap]) ∧ Below w.heap.size w w' ∧ POwn w' w.heap.size (.slice a x.ps.length cap) x.ps := by
  have HH : Hid (HeldAt w lo x c ∧ Hp.Unlike x.ps ∧ (∀ p ∈ x.ps, p.key.size ≤ 1048576 ∧ p.v.text.size ≤ 1048576)) := ⟨h, hu, hks⟩
  obtain ⟨⟨c0, c1, c2, c3⟩, -⟩ := four_of h.2.2.2.1
  have hbl := (h.mine (.inl rfl)).2
  have HB0 : Hid (∀ o, Below w.heap.size w (w.alloc o)) := fun o => (Below.refl _ _).alloc (Nat.le_refl _) o
  clear h hu hks
  go_enter Try.func115, Try.ntmps115
  go_wp2_with fail
  generalize hW0 : w.alloc _ = W0
  have hBW : Below w.heap.size w W0 := by rw [← hW0]; exact HB0.out _
  have hX0 : W0.heap[w.heap.size]? = some (.cells #[.int .i64 0, .int .i64 0, .slice none 0 0] 76 (0, 0)) := by rw [← hW0]; exact heap_alloc_new _ _
  have hS0 : w.heap.size < W0.heap.size := by rw [← hW0]; simp
  clear hW0 HB0
  go_loopw [3, 11] (fun vk vi wr => ∃ i : Nat, i ≤ x.ps.length ∧ vi = .int .i64 i ∧ Hid (Below W0.heap.size W0 wr ∧ POwn wr W0.heap.size vk (x.ps.take i))) (fun _ vi _ => x.ps.length - (intOf vi).toNat)
  case atStart => exact ⟨0, Nat.zero_le _, rfl, Below.refl _ _, World.ownsRow_nil _ _ _ _⟩
  case round =>
    obtain ⟨i, hi, rfl, HE⟩ := hrel
    obtain ⟨av, acap, rfl⟩ := own_shape HE.out.2
    have hil : (x.ps.take i).length = i := by simp; omega
    rw [hil]
    have hbw : Below w.heap.size w wr := hBW.trans (HE.out.1.mono hBW.size)
    have hH : HeldAt wr lo x c := HH.out.1.under hbw
    obtain ⟨⟨d0, d1, d2, d3⟩, -⟩ := four_of hH.2.2.2.1
    have hX1 := (HE.out.1.block _ hS0).trans hX0
    have hblr : c.b ≠ w.heap.size := by omega
    by_cases hlt : i < x.ps.length
    case neg =>
      have hlt' : ¬ (i : Int) < (x.ps.length : Int) := by omega
      have hie : i = x.ps.length := by omega
      have HFF : Hid (POwn wr W0.heap.size (.slice av x.ps.length acap) x.ps ∧ Below w.heap.size w wr ∧ wr.heap[w.heap.size]? = some (.cells #[.int .i64 0, .int .i64 0, .slice none 0 0] 76 (0, 0)) ∧ w.heap.size ≤ W0.heap.size) := by
        have := HE.out.2
        rw [List.take_of_length_le (by omega)] at this
        exact ⟨this, hbw, hX1, by omega⟩
      obtain ⟨⟨z0, z1, z2⟩, u0, u1, u2⟩ := three_all hX1
      subst hie
      clear hH hX1 hbw c0 c1 c2 c3
      go_wp2_with fail
      go_region
      all_goals
        go_wp2_with fail
        obtain ⟨st1, st2⟩ := three_stored wr w.heap.size 76 (.int .i64 x.cls) (.int .i64 x.pro) (.slice av x.ps.length acap) HFF.out.2.2.1
        have hb3 := st2 _ _ HFF.out.2.1 (Nat.le_refl _)
        have hp3 : POwn (((wr.setCell ⟨w.heap.size, 0, none⟩ (.int .i64 x.cls)).setCell ⟨w.heap.size, 1, none⟩ (.int .i64 x.pro)).setCell ⟨w.heap.size, 2, none⟩ (.slice av x.ps.length acap)) w.heap.size (.slice av x.ps.length acap) x.ps := World.ownsRow.mono (row_same HFF.out.1 fun q hq => by
          have hq' : q ≠ w.heap.size := by have := (World.ownsRow.lt HFF.out.1 q hq).1; omega
          exact (Below.heap_setCell _ ⟨w.heap.size, 2, none⟩ _ q hq').trans ((Below.heap_setCell _ ⟨w.heap.size, 1, none⟩ _ q hq').trans (Below.heap_setCell _ ⟨w.heap.size, 0, none⟩ _ q hq'))) HFF.out.2.2.2
        clear st2 z0 z1 z2 u0 u1 u2
        generalize World.setCell _ ⟨w.heap.size, 2, none⟩ _ = W9 at st1 hb3 hp3 ⊢
        obtain ⟨⟨z0, z1, z2⟩, -⟩ := three_all st1
        exact bodyPost_ret (v := .agg #[.int .i64 x.cls, .int .i64 x.pro, .slice av x.ps.length acap]) (by simp [results, Try.results115, go_sem, z0, z1, z2]) rfl ⟨av, acap, rfl, hb3.drew, hp3⟩
    have hlt' : (i : Int) < (x.ps.length : Int) := by omega
    obtain ⟨g, hca, hcell, hcell1⟩ := hH.ord i hlt
    obtain ⟨hks, hts⟩ := HH.out.2.2 _ (List.getElem_mem hlt)
    have HSW : Hid (∀ W' : World, Below w.heap.size w W' → W'.cell? ⟨c.b, 2, none⟩ = some (.map (some c.m)) ∧ (Instr.lookup 127 (.map (some c.m)) (.string x.ps[i].key) false).run Try.prog W' = .ok (.agg (propC x.ps[i])) W') := fun W' hW => by
      have k := HH.out.1.under hW
      have := look_prop1 k x.ps[i].key (by omega)
      rw [find_at HH.out.2.1 i hlt] at this
      exact ⟨(four_of k.2.2.2.1).1.2.2.1, this⟩
    have htk : x.ps.take (i + 1) = x.ps.take i ++ [x.ps[i]] := List.take_succ_eq_append_getElem hlt
    have HTK : Hid _ := htk
    have C1 := fun (W : World) => iCopyProp x.ps[i] W hks hts
    have hwz := HE.out.1.size
    have HO : Hid (POwn wr W0.heap.size (.slice av i acap) (x.ps.take i)) := by
      have := HE.out.2
      rw [hil] at this
      exact this
    have HOL : Hid (∀ q, (Value.slice av i acap).ownBlock = some q → q < wr.heap.size) := fun q hq => (World.ownsRow.lt HO.out q hq).2
    have HBWR : Hid (Below w.heap.size w wr) := hbw
    have hgl := World.block_lt_of_cell? wr _ hcell
    have HAL : Hid (∀ o, Below wr.heap.size wr (wr.alloc o)) := fun o => (Below.refl _ _).alloc (Nat.le_refl _) o
    clear hH c0 c1 c2 c3 htk hX1
    rw [hca]
    generalize x.ps[i] = p at *
    have HNW : Hid (∀ (W : World) j u, (propL p)[j]? = some u → (W.alloc (.cells (propC p) 78)).cell? ((⟨W.heap.size, 0, none⟩ : Addr).add j) = some u) := fun W j u h => new_cells W (propC p) 78 j u h
    obtain ⟨pk, ⟨p1, p2, p3⟩, p4, p5⟩ := p
    unfold propC at HSW C1 HNW
    dsimp only at HSW hcell hcell1 C1 HNW
    have H1 : Hid _ := C1
    clear C1
    go_wp2_with fail
    generalize hWX : wr.alloc _ = wx
    have hBX : Below wr.heap.size wr wx := by rw [← hWX]; exact HAL.out _
    have hX2 : wx.cell? ⟨wr.heap.size, 0, none⟩ = some (.string pk) := by
      rw [← hWX, World.cell?_alloc_new]; rfl
    have hSX : wr.heap.size < wx.heap.size := by rw [← hWX]; simp
    clear hWX
    have HXW : Hid (∀ W' : World, Below wx.heap.size wx W' → W'.cell? ⟨wr.heap.size, 0, none⟩ = some (.string pk) ∧ W'.cell? ⟨c.b, 2, none⟩ = some (.map (some c.m)) ∧ (Instr.lookup 127 (.map (some c.m)) (.string pk) false).run Try.prog W' = .ok (.agg #[.string pk, .int .i64 p1, .int .i64 p2, .string p3, .bool p4, .bool p5]) W') := fun W' hW => ⟨(World.cell?_of_block (w := wx) (hW.block _ hSX)).trans hX2, HSW.out W' ((HBWR.out.trans (hBX.mono HBWR.out.size)).trans (hW.mono (Nat.le_trans HBWR.out.size hBX.size)))⟩
    have HOX : Hid (POwn wx W0.heap.size (.slice av i acap) (x.ps.take i) ∧ Below W0.heap.size W0 wx) := ⟨HO.out.under hBX, HE.out.1.trans (hBX.mono hwz)⟩
    have hwx := HOX.out.2.size
    clear hcell hcell1 d0 d1 d2 d3 hBX hX2 HAL HO hbw
    refine wp_region_held_drew (S := fun w' => w'.cell? ⟨wr.heap.size, 0, none⟩ = some (.string pk) ∧ w'.cell? ⟨c.b, 2, none⟩ = some (.map (some c.m)) ∧ (Instr.lookup 127 (.map (some c.m)) (.string pk) false).run Try.prog w' = .ok (.agg #[.string pk, .int .i64 p1, .int .i64 p2, .string p3, .bool p4, .bool p5]) w') (by kernel_rfl) (HXW.out _ (Below.refl wx.heap.size wx).drew) (fun hHeld => ?_)
    refine takeIn 0 (v := ?vt0) rfl (by kernel_rfl) (by kernel_rfl) (by kernel_rfl) (fun _ _ _ h => h) ?wt0 (by assumption) ?yt0 ?rt0
    case wt0 => rfl
    case yt0 => (intro w hSw; (try dsimp only at hSw); go_simp; first | done | with_reducible rfl)
    simp only [Act.put, List.setIfInBounds_toArray, List.set_cons_zero, List.set_cons_succ]
    refine takeIn 1 (v := ?vt1) rfl (by kernel_rfl) (by kernel_rfl) (by kernel_rfl) (fun _ _ _ h => h) ?wt1 (by assumption) ?yt1 ?rt1
    case wt1 => rfl
    case yt1 => (intro w hSw; (try dsimp only at hSw); go_simp; first | done | with_reducible rfl)
    simp only [Act.put, List.setIfInBounds_toArray, List.set_cons_zero, List.set_cons_succ]
    refine takeIn 2 (v := ?vt2) rfl (by kernel_rfl) (by kernel_rfl) (by kernel_rfl) (fun _ _ _ h => h) ?wt2 (by assumption) ?yt2 ?rt2
    case wt2 => rfl
    case yt2 => (intro w hSw; (try dsimp only at hSw); go_simp; first | done | with_reducible rfl)
    simp only [Act.put, List.setIfInBounds_toArray, List.set_cons_zero, List.set_cons_succ]
    refine takeIn 3 (v := ?vt3) rfl (by kernel_rfl) (by kernel_rfl) (by kernel_rfl) (fun _ _ _ h => h) ?wt3 (by assumption) ?yt3 ?rt3
    case wt3 => rfl
    case yt3 => (intro w hSw; (try dsimp only at hSw); go_simp; first | done | with_reducible rfl)
    simp only [Act.put, List.setIfInBounds_toArray, List.set_cons_zero, List.set_cons_succ]
    refine takeIn 4 (v := ?vt4) rfl (by kernel_rfl) (by kernel_rfl) (by kernel_rfl) (fun _ _ _ h => h) ?wt4 (by assumption) ?yt4 ?rt4
    case wt4 => rfl
    case yt4 => (intro w hSw; (try dsimp only at hSw); go_simp; first | done | with_reducible rfl)
    simp only [Act.put, List.setIfInBounds_toArray, List.set_cons_zero, List.set_cons_succ]
    refine takeIn 5 (v := ?vt5) rfl (by kernel_rfl) (by kernel_rfl) (by kernel_rfl) (fun _ _ _ h => h) ?wt5 (by assumption) ?yt5 ?rt5
    case wt5 => rfl
    case yt5 => (intro w hSw; (try dsimp only at hSw); go_simp; first | done | with_reducible rfl)
    simp only [Act.put, List.setIfInBounds_toArray, List.set_cons_zero, List.set_cons_succ]
    refine takeIn 6 (v := ?vt6) rfl (by kernel_rfl) (by kernel_rfl) (by kernel_rfl) (fun _ _ _ h => h) ?wt6 (by assumption) ?yt6 ?rt6
    case wt6 => rfl
    case yt6 => (intro w hSw; (try dsimp only at hSw); go_simp; first | done | with_reducible rfl)
    simp only [Act.put, List.setIfInBounds_toArray, List.set_cons_zero, List.set_cons_succ]
    refine takeIn 7 (v := ?vt7) rfl (by kernel_rfl) (by kernel_rfl) (by kernel_rfl) (fun _ _ _ h => h) ?wt7 (by assumption) ?yt7 ?rt7
    case wt7 => rfl
    case yt7 => (intro w hSw; (try dsimp only at hSw); go_simp; first | done | with_reducible rfl)
    simp only [Act.put, List.setIfInBounds_toArray, List.set_cons_zero, List.set_cons_succ]
    refine oneUp 8 rfl (by kernel_rfl) (by rfl) (fun K hK => ?_)
    go_simp
    refine (H1.out _).mono ?_
    rintro e w1 ⟨rfl, hb1⟩
    have hB1 : Below wx.heap.size wx w1 := (Below.refl wx.heap.size wx).drew.trans hb1
    refine hK.out _ _ (HXW.out _ hB1) (fun hHeld2 => ?_)
    clear hK K hHeld hb1
    refine oneUp 9 rfl (by kernel_rfl) (by rfl) (fun K hK => ?_)
    go_simp
    have hB2 : Below wx.heap.size wx (w1.alloc (.cells #[.string pk, .int .i64 p1, .int .i64 p2, .string p3, .bool p4, .bool p5] 78)) := hB1.alloc hB1.size _
    have hS2 : W0.heap.size ≤ (w1.alloc (.cells #[.string pk, .int .i64 p1, .int .i64 p2, .string p3, .bool p4, .bool p5] 78)).heap.size := Nat.le_trans hwx hB2.size
    refine hK.out _ _ (HXW.out _ hB2) (fun hHeld3 => ?_)
    clear hK K hHeld2
    refine oneUp 10 rfl (by kernel_rfl) (by rfl) (fun K hK => ?_)
    refine step1_prop rfl (.tmp 15) (.tmp 24) rfl W0.heap.size (.slice av i acap) (x.ps.take i) (by rfl) (HOX.out.1.under hB2) ⟨w1.heap.size, 0, none⟩ ⟨pk, ⟨p1, p2, p3⟩, p4, p5⟩ (by rfl) (HNW.out w1) (by simp; omega) hS2 ?_
    intro v' w' hown' hgrow'
    obtain ⟨a2, cap2, rfl⟩ := own_shape hown'
    have hF0 : Below W0.heap.size W0 w' := (HOX.out.2.trans (hB2.mono hwx)).grown hgrow' hS2 (fun q hq => (World.ownsRow.lt HOX.out.1 q hq).1)
    refine hK.out _ _ ⟨(World.cell?_of_block (w := w1.alloc (.cells #[.string pk, .int .i64 p1, .int .i64 p2, .string p3, .bool p4, .bool p5] 78)) (hgrow'.block wr.heap.size (by have := hB2.size; omega) (fun e => by have := HOL.out _ e.symm; omega))).trans hHeld3.1, HSW.out w' (hBW.trans (hF0.mono hBW.size))⟩ (fun hHeld4 => ?_)
    clear hK K hHeld3 hgrow' hB2 hB1
    have hle : (x.ps.take i ++ [(⟨pk, ⟨p1, p2, p3⟩, p4, p5⟩ : PP)]).length = i + 1 := by rw [List.length_append, hil]; rfl
    rw [hle] at hown'
    have hfin : POwn w' W0.heap.size (.slice a2 (i + 1) cap2) (x.ps.take (i + 1)) := by
      rw [HTK.out]
      exact hown'
    have HFIN : Hid (_ ∧ _) := ⟨hF0, hfin⟩
    clear hF0 hfin hown'
    simp only [Act.put, List.setIfInBounds_toArray, List.set_cons_zero, List.set_cons_succ]
    rw [hle]
    refine takeIn 11 (v := ?vt11) rfl (by kernel_rfl) (by kernel_rfl) (by kernel_rfl) (fun _ _ _ h => h) ?wt11 (by assumption) ?yt11 ?rt11
    case wt11 => rfl
    case yt11 => (intro w hSw; (try dsimp only at hSw); go_simp; first | done | with_reducible rfl)
    simp only [Act.put, List.setIfInBounds_toArray, List.set_cons_zero, List.set_cons_succ]
    refine wpAnyH_done (by kernel_rfl) ?_ _
    go_wp2_with fail
    exact ⟨⟨i + 1, by omega, by go_num, HFIN.out⟩, by simp [intOf]; omega⟩

end Go.Proofs.Ytlmlmdmechhalaa

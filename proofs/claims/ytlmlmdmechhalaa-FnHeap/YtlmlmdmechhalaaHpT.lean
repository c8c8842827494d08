/-
  The walks of slices.Index and slices.Delete over the order of a holder, and of the program's remove.
-/
import Derived.Test.YtlmlmdmechhalaaHpB
import Derived.Deep.RegionLaw
import Derived.Deep.Upon
import Derived.Lib.SliceRun
import Derived.Laws.StructEq
namespace Go.Proofs.Ytlmlmdmechhalaa
open Go.RowKit
open Hp (PP OO propC rP kl encP)

/-- A block behind stores into some of its cells. -/
theorem blk_setCells {t : TypeId} {g : Nat} : ∀ (vs : List Value) (o : Nat) (W : World) (c : Array Value), W.heap[g]? = some (.cells c t (0, 0)) → ∃ c', (W.setCells g o vs).heap[g]? = some (.cells c' t (0, 0)) ∧ c'.size = c.size ∧ ∀ i, i < c.size → c'[i]? = if o ≤ i ∧ i < o + vs.length then vs[i - o]? else c[i]?
  | [], o, W, c, h => ⟨c, h, rfl, fun i _ => by rw [if_neg (by simp)]⟩
  | v :: r, o, W, c, h => by
    obtain ⟨c', h1, h2, h3⟩ := blk_setCells r (o + 1) (W.setCell ⟨g, o, none⟩ v) (c.setIfInBounds o v) (blk_set h o v)
    refine ⟨c', h1, by rw [h2]; simp, fun i hi => ?_⟩
    rw [h3 i (by simpa using hi), Array.getElem?_setIfInBounds]
    by_cases e : i = o
    · subst e
      rw [if_neg (by omega), if_pos rfl, if_pos hi, if_pos (by simp), Nat.sub_self]
      rfl
    · by_cases e2 : o + 1 ≤ i ∧ i < o + 1 + r.length
      · rw [if_pos e2, if_pos (by simp; omega)]
        obtain ⟨k, rfl⟩ : ∃ k, i = o + 1 + k := ⟨i - (o + 1), by omega⟩
        rw [show o + 1 + k - (o + 1) = k by omega, show o + 1 + k - o = k + 1 by omega]
        rfl
      · rw [if_neg e2, if_neg (fun h => e h.symm), if_neg (by simp; omega)]
theorem Marks.setCells {Q : Nat → Prop} {a : World} {g : Nat} (hq : Q g) : ∀ (vs : List Value) (o : Nat) (w : World), Marks Q a w → Marks Q a (w.setCells g o vs)
  | [], _, _, h => h
  | v :: r, o, w, h => Marks.setCells hq r (o + 1) (w.setCell ⟨g, o, none⟩ v) (h.setCell (p := ⟨g, o, none⟩) hq v)
/-- 'clear' of one that is listed. -/
theorem clear2 (w : World) (g o c : Nat) (ty : TypeId) (hc : ∀ j, j < 2 → (w.cell? ⟨g, o + j, none⟩).isSome = true) (hf : ∀ j, j < 2 → w.frozen? ⟨g, o + j, none⟩ = false) :
    (Builtin.clear_ #[128] ty #[.slice (some ⟨g, o, none⟩) 1 c]).run Try.prog w = .ok (.tuple #[]) (w.setCells g o [.string ⟨#[]⟩, .bool false]) := by
  have hzc : (Builtin.zeroCells (Value.agg #[.string ⟨#[]⟩, .bool false]).cells 1).toList = [.string ⟨#[]⟩, .bool false] := by kernel_rfl
  have hst := run_storeCells_cells (P := Try.prog) g o [.string ⟨#[]⟩, .bool false] 0 w (by simpa using hc) (by simpa using hf) (by intro v hv; simp only [List.mem_cons, List.mem_nil_iff, or_false] at hv; rcases hv with rfl | rfl <;> rfl)
  simp only [Nat.add_zero] at hst
  simp [Builtin.clear_, run_underlying Try.underlying128, hzc, hst]

set_option maxHeartbeats 4000000 in
set_option maxRecDepth 100000 in
/-- slices.Delete of one, of a row of the call's own. -/
theorem iDelete (g cap n i : Nat) (cur : Array Value) (w : World) (hb : w.heap[g]? = some (.cells cur 147 (0, 0))) (hcs : cur.size = cap * 2) (hone : ∀ u ∈ cur.toList.take (n * 2), u.oneCell' = true) (hi : i < n) (hn : n ≤ cap) (hm : cap ≤ 9223372036854775807) :
    Calls Try.prog 121 #[.slice (some ⟨g, 0, none⟩) n cap, .int .i64 i, .int .i64 ((i : Int) + 1)] w fun e w' => e = .returned (.slice (some ⟨g, 0, none⟩) (n - 1) cap) ∧ Marks (fun q => q = g) w w' ∧
      ∃ c', w'.heap[g]? = some (.cells c' 147 (0, 0)) ∧ c'.size = cap * 2 ∧ c'.toList.take ((n - 1) * 2) = (cur.toList.take (i * 2)) ++ ((cur.toList.take (n * 2)).drop ((i + 1) * 2)) := by
  obtain ⟨i0, hi0, hz0, hz1, hz2⟩ := info_parts Try.infoListed
  obtain ⟨news, hnews⟩ : ∃ news, news = (cur.toList.take (n * 2)).drop ((i + 1) * 2) := ⟨_, rfl⟩
  have hlen : news.length = (n - (i + 1)) * 2 := by rw [hnews]; simp; omega
  have hget : ∀ t, t < (n - (i + 1)) * 2 → news[t]? = cur[(i + 1) * 2 + t]? := fun t ht => by
    rw [hnews, List.getElem?_drop, List.getElem?_take, if_pos (by omega)]
    simp
  have hcell : ∀ q, w.cell? ⟨g, q, none⟩ = cur[q]? := fun q => by simp [World.cell?, hb]
  have hfr : ∀ q, w.frozen? ⟨g, q, none⟩ = false := fun q => by simp [World.frozen?, hb]
  obtain ⟨A, hA, hsrc⟩ : ∃ A : Addr, (if cap = i + 1 then some (⟨g, 0, none⟩ : Addr) else some ⟨g, (i + 1) * 2, none⟩) = some A ∧ Hid (∀ t u, news[t]? = some u → w.drew.cell? (A.add t) = some u) := by
    by_cases h : cap = i + 1
    · refine ⟨⟨g, 0, none⟩, by simp [h], fun t u hu => ?_⟩
      have h0 : news.length = 0 := by rw [hlen]; omega
      rw [List.length_eq_zero_iff.1 h0] at hu
      simp at hu
    · refine ⟨⟨g, (i + 1) * 2, none⟩, by simp [h], fun t u hu => ?_⟩
      have ht : t < (n - (i + 1)) * 2 := by
        have := (List.getElem?_eq_some_iff.1 hu).1
        rwa [hlen] at this
      rw [hget t ht] at hu
      rw [Addr.add_lit]
      exact (hcell _).trans hu
  have s1 : Hid (news.length = (n - (i + 1)) * 2) := hlen
  have s2 : Hid (∀ u ∈ news, u.oneCell' = true) := fun u hu => hone u (by rw [hnews] at hu; exact List.mem_of_mem_drop hu)
  have s3 : Hid (∀ t, t < news.length → (w.drew.cell? ⟨g, 0 + i * 2 + t, none⟩).isSome = true ∧ w.drew.frozen? ⟨g, 0 + i * 2 + t, none⟩ = false) := fun t ht => by
    rw [hlen] at ht
    refine ⟨?_, hfr _⟩
    show (w.cell? _).isSome = true
    rw [hcell, Array.getElem?_eq_getElem (by omega)]
    rfl
  obtain ⟨W1, hW1⟩ : ∃ W1, W1 = w.drew.setCells g (0 + i * 2) news := ⟨_, rfl⟩
  have hb' : w.drew.heap[g]? = some (.cells cur 147 (0, 0)) := hb
  obtain ⟨c1, k1, k2, k3⟩ := blk_setCells news (0 + i * 2) w.drew cur hb'
  rw [← hW1] at k1
  have hcl : ∀ ty, (Builtin.clear_ #[128] ty #[.slice (some ⟨g, (n - 1) * 2, none⟩) (n - (n - 1)) (cap - (n - 1))]).run Try.prog W1 = .ok (.tuple #[]) (W1.setCells g ((n - 1) * 2) [.string ⟨#[]⟩, .bool false]) := fun ty => by
   rw [show n - (n - 1) = 1 by omega]
   exact clear2 W1 g ((n - 1) * 2) _ ty (fun j hj => by
    have : W1.cell? ⟨g, (n - 1) * 2 + j, none⟩ = c1[(n - 1) * 2 + j]? := by simp [World.cell?, k1]
    rw [this, Array.getElem?_eq_getElem (by omega)]; rfl) (fun j _ => by simp [World.frozen?, k1])
  have HW : Hid (W1 = w.drew.setCells g (0 + i * 2) news) := hW1
  have HEND : Hid (Marks (fun q => q = g) w (W1.setCells g ((n - 1) * 2) [.string ⟨#[]⟩, .bool false]) ∧ ∃ c', (W1.setCells g ((n - 1) * 2) [.string ⟨#[]⟩, .bool false]).heap[g]? = some (.cells c' 147 (0, 0)) ∧ c'.size = cap * 2 ∧ c'.toList.take ((n - 1) * 2) = (cur.toList.take (i * 2)) ++ news) := by
    refine ⟨?_, ?_⟩
    · rw [hW1]
      exact Marks.setCells (Q := fun q => q = g) rfl _ _ _ (Marks.setCells (Q := fun q => q = g) rfl _ _ _ (Marks.of_below (Below.refl _ _).drew))
    · obtain ⟨c2, m1, m2, m3⟩ := blk_setCells [.string ⟨#[]⟩, .bool false] ((n - 1) * 2) W1 c1 k1
      refine ⟨c2, m1, by omega, ?_⟩
      refine List.ext_getElem? fun q => ?_
      rw [List.getElem?_take]
      by_cases hq : q < (n - 1) * 2
      · rw [if_pos hq, Array.getElem?_toList, m3 q (by omega), if_neg (by omega), k3 q (by omega)]
        by_cases hq2 : q < i * 2
        · rw [if_neg (by omega), List.getElem?_append_left (by simp; omega), List.getElem?_take, if_pos hq2, Array.getElem?_toList]
        · rw [if_pos (by omega), List.getElem?_append_right (by simp; omega)]
          congr 1
          simp
          omega
      · rw [if_neg hq]
        symm
        rw [List.getElem?_eq_none_iff]
        simp
        omega
  rw [hnews] at HEND
  have hic : i ≤ cap := by omega
  have hjc : i + 1 ≤ cap := by omega
  have e1 : i + (n - (i + 1)) = n - 1 := by omega
  have hne : ((i : Int) == (i : Int) + 1) = false := by simp; omega
  have hwr : IntKind.i64.wrap ((i : Int) + 1) = (i : Int) + 1 := by rw [IntKind.wrap_i64]; omega
  have hp0 : (0 : Int) ≤ (i : Int) + 1 := by omega
  have hp1 : (i : Int) + 1 ≤ (n : Int) := by omega
  have hp2 : ((i : Int) + 1).toNat = i + 1 := by omega
  clear hW1 hb hb' k1 k2 k3 hcell hfr hget hone hnews hlen hcs
  go_enter Try.func121, Try.ntmps121
  go_wp2_with fail
  go_region_law (refine step_append_room rfl (.tmp 22) (.tmp 25) 128 rfl 147 i0 2 Try.underlying128 hi0 hz1 g 0 i cap (by simp [Act.eval, Act.put]) A (n - (i + 1)) (cap - (i + 1)) news (by simp [Act.eval, Act.put]) s1.out hsrc.out s2.out (by omega) s3.out ?_; rw [← HW.out])
  go_wp2_with fail
  go_ret
  exact ⟨rfl, HEND.out⟩

theorem toList_inj {a b : ByteArray} (h : a.toList = b.toList) : a = b := by
  rw [ByteArray.toList_eq, ByteArray.toList_eq] at h
  obtain ⟨a⟩ := a
  obtain ⟨b⟩ := b
  congr 1
  exact Array.toList_inj.1 h
set_option maxHeartbeats 4000000 in
set_option maxRecDepth 100000 in
/-- slices.Index of the i-th one, whose Key none ahead of it has. -/
theorem iIndex (g cap i : Nat) (ps : List PP) (w : World) (hi : i < ps.length) (hn : ps.length ≤ 9223372036854775807) (hc : ∀ j (hj : j < ps.length), w.cell? ⟨g, j * 2, none⟩ = some (.string ps[j].key) ∧ w.cell? ⟨g, j * 2 + 1, none⟩ = some (.bool ps[j].hid)) (hu : ∀ j (hj : j < ps.length), j < i → ps[j].key ≠ ps[i].key) :
    Calls Try.prog 120 #[.slice (some ⟨g, 0, none⟩) ps.length cap, .agg #[.string ps[i].key, .bool ps[i].hid]] w fun e w' => e = .returned (.int .i64 i) ∧ Below w.heap.size w w' := by
  have HC : Hid ((∀ j (hj : j < ps.length), w.cell? ⟨g, j * 2, none⟩ = some (.string ps[j].key) ∧ w.cell? ⟨g, j * 2 + 1, none⟩ = some (.bool ps[j].hid)) ∧ (∀ j (hj : j < ps.length), j < i → ps[j].key ≠ ps[i].key)) := ⟨hc, hu⟩
  have hgl := World.block_lt_of_cell? w _ (hc i hi).1
  have HB0 : Hid (∀ o, Below w.heap.size w (w.alloc o)) := fun o => (Below.refl _ _).alloc (Nat.le_refl _) o
  clear hc hu
  generalize hke : ps[i].key = key at *
  generalize hde : ps[i].hid = hd at *
  go_enter Try.func120, Try.ntmps120
  go_wp2_with fail
  generalize hW0 : w.alloc _ = W0
  have hBW : Below w.heap.size w W0 := by rw [← hW0]; exact HB0.out _
  have x0 : W0.cell? ⟨w.heap.size, 0, none⟩ = some (.string key) ∧ W0.cell? ⟨w.heap.size, 1, none⟩ = some (.bool hd) := by
    rw [← hW0]
    exact ⟨by rw [World.cell?_alloc_new]; rfl, by rw [World.cell?_alloc_new]; rfl⟩
  clear hW0 HB0
  obtain ⟨x0, x1⟩ := x0
  go_loopw [8] (fun vi wr => ∃ j : Nat, j ≤ i ∧ vi = .int .i64 j ∧ Below W0.heap.size W0 wr) (fun vi _ => i - (intOf vi).toNat)
  case atStart => exact ⟨0, Nat.zero_le _, rfl, Below.refl _ _⟩
  case round =>
    obtain ⟨j, hj, rfl, hb⟩ := hrel
    have hjl : j < ps.length := by omega
    have hjl' : (j : Int) < (ps.length : Int) := by omega
    have hbw : Below w.heap.size w wr := hBW.trans (hb.mono hBW.size)
    have c0 := (World.cell?_of_block (w := w) (hbw.block g hgl)).trans (HC.out.1 j hjl).1
    have c1 := (World.cell?_of_block (w := w) (hbw.block g hgl)).trans (HC.out.1 j hjl).2
    have d0 := (World.cell?_of_block (w := W0) (hb.block w.heap.size (World.block_lt_of_cell? W0 _ x0))).trans x0
    have d1 := (World.cell?_of_block (w := W0) (hb.block w.heap.size (World.block_lt_of_cell? W0 _ x0))).trans x1
    have HBN : Hid (Below W0.heap.size W0 wr) := hb
    clear hb
    by_cases hji : j = i
    · subst hji
      rw [hke] at c0
      rw [hde] at c1
      go_wp2_with fail
      go_region
      all_goals
        go_wp2_with fail
        go_ret
        exact ⟨rfl, hbw.drew⟩
    · have hne : ¬ key.toList = ps[j].key.toList := fun e => HC.out.2 j hjl (by omega) (toList_inj e.symm)
      generalize ps[j].key = k2 at *
      generalize ps[j].hid = h2 at *
      go_wp2_with fail
      go_region
      all_goals
        go_wp2_with fail
        exact ⟨⟨j + 1, by omega, by go_num, HBN.out.drew⟩, by simp [intOf]; omega⟩

/-- The object without the Prop. -/
def delO (x : OO) (key : ByteArray) : OO := { x with ps := Hp.delPs x.ps key }
theorem keysV_len (ps : List PP) : (keysV ps).length = ps.length * 2 := by
  unfold keysV
  induction ps with
  | nil => rfl
  | cons p r ih => simp only [List.flatMap_cons, List.length_append, List.length_cons]; rw [ih]; simp [lstL]; omega
theorem keysV_app (l r : List PP) : keysV (l ++ r) = keysV l ++ keysV r := by unfold keysV; exact List.flatMap_append
theorem keysV_erase (ps : List PP) (i : Nat) (hi : i < ps.length) : keysV (ps.eraseIdx i) = (keysV ps).take (i * 2) ++ (keysV ps).drop ((i + 1) * 2) := by
  have e : keysV ps = keysV (ps.take i) ++ keysV (ps.drop i) := by rw [← keysV_app, List.take_append_drop]
  have e2 : keysV ps = keysV (ps.take (i + 1)) ++ keysV (ps.drop (i + 1)) := by rw [← keysV_app, List.take_append_drop]
  have l1 : (keysV (ps.take i)).length = i * 2 := by rw [keysV_len]; simp; omega
  have l2 : (keysV (ps.take (i + 1))).length = (i + 1) * 2 := by rw [keysV_len]; simp; omega
  rw [List.eraseIdx_eq_take_drop_succ, keysV_app]
  congr 1
  · rw [e, ← l1, List.take_left']
    rfl
  · rw [e2, ← l2, List.drop_left']
    rfl
theorem keysV_one (ps : List PP) : ∀ u ∈ keysV ps, u.oneCell' = true := fun u hu => by
  unfold keysV at hu
  obtain ⟨p, _, hu⟩ := List.mem_flatMap.1 hu
  simp only [lstL, List.mem_cons, List.mem_nil_iff, or_false] at hu
  rcases hu with rfl | rfl <;> rfl
theorem tl_head {c : HC} (h : hTy c) : ∃ r, tl c.t = .bool false :: r := by
  rcases h with ⟨_, e⟩ | ⟨_, e⟩
  · exact ⟨_, by rw [e]; exact tl_held⟩
  · exact ⟨_, by rw [e]; exact tl_args⟩
theorem turned_same {w w' : World} {lo : Nat} {x x' : OO} {c : HC} (h : HeldAt w lo x c) (hb : Below w.heap.size w w') (e : x' = x) : Turned w w' lo x x' c := by
  subst e
  exact ⟨c, h.under hb, rfl, rfl, Marks.of_below hb⟩

set_option maxHeartbeats 8000000 in
set_option maxRecDepth 100000 in
theorem iRemove (w : World) (lo : Nat) (x : OO) (c : HC) (key : ByteArray) (hk : key.size ≤ 9223372036854775807) (hn : x.ps.length ≤ 1048577) (hu : Hp.Unlike x.ps) (h : HeldAt w lo x c) :
    Calls Try.prog 118 #[.pointer (some ⟨c.b, 0, none⟩), .string key] w fun e w' => ∃ r, e = .returned (.bool r) ∧ Turned w w' lo x (delO x key) c := by
  have hlook := look_prop h key hk
  have hc2 : w.cell? ⟨c.b, 2, none⟩ = some (.map (some c.m)) := (four_of h.2.2.2.1).1.2.2.1
  have hb := (h.mine (.inl rfl)).2
  have HH : Hid (HeldAt w lo x c ∧ Hp.Unlike x.ps) := ⟨h, hu⟩
  have HAL : Hid (∀ o, Below w.heap.size w (w.alloc o)) := fun o => (Below.refl _ _).alloc (Nat.le_refl _) o
  clear h hu
  go_enter Try.func118, Try.ntmps118
  cases hfo : x.ps.find? (Hp.same key) with
  | none =>
    rw [hfo] at hlook
    dsimp only [Option.getD, Option.isSome, propC, Hp.zeroP, Val.zeroV, Val.e0] at hlook
    have HFO : Hid (delO x key = x) := by
      have := fi_no hfo
      unfold delO Hp.delPs
      rw [dif_neg this]
      exact (rfl : x = x)
    clear hfo
    go_wp2_with fail
    go_ret
    exact ⟨true, rfl, turned_same HH.out.1 (HAL.out _) HFO.out⟩
  | some p =>
    rw [hfo] at hlook
    obtain ⟨hfi, hpe, hpk⟩ := fi_some hfo
    clear hfo
    obtain ⟨pk, ⟨p1, p2, p3⟩, p4, p5⟩ := p
    dsimp only [Option.getD, Option.isSome, propC] at hlook
    have hpk' : pk = key := hpk
    subst hpk'
    cases p5
    case true =>
      have HFO : Hid (delO x pk = x) := by
        unfold delO Hp.delPs
        rw [dif_pos hfi, if_pos (by rw [hpe])]
        exact (rfl : x = x)
      clear hpe hpk
      go_wp2_with fail
      go_ret
      exact ⟨false, rfl, turned_same HH.out.1 (HAL.out _) HFO.out⟩
    case false =>
    obtain ⟨h1, h2, h3, h4, ⟨nm, D, h5, h6, h7⟩, h8⟩ := HH.out.1
    have hkey := WideMaps.keyOf_string_mk (P := Try.prog) (k := 9) Try.underlying9 (s := pk) (by unfold maxLen; omega)
    obtain ⟨w2, hdel, hm2, ht2⟩ := (h6.alloc (.cells #[.string pk, .int .i64 p1, .int .i64 p2, .string p3, .bool p4, .bool false] 78)).drop keyedS Try.underlying127 hkey 0
    have hg2 := ht2.grown
    have hX := (hg2.block w.heap.size (by simp) (fun e => by have := h6.lt; simp only [Option.some.injEq] at e; omega)).trans (heap_alloc_new w (.cells #[.string pk, .int .i64 p1, .int .i64 p2, .string p3, .bool p4, .bool false] 78))
    have hfar : ∀ q, q < w.heap.size → q ≠ c.m → w2.heap[q]? = w.heap[q]? := fun q hq hqm => (hg2.block q (by simp; omega) (fun e => hqm (by simpa using e))).trans ((HAL.out _).block q hq)
    have hb2 := (hfar c.b hb (by omega)).trans h4
    obtain ⟨rt, htl⟩ := tl_head h1
    obtain ⟨⟨-, -, -, e3⟩, -, -, -, f3⟩ := four_of hb2
    have e4 : w2.cell? ⟨c.b, 4, none⟩ = some (.bool false) := by rw [htl] at hb2; simp [World.cell?, hb2]
    obtain ⟨⟨-, -, -, -, x4, -⟩, -⟩ := six_same hX
    have hXs : w.heap.size < w2.heap.size := (Array.getElem?_eq_some_iff.1 hX).1
    have hbs : c.b < w2.heap.size := by omega
    obtain ⟨g, hca, -, -⟩ := HH.out.1.ord _ hfi
    rcases h8.2 with ⟨e, e0⟩ | ⟨g', cap', cur, e, hgB, hgb, hnc, hmx, hcs, htk⟩
    · omega
    have e' := e
    unfold ordV at e'
    injection e' with e1 _ e3'
    rw [hca] at e1
    injection e1 with e1
    injection e1 with e1 _ _
    subst e1 e3'
    have hgm : g ≠ c.m := fun e => by
      obtain ⟨es, ck, hmm, _⟩ := h6
      rw [← e, hgb] at hmm; cases hmm
    have hgb2 := (hfar g (Array.getElem?_eq_some_iff.1 hgb).1 hgm).trans hgb
    have hgl : g < w2.heap.size := (Array.getElem?_eq_some_iff.1 hgb2).1
    have hcells : ∀ j (hj : j < x.ps.length), w2.cell? ⟨g, j * 2, none⟩ = some (.string x.ps[j].key) ∧ w2.cell? ⟨g, j * 2 + 1, none⟩ = some (.bool x.ps[j].hid) := fun j hj => by
      obtain ⟨g2, hca2, q1, q2⟩ := HH.out.1.ord j hj
      rw [hca] at hca2
      injection hca2 with hca2
      injection hca2 with hca2 _ _
      subst hca2
      have hs := hfar g (Array.getElem?_eq_some_iff.1 hgb).1 hgm
      exact ⟨(World.cell?_of_block (w := w) (a := ⟨g, j * 2, none⟩) hs).trans q1, (World.cell?_of_block (w := w) (a := ⟨g, j * 2 + 1, none⟩) hs).trans q2⟩
    have C1 := fun (W : World) (hW : Below w2.heap.size w2 W) => iIndex g c.cap (Hp.fi x.ps pk) x.ps W hfi (by omega) (fun j hj => ⟨(World.cell?_of_block (w := w2) (a := ⟨g, j * 2, none⟩) (hW.block g hgl)).trans (hcells j hj).1, (World.cell?_of_block (w := w2) (a := ⟨g, j * 2 + 1, none⟩) (hW.block g hgl)).trans (hcells j hj).2⟩) (fun j hj hji e => List.pairwise_iff_getElem.1 HH.out.2 j _ hj hfi hji e)
    rw [hpe] at C1
    dsimp only at C1
    have C2 := fun (W : World) (hW : W.heap[g]? = some (.cells cur 147 (0, 0))) => iDelete g c.cap x.ps.length (Hp.fi x.ps pk) cur W hW hcs (by rw [htk]; exact keysV_one _) hfi hnc (by unfold maxLen at hmx; omega)
    have hdel' : delO x pk = { x with ps := x.ps.eraseIdx (Hp.fi x.ps pk) } := by
      unfold delO Hp.delPs
      rw [dif_pos hfi, if_neg (by rw [hpe]; simp)]
    have HEND : Hid (∀ (w3 w4 : World) (c' : Array Value), Below w2.heap.size w2 w3 → Marks (fun q => q = g) w3 w4 → w4.heap[g]? = some (.cells c' 147 (0, 0)) → c'.size = c.cap * 2 → c'.toList.take ((x.ps.length - 1) * 2) = (cur.toList.take (Hp.fi x.ps pk * 2)) ++ ((cur.toList.take (x.ps.length * 2)).drop ((Hp.fi x.ps pk + 1) * 2)) →
        w4.cell? ⟨c.b, 3, none⟩ = some (.slice (some ⟨g, 0, none⟩) x.ps.length c.cap) ∧ w4.frozen? ⟨c.b, 3, none⟩ = false ∧ Turned w (w4.setCell ⟨c.b, 3, none⟩ (.slice (some ⟨g, 0, none⟩) (x.ps.length - 1) c.cap)) lo x (delO x pk) c) := fun w3 w4 c' hb3 hm4 k1 k2 k3 => by
      have hgb' : g ≠ c.b := by omega
      have hb4 := (hm4.block c.b (by have := hb3.size; omega) (fun e => hgb' e.symm)).trans ((hb3.block c.b hbs).trans hb2)
      rw [hca] at hb4
      obtain ⟨⟨-, -, -, r3⟩, -, -, -, r4⟩ := four_of hb4
      refine ⟨r3, r4, c, ⟨h1, h2, h3, ?_, ⟨Maps.size (D.del (kl pk)), D.del (kl pk), ?_, ?_, ?_⟩, ?_⟩, rfl, rfl, ?_⟩
      · rw [hdel']
        have := blk_3 hb4 (.slice (some ⟨g, 0, none⟩) (x.ps.length - 1) c.cap)
        dsimp only
        rw [List.length_eraseIdx_of_lt hfi, hca]
        exact this
      · rw [hdel']
        dsimp only
        rw [List.length_eraseIdx_of_lt hfi]
        have q1 := Maps.size_del (k := kl pk) h7.1
        have q2 : Maps.has D (kl pk) = true := by rw [h7.has pk, Hp.find_fi, List.getElem?_eq_getElem hfi]; rfl
        rw [q2] at q1
        simp only [if_true] at q1
        have q3 := World.ownsMap.size_le h6
        omega
      · have hm3 := World.ownsMap.kept (row := none) hm2 ⟨hb3.os, hb3.tape, hb3.output, hb3.size, fun q hq _ => hb3.block q hq⟩ (by simp)
        have hm4' := map_same hm3 (hm4.block c.m hm3.lt (fun e => hgm e.symm))
        exact map_tight (hm4'.setCell (a := ⟨c.b, 3, none⟩) (by show c.m ≠ c.b; omega) _)
      · rw [hdel']
        exact h7.del HH.out.2 hfi
      · have hl : (x.ps.eraseIdx (Hp.fi x.ps pk)).length = x.ps.length - 1 := List.length_eraseIdx_of_lt hfi
        rw [hdel']
        unfold ordV
        dsimp only
        rw [hl, hca, keysV_erase _ _ hfi]
        refine ⟨?_, .inr ⟨g, c.cap, c', rfl, hgB, (Below.heap_setCell w4 ⟨c.b, 3, none⟩ _ g hgb').trans k1, by omega, hmx, k2, ?_⟩⟩
        · rw [← keysV_erase _ _ hfi, keysV_len, hl]
        · rw [k3, ← htk, List.take_take, Nat.min_eq_left (by omega)]
      · refine Marks.setCell (Q := Mine x c) (p := ⟨c.b, 3, none⟩) ?_ (.inl rfl) _
        have m1 : Marks (Mine x c) w w2 := (Marks.of_below (HAL.out (.cells #[.string pk, .int .i64 p1, .int .i64 p2, .string p3, .bool p4, .bool false] 78))).trans ⟨hg2.os, hg2.tape, hg2.output, hg2.size, fun q hq hm => hg2.block q hq (fun e => hm (.inr (.inl (by simpa using e))))⟩
        exact (m1.trans (Marks.of_below hb3)).trans (hm4.mono fun q e => .inr (.inr (by rw [e]; unfold ordV; rw [hca]; rfl)))
    have H1 : Hid _ := C1
    have H2 : Hid _ := C2
    have HG : Hid (w2.heap[g]? = some (.cells cur 147 (0, 0))) := hgb2
    have hil : Hp.fi x.ps pk + 1 ≤ 1048577 := by omega
    have HSW : Hid (∀ W : World, Below w2.heap.size w2 W → W.cell? ⟨c.b, 3, none⟩ = some (.slice (some ⟨g, 0, none⟩) x.ps.length c.cap) ∧ W.cell? ⟨w.heap.size, 4, none⟩ = some (.bool p4)) := fun W hW => by
      rw [hca] at e3
      exact ⟨(World.cell?_of_block (w := w2) (hW.block c.b hbs)).trans e3, (World.cell?_of_block (w := w2) (hW.block w.heap.size hXs)).trans x4⟩
    rw [hca] at e3
    clear C1 C2 hcells hgb hgb2 h1 h2 h3 h4 h5 h6 h7 h8 hb2 hm2 ht2 hg2 hfar htk hcs hmx hnc hX htl hkey hdel' hpe hpk e
    generalize Hp.fi x.ps pk = i at *
    go_wp2_with fail
    refine wp_region_held_drew (S := fun W => W.cell? ⟨c.b, 3, none⟩ = some (.slice (some ⟨g, 0, none⟩) x.ps.length c.cap) ∧ W.cell? ⟨w.heap.size, 4, none⟩ = some (.bool p4)) (by kernel_rfl) (HSW.out _ (Below.refl w2.heap.size w2).drew) (fun hHeld => ?_)
    refine takeIn 0 (v := ?vm0) rfl (by kernel_rfl) (by kernel_rfl) (by kernel_rfl) (fun _ _ _ h => h) ?wm0 (by assumption) ?ym0 ?rm0
    case wm0 => rfl
    case ym0 => (intro w hSw; (try dsimp only at hSw); go_simp; first | done | with_reducible rfl)
    simp only [Act.put, List.setIfInBounds_toArray, List.set_cons_zero, List.set_cons_succ]
    refine takeIn 1 (v := ?vm1) rfl (by kernel_rfl) (by kernel_rfl) (by kernel_rfl) (fun _ _ _ h => h) ?wm1 (by assumption) ?ym1 ?rm1
    case wm1 => rfl
    case ym1 => (intro w hSw; (try dsimp only at hSw); go_simp; first | done | with_reducible rfl)
    simp only [Act.put, List.setIfInBounds_toArray, List.set_cons_zero, List.set_cons_succ]
    refine takeIn 2 (v := ?vm2) rfl (by kernel_rfl) (by kernel_rfl) (by kernel_rfl) (fun _ _ _ h => h) ?wm2 (by assumption) ?ym2 ?rm2
    case wm2 => rfl
    case ym2 => (intro w hSw; (try dsimp only at hSw); go_simp; first | done | with_reducible rfl)
    simp only [Act.put, List.setIfInBounds_toArray, List.set_cons_zero, List.set_cons_succ]
    refine takeIn 3 (v := ?vm3) rfl (by kernel_rfl) (by kernel_rfl) (by kernel_rfl) (fun _ _ _ h => h) ?wm3 (by assumption) ?ym3 ?rm3
    case wm3 => rfl
    case ym3 => (intro w hSw; (try dsimp only at hSw); go_simp; first | done | with_reducible rfl)
    simp only [Act.put, List.setIfInBounds_toArray, List.set_cons_zero, List.set_cons_succ]
    refine takeIn 4 (v := ?vm4) rfl (by kernel_rfl) (by kernel_rfl) (by kernel_rfl) (fun _ _ _ h => h) ?wm4 (by assumption) ?ym4 ?rm4
    case wm4 => rfl
    case ym4 => (intro w hSw; (try dsimp only at hSw); go_simp; first | done | with_reducible rfl)
    simp only [Act.put, List.setIfInBounds_toArray, List.set_cons_zero, List.set_cons_succ]
    refine takeIn 5 (v := ?vm5) rfl (by kernel_rfl) (by kernel_rfl) (by kernel_rfl) (fun _ _ _ h => h) ?wm5 (by assumption) ?ym5 ?rm5
    case wm5 => rfl
    case ym5 => (intro w hSw; (try dsimp only at hSw); go_simp; first | done | with_reducible rfl)
    simp only [Act.put, List.setIfInBounds_toArray, List.set_cons_zero, List.set_cons_succ]
    refine takeIn 6 (v := ?vm6) rfl (by kernel_rfl) (by kernel_rfl) (by kernel_rfl) (fun _ _ _ h => h) ?wm6 (by assumption) ?ym6 ?rm6
    case wm6 => rfl
    case ym6 => (intro w hSw; (try dsimp only at hSw); go_simp; first | done | with_reducible rfl)
    simp only [Act.put, List.setIfInBounds_toArray, List.set_cons_zero, List.set_cons_succ]
    refine takeIn 7 (v := ?vm7) rfl (by kernel_rfl) (by kernel_rfl) (by kernel_rfl) (fun _ _ _ h => h) ?wm7 (by assumption) ?ym7 ?rm7
    case wm7 => rfl
    case ym7 => (intro w hSw; (try dsimp only at hSw); go_simp; first | done | with_reducible rfl)
    simp only [Act.put, List.setIfInBounds_toArray, List.set_cons_zero, List.set_cons_succ]
    refine oneUp 8 rfl (by kernel_rfl) (by rfl) (fun K hK => ?_)
    go_simp
    refine (H1.out _ (Below.refl w2.heap.size w2).drew).mono ?_
    rintro e w3 ⟨rfl, hb3'⟩
    have hb3 : Below w2.heap.size w2 w3 := (Below.refl w2.heap.size w2).drew.trans hb3'
    refine hK.out _ _ (HSW.out _ hb3) (fun hHeld2 => ?_)
    clear hK K hHeld hb3'
    refine takeIn 9 (v := ?vm9) rfl (by kernel_rfl) (by kernel_rfl) (by kernel_rfl) (fun _ _ _ h => h) ?wm9 (by assumption) ?ym9 ?rm9
    case wm9 => rfl
    case ym9 => (intro w hSw; (try dsimp only at hSw); go_simp; first | done | with_reducible rfl)
    (try simp only [Act.put, List.setIfInBounds_toArray, List.set_cons_zero, List.set_cons_succ])
    refine wpAnyH_done (by kernel_rfl) ?_ _
    have c3 := hHeld2.1
    have hbs3 : c.b < w3.heap.size := by have := hb3.size; omega
    have hwi : IntKind.i64.wrap ((i : Int) + 1) = (i : Int) + 1 := by rw [IntKind.wrap_i64]; omega
    have HB3 : Hid _ := hb3
    clear hb3 hHeld2 e3 e4 f3 x4
    go_wp2_with fail
    refine (H2.out w3 ((HB3.out.block g hgl).trans HG.out)).mono ?_
    rintro e w4 ⟨rfl, hm4, c', k1, k2, k3⟩
    obtain ⟨z0, z1, hT⟩ := HEND.out w3 w4 c' HB3.out hm4 k1 k2 k3
    have HT : Hid _ := hT
    clear hT hm4 k1 k2 k3
    go_wp2_with fail
    go_ret
    exact ⟨true, rfl, HT.out⟩

end Go.Proofs.Ytlmlmdmechhalaa

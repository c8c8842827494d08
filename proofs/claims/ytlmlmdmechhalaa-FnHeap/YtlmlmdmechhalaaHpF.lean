/-
  The walks of the program's (*held).add and (*held).fill.
-/
import Derived.Test.YtlmlmdmechhalaaHpL
import Derived.Maps.OwnSet
import Derived.Maps.AppendAt
import Derived.StringKeys
import Derived.Deep.QuietTactic
import Derived.BigQuiet
import Derived.BigRegion
import Derived.Deep.RegionWith
import Derived.Deep.RegionLawGrows
import Derived.Deep.OwnRows
import Derived.Laws.MakeOwn
import Derived.Carry
namespace Go.Proofs.Ytlmlmdmechhalaa
open Go.RowKit
open Hp (PP OO propC rP kl encP putAll)

theorem Try.infoStr : (Try.prog.info? 9).map (fun i => (i.zero, i.size, i.bytes)) = some (some (.string ByteArray.empty), 1, 16) := by kernel_rfl
theorem Try.infoListed : (Try.prog.info? 147).map (fun i => (i.zero, i.size, i.bytes)) = some (some (.agg #[.string ByteArray.empty, .bool false]), 2, 24) := by kernel_rfl
theorem keyedS : Maps.Keyed Try.prog 9 := Maps.string_keyed Try.underlying9
theorem four_of {W : World} {b : Nat} {t : TypeId} {v0 v1 v2 v3 : Value} {r : List Value} (h : W.heap[b]? = some (.cells (v0 :: v1 :: v2 :: v3 :: r).toArray t (0, 0))) :
    (W.cell? ⟨b, 0, none⟩ = some v0 ∧ W.cell? ⟨b, 1, none⟩ = some v1 ∧ W.cell? ⟨b, 2, none⟩ = some v2 ∧ W.cell? ⟨b, 3, none⟩ = some v3) ∧
    (W.frozen? ⟨b, 0, none⟩ = false ∧ W.frozen? ⟨b, 1, none⟩ = false ∧ W.frozen? ⟨b, 2, none⟩ = false ∧ W.frozen? ⟨b, 3, none⟩ = false) := by
  simp [World.cell?, World.frozen?, h]
theorem six_ofF {W : World} {b : Nat} {t : TypeId} {v0 v1 v2 v3 v4 v5 : Value} (h : W.heap[b]? = some (.cells #[v0, v1, v2, v3, v4, v5] t (0, 0))) :
    (W.cell? ⟨b, 0, none⟩ = some v0 ∧ W.cell? ⟨b, 1, none⟩ = some v1 ∧ W.cell? ⟨b, 2, none⟩ = some v2 ∧ W.cell? ⟨b, 3, none⟩ = some v3 ∧ W.cell? ⟨b, 4, none⟩ = some v4 ∧ W.cell? ⟨b, 5, none⟩ = some v5) := by
  simp [World.cell?, h]
theorem own_shape {w : World} {B : Nat} {e : TypeId} {s : Nat} {v : Value} {n : Nat} {xs : List Value} (h : w.ownsRow B e s v n xs) : ∃ a cap, v = .slice a n cap := by
  rcases h.2 with ⟨rfl, h0⟩ | ⟨g, cap, cur, rfl, _⟩
  · exact ⟨none, 0, by rw [h0]⟩
  · exact ⟨_, cap, rfl⟩
theorem blk_set {W : World} {b : Nat} {t : TypeId} {c : Array Value} (h : W.heap[b]? = some (.cells c t (0, 0))) (o : Nat) (u : Value) : (W.setCell ⟨b, o, none⟩ u).heap[b]? = some (.cells (c.setIfInBounds o u) t (0, 0)) := by
  simp [World.setCell, Array.getElem?_modify, h]
theorem blk_0 {W : World} {b : Nat} {t : TypeId} {v0 v1 v2 v3 : Value} {r : List Value} (h : W.heap[b]? = some (.cells (v0 :: v1 :: v2 :: v3 :: r).toArray t (0, 0))) (u : Value) : (W.setCell ⟨b, 0, none⟩ u).heap[b]? = some (.cells (u :: v1 :: v2 :: v3 :: r).toArray t (0, 0)) := by
  rw [blk_set h]; simp
theorem blk_1 {W : World} {b : Nat} {t : TypeId} {v0 v1 v2 v3 : Value} {r : List Value} (h : W.heap[b]? = some (.cells (v0 :: v1 :: v2 :: v3 :: r).toArray t (0, 0))) (u : Value) : (W.setCell ⟨b, 1, none⟩ u).heap[b]? = some (.cells (v0 :: u :: v2 :: v3 :: r).toArray t (0, 0)) := by
  rw [blk_set h]; simp
theorem blk_2 {W : World} {b : Nat} {t : TypeId} {v0 v1 v2 v3 : Value} {r : List Value} (h : W.heap[b]? = some (.cells (v0 :: v1 :: v2 :: v3 :: r).toArray t (0, 0))) (u : Value) : (W.setCell ⟨b, 2, none⟩ u).heap[b]? = some (.cells (v0 :: v1 :: u :: v3 :: r).toArray t (0, 0)) := by
  rw [blk_set h]; simp
theorem blk_3 {W : World} {b : Nat} {t : TypeId} {v0 v1 v2 v3 : Value} {r : List Value} (h : W.heap[b]? = some (.cells (v0 :: v1 :: v2 :: v3 :: r).toArray t (0, 0))) (u : Value) : (W.setCell ⟨b, 3, none⟩ u).heap[b]? = some (.cells (v0 :: v1 :: v2 :: u :: r).toArray t (0, 0)) := by
  rw [blk_set h]; simp
theorem grown_set (w : World) (p : Addr) (u : Value) : w.grownBy (w.setCell p u) (some p.block) :=
  ⟨rfl, rfl, rfl, by simp [World.setCell], fun k _ hne => Below.heap_setCell w p u k (fun e => hne (by rw [e]))⟩
/-- The block of a row is none of another type. -/
theorem own_apart {w : World} {B : Nat} {e : TypeId} {s : Nat} {v : Value} {n : Nat} {xs : List Value} (h : w.ownsRow B e s v n xs) {k : Nat} (hk : v.ownBlock = some k) : B ≤ k ∧ ∃ c, w.heap[k]? = some (.cells c e (0, 0)) := by
  rcases h.2 with ⟨rfl, h0⟩ | ⟨g, cap, cur, rfl, hb, hg, _⟩
  · cases hk
  · have : g = k := by simpa [Value.ownBlock] using hk
    subst this
    exact ⟨hb, _, hg⟩

theorem step_append_own {P : Program} {ops : Array Oper} {o : Oper} {a : Act} {w : World} {K : Act → World → Prop} {Q : Exit → Act → World → Prop} {E : Prop}
    (hg : o.guard = none) (s x : Operand) (t : TypeId) (hop : o.op = Op.call { callee := Callee.builtin Builtin.append, args := #[s, x], argTypes := #[t, t] })
    (base : Nat) (e : TypeId) (i : TypeInfo) (z : Value) (size bytes : Nat) (h1 : P.underlying t = some (.slice e)) (h2 : P.info? e = some i) (h3 : i.zero = some z) (h4 : i.size = size) (h5 : i.bytes = bytes) (h6 : z.cells.size = size) (h7 : 0 < size)
    (v : Value) (n : Nat) (xs : List Value) (hs : a.eval s = v) (hown : w.ownsRow base e size v n xs)
    (ad : Addr) (m c : Nat) (news : List Value) (hx : a.eval x = .slice (some ad) m c) (hn : news.length = m * size) (hc : ∀ j u, news[j]? = some u → w.cell? (ad.add j) = some u) (h1c : ∀ u ∈ news, u.oneCell' = true)
    (b1 : n + m ≤ maxLen) (b2 : (n + m) * bytes ≤ 140737488355328) (hbase : base ≤ w.heap.size)
    (hK : ∀ v' w', w'.ownsRow base e size v' (n + m) (xs ++ news) → w.grownBy w' v.ownBlock → K (a.put o.dst v') w') :
    if Region.wanted o (yielded ops a.tmps) = true then Oper.wp P o a w K Q else E := by
  have hw : Region.wanted o (yielded ops a.tmps) = true := by simp [Region.wanted, hg]
  rw [if_pos hw]
  obtain ⟨v', w', hrun, r1, r2, _⟩ := run_append_own (P := P) w base t o.type e i z size bytes h1 h2 h3 h4 h5 h6 h7 v n xs hown ad m c news hn hc h1c b1 b2 hbase
  unfold Oper.wp
  simp [execOp, hop, resolve, invoke, builtin, hs, hx, hrun, Result.andThen]
  exact hK v' w' r1 r2

theorem cells_new (w : World) (c : Array Value) (t : TypeId) (j : Nat) (u : Value) (h : c.toList[j]? = some u) : (w.alloc (.cells c t)).cell? ((⟨w.heap.size, 0, none⟩ : Addr).add j) = some u := by
  have e : (⟨w.heap.size, 0, none⟩ : Addr).add j = ⟨w.heap.size, j, none⟩ := by
    unfold Addr.add
    split <;> simp_all
  rw [e, World.cell?_alloc_new]; simpa using h
/-- 'order = append(order, listed{..})', in a region that draws. -/
theorem app_lst {ops : Array Oper} {o : Oper} {a : Act} {w : World} {K : Act → World → Prop} {Q : Exit → Act → World → Prop} {E : Prop}
    (hg : o.guard = none) (s x : Operand) (hop : o.op = Op.call { callee := Callee.builtin Builtin.append, args := #[s, x], argTypes := #[128, 128] })
    (B : Nat) (v : Value) (n : Nat) (l : List Value) (hs : a.eval s = v) (hown : w.ownsRow B 147 2 v n l) (ad : Addr) (key : ByteArray) (hd : Bool) (hx : a.eval x = .slice (some ad) 1 1) (hc : ∀ j u, [Value.string key, Value.bool hd][j]? = some u → w.cell? (ad.add j) = some u)
    (hl : n ≤ 3000000) (hB : B ≤ w.heap.size)
    (hK : ∀ v' w', w'.ownsRow B 147 2 v' (n + 1) (l ++ [.string key, .bool hd]) → w.grownBy w' v.ownBlock → K (a.put o.dst v') w') :
    if Region.wanted o (yielded ops a.tmps) = true then Oper.wp Try.prog o a w K Q else E := by
  obtain ⟨i0, hi, hz0, hz1, hz2⟩ := info_parts Try.infoListed
  exact step_append_own hg s x 128 hop B 147 i0 (.agg #[.string ByteArray.empty, .bool false]) 2 24 Try.underlying128 hi hz0 hz1 hz2 rfl (by decide) v n l hs hown ad 1 1 [.string key, .bool hd] hx rfl hc (fun u hu => by simp only [List.mem_cons, List.mem_nil_iff, or_false] at hu; rcases hu with rfl | rfl <;> rfl)
    (by unfold maxLen; omega) (by omega) hB (fun v' w' h1 h2 => hK v' w' h1 h2)

set_option maxHeartbeats 4000000 in
theorem iAdd2 (w : World) (b m n nm B : Nat) (t : TypeId) (cls pro : Int) (a0 : Option Addr) (cap0 : Nat) (r : List Value) (D : DataW Unit) (l : List Value) (p : PP)
    (hb : w.heap[b]? = some (.cells (.int .i64 cls :: .int .i64 pro :: .map (some m) :: .slice a0 n cap0 :: r).toArray t (0, 0)))
    (hm : w.ownsMap Try.prog 9 rP m nm D) (ho : w.ownsRow B 147 2 (.slice a0 n cap0) n l) (hbB : b < B) (hmB : B ≤ m) (hn : n ≤ 1048577) (hnm : nm ≤ 1100000) (hk : p.key.size ≤ 9223372036854775807) :
    Calls Try.prog 89 #[.pointer (some ⟨b, 0, none⟩), .agg (propC p)] w fun e w' => ∃ a1 cap1, e = .returned (.tuple #[]) ∧ w'.heap[b]? = some (.cells (.int .i64 cls :: .int .i64 pro :: .map (some m) :: .slice a1 (n + 1) cap1 :: r).toArray t (0, 0)) ∧
      w'.ownsMap Try.prog 9 rP m (nm + 1) (D.put (kl p.key) (encP p)) ∧ w'.ownsRow B 147 2 (.slice a1 (n + 1) cap1) (n + 1) (l ++ [.string p.key, .bool p.hid]) ∧ Below b w w' ∧ (∀ q, q < w.heap.size → q ≠ b → q ≠ m → (Value.slice a0 n cap0).ownBlock ≠ some q → w'.heap[q]? = w.heap[q]?) := by
  have hkey := WideMaps.keyOf_string_mk (P := Try.prog) (k := 9) Try.underlying9 (s := p.key) (by unfold maxLen; omega)
  have hval := Hp.rP_mk p
  have hmlt := hm.lt
  have hbl : b < w.heap.size := (Array.getElem?_eq_some_iff.1 hb).1
  generalize hEP : encP p = ep at *
  obtain ⟨key, ⟨k, vn, vt⟩, hd, fx⟩ := p
  unfold propC at *
  dsimp only at *
  have hm1 : (w.alloc (.cells #[.string key, .int .i64 k, .int .i64 vn, .string vt, .bool hd, .bool fx] 78)).drew.ownsMap Try.prog 9 rP m nm D := (hm.alloc _).drew
  obtain ⟨w2, hput, hm2, hg2⟩ := hm1.update keyedS Try.underlying127 (by unfold maxLen; omega) hkey hval
  have hX : (w.alloc (.cells #[.string key, .int .i64 k, .int .i64 vn, .string vt, .bool hd, .bool fx] 78)).drew.heap[w.heap.size]? = some (.cells #[.string key, .int .i64 k, .int .i64 vn, .string vt, .bool hd, .bool fx] 78 (0, 0)) := heap_alloc_new _ _
  have hsz1 : (w.alloc (.cells #[.string key, .int .i64 k, .int .i64 vn, .string vt, .bool hd, .bool fx] 78)).drew.heap.size = w.heap.size + 1 := World.size_alloc _ _
  have hX2 := (hg2.block w.heap.size (by omega) (fun e => by simp only [Option.some.injEq] at e; omega)).trans hX
  have hb2 := (hg2.block b (by omega) (fun e => by simp only [Option.some.injEq] at e; omega)).trans ((Below.heap_alloc w _ b hbl).trans hb)
  have hq2 : ∀ q, q < w.heap.size → q ≠ m → w2.heap[q]? = w.heap[q]? := fun q hq hqm => (hg2.block q (by omega) (fun e => by simp only [Option.some.injEq] at e; exact hqm e)).trans (Below.heap_alloc w _ q hq)
  have hbel : Below b w w2 := (((Below.refl b w).alloc (by omega) _).drew).grown hg2 (by omega) (fun q hq => by simp only [Option.some.injEq] at hq; omega)
  have ho2 : w2.ownsRow B 147 2 (.slice a0 n cap0) n l := World.ownsRow.kept (w := (w.alloc (.cells #[.string key, .int .i64 k, .int .i64 vn, .string vt, .bool hd, .bool fx] 78)).drew) (World.ownsRow.alloc ho _) hg2 (by
    by_cases hq : (Value.slice a0 n cap0).ownBlock = none
    · exact .inl hq
    · right
      intro e
      obtain ⟨_, c, hc⟩ := own_apart ho e
      obtain ⟨es, ck, hmm, _⟩ := hm
      rw [hmm] at hc; cases hc)
  have hsz2 : w.heap.size + 1 ≤ w2.heap.size := by have := hg2.size; omega
  obtain ⟨⟨c0, c1, c2, c3⟩, f0, f1, f2, f3⟩ := four_of hb
  have HH : Hid (_ ∧ _ ∧ _ ∧ _ ∧ _ ∧ _) := ⟨hm2, hX2, hb2, hbel, ho2, hq2⟩
  clear hm hm1 hm2 hg2 ho hval hkey hEP hX hX2 hb2 hbel ho2 hsz1 hq2
  go_enter Try.func89, Try.ntmps89
  go_wp2_with fail
  go_region
  clear hput c0 c1 c2 c3 f0 f1 f2 f3
  obtain ⟨hm2, hX2, hb2, hbel, ho2, hq2⟩ := HH.out
  obtain ⟨⟨c0, c1, c2, c3⟩, f0, f1, f2, f3⟩ := four_of hb2
  obtain ⟨p0, -, -, -, p4, -⟩ := six_ofF hX2
  have hlt1 : w.heap.size < w2.heap.size := by omega
  have hbl2 : b < w2.heap.size := by omega
  generalize hXw : w.heap.size = X at *
  have HFR : Hid (∀ w', (((w2.alloc (.cells #[.string key, .bool hd] 147)).drew).grownBy w' (Value.slice a0 n cap0).ownBlock) → w'.heap[b]? = some (.cells (.int .i64 cls :: .int .i64 pro :: .map (some m) :: .slice a0 n cap0 :: r).toArray t (0, 0)) ∧ w'.ownsMap Try.prog 9 rP m (nm + 1) (D.put (kl key) ep) ∧ Below b w w' ∧ (∀ q, q < w.heap.size → q ≠ b → q ≠ m → (Value.slice a0 n cap0).ownBlock ≠ some q → w'.heap[q]? = w.heap[q]?)) := by
    intro w' hg
    have hne : ∀ q, q = b ∨ q = m → some q ≠ (Value.slice a0 n cap0).ownBlock := fun q hq e => by
      obtain ⟨h1, c, hc⟩ := own_apart ho2 e.symm
      rcases hq with rfl | rfl
      · omega
      · obtain ⟨es, ck, hmm, _⟩ := hm2
        rw [hmm] at hc; cases hc
    refine ⟨(hg.block b (by show b < (w2.alloc _).heap.size; rw [World.size_alloc]; omega) (hne b (.inl rfl))).trans ((Below.heap_alloc w2 _ b hbl2).trans hb2), World.ownsMap.kept (w := (w2.alloc (.cells #[.string key, .bool hd] 147)).drew) (hm2.alloc _) hg (hne m (.inr rfl)), ?_, fun q hq hqb hqm hqo => (hg.block q (by show q < (w2.alloc _).heap.size; rw [World.size_alloc]; omega) (fun e => hqo e.symm)).trans ((Below.heap_alloc w2 _ q (by omega)).trans (hq2 q (by omega) hqm))⟩
    exact ((hbel.alloc (by omega) _).drew).grown hg (by show b ≤ (w2.alloc _).heap.size; rw [World.size_alloc]; omega) (fun q hq => by have := (own_apart ho2 hq).1; omega)
  have HO2 : Hid (w2.ownsRow B 147 2 (.slice a0 n cap0) n l) := ho2
  clear HH hm2 hX2 hb2 hbel ho2 hq2
  go_wp2_with fail
  go_region_law (refine app_lst rfl (.tmp 15) (.tmp 21) rfl B (.slice a0 n cap0) n l (by rfl) (World.ownsRow.alloc HO2.out _) ⟨w2.heap.size, 0, none⟩ key hd (by rfl) (cells_new w2 #[.string key, .bool hd] 147) (by omega) (by simp; omega) ?_; intro v' w' hown' hgrow'; have hsh := own_shape hown'; obtain ⟨a1, cap1, rfl⟩ := hsh; have hfr := HFR.out w' hgrow'; obtain ⟨hb3, hm3, hbl3, hq3⟩ := hfr; have h4 := four_of hb3; obtain ⟨⟨d0, d1, d2, d3⟩, g0, g1, g2, g3⟩ := h4; have HW : Hid (_ ∧ _ ∧ _ ∧ _ ∧ _) := ⟨hb3, hm3, hbl3, hown', hq3⟩; clear hb3 hm3 hbl3 hown' hgrow' hq3)
  all_goals
    go_wp2_with fail
    refine bodyPost_end (v := .tuple #[]) (by simp [results, Try.results89, go_sem]) rfl ?_
    obtain ⟨k1, k2, k3, k4, k5⟩ := HW.out
    exact ⟨a1, cap1, rfl, blk_3 k1 _, k2.setCell (a := ⟨b, 3, none⟩) (by show m ≠ b; omega) _, World.ownsRow.kept k4 (grown_set w' ⟨b, 3, none⟩ _) (.inr fun e => absurd (own_apart k4 e).1 (by show ¬ B ≤ b; omega)), k3.setCell (p := ⟨b, 3, none⟩) (Nat.le_refl _) _, fun q hq hqb hqm hqo => (Below.heap_setCell w' ⟨b, 3, none⟩ _ q hqb).trans (k5 q hq hqb hqm hqo)⟩

end Go.Proofs.Ytlmlmdmechhalaa

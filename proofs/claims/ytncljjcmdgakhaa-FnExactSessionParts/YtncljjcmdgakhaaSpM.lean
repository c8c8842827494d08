/-
  Rows of texts by themselves: marks, and the walks of the law's markText, eqStringS, markStringS, heldStringS. (Gathered out of MkT, MkP, MkS, HpQ, HpF, HpG: without heaps.)
-/
import Derived.Test.YtncljjcmdgakhaaRows
import Derived.WalkKit
import Derived.WalkSpells
import Derived.WalkLawsBesides
import Derived.Below
import Derived.Laws.AppendOwn
import Derived.Laws.OwnMore
import Derived.Maps.AppendAt
import Derived.Laws.BytesString
import Derived.Deep.OwnRows
import Derived.Deep.RegionHeld3
import Derived.Deep.CutRange
import Derived.Deep.QuietTactic
import Derived.BigQuiet
import Derived.BigRegion
namespace Go.Proofs.Ytncljjcmdgakhaa
open Go.RowKit

theorem retB {a b : Bool} (h : a = b) : Ending.returned (.bool a) = .returned (.bool b) := by rw [h]

theorem Try.infoStr : (Try.prog.info? 9).map (fun i => (i.zero, i.size, i.bytes)) = some (some (.string ByteArray.empty), 1, 16) := by kernel_rfl
theorem own_shape {w : World} {B : Nat} {e : TypeId} {s : Nat} {v : Value} {n : Nat} {xs : List Value} (h : w.ownsRow B e s v n xs) : ∃ a cap, v = .slice a n cap := by
  rcases h.2 with ⟨rfl, h0⟩ | ⟨g, cap, cur, rfl, _⟩
  · exact ⟨none, 0, by rw [h0]⟩
  · exact ⟨_, cap, rfl⟩
theorem row_same {w w' : World} {base : Nat} {e : TypeId} {s : Nat} {v : Value} {n : Nat} {xs : List Value} (h : w.ownsRow base e s v n xs) (hq : ∀ q, v.ownBlock = some q → w'.heap[q]? = w.heap[q]?) : w'.ownsRow base e s v n xs := by
  refine ⟨h.1, ?_⟩
  rcases h.2 with hq' | ⟨g, cp, cur, e1, hg, hgb, rest⟩
  · exact .inl hq'
  · exact .inr ⟨g, cp, cur, e1, hg, (hq g (by rw [e1]; rfl)).trans hgb, rest⟩
theorem Below.rowIs {w w' : World} {b n : Nat} {t : TypeId} {f : Nat → Value} (h : w.rowIs b t n f) (hb : Below w.heap.size w w') : w'.rowIs b t n f := h.of_block (hb.block b h.lt)

structure Marks (Q : Nat → Prop) (w w' : World) : Prop where
  os : w'.os = w.os
  tape : w'.tape = w.tape
  output : w'.output = w.output
  size : w.heap.size ≤ w'.heap.size
  block : ∀ k, k < w.heap.size → ¬ Q k → w'.heap[k]? = w.heap[k]?
theorem Marks.refl (Q : Nat → Prop) (w : World) : Marks Q w w := ⟨rfl, rfl, rfl, Nat.le_refl _, fun _ _ _ => rfl⟩
theorem Marks.trans {Q : Nat → Prop} {a b c : World} (h : Marks Q a b) (k : Marks Q b c) : Marks Q a c :=
  ⟨k.os.trans h.os, k.tape.trans h.tape, k.output.trans h.output, Nat.le_trans h.size k.size, fun q hq hn => (k.block q (Nat.lt_of_lt_of_le hq h.size) hn).trans (h.block q hq hn)⟩
theorem Marks.of_below {Q : Nat → Prop} {w w' : World} (h : Below w.heap.size w w') : Marks Q w w' := ⟨h.os, h.tape, h.output, h.size, fun q hq _ => h.block q hq⟩
theorem Marks.mono {Q Q' : Nat → Prop} {w w' : World} (h : Marks Q w w') (hq : ∀ k, Q k → Q' k) : Marks Q' w w' := ⟨h.os, h.tape, h.output, h.size, fun k hk hn => h.block k hk fun e => hn (hq k e)⟩
theorem Marks.setCell {Q : Nat → Prop} {a w : World} (h : Marks Q a w) {p : Addr} (hp : Q p.block) (u : Value) : Marks Q a (w.setCell p u) :=
  ⟨h.os, h.tape, h.output, by simpa [World.setCell] using h.size, fun k hk hn => (Below.heap_setCell w p u k (fun e => hn (by rw [e]; exact hp))).trans (h.block k hk hn)⟩
theorem Marks.below {Q : Nat → Prop} {B : Nat} {a w w' : World} (h : Below B a w) (k : Marks Q w w') (hQ : ∀ q, Q q → B ≤ q) (hB : B ≤ w.heap.size) : Below B a w' :=
  ⟨k.os.trans h.os, k.tape.trans h.tape, k.output.trans h.output, Nat.le_trans h.size k.size, fun q hq => (k.block q (Nat.lt_of_lt_of_le hq hB) (fun e => absurd (hQ q e) (by omega))).trans (h.block q hq)⟩

def BV (b : UInt8) : Value := .int .u8 (b.toNat : Int)
theorem BV_eq (b : UInt8) : BV b = .int .u8 (b.toNat : Int) := rfl

/-- The slice value v owns, among the blocks from B on, the bytes l. -/
def OwnB (w : World) (B : Nat) (v : Value) (l : List UInt8) : Prop := w.ownsRow B 5 1 v l.length (l.map BV)

theorem Try.info8 : (Try.prog.info? 5).map (fun i => (i.zero, i.size, i.bytes)) = some (some (.int .u8 0), 1, 1) := by kernel_rfl

theorem OwnB.alloc {w : World} {B : Nat} {v : Value} {l : List UInt8} (h : OwnB w B v l) (o : Obj) : OwnB (w.alloc o) B v l := World.ownsRow.alloc h o

theorem OwnB.nil (w : World) (B : Nat) : OwnB w B (.slice none 0 0) [] := World.ownsRow_nil _ _ _ _

theorem add_none (g j : Nat) : (⟨g, 0, none⟩ : Addr).add j = ⟨g, j, none⟩ := by unfold Addr.add; split <;> simp_all

/-- A new block owns its cells. -/
theorem OwnB.new (w : World) (B : Nat) (hB : B ≤ w.heap.size) (l : List UInt8) (hl : l.length ≤ 1000) (c : Array Value) (hc : c.toList = l.map BV) (n : Nat) (hn : n = l.length) :
    OwnB (w.alloc (.cells c 5)) B (.slice (some ⟨w.heap.size, 0, none⟩) n n) l := by
  subst hn
  have hs : c.size = l.length := by rw [← Array.length_toList, hc, List.length_map]
  refine ⟨by simp, .inr ⟨w.heap.size, l.length, c, rfl, hB, heap_alloc_new w _, Nat.le_refl _, by unfold maxLen; omega, by omega, ?_⟩⟩
  rw [hc, List.take_of_length_le (by simp)]

theorem new_cells (w : World) (c : Array Value) (t : TypeId) (j : Nat) (u : Value) (h : c.toList[j]? = some u) : (w.alloc (.cells c t)).cell? ((⟨w.heap.size, 0, none⟩ : Addr).add j) = some u := by
  rw [add_none, World.cell?_alloc_new]; simpa using h

/-- 'out = append(out, ..)', out a slice of bytes of the call's own. -/
theorem app_own {w : World} {ops : Array Oper} {rest : List Oper} {o : Oper} {a : Act} {Q : Exit → Act → World → Prop} (hgd : o.guard = none) (s x : Operand)
    (ho : o.op = .call { callee := .builtin .append, args := #[s, x], argTypes := #[35, 35] })
    (B : Nat) (v : Value) (l : List UInt8) (hs : a.eval s = v) (hown : OwnB w B v l)
    (ad : Addr) (m : Nat) (news : List UInt8) (hx : a.eval x = .slice (some ad) m m) (hm : news.length = m)
    (hnews : ∀ j u, (news.map BV)[j]? = some u → w.cell? (ad.add j) = some u)
    (hlen : l.length + m ≤ 100000000) (hB : B ≤ w.heap.size)
    (h : ∀ v' w', OwnB w' B v' (l ++ news) → Below B w w' → wpList Try.prog ops Q rest (a.put o.dst v') w') : wpList Try.prog ops Q (o :: rest) a w := by
  obtain ⟨i0, hi, hz0, hz1, hz2⟩ := info_parts Try.info8
  refine wpList_append_own w hgd s x 35 ho B 5 i0 (.int .u8 0) 1 1 Try.underlying35 hi hz0 hz1 hz2 rfl (by decide) v l.length (l.map BV) hs hown ad m m (news.map BV) hx (by simp [hm]) hnews
    (fun u hu => by obtain ⟨b, _, rfl⟩ := List.mem_map.1 hu; rfl) (by unfold maxLen; omega) (by omega) hB (fun v' w' h1 h2 _ => h v' w' ?_ ?_)
  · unfold OwnB; rw [List.length_append, hm, List.map_append]; exact h1
  · exact (Below.refl B w).grown h2 hB (fun k hk => (World.ownsRow.lt hown k hk).1)

/-- 'string(out)'. -/
theorem conv_own {w : World} {B : Nat} {v : Value} {l : List UInt8} (h : OwnB w B v l) :
    (convert 35 9 v).run Try.prog w = .ok (.string ⟨l.toArray⟩) w := by
  rcases h.2 with ⟨rfl, h0⟩ | ⟨g, cap, cur, rfl, hb, hg, _, _, hcur, htake⟩
  · rw [run_convert_bytes_nil w 35 5 Try.underlying35 Try.underlying5 0 0 9 Try.underlying9]
    obtain rfl := List.length_eq_zero_iff.1 h0
    rfl
  · refine run_convert_bytes_back w 35 9 5 ⟨g, 0, none⟩ cap l Try.underlying35 Try.underlying5 Try.underlying9 fun j hj => ?_
    refine World.ownsRow.cells h (g := g) rfl j _ ?_
    simp [BV, hj]


def digU (m : Nat) : UInt8 := UInt8.ofNat (48 + m % 10)
/-- The digits of k ahead of what is there. -/
def mtL (k : Nat) (out : List UInt8) : List UInt8 := if _h : k = 0 then out else mtL (k / 10) (digU k :: out)
termination_by k
decreasing_by omega
theorem mtL_zero (out : List UInt8) : mtL 0 out = out := by rw [mtL, dif_pos rfl]
theorem mtL_pos (k : Nat) (out : List UInt8) (h : k ≠ 0) : mtL k out = mtL (k / 10) (digU k :: out) := by rw [mtL, dif_neg h]
theorem ba_cons (b : UInt8) (out : List UInt8) : (⟨#[b]⟩ : ByteArray) ++ ⟨out.toArray⟩ = ⟨(b :: out).toArray⟩ := by
  apply ByteArray.ext
  simp
theorem dig_val (m : Nat) : (#[Value.int .u8 (48 + (m : Int) % 10)]).toList = [digU m].map BV := by
  have e : (48 + (m : Int) % 10) = ((digU m).toNat : Int) := by unfold digU; rw [UInt8.toNat_ofNat']; omega
  rw [e]; rfl
def mT (k : Nat) : ByteArray := ⟨(109 :: mtL k []).toArray⟩

set_option maxHeartbeats 2000000 in
set_option maxRecDepth 100000 in
theorem lMarkText (k : Nat) (w : World) (hk : 1 ≤ k) (hk2 : k ≤ 100000000) :
    Calls Try.prog 11 #[.int .i64 k] w fun e w' => e = .returned (.string (mT k)) ∧ Below w.heap.size w w' := by
  have hk' : ¬ (k : Int) ≤ 0 := by omega
  have hkd : decide ((k : Int) ≤ 0) = false := by simp; omega
  obtain ⟨K, hK⟩ : ∃ K, K = mtL k [] := ⟨_, rfl⟩
  have HK : Hid (K = mtL k []) := hK
  clear hK
  go_enter Try.func11, Try.ntmps11
  go_wp2
  go_loopw [0, 3] (fun vk vo wr => ∃ (m : Nat) (out : List UInt8), m + out.length ≤ k ∧ vk = .int .i64 m ∧ vo = .string ⟨out.toArray⟩ ∧ Below w.heap.size w wr ∧ Hid (mtL m out = K)) (fun vk _ _ => (intOf vk).toNat)
  case atStart => exact ⟨k, [], by simp, rfl, rfl, Below.refl _ _, HK.out.symm⟩
  case round =>
    obtain ⟨m, out, hm, rfl, rfl, hb, HM⟩ := hrel
    by_cases h0 : m = 0
    · subst h0
      have HV : Hid (out = K) := by show _ = _; rw [← HM.out, mtL_zero]
      go_wp2
      go_ret
      refine ⟨?_, hb⟩
      have e : (⟨#[109]⟩ : ByteArray) ++ ⟨out.toArray⟩ = mT k := by
        unfold mT; rw [← HK.out, ← HV.out]; exact ba_cons 109 out
      exact congrArg (fun x => Ending.returned (.string x)) e
    · have h0' : (0 : Int) < (m : Int) := by omega
      have hcv := conv_own (OwnB.new wr wr.heap.size (Nat.le_refl _) [digU m] (by simp) #[.int .u8 (48 + (m : Int) % 10)] (dig_val m) 1 rfl)
      have HN : Hid (mtL (m / 10) (digU m :: out) = K) := by show _ = _; rw [← mtL_pos m out h0]; exact HM.out
      have hsz := hb.size
      go_wp2_with fail
      refine ⟨⟨m / 10, digU m :: out, by simp; omega, congrArg (Value.int .i64) (by omega), ?_, hb.alloc hsz _, HN⟩, by simp [intOf]; omega⟩
      exact congrArg Value.string (ba_cons _ out)

/-- 'keys = append(keys, key)', keys a slice of the call's own. -/
theorem app_strL {w : World} {ops : Array Oper} {rest : List Oper} {o : Oper} {a : Act} {Q : Exit → Act → World → Prop} (hgd : o.guard = none) (s x : Operand)
    (ho : o.op = .call { callee := .builtin .append, args := #[s, x], argTypes := #[22, 22] })
    (B : Nat) (v : Value) (n : Nat) (l : List Value) (hs : a.eval s = v) (hown : w.ownsRow B 9 1 v n l)
    (ad : Addr) (key : ByteArray) (hx : a.eval x = .slice (some ad) 1 1) (hnews : ∀ j u, [Value.string key][j]? = some u → w.cell? (ad.add j) = some u)
    (hlen : n ≤ 3000000) (hB : B ≤ w.heap.size)
    (h : ∀ v' w', w'.ownsRow B 9 1 v' (n + 1) (l ++ [.string key]) → w.grownBy w' v.ownBlock → wpList Try.prog ops Q rest (a.put o.dst v') w') : wpList Try.prog ops Q (o :: rest) a w := by
  obtain ⟨i0, hi, hz0, hz1, hz2⟩ := info_parts Try.infoStr
  exact wpList_append_own w hgd s x 22 ho B 9 i0 (.string ByteArray.empty) 1 16 Try.underlying22 hi hz0 hz1 hz2 rfl (by decide) v n l hs hown ad 1 1 [.string key] hx rfl hnews
    (fun u hu => by simp only [List.mem_singleton] at hu; subst hu; rfl) (by unfold maxLen; omega) (by omega) hB (fun v' w' h1 h2 _ => h v' w' h1 h2)

/-- A row of texts of the call's own. -/
def SRow (w : World) (B : Nat) (v : Value) (l : List ByteArray) : Prop := w.ownsRow B 9 1 v l.length (l.map Value.string)
theorem SRow.under {w w' : World} {B : Nat} {v : Value} {l : List ByteArray} (h : SRow w B v l) (hb : Below w.heap.size w w') : SRow w' B v l := row_same h fun q hq => hb.block q (World.ownsRow.lt h q hq).2
theorem SRow.shape {w : World} {B : Nat} {v : Value} {l : List ByteArray} (h : SRow w B v l) : ∃ a cap, v = .slice a l.length cap := own_shape h
theorem SRow.cells {w : World} {B : Nat} {a : Option Addr} {cap : Nat} {l : List ByteArray} (h : SRow w B (.slice a l.length cap) l) : l = [] ∨ ∃ g, a = some ⟨g, 0, none⟩ ∧ ∀ i (hi : i < l.length), w.cell? ⟨g, i, none⟩ = some (.string l[i]) := by
  rcases h.2 with ⟨_, e⟩ | ⟨g, cap', cur, e, _⟩
  · exact .inl (List.length_eq_zero_iff.1 e)
  · injection e with e1 _ _
    subst e1
    refine .inr ⟨g, rfl, fun i hi => ?_⟩
    rw [World.ownsRow.cellAt h i (by omega), List.getElem?_map, List.getElem?_eq_getElem hi]
    rfl

set_option maxHeartbeats 2000000 in
theorem lEqStr (a1 a2 : Option Addr) (cap1 cap2 B1 B2 : Nat) (ns : List ByteArray) (w : World) (hn : ns.length ≤ 1048576) (h1 : SRow w B1 (.slice a1 ns.length cap1) ns) (h2 : SRow w B2 (.slice a2 ns.length cap2) ns) :
    Calls Try.prog 6 #[.slice a1 ns.length cap1, .slice a2 ns.length cap2] w fun e w' => e = .returned (.bool true) ∧ Below w.heap.size w w' := by
  rcases h1.cells with rfl | ⟨b1, rfl, hc1⟩
  · clear h2 hn h1
    simp only [List.length_nil]
    go_enter Try.func6, Try.ntmps6
    go_wp2
    refine wp_loop_rounds 1 ?_
    rw [rounds_succ]
    go_wp2
    go_ret
    exact ⟨rfl, Below.refl _ _⟩
  rcases h2.cells with rfl | ⟨b2, rfl, hc2⟩
  · clear hc1 hn h1 h2
    simp only [List.length_nil]
    go_enter Try.func6, Try.ntmps6
    go_wp2
    refine wp_loop_rounds 1 ?_
    rw [rounds_succ]
    go_wp2
    go_ret
    exact ⟨rfl, Below.refl _ _⟩
  have HC : Hid ((∀ i (h : i < ns.length), w.cell? ⟨b1, i, none⟩ = some (.string ns[i])) ∧ (∀ i (h : i < ns.length), w.cell? ⟨b2, i, none⟩ = some (.string ns[i]))) := ⟨hc1, hc2⟩
  clear hc1 hc2 h1 h2
  go_enter Try.func6, Try.ntmps6
  go_wp2
  go_loopw [5] (fun vi wr => ∃ i : Nat, i ≤ ns.length ∧ vi = .int .i64 i ∧ Below w.heap.size w wr) (fun vi _ => ns.length - (intOf vi).toNat)
  case atStart => exact ⟨0, Nat.zero_le _, rfl, Below.refl _ _⟩
  case round =>
    obtain ⟨i, hi, rfl, hb⟩ := hrel
    by_cases hlt : i < ns.length
    · have c1 := HC.out.1 i hlt
      have c2 := HC.out.2 i hlt
      replace c1 := (hb.cell (World.block_lt_of_cell? w _ c1)).trans c1
      replace c2 := (hb.cell (World.block_lt_of_cell? w _ c2)).trans c2
      have hlt' : (i : Int) < (ns.length : Int) := by omega
      go_wp2_with fail
      go_quiet (fail)
      have hb' : Below w.heap.size w (wr.drewN nq) := by exact ⟨hb.os, hb.tape, hb.output, hb.size, hb.block⟩
      generalize wr.drewN nq = W1 at *
      go_wp2_with fail
      exact ⟨⟨i + 1, by omega, by go_num, hb'⟩, by simp [intOf]; omega⟩
    · go_wp2_with fail
      go_ret
      exact ⟨rfl, hb⟩

def mkSs (k n : Nat) : List ByteArray := (List.range n).map fun j => mT (k + j)
theorem mkSs_len (k n : Nat) : (mkSs k n).length = n := by simp [mkSs]
theorem mkSs_at (k n j : Nat) (h : j < (mkSs k n).length) : (mkSs k n)[j] = mT (k + j) := by simp [mkSs]
/-- A row of texts whose first ones are marked. -/
def SMix (w : World) (g N k i : Nat) (f : Nat → Value) : Prop := w.rowIs g 9 N f ∧ ∀ j, j < i → f j = .string (mT (k + j))
theorem own_rowIs {w : World} {B : Nat} {e : TypeId} {g n cap : Nat} {xs : List Value} (h : w.ownsRow B e 1 (.slice (some ⟨g, 0, none⟩) n cap) n xs) : ∃ f, w.rowIs g e cap f ∧ n ≤ cap ∧ cap ≤ maxLen ∧ B ≤ g := by
  rcases h.2 with ⟨e, _⟩ | ⟨g', cap', cur, e, hB, hg, hn, hm, hs, _⟩
  · cases e
  · injection e with e1 _ e3
    injection e1 with e1
    injection e1 with e1 _ _
    subst e1 e3
    refine ⟨fun j => cur.getD j undef, ⟨cur, hg, by omega, fun i hi => ?_⟩, hn, hm, hB⟩
    have : i < cur.size := by omega
    simp [Array.getD, this]
theorem SMix.srow {w : World} {B g N k n : Nat} {f : Nat → Value} (h : SMix w g N k n f) (hn : n ≤ N) (hm : N ≤ maxLen) (hB : B ≤ g) : SRow w B (.slice (some ⟨g, 0, none⟩) n N) (mkSs k n) := by
  obtain ⟨⟨c, hc, hs, hf⟩, hk⟩ := h
  unfold SRow
  rw [mkSs_len]
  refine ⟨by simp [mkSs_len], .inr ⟨g, N, c, rfl, hB, hc, hn, hm, by omega, ?_⟩⟩
  apply List.ext_getElem
  · simp [mkSs_len]; omega
  · intro j h1 h2
    have hj : j < n := by simp [mkSs_len] at h2; exact h2
    have := hf j (by omega)
    rw [hk j hj] at this
    obtain ⟨hjc, this⟩ := Array.getElem?_eq_some_iff.1 this
    simp only [List.getElem_take, List.getElem_map, mkSs_at, Array.getElem_toList]
    exact this

set_option maxHeartbeats 4000000 in
set_option maxRecDepth 100000 in
theorem lMarkStr (a : Option Addr) (cap k0 B : Nat) (l : List ByteArray) (w : World) (hn : l.length ≤ 1048576) (hk1 : 1 ≤ k0) (hk2 : k0 ≤ 1000) (h : SRow w B (.slice a l.length cap) l) :
    Calls Try.prog 7 #[.slice a l.length cap, .int .i64 k0] w fun e w' => e = .returned (.int .i64 ((k0 + l.length : Nat) : Int)) ∧ SRow w' B (.slice a l.length cap) (mkSs k0 l.length) ∧ Marks (fun q => (Value.slice a l.length cap).ownBlock = some q) w w' := by
  have CM : Hid (∀ (K : Nat) (W : World), 1 ≤ K → K ≤ 100000000 → Calls Try.prog 11 #[.int .i64 K] W fun e w' => e = .returned (.string (mT K)) ∧ Below W.heap.size W w') := fun K W h1 h2 => lMarkText K W h1 h2
  rcases h.cells with rfl | ⟨g, rfl, -⟩
  · clear hn
    have HH : Hid _ := h
    simp only [List.length_nil] at *
    clear h
    go_enter Try.func7, Try.ntmps7
    go_wp2
    refine wp_loop_rounds 1 ?_
    rw [rounds_succ]
    go_wp2
    go_ret
    exact ⟨rfl, HH.out, Marks.refl _ _⟩
  obtain ⟨f, hf, hnc, hm, hB⟩ := own_rowIs h
  have HF : Hid (SMix w g cap k0 0 f ∧ cap ≤ maxLen) := ⟨⟨hf, fun j e => by omega⟩, hm⟩
  clear h hf hm
  generalize l.length = n at *
  go_enter Try.func7, Try.ntmps7
  go_wp2_with fail
  go_loopw [1, 5] (fun vk vi wr => ∃ i : Nat, i ≤ n ∧ vi = .int .i64 i ∧ vk = .int .i64 ((k0 + i : Nat) : Int) ∧ Hid ((∃ f, SMix wr g cap k0 i f) ∧ Marks (fun q => (Value.slice (some ⟨g, 0, none⟩) n cap).ownBlock = some q) w wr)) (fun _ vi _ => n - (intOf vi).toNat)
  case atStart => exact ⟨0, Nat.zero_le _, rfl, rfl, ⟨f, HF.out.1⟩, Marks.refl _ _⟩
  case round =>
    obtain ⟨i, hi, rfl, rfl, HE⟩ := hrel
    by_cases hlt : i < n
    case neg =>
      have hlt' : ¬ (i : Int) < (n : Int) := by omega
      obtain rfl : i = n := by omega
      have HFF : Hid (SRow wr B (.slice (some ⟨g, 0, none⟩) i cap) (mkSs k0 i) ∧ Marks (fun q => (Value.slice (some ⟨g, 0, none⟩) i cap).ownBlock = some q) w wr) := by
        obtain ⟨⟨f', hM⟩, hK⟩ := HE.out
        exact ⟨hM.srow hnc HF.out.2 hB, hK⟩
      clear HE
      go_wp2_with fail
      go_ret
      exact ⟨rfl, HFF.out⟩
    have hlt' : (i : Int) < (n : Int) := by omega
    obtain ⟨K, hK⟩ : ∃ K, k0 + i = K := ⟨_, rfl⟩
    rw [hK]
    have hKb : K ≤ 3000000 := by omega
    go_wp2_with fail
    refine (CM.out K wr (by omega) (by omega)).mono ?_
    rintro e w1 ⟨rfl, hb1⟩
    obtain ⟨⟨f', hM⟩, hmk⟩ := HE.out
    have r1 := Below.rowIs hM.1 hb1
    have c0 := r1.cell (i := i) (by omega)
    have f0 := r1.frozen i
    have HS : Hid (SMix (w1.setCell ⟨g, i, none⟩ (.string (mT K))) g cap k0 (i + 1) (fun j => if j = i then .string (mT K) else f' j) ∧ Marks (fun q => (Value.slice (some ⟨g, 0, none⟩) n cap).ownBlock = some q) w (w1.setCell ⟨g, i, none⟩ (.string (mT K)))) :=
      ⟨⟨r1.set i _, fun j hj => by
        by_cases e : j = i
        · subst e; simp only [if_true]; rw [hK]
        · simp only [if_neg e]; exact hM.2 j (by omega)⟩, (hmk.trans (.of_below hb1)).setCell (p := ⟨g, i, none⟩) rfl _⟩
    clear hM hmk hb1 r1
    go_wp2_with fail
    exact ⟨⟨i + 1, by omega, by go_num, congrArg (Value.int .i64) (by omega), ⟨_, HS.out.1⟩, HS.out.2⟩, by simp [intOf]; omega⟩

set_option maxHeartbeats 4000000 in
set_option maxRecDepth 100000 in
theorem lHeldStr (a : Option Addr) (cap k0 B n : Nat) (w : World) (hn : n ≤ 1048576) (hk1 : 1 ≤ k0) (hk2 : k0 ≤ 1000) (h : SRow w B (.slice a n cap) (mkSs k0 n)) :
    Calls Try.prog 8 #[.slice a n cap, .int .i64 k0] w fun e w' => e = .returned (.int .i64 ((k0 + n : Nat) : Int)) ∧ Below w.heap.size w w' := by
  have CM : Hid (∀ (K : Nat) (W : World), 1 ≤ K → K ≤ 100000000 → Calls Try.prog 11 #[.int .i64 K] W fun e w' => e = .returned (.string (mT K)) ∧ Below W.heap.size W w') := fun K W h1 h2 => lMarkText K W h1 h2
  have h' : SRow w B (.slice a (mkSs k0 n).length cap) (mkSs k0 n) := by rw [mkSs_len]; exact h
  rcases h'.cells with e | ⟨g, rfl, hc⟩
  · have e0 : n = 0 := by have := congrArg List.length e; simpa [mkSs_len] using this
    subst e0
    clear h h' e hn
    go_enter Try.func8, Try.ntmps8
    go_wp2
    refine wp_loop_rounds 1 ?_
    rw [rounds_succ]
    go_wp2
    go_ret
    exact ⟨rfl, Below.refl _ _⟩
  have HC : Hid (∀ i, i < n → w.cell? ⟨g, i, none⟩ = some (.string (mT (k0 + i)))) := fun i hi => by
    have := hc i (by rw [mkSs_len]; exact hi)
    rwa [mkSs_at] at this
  clear h h' hc
  go_enter Try.func8, Try.ntmps8
  go_wp2_with fail
  go_loopw [1, 5] (fun vk vi wr => ∃ i : Nat, i ≤ n ∧ vi = .int .i64 i ∧ vk = .int .i64 ((k0 + i : Nat) : Int) ∧ Below w.heap.size w wr) (fun _ vi _ => n - (intOf vi).toNat)
  case atStart => exact ⟨0, Nat.zero_le _, rfl, rfl, Below.refl _ _⟩
  case round =>
    obtain ⟨i, hi, rfl, rfl, hb⟩ := hrel
    by_cases hlt : i < n
    case neg =>
      have hlt' : ¬ (i : Int) < (n : Int) := by omega
      obtain rfl : i = n := by omega
      go_wp2_with fail
      go_ret
      exact ⟨rfl, hb⟩
    have hlt' : (i : Int) < (n : Int) := by omega
    have c0 := HC.out i hlt
    have hgl := World.block_lt_of_cell? w _ c0
    replace c0 := (hb.cell hgl).trans c0
    have hglr : g < wr.heap.size := by have := hb.size; have : g < w.heap.size := hgl; omega
    obtain ⟨K, hK⟩ : ∃ K, k0 + i = K := ⟨_, rfl⟩
    rw [hK] at c0 ⊢
    have hKb : K ≤ 3000000 := by omega
    have hK1 : 1 ≤ K := by omega
    go_wp2_with fail
    go_region_held3 (fun w' => w'.cell? ⟨g, i, none⟩ = some (.string (mT K))) (go_keep)
      (first | (go_at_call 11; refine (CM.out K _ (by omega) (by omega)).mono ?_; rintro e w1 ⟨rfl, hb1⟩; have hb2 : Below wr.heap.size wr w1 := (Below.refl wr.heap.size wr).drew.trans hb1; have c1 := (World.cell?_of_block (a := ⟨g, i, none⟩) (hb2.block g hglr)).trans c0))
    all_goals
      have hb3 := hb.trans (hb2.mono hb.size)
      go_wp2_with fail
      exact ⟨⟨i + 1, by omega, by go_num, congrArg (Value.int .i64) (by omega), hb3⟩, by simp [intOf]; omega⟩

end Go.Proofs.Ytncljjcmdgakhaa

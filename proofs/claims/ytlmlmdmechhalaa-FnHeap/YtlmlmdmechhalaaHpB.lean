/-
  The walk of the program's put (of one holder).
-/
import Derived.Test.YtlmlmdmechhalaaHpX
import Derived.Test.YtlmlmdmechhalaaRegL
namespace Go.Proofs.Ytlmlmdmechhalaa
open Go.RowKit
open Hp (PP OO propC rP kl encP putAll)

/-- The object with the Value put. -/
def putO (x : OO) (key : ByteArray) (v : Val.VV) : OO := { x with ps := Hp.putPs x.ps key v }
/-- What became of a holder that was changed: the same block, its own map and order; all else as it was. -/
def Turned (w w' : World) (lo : Nat) (x x' : OO) (c : HC) : Prop := ∃ c', HeldAt w' lo x' c' ∧ c'.b = c.b ∧ c'.T = c.T ∧ Marks (Mine x c) w w'

theorem fi_some {ps : List PP} {key : ByteArray} {p : PP} (h : ps.find? (Hp.same key) = some p) : ∃ hi : Hp.fi ps key < ps.length, ps[Hp.fi ps key] = p ∧ p.key = key := by
  rw [Hp.find_fi] at h
  obtain ⟨hi, e⟩ := List.getElem?_eq_some_iff.1 h
  exact ⟨hi, e, by rw [← e]; exact Hp.fi_lt hi⟩
theorem fi_no {ps : List PP} {key : ByteArray} (h : ps.find? (Hp.same key) = none) : ¬ Hp.fi ps key < ps.length := by
  rw [Hp.find_fi] at h
  have := List.getElem?_eq_none_iff.1 h
  omega

theorem map_tight {w : World} {P : Program} {k : TypeId} {R : Value → Option (DataW Unit × List MemPlace)} {b n : Nat} {D : DataW Unit} (h : w.ownsMap P k R b n D) : w.ownsMap P k R b (Maps.size D) D := by
  obtain ⟨es, ck, hb, F, _, rfl⟩ := h
  refine ⟨es, ck, hb, F, ?_, rfl⟩
  have := World.ownsMap.size_le (⟨es, ck, hb, F, Nat.le_refl _, rfl⟩ : w.ownsMap P k R b es.size _)
  simp [Maps.size, length_sorted]

set_option maxHeartbeats 4000000 in
set_option maxRecDepth 100000 in
theorem iPut (w : World) (lo : Nat) (x : OO) (c : HC) (key : ByteArray) (v : Val.VV) (hk : key.size ≤ 9223372036854775807) (hn : x.ps.length ≤ 1048576) (h : HeldAt w lo x c) :
    Calls Try.prog 117 #[.pointer (some ⟨c.b, 0, none⟩), .string key, .agg (vC v)] w fun e w' => e = .returned (.tuple #[]) ∧ Turned w w' lo x (putO x key v) c := by
  have hlook : ∀ o, (Instr.lookup 127 (.map (some c.m)) (.string key) true).run Try.prog (w.alloc o) = .ok (.tuple #[.agg (propC ((x.ps.find? (Hp.same key)).getD Hp.zeroP)), .bool (x.ps.find? (Hp.same key)).isSome]) (w.alloc o) := fun o => look_prop (h.under ((Below.refl _ _).alloc (Nat.le_refl _) o)) key hk
  have hc2 : w.cell? ⟨c.b, 2, none⟩ = some (.map (some c.m)) := (four_of h.2.2.2.1).1.2.2.1
  have hb := (h.mine (.inl rfl)).2
  have HH : Hid (HeldAt w lo x c) := h
  have HAL : Hid (∀ o1 o2, Below w.heap.size w ((w.alloc o1).alloc o2)) := fun o1 o2 => ((Below.refl _ _).alloc (Nat.le_refl _) o1).alloc (by simp) o2
  clear h
  obtain ⟨vk, vn, vt⟩ := v
  unfold vC
  dsimp only
  go_enter Try.func117, Try.ntmps117
  cases hfo : x.ps.find? (Hp.same key) with
  | none =>
    rw [hfo] at hlook
    dsimp only [Option.getD, Option.isSome, propC, Hp.zeroP, Val.zeroV, Val.e0] at hlook
    have HFO : Hid _ := hfo
    clear hfo
    go_wp2_with fail
    obtain ⟨h1, h2, h3, h4, ⟨nm, D, h5, h6, h7⟩, h8⟩ := HH.out.under (HAL.out (.cells #[.int .i64 vk, .int .i64 vn, .string vt] 27) (.cells #[.string ⟨#[]⟩, .int .i64 0, .int .i64 0, .string ⟨#[]⟩, .bool false, .bool false] 78))
    refine (iAdd2 _ c.b c.m x.ps.length nm (c.b + 1) c.t x.cls x.pro c.a c.cap (tl c.t) D (keysV x.ps) ⟨key, ⟨vk, vn, vt⟩, false, false⟩ h4 h6 h8 (by omega) h3 (by omega) (by omega) hk).mono ?_
    rintro e w2 ⟨a1, cap1, rfl, r1, r2, r3, r4, r5⟩
    have HR : Hid (_ ∧ _ ∧ _ ∧ _ ∧ _) := ⟨r1, r2, r3, r4, r5⟩
    have H7 : Hid (Hp.Reads D x.ps ∧ hTy c ∧ lo ≤ c.b ∧ c.b + 1 ≤ c.m ∧ nm ≤ x.ps.length + 50000) := ⟨h7, h1, h2, h3, h5⟩
    clear r1 r2 r3 r4 r5 h1 h2 h3 h4 h6 h7 h8
    go_wp2_with fail
    refine bodyPost_ret (v := .tuple #[]) (by simp [results, Try.results117, go_sem]) rfl ⟨rfl, ?_⟩
    obtain ⟨r1, r2, r3, r4, r5⟩ := HR.out
    obtain ⟨g7, g1, g2, g3, g5⟩ := H7.out
    have hno := fi_no HFO.out
    have hps : Hp.putPs x.ps key ⟨vk, vn, vt⟩ = x.ps ++ [⟨key, ⟨vk, vn, vt⟩, false, false⟩] := by unfold Hp.putPs; rw [dif_neg hno]
    refine ⟨⟨c.b, c.m, a1, cap1, c.T, c.t⟩, ⟨g1, g2, g3, ?_, ⟨nm + 1, _, ?_, r2, ?_⟩, ?_⟩, rfl, rfl, ?_⟩
    · unfold putO
      dsimp only
      rw [hps, List.length_append]
      exact r1
    · unfold putO
      dsimp only
      rw [hps, List.length_append, List.length_singleton]
      omega
    · unfold putO
      dsimp only
      rw [hps]
      exact g7.snoc ⟨key, ⟨vk, vn, vt⟩, false, false⟩ (Hp.fi_ge hno)
    · unfold putO ordV
      dsimp only
      rw [hps, List.length_append]
      have e : keysV (x.ps ++ [⟨key, ⟨vk, vn, vt⟩, false, false⟩]) = keysV x.ps ++ [.string key, .bool false] := by unfold keysV; rw [List.flatMap_append]; rfl
      rw [e]
      exact r3
    · have hal := HAL.out (.cells #[.int .i64 vk, .int .i64 vn, .string vt] 27) (.cells #[.string ⟨#[]⟩, .int .i64 0, .int .i64 0, .string ⟨#[]⟩, .bool false, .bool false] 78)
      refine (Marks.of_below hal).trans ⟨r4.os, r4.tape, r4.output, r4.size, fun q hq hm => r5 q hq (fun e => hm (.inl e)) (fun e => hm (.inr (.inl e))) (fun e => hm (.inr (.inr e)))⟩
  | some p =>
    rw [hfo] at hlook
    obtain ⟨hfi, hpe, hpk⟩ := fi_some hfo
    clear hfo
    obtain ⟨pk, ⟨p1, p2, p3⟩, p4, p5⟩ := p
    dsimp only [Option.getD, Option.isSome, propC] at hlook
    have hpk' : pk = key := hpk
    subst hpk'
    obtain ⟨h1, h2, h3, h4, ⟨nm, D, h5, h6, h7⟩, h8⟩ := HH.out
    have hkey := WideMaps.keyOf_string_mk (P := Try.prog) (k := 9) Try.underlying9 (s := pk) (by unfold maxLen; omega)
    have hval := Hp.rP_mk ⟨pk, ⟨vk, vn, vt⟩, p4, p5⟩
    have hm1 : ((w.alloc (.cells #[.int .i64 vk, .int .i64 vn, .string vt] 27)).alloc (.cells #[.string pk, .int .i64 vk, .int .i64 vn, .string vt, .bool p4, .bool p5] 78)).drew.ownsMap Try.prog 9 rP c.m nm D := ((h6.alloc _).alloc _).drew
    obtain ⟨w2, hput, hm2, hg2⟩ := hm1.update keyedS Try.underlying127 (by unfold maxLen; omega) hkey hval
    unfold propC at hput
    dsimp only at hput
    have HS6 : Hid _ := h6
    have hb2 := HAL.out (.cells #[.int .i64 vk, .int .i64 vn, .string vt] 27) (.cells #[.string pk, .int .i64 vk, .int .i64 vn, .string vt, .bool p4, .bool p5] 78)
    have HX : Hid (_ ∧ _ ∧ _) := ⟨hm2, hg2, hb2⟩
    have hbl2 : c.b < w.heap.size + 1 := by omega
    clear hm1 hm2 hg2 hb2 hval hkey h1 h2 h3 h4 h6 h8
    go_wp2_with fail
    go_region
    all_goals
      go_wp2_with fail
      refine bodyPost_end (v := .tuple #[]) (by simp [results, Try.results117, go_sem]) rfl ⟨rfl, ?_⟩
      obtain ⟨hm2, hg2, hb2⟩ := HX.out
      obtain ⟨h1, h2, h3, h4, -, h8⟩ := HH.out
      have hps : Hp.putPs x.ps pk ⟨vk, vn, vt⟩ = x.ps.set (Hp.fi x.ps pk) ⟨pk, ⟨vk, vn, vt⟩, p4, p5⟩ := by unfold Hp.putPs; rw [dif_pos hfi, hpe]
      have hkl : keysV (x.ps.set (Hp.fi x.ps pk) ⟨pk, ⟨vk, vn, vt⟩, p4, p5⟩) = keysV x.ps := by
        unfold keysV
        rw [List.flatMap_def, List.flatMap_def, List.map_set]
        congr 1
        refine List.ext_getElem (by simp) fun j h1 h2 => ?_
        rw [List.getElem_set]
        split
        · rename_i e
          subst e
          rw [List.getElem_map, hpe]
          rfl
        · rfl
      have hcell : ∀ q, q < w.heap.size → q ≠ c.m → w2.heap[q]? = w.heap[q]? := fun q hq hqm => (hg2.block q (by show q < ((w.alloc _).alloc _).heap.size; simp; omega) (fun e => hqm (by simpa using e))).trans (hb2.block q hq)
      have hsz : Maps.size (D.put (kl pk) (encP ⟨pk, ⟨vk, vn, vt⟩, p4, p5⟩)) ≤ x.ps.length + 50000 := by
        have e1 := Maps.size_put (k := kl pk) (d := encP ⟨pk, ⟨vk, vn, vt⟩, p4, p5⟩) h7.1
        have e2 : Maps.has D (kl pk) = true := by
          rw [h7.has pk, Hp.find_fi, List.getElem?_eq_getElem hfi]; rfl
        rw [e2] at e1
        simp only [if_true] at e1
        rw [e1]
        have := World.ownsMap.size_le (HS6.out : w.ownsMap Try.prog 9 rP c.m nm D)
        omega
      refine ⟨c, ⟨h1, h2, h3, ?_, ⟨_, _, ?_, map_tight hm2, ?_⟩, ?_⟩, rfl, rfl, ?_⟩
      · unfold putO
        dsimp only
        rw [hps, List.length_set]
        exact (hcell c.b hb (by omega)).trans h4
      · unfold putO
        dsimp only
        rw [hps, List.length_set]
        exact hsz
      · unfold putO
        dsimp only
        rw [hps]
        exact h7.set hfi rfl ⟨pk, ⟨vk, vn, vt⟩, p4, p5⟩ rfl
      · unfold putO ordV
        dsimp only
        rw [hps, List.length_set, hkl]
        refine row_same h8 fun q hq => hcell q (World.ownsRow.lt h8 q hq).2 (fun e => ?_)
        subst e
        obtain ⟨_, cc, hcc⟩ := own_apart h8 hq
        obtain ⟨es, ck, hmm, _⟩ := HS6.out
        rw [hmm] at hcc; cases hcc
      · exact (Marks.of_below hb2).trans ⟨hg2.os, hg2.tape, hg2.output, hg2.size, fun q hq hm => hg2.block q hq (fun e => hm (.inr (.inl (by simpa using e))))⟩

set_option maxHeartbeats 4000000 in
set_option maxRecDepth 100000 in
theorem iPutA (w : World) (lo : Nat) (x : OO) (c : HC) (key : ByteArray) (v : Val.VV) (hk : key.size ≤ 9223372036854775807) (hn : x.ps.length ≤ 1048576) (h : HeldAt w lo x c) (ht : c.t = 133) :
    Calls Try.prog 113 #[.pointer (some ⟨c.b, 0, none⟩), .string key, .agg (vC v)] w fun e w' => e = .returned (.tuple #[]) ∧ Turned w w' lo x (putO x key v) c := by
  have C1 := fun (W : World) (hW : Below w.heap.size w W) => iPut W lo x c key v hk hn (h.under hW)
  have hL := Try.lookNone key hk
  have hc5 : w.cell? ⟨c.b, 5, none⟩ = some (.map none) := by
    have h4 := h.2.2.2.1
    rw [ht, tl_args] at h4
    simp [World.cell?, h4]
  have hb := (h.mine (.inl rfl)).2
  have HT : Hid (∀ W W' x', Below w.heap.size w W → Turned W W' lo x x' c → Turned w W' lo x x' c) := fun W W' x' hW t => by
    obtain ⟨c', k1, k2, k3, k4⟩ := t
    exact ⟨c', k1, k2, k3, (Marks.of_below hW).trans k4⟩
  have HS : Hid (∀ W W' x', Below w.heap.size w W → Turned W W' lo x x' c → ∀ q o, w.heap.size ≤ q → q < W.heap.size → W'.cell? ⟨q, o, none⟩ = W.cell? ⟨q, o, none⟩) := fun W W' x' hW t q o hq hl => by
    obtain ⟨c', k1, k2, k3, k4⟩ := t
    exact World.cell?_of_block (w := W) (k4.block q hl (fun hm => by have := (h.mine hm).2; omega))
  have HB0 : Hid (∀ o, Below w.heap.size w (w.alloc o)) := fun o => (Below.refl _ _).alloc (Nat.le_refl _) o
  clear h ht
  generalize putO x key v = x' at *
  obtain ⟨vk, vn, vt⟩ := v
  unfold vC at *
  dsimp only at *
  have H1 : Hid _ := C1
  clear C1
  generalize hbb : c.b = b at *
  clear hbb
  go_enter Try.func113, Try.ntmps113
  go_wp2_with fail
  generalize hWX : w.alloc _ = wx
  have hBX : Below w.heap.size w wx := by rw [← hWX]; exact HB0.out _
  obtain ⟨z0, z1, z2⟩ : wx.cell? ⟨w.heap.size, 0, none⟩ = some (.int .i64 vk) ∧ wx.cell? ⟨w.heap.size, 1, none⟩ = some (.int .i64 vn) ∧ wx.cell? ⟨w.heap.size, 2, none⟩ = some (.string vt) := by
    rw [← hWX]
    exact three_ofF (heap_alloc_new w (.cells #[.int .i64 vk, .int .i64 vn, .string vt] 27))
  have hXs : w.heap.size < wx.heap.size := World.block_lt_of_cell? wx _ z0
  clear hWX
  refine wp_region_held_drew (S := fun w' => w'.cell? ⟨w.heap.size, 0, none⟩ = some (.int .i64 vk) ∧ w'.cell? ⟨w.heap.size, 1, none⟩ = some (.int .i64 vn) ∧ w'.cell? ⟨w.heap.size, 2, none⟩ = some (.string vt)) (by kernel_rfl) ⟨z0, z1, z2⟩ (fun hHeld => ?_)
  refine takeIn 0 (v := ?va0) rfl (by kernel_rfl) (by kernel_rfl) (by kernel_rfl) (fun _ _ _ h => h) ?wa0 (by assumption) ?ya0 ?ra0
  case wa0 => rfl
  case ya0 => (intro w hSw; (try dsimp only at hSw); go_simp; first | done | with_reducible rfl)
  simp only [Act.put, List.setIfInBounds_toArray, List.set_cons_zero, List.set_cons_succ]
  refine takeIn 1 (v := ?va1) rfl (by kernel_rfl) (by kernel_rfl) (by kernel_rfl) (fun _ _ _ h => h) ?wa1 (by assumption) ?ya1 ?ra1
  case wa1 => rfl
  case ya1 => (intro w hSw; (try dsimp only at hSw); go_simp; first | done | with_reducible rfl)
  simp only [Act.put, List.setIfInBounds_toArray, List.set_cons_zero, List.set_cons_succ]
  refine takeIn 2 (v := ?va2) rfl (by kernel_rfl) (by kernel_rfl) (by kernel_rfl) (fun _ _ _ h => h) ?wa2 (by assumption) ?ya2 ?ra2
  case wa2 => rfl
  case ya2 => (intro w hSw; (try dsimp only at hSw); go_simp; first | done | with_reducible rfl)
  simp only [Act.put, List.setIfInBounds_toArray, List.set_cons_zero, List.set_cons_succ]
  refine takeIn 3 (v := ?va3) rfl (by kernel_rfl) (by kernel_rfl) (by kernel_rfl) (fun _ _ _ h => h) ?wa3 (by assumption) ?ya3 ?ra3
  case wa3 => rfl
  case ya3 => (intro w hSw; (try dsimp only at hSw); go_simp; first | done | with_reducible rfl)
  simp only [Act.put, List.setIfInBounds_toArray, List.set_cons_zero, List.set_cons_succ]
  refine takeIn 4 (v := ?va4) rfl (by kernel_rfl) (by kernel_rfl) (by kernel_rfl) (fun _ _ _ h => h) ?wa4 (by assumption) ?ya4 ?ra4
  case wa4 => rfl
  case ya4 => (intro w hSw; (try dsimp only at hSw); go_simp; first | done | with_reducible rfl)
  simp only [Act.put, List.setIfInBounds_toArray, List.set_cons_zero, List.set_cons_succ]
  refine oneUp 5 rfl (by kernel_rfl) (by rfl) (fun K hK => ?_)
  go_simp
  refine (H1.out _ hBX.drew).mono ?_
  rintro e w2 ⟨rfl, ht⟩
  have hS2 := HS.out _ _ _ hBX.drew ht
  refine hK.out _ _ ⟨(hS2 w.heap.size 0 (Nat.le_refl _) hXs).trans hHeld.1, (hS2 w.heap.size 1 (Nat.le_refl _) hXs).trans hHeld.2.1, (hS2 w.heap.size 2 (Nat.le_refl _) hXs).trans hHeld.2.2⟩ (fun _ => ?_)
  refine wpAnyH_done (by kernel_rfl) ?_ _
  go_wp2_with fail
  exact bodyPost_end (v := .tuple #[]) (by simp [results, Try.results113, go_sem]) rfl ⟨rfl, HT.out _ _ _ hBX.drew ht⟩

end Go.Proofs.Ytlmlmdmechhalaa

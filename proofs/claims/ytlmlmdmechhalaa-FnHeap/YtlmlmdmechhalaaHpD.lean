/-
  The walk of the program's HeapPut.
-/
import Derived.Test.YtlmlmdmechhalaaHpC
import Derived.Test.YtlmlmdmechhalaaHpX
import Derived.Test.YtlmlmdmechhalaaHpQ
namespace Go.Proofs.Ytlmlmdmechhalaa
open Go.RowKit
open Hp (PP OO propC rP kl encP putAll)

/-- What HeapPut tells. -/
noncomputable def putV (h : List OO) (ref : Int) (key : ByteArray) (v : Val.VV) : List OO :=
  if 4000 < key.size then [] else if Hp.refB h ref && prB h.length ⟨key, v, false, false⟩ then h.set ref.toNat (putO (h[ref.toNat]?.getD ⟨0, 0, []⟩) key v) else h
theorem putV_long {h : List OO} {ref : Int} {key : ByteArray} {v : Val.VV} (k : 4000 < key.size) : putV h ref key v = [] := by unfold putV; rw [if_pos k]
theorem putV_no {h : List OO} {ref : Int} {key : ByteArray} {v : Val.VV} (k1 : ¬ 4000 < key.size) (k : Hp.refB h ref = false) : putV h ref key v = h := by unfold putV; rw [if_neg k1, k]; rfl
theorem putV_yes {h : List OO} {i : Nat} {key : ByteArray} {v : Val.VV} (k1 : ¬ 4000 < key.size) (k : Hp.refB h i = true) (hi : i < h.length) : putV h i key v = if prB h.length ⟨key, v, false, false⟩ then h.set i (putO h[i] key v) else h := by
  unfold putV
  rw [if_neg k1, k]
  simp [hi]

theorem txt0 {t : ByteArray} (h : t.toList = []) : t.size ≤ 1000 := by
  rw [ByteArray.toList_eq] at h
  have h9 := congrArg List.length h
  have : t.data.toList.length = t.size := rfl
  rw [this, List.length_nil] at h9
  omega
theorem right_text {v : Val.VV} (h : Val.right v = true) : v.text.size ≤ 1000 := by
  unfold Val.right Val.noText at h
  repeat' split at h
  all_goals first | (simp at h; done) | (simp at h; omega) | (simp at h; exact txt0 h.2)
theorem small_of {h : List OO} (hz : szH h ≤ 1048576) (hr : Hp.RightH h) : SmallH h := fun i hi => by
  refine ⟨?_, fun p hp => ?_, (hr.2 i hi).2.2.2.2.2⟩
  · have h1 : szPs h[i].ps ≤ (h.map fun o => szPs o.ps).sum := sum_mem (fun o : OO => szPs o.ps) h i hi
    have h2 : h[i].ps.length ≤ szPs h[i].ps := by unfold szPs; omega
    unfold szH at hz
    omega
  · obtain ⟨j, hj, rfl⟩ := List.getElem_of_mem hp
    exact szP_le hz hi hj
theorem len_of {h : List OO} (hz : szH h ≤ 1048576) {i : Nat} (hi : i < h.length) : h[i].ps.length ≤ 1048576 := by
  have h1 : szPs h[i].ps ≤ (h.map fun o => szPs o.ps).sum := sum_mem (fun o : OO => szPs o.ps) h i hi
  have h2 : h[i].ps.length ≤ szPs h[i].ps := by unfold szPs; omega
  unfold szH at hz
  omega
theorem putPs_mem {ps : List PP} {key : ByteArray} {v : Val.VV} {p : PP} (h : p ∈ Hp.putPs ps key v) : p ∈ ps ∨ (p.key = key ∧ p.v = v) := by
  unfold Hp.putPs at h
  split at h
  · rename_i hi
    rcases List.mem_or_eq_of_mem_set h with h | rfl
    · exact .inl h
    · exact .inr ⟨Hp.fi_lt hi, rfl⟩
  · rcases List.mem_append.1 h with h | h
    · exact .inl h
    · rw [List.mem_singleton] at h
      subst h
      exact .inr ⟨rfl, rfl⟩
theorem putPs_len (ps : List PP) (key : ByteArray) (v : Val.VV) : (Hp.putPs ps key v).length ≤ ps.length + 1 := by
  unfold Hp.putPs
  split <;> simp
theorem small_put {h : List OO} (hz : szH h ≤ 1048576) (hr : Hp.RightH h) {i : Nat} (hi : i < h.length) {key : ByteArray} {v : Val.VV} (hp : prB h.length ⟨key, v, false, false⟩ = true) : SmallH (h.set i (putO h[i] key v)) := fun j hj => by
  have hj' : j < h.length := by rw [List.length_set] at hj; exact hj
  have k := small_of hz hr j hj'
  by_cases e : i = j
  · subst e
    rw [List.getElem_set_self]
    obtain ⟨q1, q2, -⟩ := (prB_iff _ _).1 hp
    refine ⟨?_, fun p hp => ?_, Hp.unlike_put k.2.2 key v⟩
    · have h1 := putPs_len h[i].ps key v
      have h2 := len_of hz hi
      show (Hp.putPs h[i].ps key v).length ≤ 1048577
      omega
    · rcases putPs_mem hp with h | ⟨e1, e2⟩
      · exact k.2.1 p h
      · have h3 := right_text q2
        dsimp only at q1 h3
        rw [e1, e2]
        exact ⟨by omega, by omega⟩
  · rw [List.getElem_set_ne e]
    exact k

theorem endHeap {w wr : World} {X lo : Nat} {v0 : Value} {a : Option Addr} {cap : Nat} {h : List OO} {cs : Nat → OC} {t : TypeId} (hX : wr.heap[X]? = some (.cells #[v0] t (0, 0))) (hw : w.heap.size ≤ X) (hlo : X < lo) (hb : Below w.heap.size w wr) (k : HOwn wr lo (.slice a h.length cap) h h.length cs) :
    (wr.setCell ⟨X, 0, none⟩ (.slice a h.length cap)).cell? ⟨X, 0, none⟩ = some (.slice a h.length cap) ∧ Below w.heap.size w (wr.setCell ⟨X, 0, none⟩ (.slice a h.length cap)) ∧ HOwn (wr.setCell ⟨X, 0, none⟩ (.slice a h.length cap)) w.heap.size (.slice a h.length cap) h h.length cs := by
  have st1 := blk_set hX 0 (.slice a h.length cap)
  have hfar : ∀ q, lo ≤ q → (wr.setCell ⟨X, 0, none⟩ (.slice a h.length cap)).heap[q]? = wr.heap[q]? := fun q hq => Below.heap_setCell _ ⟨X, 0, none⟩ _ q (by show q ≠ X; omega)
  refine ⟨by simp [World.cell?, st1], hb.setCell (p := ⟨X, 0, none⟩) hw _, HOwn.low (lo := lo) ⟨row_same k.1 fun q hq => hfar q (World.ownsRow.lt k.1 q hq).1, fun j hj hjn => row_same (k.2.1 j hj hjn) fun q hq => hfar q (World.ownsRow.lt (k.2.1 j hj hjn) q hq).1, k.2.2⟩ (by omega)⟩

set_option maxHeartbeats 4000000 in
set_option maxRecDepth 100000 in
theorem iHeapPut (a : Option Addr) (cap B : Nat) (h : List OO) (cs : Nat → OC) (ref : Int) (key : ByteArray) (v : Val.VV) (w : World) (hk : key.size ≤ 9223372036854775807) (hz : szH h ≤ 1048576) (hok : OkH h) (hh : HIn w B a h cs) :
    Calls Try.prog 11 #[.agg #[.slice a h.length cap], .int .i64 ref, .string key, .agg (vC v)] w fun e w' => ∃ a cap, e = .returned (.agg #[.slice a (putV h ref key v).length cap]) ∧ Below w.heap.size w w' ∧ ∃ cs, HOwn w' w.heap.size (.slice a (putV h ref key v).length cap) (putV h ref key v) (putV h ref key v).length cs := by
  have C1 := fun (W : World) (hW : Below w.heap.size w W) => iHoldersWith a cap B h cs ref W hz hok (hh.under hW)
  have C2 := fun (W : World) (hW : Below w.heap.size w W) => iCopyHeap a cap B h cs W hz (hh.under hW)
  have HB0 : Hid (∀ o, Below w.heap.size w (w.alloc o)) := fun o => (Below.refl _ _).alloc (Nat.le_refl _) o
  have HV1 : Hid (4000 < key.size → putV h ref key v = []) := fun k => putV_long k
  have HV2 : Hid (¬ 4000 < key.size → Hp.refB h ref = false → putV h ref key v = h) := fun k1 k => putV_no k1 k
  have HV3 : Hid (¬ 4000 < key.size → Hp.refB h ref = true → ∃ i : Nat, ref = i ∧ ∃ hi : i < h.length, putV h ref key v = (if prB h.length ⟨key, v, false, false⟩ then h.set i (putO h[i] key v) else h) ∧ h[i].ps.length ≤ 1048576 ∧ SmallH (if prB h.length ⟨key, v, false, false⟩ then h.set i (putO h[i] key v) else h) ∧ h.length ≤ 400 ∧ (if prB h.length ⟨key, v, false, false⟩ then h.set i (putO h[i] key v) else h).length = h.length) := fun k1 k => by
    obtain ⟨hr, h0, h1⟩ := Hp.refB_iff.1 k
    obtain ⟨i, rfl⟩ : ∃ i : Nat, ref = i := ⟨ref.toNat, by omega⟩
    have hi : i < h.length := by omega
    refine ⟨i, rfl, hi, putV_yes k1 k hi, len_of hz hi, ?_, hr.1, ?_⟩
    · split
      · rename_i hp
        exact small_put hz hr hi hp
      · exact small_of hz hr
    · split <;> simp
  have hkt : ∀ W : World, True := fun _ => trivial
  generalize putV h ref key v = V at *
  generalize Hp.refB h ref = RB at *
  obtain ⟨vk, vn, vt⟩ := v
  unfold vC
  dsimp only
  have H1 : Hid _ := C1
  have H2 : Hid _ := C2
  clear C1 C2 hok hh hz hkt
  have HN : Hid (∀ o1 o2 o3, (((w.alloc o1).alloc o2).alloc o3).heap[w.heap.size]? = some o1 ∧ (((w.alloc o1).alloc o2).alloc o3).heap[w.heap.size + 1]? = some o2 ∧ (((w.alloc o1).alloc o2).alloc o3).heap[w.heap.size + 1 + 1]? = some o3 ∧ Below w.heap.size w (((w.alloc o1).alloc o2).alloc o3) ∧ (((w.alloc o1).alloc o2).alloc o3).heap.size = w.heap.size + 1 + 1 + 1) := fun o1 o2 o3 => by
    refine ⟨?_, ?_, ?_, (((Below.refl _ _).alloc (Nat.le_refl _) o1).alloc (by simp) o2).alloc (by simp; omega) o3, by simp⟩
    · exact (Below.heap_alloc _ _ _ (by simp; omega)).trans ((Below.heap_alloc _ _ _ (by simp)).trans (heap_alloc_new _ _))
    · have := heap_alloc_new (w.alloc o1) o2
      rw [World.size_alloc] at this
      exact (Below.heap_alloc _ _ _ (by simp)).trans this
    · have := heap_alloc_new ((w.alloc o1).alloc o2) o3
      rw [World.size_alloc, World.size_alloc] at this
      exact this
  by_cases hks : 4000 < key.size
  · have hV := HV1.out hks
    subst hV
    have hks' : (4000 : Int) < (key.size : Int) := by omega
    go_enter Try.func11, Try.ntmps11
    go_wp2_with fail
    have hn := HN.out (.cells #[.slice a h.length cap] 25) (.cells #[.int .i64 vk, .int .i64 vn, .string vt] 27) (.cells #[.slice none 0 0] 25)
    generalize World.alloc _ _ = W0 at hn ⊢
    obtain ⟨z0, u0⟩ := one_of hn.2.2.1
    exact bodyPost_ret (v := .agg #[.slice none 0 0]) (by simp [results, Try.results11, go_sem, z0]) rfl ⟨none, 0, rfl, hn.2.2.2.1, fun _ => ⟨none, 0⟩, hOwn_nil _ _ _ _⟩
  have hks' : ¬ (4000 : Int) < (key.size : Int) := by omega
  go_enter Try.func11, Try.ntmps11
  go_wp2_with fail
  have hn := HN.out (.cells #[.slice a h.length cap] 25) (.cells #[.int .i64 vk, .int .i64 vn, .string vt] 27) (.cells #[.slice none 0 0] 25)
  generalize World.alloc _ _ = W0 at hn ⊢
  obtain ⟨n1, n2, n3, n4, n5⟩ := hn
  refine (H1.out _ n4).mono ?_
  rintro e w1 ⟨v, rfl, hb1, hall⟩
  have k1 := (hb1.block _ (by omega)).trans n1
  have k2 := (hb1.block _ (by omega)).trans n2
  have k3 := (hb1.block _ (by omega)).trans n3
  have hbf := n4.trans (hb1.mono n4.size)
  have hs1 : W0.heap.size ≤ w1.heap.size := hb1.size
  clear n1 n2 n3 hb1 HN
  obtain ⟨y0, -⟩ := one_of k1
  obtain ⟨⟨z0, z1, z2⟩, -⟩ := three_all k2
  obtain ⟨t0, u0⟩ := one_of k3
  have HF : Hid (_ ∧ _ ∧ _) := ⟨hbf, hall, k3⟩
  clear k1 k2 k3 hbf hall
  cases RB
  · have hV := HV2.out hks rfl
    subst hV
    clear H1 HV1 HV3
    go_wp2_with fail
    refine (H2.out _ HF.out.1).mono ?_
    rintro e w2 ⟨a2, cap2, rfl, hb2, cs2, ho2⟩
    have k3 := (hb2.block _ (by omega)).trans HF.out.2.2
    have hbw := HF.out.1.trans (hb2.mono HF.out.1.size)
    have HG : Hid (_ ∧ _ ∧ _) := ⟨k3, hbw, ho2⟩
    clear t0 u0 y0 z0 z1 z2 hb2
    obtain ⟨t0, u0⟩ := one_of k3
    clear k3 hbw ho2
    go_wp2_with fail
    have hE := endHeap HG.out.1 (by omega) (by omega) HG.out.2.1 HG.out.2.2
    clear t0 u0
    generalize World.setCell _ _ _ = W9 at hE ⊢
    have t0 := hE.1
    exact bodyPost_ret (v := .agg #[.slice a2 V.length cap2]) (by simp [results, Try.results11, go_sem, t0]) rfl ⟨a2, cap2, rfl, hE.2.1, cs2, hE.2.2⟩
  · obtain ⟨ds, hds⟩ := HF.out.2.1 rfl
    obtain ⟨i, rfl, hi, hVe, hpl, hsm, hl4, hVl⟩ := HV3.out hks rfl
    obtain ⟨g, cap', rfl⟩ : ∃ g cap', v = .slice (some ⟨g, 0, none⟩) h.length cap' := by
      rcases hds.1.2 with ⟨_, e⟩ | ⟨g, cap', _, e, _⟩
      · omega
      · exact ⟨g, cap', e⟩
    have C3 := iPutAll w1 W0.heap.size g cap' h ds i key ⟨vk, vn, vt⟩ hi hpl hk hds
    rw [← hVe] at C3 hsm hVl
    have C4 := fun (W : World) (ds' : Nat → HC) (k : AllW W W0.heap.size (.slice (some ⟨g, 0, none⟩) h.length cap') V ds') => iToldAll W W0.heap.size (.slice (some ⟨g, 0, none⟩) h.length cap') V ds' (by omega) hsm k
    unfold vC at C3
    dsimp only at C3
    have H3 : Hid _ := C3
    have H4 : Hid _ := C4
    clear C3 C4 hVe hsm hds hVl H1 H2 HV1 HV2 HV3
    go_wp2_with fail
    refine Calls.mono H3.out ?_
    rintro e w2 ⟨rfl, ⟨ds', hal⟩, hbb⟩
    have hbx := hbb W0.heap.size w1 (Below.refl _ _) (Nat.le_refl _) hs1
    have hbw := hbb w.heap.size w HF.out.1 (by omega) (by omega)
    have k3 := (hbx.block _ (by omega)).trans HF.out.2.2
    have hs2 : W0.heap.size ≤ w2.heap.size := by have := hbx.size; omega
    have HG : Hid (_ ∧ _ ∧ _) := ⟨k3, hbw, hal⟩
    clear hbx hbw k3 hal hbb t0 u0 y0 z0 z1 z2
    go_wp2_with fail
    refine (H4.out _ _ HG.out.2.2).mono ?_
    rintro e w3 ⟨a2, cap2, rfl, hb3, cs2, ho2⟩
    have k3 := (hb3.block _ (by omega)).trans HG.out.1
    have hbw := HG.out.2.1.trans (hb3.mono (by omega))
    have HK : Hid (_ ∧ _ ∧ _) := ⟨k3, hbw, ho2⟩
    obtain ⟨t0, u0⟩ := one_of k3
    clear k3 hbw ho2 hb3
    go_wp2_with fail
    have hE := endHeap HK.out.1 (by omega) (by omega) HK.out.2.1 HK.out.2.2
    clear t0 u0
    generalize World.setCell _ _ _ = W9 at hE ⊢
    have t0 := hE.1
    exact bodyPost_ret (v := .agg #[.slice a2 V.length cap2]) (by simp [results, Try.results11, go_sem, t0]) rfl ⟨a2, cap2, rfl, hE.2.1, cs2, hE.2.2⟩

end Go.Proofs.Ytlmlmdmechhalaa

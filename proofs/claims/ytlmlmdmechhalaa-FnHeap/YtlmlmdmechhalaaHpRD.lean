/-
  The walks of the program's remove of an object of arguments, and of HeapDelete.
-/
import Derived.Test.YtlmlmdmechhalaaHpT
import Derived.Test.YtlmlmdmechhalaaHpD
namespace Go.Proofs.Ytlmlmdmechhalaa
open Go.RowKit
open Hp (PP OO propC rP kl encP)

theorem Try.mRemH (b : Nat) (w : World) : (Go.method 271 135 (.pointer (some ⟨b, 0, none⟩)) "loop.example/g00317/impl.remove").run Try.prog w = .ok (118, .pointer (some ⟨b, 0, none⟩)) w := by kernel_rfl
theorem Try.mRemA (b : Nat) (w : World) : (Go.method 271 126 (.pointer (some ⟨b, 0, none⟩)) "loop.example/g00317/impl.remove").run Try.prog w = .ok (114, .pointer (some ⟨b, 0, none⟩)) w := by kernel_rfl

theorem Turned.slots {w w' : World} {lo : Nat} {x x' : OO} {c : HC} (t : Turned w w' lo x x' c) (hT : c.T = 126) : w'.cell? ⟨c.b, 5, none⟩ = some (.map none) := by
  obtain ⟨c', h, hb, hT', _⟩ := t
  have h4 := h.2.2.2.1
  have ht : c'.t = 133 := by
    rcases h.1 with ⟨e, _⟩ | ⟨_, e⟩
    · rw [hT', hT] at e
      exact absurd e (by decide)
    · exact e
  rw [ht, tl_args, hb] at h4
  simp [World.cell?, h4]

set_option maxHeartbeats 4000000 in
set_option maxRecDepth 100000 in
theorem iRemoveA (w : World) (lo : Nat) (x : OO) (c : HC) (key : ByteArray) (hk : key.size ≤ 9223372036854775807) (hn : x.ps.length ≤ 1048577) (hu : Hp.Unlike x.ps) (h : HeldAt w lo x c) (hT : c.T = 126) :
    Calls Try.prog 114 #[.pointer (some ⟨c.b, 0, none⟩), .string key] w fun e w' => ∃ r, e = .returned (.bool r) ∧ Turned w w' lo x (delO x key) c := by
  have C1 := iRemove w lo x c key hk hn hu h
  have hkey := WideMaps.keyOf_string_mk (P := Try.prog) (k := 9) Try.underlying9 (s := key) (by unfold maxLen; omega)
  have hdn : ∀ W : World, (Builtin.delete_ #[131, 9] 0 #[.map none, .string key]).run Try.prog W = .ok (.tuple #[]) W := fun W => Maps.drop_nil keyedS Try.underlying131 hkey 0
  have HS : Hid (∀ W x', Turned w W lo x x' c → W.cell? ⟨c.b, 5, none⟩ = some (.map none)) := fun W x' t => t.slots hT
  have H1 : Hid _ := C1
  clear C1 h hu hkey
  go_enter Try.func114, Try.ntmps114
  go_wp2_with fail
  refine Calls.mono H1.out ?_
  rintro e w1 ⟨r, rfl, ht⟩
  have s5 := HS.out _ _ ht
  have HT : Hid _ := ht
  clear ht
  cases r
  · go_wp2_with fail
    go_ret
    exact ⟨false, rfl, HT.out⟩
  · go_wp2_with fail
    go_ret
    exact ⟨true, rfl, HT.out⟩

/-- What HeapDelete tells. -/
noncomputable def delV (h : List OO) (ref : Int) (key : ByteArray) : List OO :=
  if 4000 < key.size then [] else if Hp.refB h ref then h.set ref.toNat (delO (h[ref.toNat]?.getD ⟨0, 0, []⟩) key) else h
theorem delV_long {h : List OO} {ref : Int} {key : ByteArray} (k : 4000 < key.size) : delV h ref key = [] := by unfold delV; rw [if_pos k]
theorem delV_no {h : List OO} {ref : Int} {key : ByteArray} (k1 : ¬ 4000 < key.size) (k : Hp.refB h ref = false) : delV h ref key = h := by unfold delV; rw [if_neg k1, k]; rfl
theorem delV_yes {h : List OO} {i : Nat} {key : ByteArray} (k1 : ¬ 4000 < key.size) (k : Hp.refB h i = true) (hi : i < h.length) : delV h i key = h.set i (delO h[i] key) := by
  unfold delV
  rw [if_neg k1, k]
  simp [hi]
theorem delPs_mem {ps : List PP} {key : ByteArray} {p : PP} (h : p ∈ Hp.delPs ps key) : p ∈ ps := by
  unfold Hp.delPs at h
  split at h
  · split at h
    · exact h
    · exact List.mem_of_mem_eraseIdx h
  · exact h
theorem delPs_len (ps : List PP) (key : ByteArray) : (Hp.delPs ps key).length ≤ ps.length := by
  unfold Hp.delPs
  split
  · split
    · exact Nat.le_refl _
    · exact List.length_eraseIdx_le _ _
  · exact Nat.le_refl _
theorem small_del {h : List OO} (hz : szH h ≤ 1048576) (hr : Hp.RightH h) {i : Nat} (hi : i < h.length) (key : ByteArray) : SmallH (h.set i (delO h[i] key)) := fun j hj => by
  have hj' : j < h.length := by rw [List.length_set] at hj; exact hj
  have k := small_of hz hr j hj'
  by_cases e : i = j
  · subst e
    rw [List.getElem_set_self]
    refine ⟨?_, fun p hp => k.2.1 p (delPs_mem hp), Hp.unlike_del k.2.2 key⟩
    have h1 := delPs_len h[i].ps key
    show (Hp.delPs h[i].ps key).length ≤ 1048577
    have := k.1
    omega
  · rw [List.getElem_set_ne e]
    exact k

set_option maxHeartbeats 4000000 in
set_option maxRecDepth 100000 in
theorem iHeapDelete (a : Option Addr) (cap B : Nat) (h : List OO) (cs : Nat → OC) (ref : Int) (key : ByteArray) (w : World) (hk : key.size ≤ 9223372036854775807) (hz : szH h ≤ 1048576) (hok : OkH h) (hh : HIn w B a h cs) :
    Calls Try.prog 13 #[.agg #[.slice a h.length cap], .int .i64 ref, .string key] w fun e w' => ∃ a cap, e = .returned (.agg #[.slice a (delV h ref key).length cap]) ∧ Below w.heap.size w w' ∧ ∃ cs, HOwn w' w.heap.size (.slice a (delV h ref key).length cap) (delV h ref key) (delV h ref key).length cs := by
  have C1 := fun (W : World) (hW : Below w.heap.size w W) => iHoldersWith a cap B h cs ref W hz hok (hh.under hW)
  have C2 := fun (W : World) (hW : Below w.heap.size w W) => iCopyHeap a cap B h cs W hz (hh.under hW)
  have HV1 : Hid (4000 < key.size → delV h ref key = []) := fun k => delV_long k
  have HV2 : Hid (¬ 4000 < key.size → Hp.refB h ref = false → delV h ref key = h) := fun k1 k => delV_no k1 k
  have HV3 : Hid (¬ 4000 < key.size → Hp.refB h ref = true → ∃ i : Nat, ref = i ∧ ∃ hi : i < h.length, delV h ref key = h.set i (delO h[i] key) ∧ h[i].ps.length ≤ 1048577 ∧ Hp.Unlike h[i].ps ∧ SmallH (h.set i (delO h[i] key)) ∧ h.length ≤ 400) := fun k1 k => by
    obtain ⟨hr, h0, h1⟩ := Hp.refB_iff.1 k
    obtain ⟨i, rfl⟩ : ∃ i : Nat, ref = i := ⟨ref.toNat, by omega⟩
    have hi : i < h.length := by omega
    exact ⟨i, rfl, hi, delV_yes k1 k hi, by have := len_of hz hi; omega, (hr.2 i hi).2.2.2.2.2, small_del hz hr hi key, hr.1⟩
  generalize delV h ref key = V at *
  generalize Hp.refB h ref = RB at *
  have H1 : Hid _ := C1
  have H2 : Hid _ := C2
  clear C1 C2 hok hh hz
  have HN : Hid (∀ o1 o2, _) := two_new w
  have m1 := Try.mRemH
  have m2 := Try.mRemA
  by_cases hks : 4000 < key.size
  · have hV := HV1.out hks
    subst hV
    have hks' : (4000 : Int) < (key.size : Int) := by omega
    go_enter Try.func13, Try.ntmps13
    go_wp2_with fail
    have hn := HN.out (.cells #[.slice a h.length cap] 25) (.cells #[.slice none 0 0] 25)
    generalize World.alloc _ _ = W0 at hn ⊢
    obtain ⟨z0, u0⟩ := one_of hn.2.1
    exact bodyPost_ret (v := .agg #[.slice none 0 0]) (by simp [results, Try.results13, go_sem, z0]) rfl ⟨none, 0, rfl, hn.2.2.1, fun _ => ⟨none, 0⟩, hOwn_nil _ _ _ _⟩
  have hks' : ¬ (4000 : Int) < (key.size : Int) := by omega
  go_enter Try.func13, Try.ntmps13
  go_wp2_with fail
  have hn := HN.out (.cells #[.slice a h.length cap] 25) (.cells #[.slice none 0 0] 25)
  generalize World.alloc _ _ = W0 at hn ⊢
  obtain ⟨n1, n2, n3, n4⟩ := hn
  refine (H1.out _ n3).mono ?_
  rintro e w1 ⟨v, rfl, hb1, hall⟩
  have k1 := (hb1.block _ (by omega)).trans n1
  have k2 := (hb1.block _ n4).trans n2
  have hbf := n3.trans (hb1.mono n3.size)
  have hs1 : W0.heap.size ≤ w1.heap.size := hb1.size
  clear n1 n2 hb1 HN
  obtain ⟨y0, -⟩ := one_of k1
  obtain ⟨t0, u0⟩ := one_of k2
  have HF : Hid (_ ∧ _ ∧ _) := ⟨hbf, hall, k2⟩
  clear k1 k2 hbf hall
  cases RB
  · have hV := HV2.out hks rfl
    subst hV
    clear H1 HV1 HV3
    go_wp2_with fail
    refine (H2.out _ HF.out.1).mono ?_
    rintro e w2 ⟨a2, cap2, rfl, hb2, cs2, ho2⟩
    have k3 := (hb2.block _ (by omega)).trans HF.out.2.2
    have hbw := HF.out.1.trans (hb2.mono HF.out.1.size)
    have HG : Hid (_ ∧ _ ∧ _) := ⟨k3, hbw, ho2⟩
    clear t0 u0 y0 hb2
    obtain ⟨t0, u0⟩ := one_of k3
    clear k3 hbw ho2
    go_wp2_with fail
    have hE := endHeap HG.out.1 (by omega) (by omega) HG.out.2.1 HG.out.2.2
    clear t0 u0
    generalize World.setCell _ _ _ = W9 at hE ⊢
    have t0 := hE.1
    exact bodyPost_ret (v := .agg #[.slice a2 V.length cap2]) (by simp [results, Try.results13, go_sem, t0]) rfl ⟨a2, cap2, rfl, hE.2.1, cs2, hE.2.2⟩
  · obtain ⟨ds, hds⟩ := HF.out.2.1 rfl
    obtain ⟨i, rfl, hi, hVe, hpl, hun, hsm, hl4⟩ := HV3.out hks rfl
    obtain ⟨g, cap', rfl⟩ : ∃ g cap', v = .slice (some ⟨g, 0, none⟩) h.length cap' := by
      rcases hds.1.2 with ⟨_, e⟩ | ⟨g, cap', _, e, _⟩
      · omega
      · exact ⟨g, cap', e⟩
    have hcell : w1.cell? ⟨g, i, none⟩ = some (hV (ds i)) := ((hds.1).cellAt i (by omega)).trans (rowV_get ds h.length i hi)
    have hH := hds.2.1 i hi hi
    have C3 := iRemove w1 W0.heap.size h[i] (ds i) key hk hpl hun hH
    have C3A := fun (hT : (ds i).T = 126) => iRemoveA w1 W0.heap.size h[i] (ds i) key hk hpl hun hH hT
    have hVl : V.length = h.length := by rw [hVe, List.length_set]
    have HTN : Hid (∀ W' x', x' = delO h[i] key → Turned w1 W' W0.heap.size h[i] x' (ds i) → (∃ ds', AllW W' W0.heap.size (.slice (some ⟨g, 0, none⟩) h.length cap') V ds') ∧ ∀ B a, Below B a w1 → B ≤ W0.heap.size → B ≤ w1.heap.size → Below B a W') := fun W' x' hx' t => by
      have := hds.turn hi t
      rw [hx', ← hVe] at this
      exact this
    have hTT := hH.1
    rw [← hVe] at hsm
    have C4 := fun (W : World) (ds' : Nat → HC) (k : AllW W W0.heap.size (.slice (some ⟨g, 0, none⟩) h.length cap') V ds') => iToldAll W W0.heap.size (.slice (some ⟨g, 0, none⟩) h.length cap') V ds' (by omega) hsm k
    unfold hTy at hTT
    unfold hV at hcell
    have hi' : (i : Int) < (h.length : Int) := by omega
    generalize hxd : delO h[i] key = xd at *
    have H3 : Hid _ := C3
    have H3A : Hid _ := C3A
    have H4 : Hid _ := C4
    clear C3 C3A C4 hVe hsm hds hH hun H1 H2 HV1 HV2 HV3 hxd hVl
    generalize (ds i).b = bb at *
    generalize hTe : (ds i).T = TY at *
    clear hTe
    rcases hTT with ⟨rfl, -⟩ | ⟨rfl, -⟩
    all_goals
      go_wp2_with fail
      first | refine Calls.mono H3.out ?_ | refine Calls.mono (H3A.out trivial) ?_
      rintro e w2 ⟨r, rfl, ht⟩
      obtain ⟨⟨ds', hal⟩, hbb⟩ := HTN.out w2 xd rfl ht
      have hbx := hbb W0.heap.size w1 (Below.refl _ _) (Nat.le_refl _) hs1
      have hbw := hbb w.heap.size w HF.out.1 (by omega) (by omega)
      have k3 := (hbx.block _ (by omega)).trans HF.out.2.2
      have hs2 : W0.heap.size ≤ w2.heap.size := by have := hbx.size; omega
      have HG : Hid (_ ∧ _ ∧ _) := ⟨k3, hbw, hal⟩
      clear hbx hbw k3 hal hbb t0 u0 y0 ht
      go_wp2_with fail
      refine (H4.out _ _ HG.out.2.2).mono ?_
      rintro e w3 ⟨a2, cap2, rfl, hb3, cs2, ho2⟩
      have k3 := (hb3.block _ (by omega)).trans HG.out.1
      have hbw := HG.out.2.1.trans (hb3.mono (by omega))
      have HK : Hid (_ ∧ _ ∧ _) := ⟨k3, hbw, ho2⟩
      obtain ⟨t0, u0⟩ := one_of k3
      clear k3 hbw ho2 hb3
      go_wp2_with fail
      have hE := endHeap HK.out.1 (by omega) (by omega) HK.out.2.1 HK.out.2.2
      clear t0 u0
      generalize World.setCell _ _ _ = W9 at hE ⊢
      have t0 := hE.1
      exact bodyPost_ret (v := .agg #[.slice a2 V.length cap2]) (by simp [results, Try.results13, go_sem, t0]) rfl ⟨a2, cap2, rfl, hE.2.1, cs2, hE.2.2⟩

end Go.Proofs.Ytlmlmdmechhalaa

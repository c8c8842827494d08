/-
  The walk of the program's holdersOf.
-/
import Derived.Test.YtlmlmdmechhalaaHpG
namespace Go.Proofs.Ytlmlmdmechhalaa
open Go.RowKit
open Hp (PP OO propC rP kl encP putAll)

theorem Try.infoHolder : (Try.prog.info? 71).map (fun i => (i.zero, i.size, i.bytes)) = some (some .nilIface, 1, 16) := by kernel_rfl
/-- 'all = append(all, one)', all a slice of the call's own. -/
theorem app_holder {w : World} {ops : Array Oper} {rest : List Oper} {o : Oper} {a : Act} {Q : Exit → Act → World → Prop} (hgd : o.guard = none) (s x : Operand)
    (ho : o.op = .call { callee := .builtin .append, args := #[s, x], argTypes := #[65, 65] })
    (B : Nat) (v : Value) (n : Nat) (l : List Value) (hs : a.eval s = v) (hown : w.ownsRow B 71 1 v n l)
    (ad : Addr) (T : TypeId) (p : Value) (hx : a.eval x = .slice (some ad) 1 1) (hnews : ∀ j u, [Value.iface T p][j]? = some u → w.cell? (ad.add j) = some u)
    (hlen : n ≤ 1000000) (hB : B ≤ w.heap.size)
    (h : ∀ v' w', w'.ownsRow B 71 1 v' (n + 1) (l ++ [.iface T p]) → w.grownBy w' v.ownBlock → wpList Try.prog ops Q rest (a.put o.dst v') w') : wpList Try.prog ops Q (o :: rest) a w := by
  obtain ⟨i0, hi, hz0, hz1, hz2⟩ := info_parts Try.infoHolder
  exact wpList_append_own w hgd s x 65 ho B 71 i0 .nilIface 1 16 Try.underlying65 hi hz0 hz1 hz2 rfl (by decide) v n l hs hown ad 1 1 [.iface T p] hx rfl hnews
    (fun u hu => by simp only [List.mem_singleton] at hu; subst hu; rfl) (by unfold maxLen; omega) (by omega) hB (fun v' w' h1 h2 _ => h v' w' h1 h2)

set_option maxHeartbeats 4000000 in
set_option maxRecDepth 100000 in
theorem iHoldersOf (a : Option Addr) (cap B : Nat) (h : List OO) (cs : Nat → OC) (w : World) (hz : szH h ≤ 1048576) (hok : OkH h) (hh : HIn w B a h cs) :
    Calls Try.prog 46 #[.agg #[.slice a h.length cap]] w fun e w' => ∃ v, e = .returned (.tuple #[v, .bool (rightB h)]) ∧ Below w.heap.size w w' ∧ (rightB h = true → ∃ ds, AllAt w' w.heap.size v h h.length ds) := by
  have HF : Hid (¬ Hp.RightH h → rightB h = false) := rightB_f
  have HT : Hid (Hp.RightH h → rightB h = true) := rightB_t
  have hsz : ∀ x ∈ h, x.ps.length ≤ 1048576 := fun x hx => by
    obtain ⟨i, hi, rfl⟩ := List.getElem_of_mem hx
    have h1 : szPs h[i].ps ≤ (h.map fun o => szPs o.ps).sum := sum_mem (fun o : OO => szPs o.ps) h i hi
    unfold szH at hz
    have h2 : h[i].ps.length ≤ szPs h[i].ps := by unfold szPs; omega
    omega
  have HC : Hid (HIn w B a h cs ∧ (∀ x ∈ h, OkO x) ∧ (∀ x ∈ h, x.ps.length ≤ 1048576)) := ⟨hh, hok.2, hsz⟩
  have HB0 : Hid (∀ o, Below w.heap.size w (w.alloc o)) := fun o => (Below.refl _ _).alloc (Nat.le_refl _) o
  have hn := hok.1
  generalize rightB h = R at *
  clear hok hh hz hsz
  go_enter Try.func46, Try.ntmps46
  by_cases hbig : 400 < h.length
  · have hbig' : (400 : Int) < (h.length : Int) := by omega
    have hR : Hid (R = false) := HF.out fun k => by have := k.1; omega
    go_wp2_with fail
    exact bodyPost_ret (v := .tuple #[.slice none 0 0, .bool false]) (by simp [results, Try.results46, go_sem]) rfl (by rw [hR.out]; exact ⟨_, rfl, HB0.out _, fun e => by cases e⟩)
  have hbig' : ¬ (400 : Int) < (h.length : Int) := by omega
  go_wp2_with fail
  generalize hW0 : w.alloc _ = W0
  have hBW : Below w.heap.size w W0 := by rw [← hW0]; exact HB0.out _
  have hX0 : W0.heap[w.heap.size]? = some (.cells #[.slice a h.length cap] 25 (0, 0)) := by rw [← hW0]; exact heap_alloc_new _ _
  have hS0 : w.heap.size < W0.heap.size := by rw [← hW0]; simp
  clear hW0 HB0
  go_loopw [4, 16] (fun va vi wr => ∃ i : Nat, i ≤ h.length ∧ vi = .int .i64 i ∧ Below W0.heap.size W0 wr ∧ Hid ((∃ ds, AllAt wr W0.heap.size va h i ds) ∧ ∀ j (hj : j < h.length), j < i → Hp.RightO h.length j h[j])) (fun _ vi _ => h.length - (intOf vi).toNat)
  case atStart => exact ⟨0, Nat.zero_le _, rfl, Below.refl _ _, ⟨fun _ => ⟨0, 0, none, 0, 0, 0⟩, allAt_nil _ _ _ _⟩, fun j _ h => by omega⟩
  case round =>
    obtain ⟨i, hi, rfl, hb, HE⟩ := hrel
    obtain ⟨⟨ds, hALL⟩, -⟩ := HE.out
    obtain ⟨av, acap, rfl⟩ := own_shape hALL.1
    have HALL : Hid (AllAt wr W0.heap.size (.slice av i acap) h i ds) := hALL
    have hOL := hALL.1
    clear hALL
    have hx0 := World.cell?_of_block (a := ⟨w.heap.size, 0, none⟩) (hb.block _ hS0)
    have hx1 : W0.cell? ⟨w.heap.size, 0, none⟩ = some (.slice a h.length cap) := by simp [World.cell?, hX0]
    rw [hx1] at hx0
    clear hx1
    have hbw : Below w.heap.size w wr := hBW.trans (hb.mono hBW.size)
    by_cases hlt : i < h.length
    case neg =>
      have hlt' : ¬ (i : Int) < (h.length : Int) := by omega
      have hR : Hid (R = true) := HT.out ⟨by omega, fun j hj => HE.out.2 j hj (by omega)⟩
      have HBW : Hid (Below w.heap.size w wr) := hbw
      clear hbw hOL
      go_wp2_with fail
      refine bodyPost_ret (v := .tuple #[.slice av i acap, .bool true]) (by simp [results, Try.results46, go_sem]) rfl ?_
      have hR' := hR.out
      subst hR'
      have hil : i = h.length := by omega
      have hfin : ∃ ds, AllAt wr w.heap.size (.slice av i acap) h h.length ds := ⟨ds, by have := HALL.out.low (lo' := w.heap.size) hBW.size; rw [← hil]; exact this⟩
      first | exact ⟨_, rfl, HBW.out, fun _ => hfin⟩ | exact ⟨⟨_, rfl⟩, HBW.out, fun _ => hfin⟩
    have hlt' : (i : Int) < (h.length : Int) := by omega
    obtain ⟨⟨hos, hps⟩, hokk, hsz⟩ := HC.out
    rcases hos with rfl | ⟨b, o, rfl, hB, hc⟩
    · simp at hlt
    have h3 := (hc i hlt).keep hB (.of_below hbw B)
    have HPS : Hid (PsIn wr B (cs i).pa h[i].ps) := (hps i hlt).under hbw
    have HOK : Hid (OkO h[i] ∧ h[i].ps.length ≤ 1048576) := ⟨hokk _ (List.getElem_mem hlt), hsz _ (List.getElem_mem hlt)⟩
    have HX1 : Hid (¬ Hp.RightO h.length i h[i] → R = false) := fun k => HF.out fun hR => k (hR.2 i hlt)
    have HX2 : Hid (Hp.RightO h.length i h[i] → ∀ j (hj : j < h.length), j < i + 1 → Hp.RightO h.length j h[j]) := fun k j hj hji => by
      by_cases e : j = i
      · subst e; exact k
      · exact HE.out.2 j hj (by omega)
    have C1 := fun (W : World) (hW : Below wr.heap.size wr W) => iRightObject h[i] (cs i) i h.length B W HOK.out.1.1 (HPS.out.under hW)
    have C2 := fun (W : World) (hW : Below wr.heap.size wr W) => iHolderOf W h[i] (cs i) B HOK.out.2 HOK.out.1.2 (HPS.out.under hW)
    have HOB : Hid (objB h.length i h[i] = true → unlB h[i].ps = true → Hp.RightO h.length i h[i]) := fun h1 h2 => by
      obtain ⟨k1, k2, k3, k4, k5⟩ := (objB_iff _ _ _).1 h1
      exact ⟨k1, k2, k3, k4, k5, by unfold unlB at h2; simpa using h2⟩
    have HNB : Hid (objB h.length i h[i] = false → R = false) := fun e => HX1.out fun k => by
      have := (objB_iff h.length i h[i]).2 ⟨k.1, k.2.1, k.2.2.1, k.2.2.2.1, k.2.2.2.2.1⟩
      rw [e] at this; cases this
    have HNU : Hid (unlB h[i].ps = false → R = false) := fun e => HX1.out fun k => by
      have h5 := k.2.2.2.2.2
      unfold unlB at e; simp [h5] at e
    have HUN : Hid (unlB h[i].ps = true → Hp.Unlike h[i].ps) := fun e => by unfold unlB at e; simpa using e
    clear hps hokk hsz hc
    generalize objB h.length i h[i] = OB at *
    generalize unlB h[i].ps = UB at *
    generalize hxe : h[i] = x at *
    have HXE : Hid (h[i] = x) := hxe
    clear hxe
    generalize cs i = c at *
    obtain ⟨cls, pro, ps⟩ := x
    obtain ⟨h60, h61, h62⟩ := h3
    unfold objC at C1 C2
    dsimp only at h60 h61 h62 HPS HOK HX1 HX2 C1 C2 HUN
    have H1 : Hid _ := C1
    have H2 : Hid _ := C2
    have HBX : Hid (∀ o, Below wr.heap.size wr (wr.alloc o)) := fun o => (Below.refl _ _).alloc (Nat.le_refl _) o
    have HWR : Hid (_ ∧ _ ∧ _) := ⟨hb, hbw, hOL⟩
    have hws : w.heap.size < wr.heap.size := by have := hb.size; omega
    clear C1 C2 hb hbw hOL
    go_wp2_with fail
    generalize hWA : wr.alloc _ = wa
    have hBA : Below wr.heap.size wr wa := by rw [← hWA]; exact HBX.out _
    have hXA : wa.heap[wr.heap.size]? = some (.cells #[.int .i64 cls, .int .i64 pro, .slice c.pa ps.length c.pc] 76 (0, 0)) := by rw [← hWA]; exact heap_alloc_new _ _
    have hSA : wr.heap.size < wa.heap.size := by rw [← hWA]; simp
    clear hWA h60 h61 h62 HBX hx0
    refine (H1.out wa hBA).mono ?_
    rintro e w1 ⟨rfl, hb1⟩
    obtain ⟨hb, hbw, hOL⟩ := HWR.out
    have hX1 := (hb1.block _ hSA).trans hXA
    have hB1 : Below wr.heap.size wr w1 := hBA.trans (hb1.mono hBA.size)
    have hB1w : Below w.heap.size w w1 := hbw.trans (hB1.mono hbw.size)
    have HB1 : Hid (_ ∧ _) := ⟨hB1, hB1w⟩
    obtain ⟨d0, d1, d2⟩ := three_ofF hX1
    clear hX1 hXA hb1 hBA hB1 hB1w hb hbw hOL
    cases OB
    · have hR' := HNB.out rfl
      subst hR'
      go_wp2_with fail
      refine bodyPost_ret (v := .tuple #[.slice none 0 0, .bool false]) (by simp [results, Try.results46, go_sem]) rfl ?_
      first | exact ⟨_, rfl, HB1.out.2, fun e => by cases e⟩ | exact ⟨⟨_, rfl⟩, HB1.out.2, fun e => by cases e⟩
    go_wp2_with fail
    refine (H2.out w1 HB1.out.1).mono ?_
    rintro e w2 ⟨bb, m, a1, cap1, T, t, rfl, hb2, hty, hbb, hblk, hmap, hord, hmm⟩
    have HNEW : Hid (UB = true → HeldAt w2 w1.heap.size ⟨cls, pro, ps⟩ ⟨bb, m, a1, cap1, T, t⟩) := fun e => ⟨hty, hbb, hmm, hblk, ⟨ps.length, putAll ps, Nat.le_add_right _ _, hmap, Hp.putAll_reads (HUN.out e)⟩, hord⟩
    have hw1 : wr.heap.size ≤ w1.heap.size := HB1.out.1.size
    clear hty hbb hblk hmap hord hmm
    have hB2 : Below wr.heap.size wr w2 := HB1.out.1.trans (hb2.mono HB1.out.1.size)
    have hB2w : Below w.heap.size w w2 := HB1.out.2.trans (hb2.mono HB1.out.2.size)
    clear d0 d1 d2 hb2
    cases UB
    · have hR' := HNU.out rfl
      subst hR'
      have HB2 : Hid (Below w.heap.size w w2) := hB2w
      clear hB2 hB2w
      go_wp2_with fail
      refine bodyPost_ret (v := .tuple #[.slice none 0 0, .bool false]) (by simp [results, Try.results46, go_sem]) rfl ?_
      first | exact ⟨_, rfl, HB2.out, fun e => by cases e⟩ | exact ⟨⟨_, rfl⟩, HB2.out, fun e => by cases e⟩
    obtain ⟨hb, hbw, hOL⟩ := HWR.out
    have hOL2 : AllAt w2 W0.heap.size (.slice av i acap) h i ds := HALL.out.under hB2
    have hb02 : Below W0.heap.size W0 w2 := hb.trans (hB2.mono hb.size)
    have HFIN : Hid (_ ∧ _) := ⟨hOL2, hb02⟩
    have HNX : Hid (∀ j (hj : j < h.length), j < i + 1 → Hp.RightO h.length j h[j]) := HX2.out (HOB.out trivial rfl)
    have hs2 := hb02.size
    clear hb hbw hOL hOL2 hb02 hB2 hB2w
    go_wp2_with (refine app_holder rfl (.tmp 35) (.tmp 37) rfl W0.heap.size (.slice av i acap) i (rowV ds i) (by rfl) (World.ownsRow.alloc HFIN.out.1.1 _) ⟨w2.heap.size, 0, none⟩ T (.pointer (some ⟨bb, 0, none⟩)) (by rfl) (cell_one_new w2 _ 71) (by omega) (by simp; omega) ?_; intro v' w' hown' hgrow'; have hsh := own_shape hown'; obtain ⟨a2, cap2, rfl⟩ := hsh)
    obtain ⟨f1, f2⟩ := HFIN.out
    have hnew := HNEW.out trivial
    have hal : ∀ o, Below w2.heap.size w2 (w2.alloc o) := fun o => (Below.refl _ _).alloc (Nat.le_refl _) o
    have hend := AllAt.snoc (f1.under (hal _)) hlt (c := ⟨bb, m, a1, cap1, T, t⟩) (W := w1.heap.size) (by rw [HXE.out]; exact hnew.under (hal _)) (by have := HWR.out.1.size; omega) (fun j hj hji q hq => Nat.lt_of_lt_of_le (((HALL.out.2.1 j hj hji).mine hq).2) hw1) (fun q hq => (hnew.mine (by rw [HXE.out] at hq; exact hq)).1) hgrow' hown'
    exact ⟨⟨i + 1, by omega, by go_num, (f2.alloc f2.size _).grown hgrow' (by simp; omega) (fun q hq => (World.ownsRow.lt f1.1 q hq).1), ⟨_, hend⟩, HNX.out⟩, by simp [intOf]; omega⟩

end Go.Proofs.Ytlmlmdmechhalaa

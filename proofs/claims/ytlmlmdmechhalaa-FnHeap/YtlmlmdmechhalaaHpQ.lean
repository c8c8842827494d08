/-
  The walks of the program's keys and HeapKeys.
-/
import Derived.Test.YtlmlmdmechhalaaHpP
namespace Go.Proofs.Ytlmlmdmechhalaa
open Go.RowKit
open Hp (PP OO propC rP kl encP putAll)

theorem Try.mKeysH (b : Nat) (w : World) : (Go.method 271 135 (.pointer (some ⟨b, 0, none⟩)) "loop.example/g00317/impl.keys").run Try.prog w = .ok (109, .pointer (some ⟨b, 0, none⟩)) w := by kernel_rfl
theorem Try.mKeysA (b : Nat) (w : World) : (Go.method 271 126 (.pointer (some ⟨b, 0, none⟩)) "loop.example/g00317/impl.keys").run Try.prog w = .ok (109, .pointer (some ⟨b, 0, none⟩)) w := by kernel_rfl

theorem Try.fldHid (w : World) (a b c d : Value) (e f : Bool) : (Instr.field 78 (.agg #[a, b, c, d, .bool e, .bool f]) 2).run Try.prog w = .ok (.bool e) w := by kernel_rfl

theorem look_prop1 {w : World} {lo : Nat} {x : OO} {c : HC} (h : HeldAt w lo x c) (key : ByteArray) (hk : key.size ≤ 9223372036854775807) :
    (Instr.lookup 127 (.map (some c.m)) (.string key) false).run Try.prog w = .ok (.agg (propC ((x.ps.find? (Hp.same key)).getD Hp.zeroP))) w := by
  obtain ⟨h1, h2, h3, h4, ⟨n, D, h5, h6, h7⟩, h8⟩ := h
  have hkey := WideMaps.keyOf_string_mk (P := Try.prog) (k := 9) Try.underlying9 (s := key) (by unfold maxLen; omega)
  obtain ⟨v, ps, hrun, hv⟩ := h6.lookup keyedS Try.underlying127 (Try.zeroP w) (Hp.rP_mk Hp.zeroP) hkey
  rw [Hp.Reads.got h7 key hv] at hrun
  exact hrun
theorem find_at {ps : List PP} (hu : Hp.Unlike ps) (i : Nat) (hi : i < ps.length) : ps.find? (Hp.same ps[i].key) = some ps[i] := by
  rw [Hp.find_fi, Hp.fi_first hi rfl (fun j hj e => ?_)]
  · exact List.getElem?_eq_getElem hi
  · exact List.pairwise_iff_getElem.1 hu j i (by omega) hi hj e

/-- 'keys = append(keys, key)', keys a slice of the call's own. -/
theorem app_strL {w : World} {ops : Array Oper} {rest : List Oper} {o : Oper} {a : Act} {Q : Exit → Act → World → Prop} (hgd : o.guard = none) (s x : Operand)
    (ho : o.op = .call { callee := .builtin .append, args := #[s, x], argTypes := #[37, 37] })
    (B : Nat) (v : Value) (n : Nat) (l : List Value) (hs : a.eval s = v) (hown : w.ownsRow B 9 1 v n l)
    (ad : Addr) (key : ByteArray) (hx : a.eval x = .slice (some ad) 1 1) (hnews : ∀ j u, [Value.string key][j]? = some u → w.cell? (ad.add j) = some u)
    (hlen : n ≤ 3000000) (hB : B ≤ w.heap.size)
    (h : ∀ v' w', w'.ownsRow B 9 1 v' (n + 1) (l ++ [.string key]) → w.grownBy w' v.ownBlock → wpList Try.prog ops Q rest (a.put o.dst v') w') : wpList Try.prog ops Q (o :: rest) a w := by
  obtain ⟨i0, hi, hz0, hz1, hz2⟩ := info_parts Try.infoStr
  exact wpList_append_own w hgd s x 37 ho B 9 i0 (.string ByteArray.empty) 1 16 Try.underlying37 hi hz0 hz1 hz2 rfl (by decide) v n l hs hown ad 1 1 [.string key] hx rfl hnews
    (fun u hu => by simp only [List.mem_singleton] at hu; subst hu; rfl) (by unfold maxLen; omega) (by omega) hB (fun v' w' h1 h2 _ => h v' w' h1 h2)

/-- A row of texts of the call's own. -/
def SRow (w : World) (B : Nat) (v : Value) (l : List ByteArray) : Prop := w.ownsRow B 9 1 v l.length (l.map Value.string)
theorem SRow.under {w w' : World} {B : Nat} {v : Value} {l : List ByteArray} (h : SRow w B v l) (hb : Below w.heap.size w w') : SRow w' B v l := row_same h fun q hq => hb.block q (World.ownsRow.lt h q hq).2
theorem keysPs_take (ps : List PP) (i : Nat) (hi : i < ps.length) : Hp.keysPs (ps.take (i + 1)) = Hp.keysPs (ps.take i) ++ (if ps[i].hid then [] else [ps[i].key]) := by
  unfold Hp.keysPs
  rw [List.take_succ_eq_append_getElem hi, List.filter_append, List.map_append]
  cases hh : ps[i].hid <;> simp [hh]
theorem keysPs_le (ps : List PP) : (Hp.keysPs ps).length ≤ ps.length := by
  unfold Hp.keysPs
  rw [List.length_map]
  exact List.length_filter_le _ _

set_option maxHeartbeats 4000000 in
set_option maxRecDepth 100000 in
theorem iKeys (w : World) (lo : Nat) (x : OO) (c : HC) (hn : x.ps.length ≤ 1048576) (hks : ∀ p ∈ x.ps, p.key.size ≤ 1048576) (hu : Hp.Unlike x.ps) (h : HeldAt w lo x c) :
    Calls Try.prog 109 #[.pointer (some ⟨c.b, 0, none⟩)] w fun e w' => ∃ v, e = .returned v ∧ Below w.heap.size w w' ∧ SRow w' w.heap.size v (Hp.keysPs x.ps) := by
  have HH : Hid (HeldAt w lo x c ∧ Hp.Unlike x.ps ∧ (∀ p ∈ x.ps, p.key.size ≤ 1048576)) := ⟨h, hu, hks⟩
  have hfld := Try.fldHid
  obtain ⟨⟨c0, c1, c2, c3⟩, -⟩ := four_of h.2.2.2.1
  have hbl := (h.mine (.inl rfl)).2
  clear h hu hks
  go_enter Try.func109, Try.ntmps109
  go_wp2_with fail
  go_loopw [3, 11] (fun vk vi wr => ∃ i : Nat, i ≤ x.ps.length ∧ vi = .int .i64 i ∧ Hid (Below w.heap.size w wr ∧ SRow wr w.heap.size vk (Hp.keysPs (x.ps.take i)))) (fun _ vi _ => x.ps.length - (intOf vi).toNat)
  case atStart => exact ⟨0, Nat.zero_le _, rfl, Below.refl _ _, World.ownsRow_nil _ _ _ _⟩
  case round =>
    obtain ⟨i, hi, rfl, HE⟩ := hrel
    obtain ⟨av, acap, rfl⟩ := own_shape HE.out.2
    by_cases hlt : i < x.ps.length
    case neg =>
      have hlt' : ¬ (i : Int) < (x.ps.length : Int) := by omega
      have HFF : Hid (SRow wr w.heap.size (.slice av (Hp.keysPs (x.ps.take i)).length acap) (Hp.keysPs x.ps)) := by
        have := HE.out.2
        rw [List.take_of_length_le (by omega)] at this ⊢
        exact this
      go_wp2_with fail
      go_ret
      first | exact ⟨_, rfl, HE.out.1, HFF.out⟩ | exact ⟨⟨_, rfl⟩, HE.out.1, HFF.out⟩
    have hlt' : (i : Int) < (x.ps.length : Int) := by omega
    have hH : HeldAt wr lo x c := HH.out.1.under HE.out.1
    obtain ⟨g, hca, hcell, hcell1⟩ := hH.ord i hlt
    have hks := HH.out.2.2 _ (List.getElem_mem hlt)
    have htk := keysPs_take x.ps i hlt
    have HLE : Hid ((Hp.keysPs (x.ps.take i)).length ≤ 1048576) := Nat.le_trans (keysPs_le _) (by simp; omega)
    have hwz := HE.out.1.size
    have HAL : Hid (∀ o, Below wr.heap.size wr (wr.alloc o)) := fun o => (Below.refl _ _).alloc (Nat.le_refl _) o
    have hgl := World.block_lt_of_cell? wr _ hcell
    clear hH c0 c1 c2 c3
    rw [hca]
    generalize x.ps[i] = p at *
    obtain ⟨pk, ⟨p1, p2, p3⟩, p4, p5⟩ := p
    dsimp only at hcell hcell1 hks htk
    cases p4
    · have HTK : Hid _ := htk
      clear htk
      go_wp2_with fail
      refine (iClone pk _ hks).mono ?_
      rintro e w1 ⟨rfl, hb1⟩
      have hb1' := (HAL.out (.cells #[.string pk, .bool false] 147)).trans (hb1.mono (HAL.out _).size)
      have hS1 := HE.out.2.under hb1'
      have hbw1 := HE.out.1.trans (hb1'.mono hwz)
      have hw1 := hbw1.size
      have HF : Hid (_ ∧ _) := ⟨hS1, hbw1⟩
      clear hS1 hbw1 hb1 hb1' hcell hcell1
      go_wp2_with (refine app_strL rfl (.tmp 18) (.tmp 22) rfl w.heap.size _ _ _ (by rfl) (World.ownsRow.alloc HF.out.1 _) ⟨w1.heap.size, 0, none⟩ pk (by rfl) (cell_one_new w1 _ 9) (by have := HLE.out; omega) (by simp; omega) ?_; intro v' w' hown' hgrow'; have hsh := own_shape hown'; obtain ⟨a2, cap2, rfl⟩ := hsh)
      have hfin : SRow w' w.heap.size (.slice a2 ((Hp.keysPs (x.ps.take i)).length + 1) cap2) (Hp.keysPs (x.ps.take (i + 1))) := by
        rw [HTK.out]
        unfold SRow
        simp only [Bool.false_eq_true, if_false, List.length_append, List.length_singleton, List.map_append, List.map_cons, List.map_nil]
        exact hown'
      exact ⟨⟨i + 1, by omega, by go_num, (HF.out.2.alloc HF.out.2.size _).grown hgrow' (by simp; omega) (fun q hq => (World.ownsRow.lt HF.out.1 q hq).1), hfin⟩, by simp [intOf]; omega⟩
    · have HS : Hid (∀ o, Below w.heap.size w (wr.alloc o) ∧ SRow (wr.alloc o) w.heap.size (.slice av (Hp.keysPs (x.ps.take i)).length acap) (Hp.keysPs (x.ps.take (i + 1)))) := fun o => by
        have : Hp.keysPs (x.ps.take (i + 1)) = Hp.keysPs (x.ps.take i) := by rw [htk]; simp
        rw [this]; exact ⟨HE.out.1.trans ((HAL.out o).mono hwz), HE.out.2.under (HAL.out o)⟩
      clear htk
      go_wp2_with fail
      exact ⟨⟨i + 1, by omega, by go_num, HS.out _⟩, by simp [intOf]; omega⟩

/-- What HeapKeys tells. -/
noncomputable def Hp.keysV (h : List OO) (ref : Int) : List ByteArray := if Hp.refB h ref then Hp.keysPs (((h[ref.toNat]?).map OO.ps).getD []) else []
theorem Hp.keysV_no {h : List OO} {ref : Int} (k : Hp.refB h ref = false) : Hp.keysV h ref = [] := by unfold Hp.keysV; rw [k]; rfl
theorem Hp.keysV_yes {h : List OO} {i : Nat} (k : Hp.refB h i = true) (hi : i < h.length) : Hp.keysV h i = Hp.keysPs h[i].ps := by unfold Hp.keysV; rw [k]; simp [hi]

set_option maxHeartbeats 4000000 in
theorem iHeapKeys (a : Option Addr) (cap B : Nat) (h : List OO) (cs : Nat → OC) (ref : Int) (w : World) (hz : szH h ≤ 1048576) (hok : OkH h) (hh : HIn w B a h cs) :
    Calls Try.prog 22 #[.agg #[.slice a h.length cap], .int .i64 ref] w fun e w' => ∃ v, e = .returned v ∧ Below w.heap.size w w' ∧ SRow w' w.heap.size v (Hp.keysV h ref) := by
  have C1 := fun (W : World) (hW : Below w.heap.size w W) => iHoldersWith a cap B h cs ref W hz hok (hh.under hW)
  have HB0 : Hid (∀ o, Below w.heap.size w (w.alloc o)) := fun o => (Below.refl _ _).alloc (Nat.le_refl _) o
  have HV2 : Hid (Hp.refB h ref = false → Hp.keysV h ref = []) := fun k => Hp.keysV_no k
  have HV3 : Hid (Hp.refB h ref = true → ∃ i : Nat, ref = i ∧ ∃ hi : i < h.length, Hp.keysV h ref = Hp.keysPs h[i].ps ∧ h[i].ps.length ≤ 1048576 ∧ (∀ p ∈ h[i].ps, p.key.size ≤ 1048576) ∧ Hp.Unlike h[i].ps ∧ h.length ≤ 400) := fun k => by
    obtain ⟨hr, h0, h1⟩ := Hp.refB_iff.1 k
    obtain ⟨i, rfl⟩ : ∃ i : Nat, ref = i := ⟨ref.toNat, by omega⟩
    have hi : i < h.length := by omega
    refine ⟨i, rfl, hi, Hp.keysV_yes k hi, ?_, fun p hp => ?_, (hr.2 i hi).2.2.2.2.2, hr.1⟩
    · have h1 : szPs h[i].ps ≤ (h.map fun o => szPs o.ps).sum := sum_mem (fun o : OO => szPs o.ps) h i hi
      have h2 : h[i].ps.length ≤ szPs h[i].ps := by unfold szPs; omega
      unfold szH at hz
      omega
    · obtain ⟨j, hj, rfl⟩ := List.getElem_of_mem hp
      exact (szP_le hz hi hj).1
  have m1 := Try.mKeysH
  have m2 := Try.mKeysA
  generalize Hp.keysV h ref = V at *
  generalize Hp.refB h ref = RB at *
  have H1 : Hid _ := C1
  clear C1 hok hh hz
  go_enter Try.func22, Try.ntmps22
  go_wp2_with fail
  refine (H1.out _ (HB0.out _)).mono ?_
  rintro e w1 ⟨v, rfl, hb1, hall⟩
  have hbf := (HB0.out (.cells #[.slice a h.length cap] 25)).trans (hb1.mono (HB0.out _).size)
  have HF : Hid (_ ∧ _) := ⟨hbf, hall⟩
  clear hbf hall hb1
  cases RB
  · have hV := HV2.out rfl
    subst hV
    go_wp2_with fail
    go_ret
    first | exact ⟨_, rfl, HF.out.1, World.ownsRow_nil _ _ _ _⟩ | exact ⟨⟨_, rfl⟩, HF.out.1, World.ownsRow_nil _ _ _ _⟩
  · obtain ⟨ds, hds⟩ := HF.out.2 rfl
    obtain ⟨i, rfl, hi, rfl, hpl, hks, hun, hl4⟩ := HV3.out rfl
    obtain ⟨g, cap', rfl⟩ : ∃ g cap', v = .slice (some ⟨g, 0, none⟩) h.length cap' := by
      rcases hds.1.2 with ⟨_, e⟩ | ⟨g, cap', _, e, _⟩
      · omega
      · exact ⟨g, cap', e⟩
    have hcell : w1.cell? ⟨g, i, none⟩ = some (hV (ds i)) := ((hds.1).cellAt i (by omega)).trans (rowV_get ds h.length i hi)
    have hH := hds.2.1 i hi hi
    have C2 := fun (W : World) (hW : Below w1.heap.size w1 W) => iKeys W _ h[i] (ds i) hpl hks hun (hH.under hW)
    have H2 : Hid _ := C2
    have hTT := hH.1
    unfold hTy at hTT
    unfold hV at hcell
    have hi' : (i : Int) < (h.length : Int) := by omega
    have hw1 := HF.out.1.size
    clear C2 hH hds hks hun
    generalize (ds i).b = bb at *
    generalize (ds i).T = T at *
    rcases hTT with ⟨rfl, -⟩ | ⟨rfl, -⟩
    all_goals
      go_wp2_with fail
      refine (H2.out _ (Below.refl _ _)).mono ?_
      rintro e w2 ⟨v2, rfl, hb2, hs2⟩
      have HF2 : Hid (_ ∧ _) := ⟨HF.out.1.trans (hb2.mono hw1), (World.ownsRow.mono hs2 hw1 : SRow w2 w.heap.size v2 (Hp.keysPs h[i].ps))⟩
      clear hb2 hs2
      go_wp2_with fail
      go_ret
      first | exact HF2.out | exact ⟨v2, rfl, HF2.out.1, HF2.out.2⟩ | exact ⟨_, rfl, HF2.out.1, HF2.out.2⟩

end Go.Proofs.Ytlmlmdmechhalaa

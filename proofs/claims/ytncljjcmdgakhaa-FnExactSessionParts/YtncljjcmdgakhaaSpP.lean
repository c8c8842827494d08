/-
  The walks of the specification's l08Parts and SessionParts.
-/
import Derived.Test.YtncljjcmdgakhaaSpS
namespace Go.Proofs.Ytncljjcmdgakhaa
open Go.RowKit

/-- An append onto a row of texts of the call's own; where the new row lies. -/
theorem app_strA {w : World} {ops : Array Oper} {rest : List Oper} {o : Oper} {a : Act} {Q : Exit → Act → World → Prop} (hgd : o.guard = none) (s x : Operand)
    (ho : o.op = .call { callee := .builtin .append, args := #[s, x], argTypes := #[22, 22] })
    (B : Nat) (v : Value) (l : List ByteArray) (hs : a.eval s = v) (hown : SRow w B v l)
    (ad : Addr) (key : ByteArray) (hx : a.eval x = .slice (some ad) 1 1) (hnews : ∀ j u, [Value.string key][j]? = some u → w.cell? (ad.add j) = some u)
    (hlen : l.length ≤ 3000000) (hB : B ≤ w.heap.size)
    (h : ∀ v' w', SRow w' B v' (l ++ [key]) → w.grownBy w' v.ownBlock → (v'.ownBlock = v.ownBlock ∨ v'.ownBlock = some w.heap.size) → wpList Try.prog ops Q rest (a.put o.dst v') w') : wpList Try.prog ops Q (o :: rest) a w := by
  obtain ⟨i0, hi, hz0, hz1, hz2⟩ := info_parts Try.infoStr
  exact wpList_append_own_at w hgd s x 22 ho B 9 i0 (.string ByteArray.empty) 1 16 Try.underlying22 hi hz0 hz1 hz2 rfl (by decide) v l.length (l.map Value.string) hs hown ad 1 1 [.string key] hx rfl hnews
    (fun u hu => by simp only [List.mem_singleton] at hu; subst hu; rfl) (by unfold maxLen; omega) (by omega) hB (fun v' w' h1 h2 _ h3 => h v' w' (SRow.snoc h1) h2 h3)

theorem ext_size (s : ByteArray) (f i : Nat) : (s.extract f i).size ≤ s.size := by rw [ByteArray.size_extract]; omega
theorem splitL_each (s : ByteArray) : ∀ (n f i : Nat), s.size - i = n → ∀ x ∈ splitL s f i, x.size ≤ s.size
  | 0, f, i, h => by rw [splitL_end s f i (by omega)]; intro x hx; rw [List.mem_singleton] at hx; subst hx; exact ext_size _ _ _
  | n + 1, f, i, h => by
    have hlt : i < s.size := by omega
    by_cases h10 : s[i].toNat = 10
    · rw [splitL_cut s f i hlt h10]
      intro x hx
      rcases List.mem_cons.1 hx with rfl | hx
      · exact ext_size _ _ _
      · exact splitL_each s n (i + 1) (i + 1) (by omega) x hx
    · rw [splitL_on s f i hlt h10]
      exact splitL_each s n f (i + 1) (by omega)
theorem splitL_ne (s : ByteArray) : ∀ (n f i : Nat), s.size - i = n → splitL s f i ≠ []
  | 0, f, i, h => by rw [splitL_end s f i (by omega)]; simp
  | n + 1, f, i, h => by
    have hlt : i < s.size := by omega
    by_cases h10 : s[i].toNat = 10
    · rw [splitL_cut s f i hlt h10]; simp
    · rw [splitL_on s f i hlt h10]; exact splitL_ne s n f (i + 1) (by omega)
theorem dashes_list : dashes.toList = [45, 45, 45] := by simp [dashes, ByteArray.toList_eq]
theorem bytes_inj {a b : ByteArray} (h : a.toList = b.toList) : a = b := by
  rw [ByteArray.toList_eq, ByteArray.toList_eq] at h
  cases a; cases b; simpa using h
theorem bytes_ne {a b : ByteArray} (h : ¬ a = b) : (a.toList != b.toList) = true ∧ (a.toList == b.toList) = false ∧ ¬ a.toList = b.toList := by
  have : ¬ a.toList = b.toList := fun e => h (bytes_inj e)
  simp [this]

set_option maxHeartbeats 4000000 in
set_option maxRecDepth 100000 in
theorem sParts (s : ByteArray) (w : World) (hs : s.size ≤ 4000) :
    Calls Try.prog 9 #[.string s] w fun e w' => ∃ v, e = .returned v ∧ Below w.heap.size w w' ∧ SRow w' w.heap.size v (partsV s) := by
  have HB0 : Hid (∀ o, Below w.heap.size w (w.alloc o)) := fun o => (Below.refl _ _).alloc (Nat.le_refl _) o
  have HE0 : Hid (SRow (w.alloc (.cells #[] 9)) w.heap.size (.slice (some ⟨w.heap.size, 0, none⟩) 0 0) []) := row_empty w 9 w.heap.size (Nat.le_refl _)
  have HSP : Hid (∀ W, Calls Try.prog 12 #[.string s, .int .u8 10] W fun e w' => ∃ v, e = .returned v ∧ Below W.heap.size W w' ∧ SRow w' W.heap.size v (splitL s 0 0)) := fun W => sSplit s W (by omega)
  have HCU : Hid (∀ t W, t.size ≤ 100000000 → Calls Try.prog 13 #[.string t] W fun e w' => e = .returned (.string (cutT t)) ∧ w' = W) := fun t W ht => sCut t W ht
  obtain ⟨LL, hLL⟩ : ∃ LL, LL = splitL s 0 0 := ⟨_, rfl⟩
  have hLen : LL.length ≤ 4001 := by rw [hLL]; have := splitL_len s s.size 0 0 rfl; omega
  have HEA : Hid (∀ x ∈ LL, x.size ≤ 4000) := fun x hx => by rw [hLL] at hx; have := splitL_each s s.size 0 0 rfl x hx; omega
  have HNE : Hid (LL ≠ []) := by rw [hLL]; exact splitL_ne s s.size 0 0 rfl
  obtain ⟨V, hV⟩ : ∃ V, V = partsV s := ⟨_, rfl⟩
  have HV : Hid (V = partsG LL ⟨#[]⟩) := by show _ = _; rw [hV, hLL]; rfl
  rw [← hV]
  rw [← hLL] at HSP
  clear hV hLL hs
  go_enter Try.func9, Try.ntmps9
  go_wp2_with fail
  refine (HSP.out _).mono ?_
  rintro e W1 ⟨lv, rfl, hb1, hrow⟩
  obtain ⟨la, lc, rfl⟩ := hrow.shape
  have hw1 := hb1.size
  have hE1 := HE0.out.under hb1
  have HW1 : Hid (Below w.heap.size w W1 ∧ SRow W1 w.heap.size (.slice (some ⟨w.heap.size, 0, none⟩) 0 0) [] ∧ w.heap.size + 1 ≤ W1.heap.size) := ⟨(HB0.out _).trans (hb1.mono (by simp)), hE1, by simpa using hw1⟩
  obtain ⟨gl, rfl, hrc⟩ := hrow.cells.resolve_left HNE.out
  have hgl := World.ownsRow.lt hrow gl rfl
  have HLC : Hid (w.heap.size + 1 ≤ gl ∧ gl < W1.heap.size ∧ ∀ i (hi : i < LL.length), W1.cell? ⟨gl, i, none⟩ = some (.string LL[i])) := ⟨by have := hgl.1; simpa using this, hgl.2, hrc⟩
  clear hrow hrc hgl hE1 hb1 hw1 HSP HE0 HB0
  go_wp2_with fail
  go_loopw [3, 5, 6] (fun vo vt vi wr => ∃ (k : Nat) (l : List ByteArray) (tt : ByteArray), k ≤ LL.length ∧ l.length ≤ k ∧ tt.size ≤ k * 4001 ∧ vt = .string tt ∧ vi = .int .i64 k ∧ Hid (Below w.heap.size w wr ∧ SRow wr w.heap.size vo l ∧ V = l ++ partsG (LL.drop k) tt ∧ vo.ownBlock ≠ some gl ∧ wr.heap[gl]? = W1.heap[gl]? ∧ W1.heap.size ≤ wr.heap.size)) (fun _ _ vi _ => LL.length - (intOf vi).toNat)
  case atStart =>
    exact ⟨0, [], ⟨#[]⟩, Nat.zero_le _, by simp, Nat.le_refl _, rfl, rfl, HW1.out.1, HW1.out.2.1, HV.out, fun e => by have := HLC.out.1; simp [Value.ownBlock] at e; omega, rfl, Nat.le_refl _⟩
  case round =>
    obtain ⟨k, l, tt, hk, hl, htt, rfl, rfl, HE⟩ := hrel
    obtain ⟨av, acap, rfl⟩ := HE.out.2.1.shape
    have hwz := HE.out.1.size
    have hglr : gl < wr.heap.size := by have := HLC.out.2.1; have := HE.out.2.2.2.2.2; omega
    by_cases hlt : k < LL.length
    · have hlt' : (k : Int) < (LL.length : Int) := by omega
      have hcell : wr.cell? ⟨gl, k, none⟩ = some (.string LL[k]) := by
        rw [World.cell?_of_block (w := W1) HE.out.2.2.2.2.1]; exact HLC.out.2.2 k hlt
      have hdrop : LL.drop k = LL[k] :: LL.drop (k + 1) := List.drop_eq_getElem_cons hlt
      have hlsz := HEA.out _ (List.getElem_mem hlt)
      have HDR : Hid (LL.drop k = LL[k] :: LL.drop (k + 1)) := hdrop
      clear hdrop
      by_cases hd : LL[k] = dashes
      · have HN : Hid (V = (l ++ [cutT tt]) ++ partsG (LL.drop (k + 1)) ⟨#[]⟩) := by
          show _ = _
          rw [HE.out.2.2.1, HDR.out, partsG, if_pos hd]; simp
        rw [hd] at hcell
        unfold dashes at hcell
        clear hd hlsz
        go_wp2_with fail
        refine (HCU.out tt wr (by omega)).mono ?_
        rintro e w2 ⟨rfl, rfl⟩
        go_wp2_with (refine app_strA rfl (.tmp 21) (.tmp 24) rfl w.heap.size _ _ (by rfl) (World.ownsRow.alloc HE.out.2.1 _) ⟨w2.heap.size, 0, none⟩ (cutT tt) (by rfl) (cell_one_new w2 _ 9) (by omega) (by simp; omega) ?_; intro v' w' hown' hgrow' hat')
        have hne : v'.ownBlock ≠ some gl := by
          rcases hat' with e | e
          · rw [e]; exact HE.out.2.2.2.1
          · rw [e]; intro h; simp at h; omega
        have hsm : w'.heap[gl]? = W1.heap[gl]? := ((hgrow'.block gl (by simp; omega) (fun e => HE.out.2.2.2.1 e.symm)).trans (Below.heap_alloc _ _ _ hglr)).trans HE.out.2.2.2.2.1
        have hsz : W1.heap.size ≤ w'.heap.size := by have h1 := hgrow'.size; simp at h1; have h2 := HE.out.2.2.2.2.2; omega
        exact ⟨⟨k + 1, l ++ [cutT tt], ⟨#[]⟩, by omega, by simp; omega, Nat.zero_le _, rfl, by go_num, HE.out.2.1.grown HE.out.1 hwz hgrow', hown', HN.out, hne, hsm, hsz⟩, by simp [intOf]; omega⟩
      · obtain ⟨y1, y2, y3⟩ := bytes_ne hd
        rw [dashes_list] at y1 y2 y3
        by_cases hlast : k < LL.length - 1
        · have hlast' : (k : Int) < (LL.length : Int) - 1 := by omega
          have HN : Hid (V = l ++ partsG (LL.drop (k + 1)) (tt ++ LL[k] ++ feed)) := by
            show _ = _
            rw [HE.out.2.2.1, HDR.out, partsG, if_neg hd, if_neg (fun e => by have := congrArg List.length e; simp at this; omega)]
          have HSZ : Hid ((tt ++ LL[k] ++ feed).size ≤ (k + 1) * 4001) := by show _ ≤ _; have hf : feed.size = 1 := rfl; simp only [ByteArray.size_append, hf]; omega
          go_wp2_with fail
          exact ⟨⟨k + 1, l, tt ++ LL[k] ++ feed, by omega, by omega, HSZ.out, rfl, by go_num, HE.out.1, HE.out.2.1, HN.out, HE.out.2.2.2⟩, by simp [intOf]; omega⟩
        · have hlast' : ¬ (k : Int) < (LL.length : Int) - 1 := by omega
          have HN : Hid (V = l ++ partsG (LL.drop (k + 1)) (tt ++ LL[k])) := by
            show _ = _
            rw [HE.out.2.2.1, HDR.out, partsG, if_neg hd, if_pos (List.drop_eq_nil_of_le (by omega))]
          have HSZ : Hid ((tt ++ LL[k]).size ≤ (k + 1) * 4001) := by show _ ≤ _; simp [ByteArray.size_append]; omega
          go_wp2_with fail
          exact ⟨⟨k + 1, l, tt ++ LL[k], by omega, by omega, HSZ.out, rfl, by go_num, HE.out.1, HE.out.2.1, HN.out, HE.out.2.2.2⟩, by simp [intOf]; omega⟩
    · have hlt' : ¬ (k : Int) < (LL.length : Int) := by omega
      have HN : Hid (V = l ++ [tt]) := by
        show _ = _
        rw [HE.out.2.2.1, List.drop_eq_nil_of_le (by omega), partsG]
      go_wp2_with (refine app_strA rfl (.tmp 39) (.tmp 41) rfl w.heap.size _ _ (by rfl) (World.ownsRow.alloc HE.out.2.1 _) ⟨wr.heap.size, 0, none⟩ tt (by rfl) (cell_one_new wr _ 9) (by omega) (by simp; omega) ?_; intro v' w' hown' hgrow' hat')
      go_ret
      exact ⟨_, rfl, HE.out.2.1.grown HE.out.1 hwz hgrow', by rw [HN.out]; exact hown'⟩

theorem partsG_len : ∀ (l : List ByteArray) (t : ByteArray), (partsG l t).length ≤ l.length + 1
  | [], t => by rw [partsG]; simp
  | x :: r, t => by
    rw [partsG]
    split
    · have := partsG_len r ⟨#[]⟩; simp; omega
    · have := partsG_len r (if r = [] then t ++ x else t ++ x ++ feed); simp; omega

set_option maxHeartbeats 2000000 in
theorem sSession (s : ByteArray) (w : World) (hs : s.size ≤ 1048576) :
    Calls Try.prog 4 #[.string s] w fun e w' => ∃ v, e = .returned v ∧ Below w.heap.size w w' ∧ SRow w' w.heap.size v (sessionV s) := by
  have HB0 : Hid (∀ o, Below w.heap.size w (w.alloc o)) := fun o => (Below.refl _ _).alloc (Nat.le_refl _) o
  have HE0 : Hid (∀ (W : World), w.heap.size ≤ W.heap.size → SRow (W.alloc (.cells #[] 9)) w.heap.size (.slice (some ⟨W.heap.size, 0, none⟩) 0 0) []) := fun W h => row_empty W 9 w.heap.size h
  by_cases h4 : 4000 < s.size
  · have e : sessionV s = [] := by unfold sessionV; rw [if_pos h4]
    rw [e]
    have h4' : (4000 : Int) < (s.size : Int) := by omega
    clear e
    go_enter Try.func4, Try.ntmps4
    go_wp2_with fail
    go_ret
    exact ⟨_, rfl, HB0.out _, HE0.out _ (Nat.le_refl _)⟩
  have h4' : ¬ (4000 : Int) < (s.size : Int) := by omega
  have HP : Hid (∀ W, Calls Try.prog 9 #[.string s] W fun e w' => ∃ v, e = .returned v ∧ Below W.heap.size W w' ∧ SRow w' W.heap.size v (partsV s)) := fun W => sParts s W (by omega)
  have e : sessionV s = if 10 < (partsV s).length then [] else partsV s := by unfold sessionV; rw [if_neg h4]
  rw [e]
  clear e
  generalize partsV s = V at *
  obtain ⟨Z, hZ⟩ : ∃ Z, Z = if 10 < V.length then [] else V := ⟨_, rfl⟩
  rw [← hZ]
  have HZ : Hid (Z = if 10 < V.length then [] else V) := hZ
  clear hZ
  go_enter Try.func4, Try.ntmps4
  go_wp2_with fail
  refine (HP.out _).mono ?_
  rintro e W1 ⟨v, rfl, hb1, hrow⟩
  obtain ⟨av, ac, rfl⟩ := hrow.shape
  have hw1 := hb1.size
  have HR : Hid (SRow W1 w.heap.size (.slice av V.length ac) V) := hrow
  clear hrow
  by_cases h10 : 10 < V.length
  · have h10' : (10 : Int) < (V.length : Int) := by omega
    go_wp2_with fail
    go_ret
    exact ⟨_, rfl, hb1.alloc hw1 _, by rw [HZ.out, if_pos h10]; exact HE0.out W1 hw1⟩
  · have h10' : ¬ (10 : Int) < (V.length : Int) := by omega
    go_wp2_with fail
    go_ret
    exact ⟨_, rfl, hb1, by rw [HZ.out, if_neg h10]; exact HR.out⟩
theorem sessionV_len (s : ByteArray) : (sessionV s).length ≤ 10 := by
  unfold sessionV
  split
  · simp
  · split
    · simp
    · omega

end Go.Proofs.Ytncljjcmdgakhaa

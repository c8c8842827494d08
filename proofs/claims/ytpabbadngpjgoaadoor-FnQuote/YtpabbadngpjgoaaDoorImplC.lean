/-
  The walks of impl's digitsNumber and unquote.
-/
import Derived.Test.YtpabbadngpjgoaaDoorImplB
namespace Go.Proofs.YtpabbadngpjgoaaDoor
open Go.RowKit

set_option maxHeartbeats 1000000 in
theorem iDigits (r : ByteArray) (w : World) (hs : r.size ≤ 15) (hd : ∀ c ∈ r.data.toList, Lex.digB (c.toNat : Int) = true) :
    Calls Tryd.prog 39 #[.string r] w fun e w' => e = .returned (.int .i64 (Lex.numL r.data.toList)) ∧ w = w' := by
  go_enter Tryd.func39, Tryd.ntmps39
  go_wp2
  go_loop [3, 7] (fun n i => ∃ k : Nat, k ≤ r.size ∧ i = .int .i64 k ∧ n = .int .i64 (Lex.numL (r.data.toList.take k))) (fun _ i => r.size - (intOf i).toNat)
  case atStart => exact ⟨0, Nat.zero_le _, rfl, rfl⟩
  case round =>
    obtain ⟨k, hk, rfl, rfl⟩ := hrel
    have hbd := Lex.numL_bd (r.data.toList.take k) (fun c hc => hd c (List.mem_of_mem_take hc)) (by rw [List.length_take]; omega)
    by_cases hlt : k < r.size
    · have hc : Lex.digB (r[k].toNat : Int) = true := hd r[k] (List.getElem_mem (h := by simpa using hlt))
      have hc2 := of_decide_eq_true hc
      obtain ⟨hc3, hc4⟩ := hc2
      have HS : Hid (Lex.numL (r.data.toList.take (k + 1)) = Lex.numL (r.data.toList.take k) * 10 + ((r[k].toNat : Int) - 48)) := by
        show _ = _; rw [Lex.take_snoc r k hlt, Lex.numL_snoc]
      clear hd hc
      go_wp2
      go_round
      case rel => exact ⟨k + 1, by omega, by go_num, by rw [HS.out]⟩
      case measure => simp [intOf]; omega
    · clear hd
      go_wp2
      go_ret
      exact ⟨ret_i64 (by rw [List.take_of_length_le (by simp; omega)]), rfl⟩

theorem hidV_b (s : ByteArray) (j : Nat) (h : Lex.bAt s j = 92) : ((Lex.hidV s j).toNat : Int) = Lex.hidB (Lex.bAt s (j + 1)) := by
  unfold Lex.hidV; rw [if_pos h]
  have hb := Lex.bAt_bd s (j + 1)
  have : 0 ≤ Lex.hidB (Lex.bAt s (j + 1)) ∧ Lex.hidB (Lex.bAt s (j + 1)) ≤ 255 := by
    unfold Lex.hidB; split
    · omega
    · split <;> omega
  rw [UInt8.toNat_ofNat']; omega
theorem hidV_p (s : ByteArray) (j : Nat) (h : Lex.bAt s j ≠ 92) : ((Lex.hidV s j).toNat : Int) = Lex.bAt s j := by
  unfold Lex.hidV; rw [if_neg h]
  have hb := Lex.bAt_bd s j
  rw [UInt8.toNat_ofNat']; omega
theorem u8_eq {a b : UInt8} (h : (a.toNat : Int) = (b.toNat : Int)) : a = b := UInt8.toNat_inj.1 (by omega)

theorem step_one {s : ByteArray} {j E : Nat} (hE : Lex.txtEnd s j = E) (hj : j < E) (h : Lex.bAt s j ≠ 92) :
    Lex.txtEnd s (j + 1) = E ∧ Lex.txtVal s j = Lex.hidV s j :: Lex.txtVal s (j + 1) := by
  have hp := Lex.txtEnd_gt s j (by omega)
  have h1 : Lex.stepT s j = 1 := by
    have := Lex.stepT_le s j
    by_cases e : Lex.stepT s j = 2
    · exfalso; unfold Lex.stepT at e; rw [if_neg (by simp [h])] at e; split at e <;> omega
    · omega
  have e1 := Lex.txtEnd_yes s j hp
  have e2 := Lex.txtVal_yes s j hp
  rw [h1] at e1 e2
  exact ⟨by rw [← e1]; exact hE, e2⟩
theorem step_two {s : ByteArray} {j E : Nat} (hE : Lex.txtEnd s j = E) (hj : j < E) (h : Lex.bAt s j = 92) :
    Lex.txtEnd s (j + 2) = E ∧ Lex.txtVal s j = Lex.hidV s j :: Lex.txtVal s (j + 2) ∧ Lex.hidB (Lex.bAt s (j + 1)) ≠ 0 ∧ j + 2 ≤ E := by
  have hp := Lex.txtEnd_gt s j (by omega)
  have hh : Lex.hidB (Lex.bAt s (j + 1)) ≠ 0 := fun e => by rw [Lex.stepT_hid s j h e] at hp; omega
  have h2 := Lex.stepT_two s j h hh
  have e1 := Lex.txtEnd_yes s j hp
  have e2 := Lex.txtVal_yes s j hp
  have hin := Lex.stepT_in s j hp
  rw [h2] at e1 e2 hin
  have hb := Lex.txtEnd_bd s (j + 2) hin
  exact ⟨by rw [← e1]; exact hE, e2, hh, by rw [← e1, hE] at hb; exact hb.1⟩

theorem txt_step {acc r1 r2 out : List UInt8} {c : UInt8} (h : acc ++ r1 = out) (h2 : r1 = c :: r2) : acc ++ [c] ++ r2 = out := by rw [← h, h2]; simp

set_option maxHeartbeats 2000000 in
theorem iUnquote (s : ByteArray) (i E : Nat) (r : ByteArray) (w : World) (hsz : s.size ≤ 100000) (hE : Lex.txtEnd s (i + 1) = E) (hiE : i + 1 ≤ E) (hEs : E < s.size) (hr : r.size = E + 1 - i)
    (hrb : ∀ k (h : k < r.size), (r[k].toNat : Int) = Lex.bAt s (i + k)) :
    Calls Tryd.prog 40 #[.string r] w fun e w' => e = .returned (.string ⟨(Lex.txtVal s (i + 1)).toArray⟩) ∧ Below w.heap.size w w' := by
  have HR : Hid (r.size = E + 1 - i) := hr
  have hr1 : r.size ≤ 100000 := by omega
  have hr2 : r.size + i ≤ E + 1 := by omega
  have hr3 : E + 1 ≤ r.size + i := by omega
  clear hr
  have HB : Hid (∀ k (h : k < r.size), (r[k].toNat : Int) = Lex.bAt s (i + k)) := hrb
  clear hrb
  have HE : Hid (Lex.txtEnd s (i + 1) = E) := hE
  clear hE
  go_enter Tryd.func40, Tryd.ntmps40
  go_wp2
  go_loopw [3, 4] (fun v t wr => ∃ (k : Nat) (acc : List UInt8), 1 ≤ k ∧ i + k ≤ E ∧ acc.length ≤ k ∧ t = .int .i64 k ∧ OwnB wr w.heap.size v acc ∧ Below w.heap.size w wr ∧ Hid (Lex.txtEnd s (i + k) = E) ∧ Hid (acc ++ Lex.txtVal s (i + k) = Lex.txtVal s (i + 1))) (fun _ t _ => r.size - (intOf t).toNat)
  case atStart => exact ⟨1, [], by omega, by omega, by simp, rfl, OwnB.nil _ _, Below.refl _ _, HE, rfl⟩
  case round =>
    obtain ⟨k, acc, hk1, hkE, hal, rfl, hown, hbel, HT, HA⟩ := hrel
    have hsw := hbel.size
    by_cases hlt : i + k < E
    · have hkr : k < r.size := by omega
      have hkr' : (k : Int) < (r.size : Int) - 1 := by omega
      have hb0 := HB.out k hkr
      by_cases h92 : Lex.bAt s (i + k) = 92
      · obtain ⟨s1, s2, s3, s4⟩ := step_two HT.out hlt h92
        have hk1r : k + 1 < r.size := by omega
        have hb1 := HB.out (k + 1) hk1r
        have hv := hidV_b s (i + k) h92
        have b1 : ((r[k].toNat : Int) == 92) = true := by rw [hb0]; exact beq_iff_eq.2 h92
        have HH : Hid (Lex.hidB (r[k + 1].toNat : Int) = ((Lex.hidV s (i + k)).toNat : Int)) := by show _ = _; rw [hb1, hv]; rfl
        have HN := txt_step HA.out s2
        have HN' : Hid (acc ++ [Lex.hidV s (i + k)] ++ Lex.txtVal s (i + k + 2) = Lex.txtVal s (i + 1)) := HN
        have HS1 : Hid (Lex.txtEnd s (i + k + 2) = E) := s1
        clear HN s1 s2 s3 hv hb1 hb0 h92
        go_wp2_with fail
        refine (iHidden _ _).mono ?_
        rintro e w' ⟨he, rfl⟩
        rw [HH.out] at he
        subst he
        go_wp2_with (first | (at_builtin; refine app_own rfl _ _ rfl w.heap.size _ _ rfl (hown.alloc _) ⟨wr.heap.size, 0, none⟩ 1 [Lex.hidV s (i + k)] rfl rfl (fun j u h => new_cells wr _ _ j u h) (by omega) (by simp; omega) ?_; intro v' w1 hown' hbel'))
        exact ⟨⟨k + 2, acc ++ [Lex.hidV s (i + k)], by omega, by omega, by simp; omega, by go_num, hown', (hbel.alloc hsw _).trans hbel', HS1, HN'⟩, by simp [intOf]; omega⟩
      · obtain ⟨s1, s2⟩ := step_one HT.out hlt h92
        have hv := hidV_p s (i + k) h92
        have b1 : ((r[k].toNat : Int) == 92) = false := by rw [hb0]; exact beq_eq_false_iff_ne.2 h92
        have ev : Lex.hidV s (i + k) = r[k] := u8_eq (by rw [hv, hb0])
        rw [ev] at s2
        have HN' : Hid (acc ++ [r[k]] ++ Lex.txtVal s (i + k + 1) = Lex.txtVal s (i + 1)) := txt_step HA.out s2
        have HS1 : Hid (Lex.txtEnd s (i + k + 1) = E) := s1
        clear s1 s2 hv hb0 h92 ev
        go_wp2_with (first | (at_builtin; refine app_own rfl _ _ rfl w.heap.size _ _ rfl (hown.alloc _) ⟨wr.heap.size, 0, none⟩ 1 [r[k]] rfl rfl (fun j u h => new_cells wr _ _ j u h) (by omega) (by simp; omega) ?_; intro v' w1 hown' hbel'))
        exact ⟨⟨k + 1, acc ++ [r[k]], by omega, by omega, by simp; omega, by go_num, hown', (hbel.alloc hsw _).trans hbel', HS1, HN'⟩, by simp [intOf]; omega⟩
    · have hkr' : ¬ (k : Int) < (r.size : Int) - 1 := by omega
      have hcv := conv_own hown
      have hkE' : i + k = E := by omega
      have HV : Hid (acc = Lex.txtVal s (i + 1)) := by
        show acc = _
        have h1 := HA.out
        have h2 := HT.out
        have h3 : Lex.stepT s (i + k) = 0 := by
          by_cases g : 0 < Lex.stepT s (i + k)
          · exfalso
            have g1 := Lex.stepT_in s (i + k) g
            have g2 := Lex.txtEnd_yes s (i + k) g
            have g3 := Lex.txtEnd_bd s (i + k + Lex.stepT s (i + k)) g1
            rw [h2] at g2
            omega
          · omega
        rw [Lex.txtVal_no s (i + k) h3, List.append_nil] at h1
        exact h1
      clear hkE'
      go_wp2
      go_ret
      exact ⟨by rw [← HV.out]; rfl, hbel⟩

end Go.Proofs.YtpabbadngpjgoaaDoor

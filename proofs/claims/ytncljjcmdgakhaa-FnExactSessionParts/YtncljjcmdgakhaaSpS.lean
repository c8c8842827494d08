/-
  The walk of the specification's SessionParts.
-/
import Derived.Test.YtncljjcmdgakhaaSpM
namespace Go.Proofs.Ytncljjcmdgakhaa
open Go.RowKit

/-- The lines of a text, from a place on. -/
def splitL (s : ByteArray) (f i : Nat) : List ByteArray :=
  if h : i < s.size then (if s[i].toNat = 10 then s.extract f i :: splitL s (i + 1) (i + 1) else splitL s f (i + 1)) else [s.extract f s.size]
termination_by s.size - i
theorem splitL_end (s : ByteArray) (f i : Nat) (h : ¬ i < s.size) : splitL s f i = [s.extract f s.size] := by rw [splitL, dif_neg h]
theorem splitL_cut (s : ByteArray) (f i : Nat) (h : i < s.size) (h10 : s[i].toNat = 10) : splitL s f i = s.extract f i :: splitL s (i + 1) (i + 1) := by rw [splitL, dif_pos h, if_pos h10]
theorem splitL_on (s : ByteArray) (f i : Nat) (h : i < s.size) (h10 : ¬ s[i].toNat = 10) : splitL s f i = splitL s f (i + 1) := by rw [splitL, dif_pos h, if_neg h10]
theorem splitL_len (s : ByteArray) : ∀ (n f i : Nat), s.size - i = n → (splitL s f i).length ≤ n + 1
  | 0, f, i, h => by rw [splitL_end s f i (by omega)]; simp
  | n + 1, f, i, h => by
    have hlt : i < s.size := by omega
    by_cases h10 : s[i].toNat = 10
    · rw [splitL_cut s f i hlt h10, List.length_cons]
      have := splitL_len s n (i + 1) (i + 1) (by omega)
      omega
    · rw [splitL_on s f i hlt h10]
      have := splitL_len s n f (i + 1) (by omega)
      omega

theorem row_empty (w : World) (t : TypeId) (B : Nat) (hB : B ≤ w.heap.size) : (w.alloc (.cells #[] t)).ownsRow B t 1 (.slice (some ⟨w.heap.size, 0, none⟩) 0 0) 0 [] :=
  ⟨rfl, .inr ⟨w.heap.size, 0, #[], rfl, hB, heap_alloc_new w _, Nat.le_refl _, Nat.zero_le _, rfl, rfl⟩⟩

theorem SRow.snoc {w : World} {B : Nat} {v : Value} {l : List ByteArray} {x : ByteArray} (h : w.ownsRow B 9 1 v (l.length + 1) (l.map Value.string ++ [.string x])) : SRow w B v (l ++ [x]) := by
  unfold SRow
  simp only [List.length_append, List.length_singleton, List.map_append, List.map_cons, List.map_nil]
  exact h
/-- Behind an append onto a row of the call's own. -/
theorem SRow.grown {w0 w w' : World} {B : Nat} {v : Value} {l : List ByteArray} {o : Obj} (h : SRow w B v l) (hb : Below B w0 w) (hB : B ≤ w.heap.size) (hg : (w.alloc o).grownBy w' v.ownBlock) : Below B w0 w' :=
  (hb.alloc hB o).grown hg (by simp; omega) (fun q hq => (World.ownsRow.lt h q hq).1)

set_option maxHeartbeats 4000000 in
set_option maxRecDepth 100000 in
theorem sSplit (s : ByteArray) (w : World) (hs : s.size ≤ 1048576) :
    Calls Try.prog 12 #[.string s, .int .u8 10] w fun e w' => ∃ v, e = .returned v ∧ Below w.heap.size w w' ∧ SRow w' w.heap.size v (splitL s 0 0) := by
  have HB0 : Hid (∀ o, Below w.heap.size w (w.alloc o)) := fun o => (Below.refl _ _).alloc (Nat.le_refl _) o
  have HE0 : Hid (SRow (w.alloc (.cells #[] 9)) w.heap.size (.slice (some ⟨w.heap.size, 0, none⟩) 0 0) []) := row_empty w 9 w.heap.size (Nat.le_refl _)
  obtain ⟨V, hV⟩ : ∃ V, V = splitL s 0 0 := ⟨_, rfl⟩
  have HV : Hid (V = splitL s 0 0) := hV
  rw [← hV]
  clear hV
  go_enter Try.func12, Try.ntmps12
  go_wp2_with fail
  go_loopw [5, 6, 7] (fun vo vf vi wr => ∃ (k f : Nat) (l : List ByteArray), k ≤ s.size ∧ f ≤ k ∧ l.length ≤ k ∧ vf = .int .i64 f ∧ vi = .int .i64 k ∧ Hid (Below w.heap.size w wr ∧ SRow wr w.heap.size vo l ∧ V = l ++ splitL s f k)) (fun _ _ vi _ => s.size - (intOf vi).toNat)
  case atStart => exact ⟨0, 0, [], Nat.zero_le _, Nat.zero_le _, by simp, rfl, rfl, HB0.out _, HE0.out, by rw [HV.out]; rfl⟩
  case round =>
    obtain ⟨k, f, l, hk, hf, hl, rfl, rfl, HE⟩ := hrel
    obtain ⟨av, acap, rfl⟩ := HE.out.2.1.shape
    have hwz := HE.out.1.size
    by_cases hlt : k < s.size
    · have hlt' : (k : Int) < (s.size : Int) := by omega
      have hfk : (f : Int) ≤ (k : Int) := by omega
      by_cases h10 : s[k].toNat = 10
      · have e10 : ((s[k].toNat : Int) == 10) = true := by simp [h10]
        have HN : Hid (V = (l ++ [s.extract f k]) ++ splitL s (k + 1) (k + 1)) := by show _ = _; rw [HE.out.2.2, splitL_cut s f k hlt h10]; simp
        go_wp2_with (refine app_strL rfl (.tmp 20) (.tmp 25) rfl w.heap.size _ _ _ (by rfl) (World.ownsRow.alloc HE.out.2.1 _) ⟨wr.heap.size, 0, none⟩ (s.extract f k) (by rfl) (cell_one_new wr _ 9) (by omega) (by simp; omega) ?_; intro v' w' hown' hgrow'; have hsh := own_shape hown'; obtain ⟨a2, cap2, rfl⟩ := hsh)
        exact ⟨⟨k + 1, k + 1, l ++ [s.extract f k], by omega, by omega, by simp; omega, by go_num, by go_num, HE.out.2.1.grown HE.out.1 hwz hgrow', SRow.snoc hown', HN.out⟩, by simp [intOf]; omega⟩
      · have e10 : ((s[k].toNat : Int) == 10) = false := by simp; omega
        have HN : Hid (V = l ++ splitL s f (k + 1)) := by show _ = _; rw [HE.out.2.2, splitL_on s f k hlt h10]
        go_wp2_with fail
        exact ⟨⟨k + 1, f, l, by omega, by omega, by omega, rfl, by go_num, HE.out.1, HE.out.2.1, HN.out⟩, by simp [intOf]; omega⟩
    · have hlt' : ¬ (k : Int) < (s.size : Int) := by omega
      have hfk : (f : Int) ≤ (s.size : Int) := by omega
      have HN : Hid (V = l ++ [s.extract f s.size]) := by show _ = _; rw [HE.out.2.2, splitL_end s f k hlt]
      go_wp2_with (refine app_strL rfl (.tmp 29) (.tmp 33) rfl w.heap.size _ _ _ (by rfl) (World.ownsRow.alloc HE.out.2.1 _) ⟨wr.heap.size, 0, none⟩ (s.extract f s.size) (by rfl) (cell_one_new wr _ 9) (by omega) (by simp; omega) ?_; intro v' w' hown' hgrow'; have hsh := own_shape hown'; obtain ⟨a2, cap2, rfl⟩ := hsh)
      go_ret
      exact ⟨_, rfl, HE.out.2.1.grown HE.out.1 hwz hgrow', by rw [HN.out]; exact SRow.snoc hown'⟩

/-- A text without a line feed at its end. -/
def cutT (t : ByteArray) : ByteArray := if h : 0 < t.size then (if t[t.size - 1].toNat = 10 then t.extract 0 (t.size - 1) else t) else t

theorem cutT_yes {t : ByteArray} {m : Nat} (hm : t.size = m + 1) (h10 : (t[m]'(by omega)).toNat = 10) : cutT t = t.extract 0 m := by
  unfold cutT
  have e : t.size - 1 = m := by omega
  rw [dif_pos (by omega)]
  simp only [e]
  rw [if_pos h10]
theorem cutT_no {t : ByteArray} {m : Nat} (hm : t.size = m + 1) (h10 : ¬ (t[m]'(by omega)).toNat = 10) : cutT t = t := by
  unfold cutT
  have e : t.size - 1 = m := by omega
  rw [dif_pos (by omega)]
  simp only [e]
  rw [if_neg h10]
theorem cutT_nil {t : ByteArray} (h : ¬ 0 < t.size) : cutT t = t := by unfold cutT; rw [dif_neg h]

set_option maxHeartbeats 2000000 in
theorem sCut (t : ByteArray) (w : World) (ht : t.size ≤ 100000000) :
    Calls Try.prog 13 #[.string t] w fun e w' => e = .returned (.string (cutT t)) ∧ w' = w := by
  by_cases h0 : 0 < t.size
  · have h0' : (0 : Int) < (t.size : Int) := by omega
    obtain ⟨m, hm⟩ : ∃ m, t.size = m + 1 := ⟨t.size - 1, by omega⟩
    have e1 : ((t.size : Int) - 1) = (m : Int) := by omega
    have hlt : m < t.size := by omega
    have hlt' : (m : Int) < (t.size : Int) := by omega
    have hle : (m : Int) ≤ (t.size : Int) := by omega
    by_cases h10 : (t[m]'(by omega)).toNat = 10
    · rw [cutT_yes hm h10]
      have e10 : (((t[m]'(by omega)).toNat : Int) == 10) = true := by simp [h10]
      clear hm h10
      go_enter Try.func13, Try.ntmps13
      go_wp2_with fail
      go_ret
      exact ⟨rfl, rfl⟩
    · rw [cutT_no hm h10]
      have e10 : (((t[m]'(by omega)).toNat : Int) == 10) = false := by simp; omega
      clear hm h10
      go_enter Try.func13, Try.ntmps13
      go_wp2_with fail
      go_ret
      exact ⟨rfl, rfl⟩
  · rw [cutT_nil h0]
    have h0' : ¬ (0 : Int) < (t.size : Int) := by omega
    go_enter Try.func13, Try.ntmps13
    go_wp2_with fail
    go_ret
    exact ⟨rfl, rfl⟩

def dashes : ByteArray := ⟨#[45, 45, 45]⟩
def feed : ByteArray := ⟨#[10]⟩
/-- The programs of lines, the text so far being t. -/
def partsG : List ByteArray → ByteArray → List ByteArray
  | [], t => [t]
  | x :: r, t => if x = dashes then cutT t :: partsG r ⟨#[]⟩ else partsG r (if r = [] then t ++ x else t ++ x ++ feed)
def partsV (s : ByteArray) : List ByteArray := partsG (splitL s 0 0) ⟨#[]⟩
def sessionV (s : ByteArray) : List ByteArray := if 4000 < s.size then [] else (if 10 < (partsV s).length then [] else partsV s)

end Go.Proofs.Ytncljjcmdgakhaa

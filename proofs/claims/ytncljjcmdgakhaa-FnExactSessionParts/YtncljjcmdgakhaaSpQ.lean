/-
  The programs of a session's text as the program goes through it: line by line, from a place on.
-/
import Derived.Test.YtncljjcmdgakhaaSpP
import Derived.Lib.IndexLaws
namespace Go.Proofs.Ytncljjcmdgakhaa
open Go.RowKit

/-- How long the first line of a text is. -/
def len1 (t : ByteArray) : Nat := if Lib.indexByte t.data.toList 10 = -1 then t.size else (Lib.indexByte t.data.toList 10).toNat
/-- What is left behind the place a, the program having begun at b. -/
def PR (s : ByteArray) (b a : Nat) : List ByteArray := partsG (splitL s a a) (s.extract b a)

theorem ext_data (s : ByteArray) (a c : Nat) : (s.extract a c).data = s.data.extract a c := ByteArray.data_extract
theorem nth_ext (s : ByteArray) (a k : Nat) : (s.extract a s.size).data.toList[k]? = s.data[a + k]? := by
  rw [ext_data, Array.getElem?_toList, Array.getElem?_extract]
  show (if k < min s.data.size s.data.size - a then _ else _) = _
  split
  · rfl
  · rw [Array.getElem?_eq_none (by omega)]
theorem splitL_skip (s : ByteArray) (f : Nat) : ∀ (k i : Nat), i + k ≤ s.size → (∀ j, j < k → s.data[i + j]? ≠ some 10) → splitL s f i = splitL s f (i + k)
  | 0, i, _, _ => rfl
  | k + 1, i, h, hn => by
    have hlt : i < s.size := by omega
    have h10 : ¬ s[i].toNat = 10 := fun e => by
      refine hn 0 (by omega) ?_
      have : s[i] = 10 := by apply UInt8.toNat_inj.1; rw [e]; rfl
      rw [Nat.add_zero, ← this]
      exact Array.getElem?_eq_getElem (xs := s.data) hlt
    rw [splitL_on s f i hlt h10, splitL_skip s f k (i + 1) (by omega) (fun j hj => by have := hn (j + 1) (by omega); rwa [show i + (j + 1) = i + 1 + j by omega] at this)]
    congr 1; omega
theorem ext_size_le (s : ByteArray) (a : Nat) (h : a ≤ s.size) : (s.extract a s.size).size = s.size - a := by rw [ByteArray.size_extract]; omega
/-- The lines from a line's beginning on. -/
theorem split_line (s : ByteArray) (a : Nat) (ha : a ≤ s.size) :
    (a + len1 (s.extract a s.size) < s.size ∧ s.data[a + len1 (s.extract a s.size)]? = some 10 ∧ splitL s a a = s.extract a (a + len1 (s.extract a s.size)) :: splitL s (a + len1 (s.extract a s.size) + 1) (a + len1 (s.extract a s.size) + 1)) ∨
    (a + len1 (s.extract a s.size) = s.size ∧ splitL s a a = [s.extract a s.size]) := by
  have hz := ext_size_le s a ha
  by_cases h : Lib.indexByte (s.extract a s.size).data.toList 10 = -1
  · have e : len1 (s.extract a s.size) = s.size - a := by unfold len1; rw [if_pos h, hz]
    rw [e]
    refine .inr ⟨by omega, ?_⟩
    rw [splitL_skip s a (s.size - a) a (by omega) (fun j _ => by have := Lib.indexByte_none h j; rwa [nth_ext] at this), splitL_end s a _ (by omega)]
  · have hge := Lib.indexByte_ge (s.extract a s.size).data.toList 10
    obtain ⟨o, ho⟩ : ∃ o : Nat, Lib.indexByte (s.extract a s.size).data.toList 10 = o := ⟨(Lib.indexByte (s.extract a s.size).data.toList 10).toNat, by omega⟩
    have e : len1 (s.extract a s.size) = o := by unfold len1; rw [if_neg h, ho]; rfl
    obtain ⟨h1, h2⟩ := Lib.indexByte_some ho
    rw [nth_ext] at h1
    have hlt : a + o < s.size := (Array.getElem?_eq_some_iff.1 h1).1
    rw [e]
    refine .inl ⟨hlt, h1, ?_⟩
    rw [splitL_skip s a o a (by omega) (fun j hj => by have := h2 j hj; rwa [nth_ext] at this)]
    refine splitL_cut s a (a + o) hlt ?_
    have : s[a + o] = 10 := (Array.getElem?_eq_some_iff.1 h1).2
    rw [this]; rfl
theorem len1_le (t : ByteArray) : len1 t ≤ t.size := by
  unfold len1
  split
  · omega
  · rename_i h
    have hge := Lib.indexByte_ge t.data.toList 10
    obtain ⟨o, ho⟩ : ∃ o : Nat, Lib.indexByte t.data.toList 10 = o := ⟨(Lib.indexByte t.data.toList 10).toNat, by omega⟩
    obtain ⟨h1, _⟩ := Lib.indexByte_some ho
    rw [ho]
    have := (List.getElem?_eq_some_iff.1 h1).1
    rw [Array.length_toList] at this
    show o ≤ t.data.size
    omega
theorem ext_ext (s : ByteArray) (a n : Nat) (h : a + n ≤ s.size) : (s.extract a s.size).extract 0 n = s.extract a (a + n) := by
  apply ByteArray.ext
  rw [ext_data, ext_data, ext_data, Array.extract_extract]
  congr 1
  show min (a + n) s.data.size = a + n
  have : s.data.size = s.size := rfl
  omega
theorem ext_join (s : ByteArray) (b a c : Nat) (h1 : b ≤ a) (h2 : a ≤ c) : s.extract b a ++ s.extract a c = s.extract b c := by
  apply ByteArray.ext
  rw [ByteArray.data_append, ext_data, ext_data, ext_data, Array.extract_append_extract]
  congr 1 <;> omega
theorem ext_feed (s : ByteArray) (e : Nat) (h : s.data[e]? = some 10) : feed = s.extract e (e + 1) := by
  apply ByteArray.ext
  obtain ⟨hlt, hv⟩ := Array.getElem?_eq_some_iff.1 h
  rw [ext_data]
  show #[10] = _
  apply Array.ext
  · have hd : s.data.size = s.size := rfl
    simp; omega
  · intro i h1 h2
    simp at h1
    subst h1
    simp [hv]
theorem ext_nil (s : ByteArray) (a : Nat) : s.extract a a = ⟨#[]⟩ := by
  apply ByteArray.ext
  rw [ext_data]; simp
  omega
theorem splitL_top (s : ByteArray) (a : Nat) (h : s.size ≤ a) : splitL s a a = [⟨#[]⟩] := by
  rw [splitL_end s a a (by omega)]
  congr 1
  apply ByteArray.ext
  rw [ext_data]; simp
  exact h
theorem empty_dashes : ¬ (⟨#[]⟩ : ByteArray) = dashes := fun e => by have := congrArg ByteArray.size e; revert this; decide
theorem PR_end (s : ByteArray) (b : Nat) : PR s b s.size = [s.extract b s.size] := by
  unfold PR
  rw [splitL_top s s.size (Nat.le_refl _), partsG, if_neg empty_dashes, if_pos rfl, partsG, ba_nil']
where
  ba_nil' {a : ByteArray} : a ++ (⟨#[]⟩ : ByteArray) = a := by apply ByteArray.ext; simp
theorem PR_step (s : ByteArray) (b a n : Nat) (hb : b ≤ a) (ha : a < s.size) (hn : n = len1 (s.extract a s.size)) :
    PR s b a = if s.extract a (a + n) = dashes then cutT (s.extract b a) :: PR s (min (a + n + 1) s.size) (min (a + n + 1) s.size) else PR s b (min (a + n + 1) s.size) := by
  subst hn
  rcases split_line s a (by omega) with ⟨h1, h10, h2⟩ | ⟨h1, h2⟩
  · have em : min (a + len1 (s.extract a s.size) + 1) s.size = a + len1 (s.extract a s.size) + 1 := by omega
    rw [em]
    generalize len1 (s.extract a s.size) = n at *
    unfold PR
    rw [h2, partsG]
    split
    · rw [ext_nil]
    · rw [if_neg (by exact splitL_ne s _ _ _ rfl), ext_join s b a (a + n) hb (by omega), ext_feed s (a + n) h10, ext_join s b (a + n) (a + n + 1) (by omega) (by omega)]
  · have em : min (a + len1 (s.extract a s.size) + 1) s.size = s.size := by omega
    rw [em, h1, PR_end, PR_end]
    unfold PR
    rw [h2, partsG]
    split
    · rw [partsG, ext_nil]
    · rw [if_pos rfl, partsG, ext_join s b a s.size hb (by omega)]
theorem partsG_ne : ∀ (l : List ByteArray) (t : ByteArray), partsG l t ≠ []
  | [], t => by rw [partsG]; simp
  | x :: r, t => by
    rw [partsG]
    split
    · simp
    · exact partsG_ne r _
theorem PR_ne (s : ByteArray) (b a : Nat) : PR s b a ≠ [] := partsG_ne _ _
theorem PR_start (s : ByteArray) : PR s 0 0 = partsV s := by unfold PR partsV; rw [ext_nil]

end Go.Proofs.Ytncljjcmdgakhaa

/-
  The plain functions that the two sides of NameRight and Quote are held against: lists and integers alone.
-/
import Derived.WalkKit
namespace Go.Proofs.YtpabbadngpjgoaaDoor.Lex

def digB (c : Int) : Bool := decide (48 ≤ c ∧ c ≤ 57)
def letB (c : Int) : Bool := decide (97 ≤ c ∧ c ≤ 122 ∨ 65 ≤ c ∧ c ≤ 90 ∨ 48 ≤ c ∧ c ≤ 57 ∨ c = 95 ∨ c = 36)
def txtB (c : Int) : Bool := decide (32 ≤ c ∧ c ≤ 126)

/-- The words of the language, in the order of the document. -/
def words : List ByteArray := [⟨#[98, 114, 101, 97, 107]⟩, ⟨#[99, 97, 116, 99, 104]⟩, ⟨#[99, 111, 110, 116, 105, 110, 117, 101]⟩, ⟨#[100, 101, 108, 101, 116, 101]⟩, ⟨#[101, 108, 115, 101]⟩, ⟨#[102, 97, 108, 115, 101]⟩, ⟨#[102, 105, 110, 97, 108, 108, 121]⟩, ⟨#[102, 111, 114]⟩, ⟨#[102, 117, 110, 99, 116, 105, 111, 110]⟩, ⟨#[105, 102]⟩, ⟨#[105, 110]⟩, ⟨#[110, 101, 119]⟩, ⟨#[110, 117, 108, 108]⟩, ⟨#[114, 101, 116, 117, 114, 110]⟩, ⟨#[116, 104, 105, 115]⟩, ⟨#[116, 104, 114, 111, 119]⟩, ⟨#[116, 114, 117, 101]⟩, ⟨#[116, 114, 121]⟩, ⟨#[116, 121, 112, 101, 111, 102]⟩, ⟨#[117, 110, 100, 101, 102, 105, 110, 101, 100]⟩, ⟨#[118, 97, 114]⟩, ⟨#[119, 104, 105, 108, 101]⟩, ⟨#[119, 105, 116, 104]⟩]

/-- Is a text one of a list of texts? -/
def isIn (l : List ByteArray) (t : ByteArray) : Bool := l.any fun x => x.toList == t.toList
def wordB (t : ByteArray) : Bool := isIn words t

theorem bytes_list (a : Array UInt8) : (ByteArray.mk a).toList = a.toList := by rw [ByteArray.toList_eq]
theorem wordB_eq (t : ByteArray) : wordB t = ((t.toList == [98, 114, 101, 97, 107]) || (t.toList == [99, 97, 116, 99, 104]) || (t.toList == [99, 111, 110, 116, 105, 110, 117, 101]) || (t.toList == [100, 101, 108, 101, 116, 101]) || (t.toList == [101, 108, 115, 101]) || (t.toList == [102, 97, 108, 115, 101]) || (t.toList == [102, 105, 110, 97, 108, 108, 121]) || (t.toList == [102, 111, 114]) || (t.toList == [102, 117, 110, 99, 116, 105, 111, 110]) || (t.toList == [105, 102]) || (t.toList == [105, 110]) || (t.toList == [110, 101, 119]) || (t.toList == [110, 117, 108, 108]) || (t.toList == [114, 101, 116, 117, 114, 110]) || (t.toList == [116, 104, 105, 115]) || (t.toList == [116, 104, 114, 111, 119]) || (t.toList == [116, 114, 117, 101]) || (t.toList == [116, 114, 121]) || (t.toList == [116, 121, 112, 101, 111, 102]) || (t.toList == [117, 110, 100, 101, 102, 105, 110, 101, 100]) || (t.toList == [118, 97, 114]) || (t.toList == [119, 104, 105, 108, 101]) || (t.toList == [119, 105, 116, 104])) := by
  simp only [wordB, isIn, words, List.any_cons, List.any_nil, Bool.or_false, bytes_list, Bool.or_assoc]
  simp only [fun l : List UInt8 => Bool.beq_comm (a := l) (b := t.toList)]

/-- Are the first k bytes all bytes of names? -/
def lets (s : ByteArray) (k : Nat) : Bool := (s.data.toList.take k).all fun c => letB c.toNat

def nameB (s : ByteArray) : Bool := decide (1 ≤ s.size) && decide (s.size ≤ 20) && !(digB ((s.data.toList.headD 0).toNat)) && lets s s.size && !wordB s

theorem take_snoc (s : ByteArray) (k : Nat) (h : k < s.size) : s.data.toList.take (k + 1) = s.data.toList.take k ++ [s[k]] := by
  rw [List.take_succ_eq_append_getElem (by simpa using h)]; rfl

theorem lets_succ (s : ByteArray) (k : Nat) (h : k < s.size) : lets s (k + 1) = (lets s k && letB s[k].toNat) := by
  unfold lets; rw [take_snoc s k h]; simp

theorem lets_false (s : ByteArray) (k : Nat) (h : k < s.size) (hk : letB s[k].toNat = false) : lets s s.size = false := by
  unfold lets
  rw [List.take_of_length_le (by simp)]
  rw [List.all_eq_false]
  exact ⟨s[k], List.getElem_mem (h := by simpa using h), by simp [hk]⟩

theorem isIn_take_succ (l : List ByteArray) (t : ByteArray) (k : Nat) (h : k < l.length) : isIn (l.take (k + 1)) t = (isIn (l.take k) t || (l[k].toList == t.toList)) := by
  unfold isIn; rw [List.take_succ_eq_append_getElem h, List.any_append]; simp only [List.any_cons, List.any_nil, Bool.or_false]

theorem isIn_at (l : List ByteArray) (t : ByteArray) (k : Nat) (h : k < l.length) (he : (l[k].toList == t.toList) = true) : isIn l t = true := by
  unfold isIn; rw [List.any_eq_true]; exact ⟨l[k], List.getElem_mem h, he⟩

theorem isIn_all (l : List ByteArray) (t : ByteArray) : isIn (l.take l.length) t = isIn l t := by rw [List.take_length]

theorem head_eq (s : ByteArray) (h : 0 < s.size) : s.data.toList.headD 0 = s[0] := by
  obtain ⟨⟨l⟩⟩ := s
  cases l with
  | nil => simp [ByteArray.size] at h
  | cons a r => rfl

theorem nameB_no_len (s : ByteArray) (h : ¬ (1 ≤ s.size ∧ s.size ≤ 20)) : nameB s = false := by
  unfold nameB
  by_cases a : 1 ≤ s.size <;> by_cases b : s.size ≤ 20 <;> simp [a, b]
  exact absurd ⟨a, b⟩ h

theorem nameB_no_dig (s : ByteArray) (h : 0 < s.size) (hd : digB s[0].toNat = true) : nameB s = false := by
  unfold nameB; rw [head_eq s h, hd]; simp

theorem nameB_no_word (s : ByteArray) (h : wordB s = true) : nameB s = false := by
  unfold nameB; rw [h]; simp

theorem nameB_no_let (s : ByteArray) (k : Nat) (h : k < s.size) (hk : letB s[k].toNat = false) : nameB s = false := by
  unfold nameB; rw [lets_false s k h hk]; simp

theorem nameB_rest (s : ByteArray) (h1 : 1 ≤ s.size) (h2 : s.size ≤ 20) (hd : digB s[0].toNat = false) (hl : lets s s.size = true) : nameB s = !wordB s := by
  unfold nameB; rw [head_eq s h1, hd, hl]; simp [h1, h2]

end Go.Proofs.YtpabbadngpjgoaaDoor.Lex

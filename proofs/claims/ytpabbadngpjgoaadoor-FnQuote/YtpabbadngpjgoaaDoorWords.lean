/-
  The walks of the functions on words: the list of words, a text held against a list, the switch of words.
-/
import Derived.Test.YtpabbadngpjgoaaDoorBytes
namespace Go.Proofs.YtpabbadngpjgoaaDoor
open Go.RowKit

def wordsObj : Obj := .cells (Lex.words.map Value.string).toArray 9

set_option maxHeartbeats 400000 in
theorem sWords (w : World) : Calls Tryd.prog 53 #[] w fun e w' => e = .returned (.slice (some ⟨w.heap.size, 0, none⟩) 23 23) ∧ w' = w.alloc wordsObj := by
  go_enter Tryd.func53, Tryd.ntmps53
  go_wp2
  go_ret
  exact ⟨rfl, rfl⟩

set_option maxHeartbeats 400000 in
theorem sIs (b : Nat) (l : List ByteArray) (t : ByteArray) (w : World) (cap : Nat) (hl : l.length ≤ 1000)
    (hc : ∀ i (h : i < l.length), w.cell? ⟨b, i, none⟩ = some (.string l[i])) :
    Calls Tryd.prog 52 #[.slice (some ⟨b, 0, none⟩) l.length cap, .string t] w fun e w' => e = .returned (.bool (Lex.isIn l t)) ∧ w' = w := by
  go_enter Tryd.func52, Tryd.ntmps52
  go_wp2
  go_loop [5] (fun i => ∃ k : Nat, k ≤ l.length ∧ i = .int .i64 k ∧ Lex.isIn (l.take k) t = false) (fun i => l.length - (intOf i).toNat)
  case atStart => exact ⟨0, Nat.zero_le _, rfl, rfl⟩
  case round =>
    obtain ⟨k, hk, rfl, hin⟩ := hrel
    have HI : Hid (Lex.isIn (l.take k) t = false) := hin
    clear hin
    by_cases hlt : k < l.length
    · have hck := hc k hlt
      have HC : Hid (∀ i (h : i < l.length), w.cell? ⟨b, i, none⟩ = some (.string l[i])) := hc
      clear hc
      by_cases he : (l[k].toList == t.toList) = true
      · go_wp2
        go_ret
        exact ⟨ret_bool (Lex.isIn_at l t k hlt he).symm, rfl⟩
      · rw [Bool.not_eq_true] at he
        go_wp2
        go_round
        case rel => exact ⟨k + 1, by omega, by go_num, by rw [Lex.isIn_take_succ l t k hlt, HI.out, he]; rfl⟩
        case measure => simp [intOf]; omega
    · have hkk : k = l.length := by omega
      subst hkk
      clear hc
      go_wp2
      go_ret
      exact ⟨ret_bool (by rw [← Lex.isIn_all]; exact HI.out.symm), rfl⟩

set_option maxHeartbeats 1000000 in
theorem iWord (t : ByteArray) (w : World) : Calls Tryd.prog 37 #[.string t] w fun e w' => e = .returned (.bool (Lex.wordB t)) ∧ w' = w := by
  go_enter Tryd.func37, Tryd.ntmps37
  go_wp2
  all_goals
    go_ret
    refine ⟨ret_bool ?_, rfl⟩
    rw [Lex.wordB_eq]
    first
      | (simp only [*, Bool.or_true, Bool.true_or, Bool.or_false]; done)
      | (exfalso; simp_all; done)

theorem wordsObj_eq : wordsObj = .cells (Lex.words.map Value.string).toArray 9 := rfl

theorem sIsWords (t : ByteArray) (w : World) :
    Calls Tryd.prog 52 #[.slice (some ⟨w.heap.size, 0, none⟩) 23 23, .string t] (w.alloc wordsObj) fun e w' => e = .returned (.bool (Lex.wordB t)) ∧ w' = w.alloc wordsObj := by
  have h := sIs w.heap.size Lex.words t (w.alloc wordsObj) 23 (by decide) (fun i h => by
    rw [wordsObj_eq, World.cell?_alloc_new]; simp [h])
  exact h

theorem words_at (w : World) : ∀ i (h : i < Lex.words.length), (w.alloc wordsObj).cell? ⟨w.heap.size, i, none⟩ = some (.string Lex.words[i]) := fun i h => by
  rw [wordsObj_eq, World.cell?_alloc_new]; simp [h]
theorem sIsW (b : Nat) (t : ByteArray) (w : World) (hc : ∀ i (h : i < Lex.words.length), w.cell? ⟨b, i, none⟩ = some (.string Lex.words[i])) :
    Calls Tryd.prog 52 #[.slice (some ⟨b, 0, none⟩) 23 23, .string t] w fun e w' => e = .returned (.bool (Lex.wordB t)) ∧ w' = w :=
  sIs b Lex.words t w 23 (by decide) hc

end Go.Proofs.YtpabbadngpjgoaaDoor

/-
  The walk of impl's tokenOf.
-/
import Derived.Test.YtpabbadngpjgoaaDoorImplC
namespace Go.Proofs.YtpabbadngpjgoaaDoor
open Go.RowKit

def tokC (k : Int) (t : ByteArray) (n : Int) (l : Bool) (a : Int) : Array Value := #[.int .i64 k, .string t, .int .i64 n, .bool l, .int .i64 a]

theorem old_cells {B : Nat} {W w1 : World} (hb : Below B W w1) : (∀ b o, b < B → w1.cell? ⟨b, o, none⟩ = W.cell? ⟨b, o, none⟩) ∧ (∀ b o, b < B → w1.frozen? ⟨b, o, none⟩ = W.frozen? ⟨b, o, none⟩) :=
  ⟨fun b o h => hb.cell (p := ⟨b, o, none⟩) h, fun b o h => hb.frozen (p := ⟨b, o, none⟩) h⟩

theorem five_set {B : Nat} {W w1 : World} (h : Below B W w1) {b : Nat} (hb : B ≤ b) (v0 v1 v2 v3 v4 : Value) :
    Below B W (((((w1.setCell ⟨b, 0, none⟩ v0).setCell ⟨b, 1, none⟩ v1).setCell ⟨b, 2, none⟩ v2).setCell ⟨b, 3, none⟩ v3).setCell ⟨b, 4, none⟩ v4) :=
  ((((h.setCell hb v0).setCell hb v1).setCell hb v2).setCell hb v3).setCell hb v4

set_option maxHeartbeats 2000000 in
theorem iTokMark (r : ByteArray) (w : World) (hs : r.size ≤ 5000) :
    Calls Tryd.prog 23 #[.int .i64 5, .string r] w fun e w' => e = .returned (.agg (tokC 5 r 0 false 0)) ∧ Below w.heap.size w w' := by
  go_enter Tryd.func23, Tryd.ntmps23
  go_wp2_with fail
  refine (iClone _ _ (by omega)).mono ?_
  rintro e w1 ⟨rfl, hb⟩
  obtain ⟨hc, hf⟩ := old_cells hb
  have hz : w.heap.size < w1.heap.size := by have := hb.size; simp at this; omega
  go_wp2_with fail
  refine bodyPost_ret (v := .agg (tokC 5 r 0 false 0)) (by simp [results, Tryd.results23, go_sem, tokC, hc]) rfl ⟨rfl, ?_⟩
  exact five_set (((Below.refl _ _).alloc (Nat.le_refl _) _).trans (hb.mono (by simp))) (Nat.le_refl _) _ _ _ _ _

set_option maxHeartbeats 2000000 in
theorem iTokEnd (w : World) :
    Calls Tryd.prog 23 #[.int .i64 6, .string ⟨#[]⟩] w fun e w' => e = .returned (.agg (tokC 6 ⟨#[]⟩ 0 false 0)) ∧ Below w.heap.size w w' := by
  go_enter Tryd.func23, Tryd.ntmps23
  go_wp2_with fail
  refine bodyPost_ret (v := .agg (tokC 6 ⟨#[]⟩ 0 false 0)) (by simp [results, Tryd.results23, go_sem, tokC]) rfl ⟨rfl, ?_⟩
  exact (Below.refl _ _).alloc (Nat.le_refl _) _

set_option maxHeartbeats 2000000 in
theorem iTokName (r : ByteArray) (w : World) (hs : r.size ≤ 5000) :
    Calls Tryd.prog 23 #[.int .i64 1, .string r] w fun e w' => e = .returned (.agg (tokC (if Lex.wordB r = true then 2 else 1) r 0 false 0)) ∧ Below w.heap.size w w' := by
  by_cases hw : Lex.wordB r = true
  · rw [if_pos hw]
    go_enter Tryd.func23, Tryd.ntmps23
    go_wp2_with fail
    refine (iWord _ _).mono ?_
    rintro e w1 ⟨rfl, rfl⟩
    go_wp2_with fail
    refine (iClone _ _ (by omega)).mono ?_
    rintro e w1 ⟨rfl, hb⟩
    obtain ⟨hc, hf⟩ := old_cells hb
    have hz : w.heap.size < w1.heap.size := by have := hb.size; simp at this; omega
    go_wp2_with fail
    refine bodyPost_ret (v := .agg (tokC 2 r 0 false 0)) (by simp [results, Tryd.results23, go_sem, tokC, hc]) rfl ⟨rfl, ?_⟩
    exact five_set (((Below.refl _ _).alloc (Nat.le_refl _) _).trans (hb.mono (by simp))) (Nat.le_refl _) _ _ _ _ _
  · rw [if_neg hw]
    rw [Bool.not_eq_true] at hw
    go_enter Tryd.func23, Tryd.ntmps23
    go_wp2_with fail
    refine (iWord _ _).mono ?_
    rintro e w1 ⟨rfl, rfl⟩
    go_wp2_with fail
    refine (iClone _ _ (by omega)).mono ?_
    rintro e w1 ⟨rfl, hb⟩
    obtain ⟨hc, hf⟩ := old_cells hb
    have hz : w.heap.size < w1.heap.size := by have := hb.size; simp at this; omega
    go_wp2_with fail
    refine bodyPost_ret (v := .agg (tokC 1 r 0 false 0)) (by simp [results, Tryd.results23, go_sem, tokC, hc]) rfl ⟨rfl, ?_⟩
    exact five_set (((Below.refl _ _).alloc (Nat.le_refl _) _).trans (hb.mono (by simp))) (Nat.le_refl _) _ _ _ _ _

set_option maxHeartbeats 2000000 in
theorem iTokNum (r : ByteArray) (w : World) (hs : r.size ≤ 15) (hd : ∀ c ∈ r.data.toList, Lex.digB (c.toNat : Int) = true) :
    Calls Tryd.prog 23 #[.int .i64 3, .string r] w fun e w' => e = .returned (.agg (tokC 3 ⟨#[]⟩ (Lex.numL r.data.toList) false 0)) ∧ Below w.heap.size w w' := by
  have HD : Hid (∀ c ∈ r.data.toList, Lex.digB (c.toNat : Int) = true) := hd
  clear hd
  go_enter Tryd.func23, Tryd.ntmps23
  go_wp2_with fail
  refine (iDigits _ _ hs HD.out).mono ?_
  rintro e w1 ⟨rfl, rfl⟩
  go_wp2_with fail
  refine bodyPost_ret (v := .agg (tokC 3 ⟨#[]⟩ (Lex.numL r.data.toList) false 0)) (by simp [results, Tryd.results23, go_sem, tokC]) rfl ⟨rfl, ?_⟩
  exact (Below.refl _ _).alloc (Nat.le_refl _) _

set_option maxHeartbeats 2000000 in
theorem iTokText (s : ByteArray) (i E : Nat) (r : ByteArray) (w : World) (hsz : s.size ≤ 100000) (hE : Lex.txtEnd s (i + 1) = E) (hiE : i + 1 ≤ E) (hEs : E < s.size) (hr : r.size = E + 1 - i)
    (hrb : ∀ k (h : k < r.size), (r[k].toNat : Int) = Lex.bAt s (i + k)) :
    Calls Tryd.prog 23 #[.int .i64 4, .string r] w fun e w' => e = .returned (.agg (tokC 4 ⟨(Lex.txtVal s (i + 1)).toArray⟩ 0 false 0)) ∧ Below w.heap.size w w' := by
  have U := fun W => iUnquote s i E r W hsz hE hiE hEs hr hrb
  have HU : Hid (∀ W, Calls Tryd.prog 40 #[.string r] W fun e w' => e = .returned (.string ⟨(Lex.txtVal s (i + 1)).toArray⟩) ∧ Below W.heap.size W w') := U
  clear U hE hr hrb
  go_enter Tryd.func23, Tryd.ntmps23
  go_wp2_with fail
  refine (HU.out _).mono ?_
  rintro e w1 ⟨rfl, hb⟩
  obtain ⟨hc, hf⟩ := old_cells hb
  have hz : w.heap.size < w1.heap.size := by have := hb.size; simp at this; omega
  go_wp2_with fail
  refine bodyPost_ret (v := .agg (tokC 4 ⟨(Lex.txtVal s (i + 1)).toArray⟩ 0 false 0)) (by simp [results, Tryd.results23, go_sem, tokC, hc]) rfl ⟨rfl, ?_⟩
  exact five_set (((Below.refl _ _).alloc (Nat.le_refl _) _).trans (hb.mono (by simp))) (Nat.le_refl _) _ _ _ _ _

end Go.Proofs.YtpabbadngpjgoaaDoor

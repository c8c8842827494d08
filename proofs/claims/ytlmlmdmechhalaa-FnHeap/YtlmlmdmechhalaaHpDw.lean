/-
  Draws of heaps: keys, numbers, and what stays behind a draw.
-/
import Derived.Test.YtlmlmdmechhalaaVDrawV
import Derived.Test.YtlmlmdmechhalaaHpE
namespace Go.Proofs.Ytlmlmdmechhalaa
open Go.RowKit
open Hp (PP OO propC)

theorem row_keep {w w' : World} {S B : Nat} {e : TypeId} {s : Nat} {v : Value} {n : Nat} {xs : List Value} (h : w.ownsRow B e s v n xs) (hk : Keep S w w') (hS : S < B) : w'.ownsRow B e s v n xs :=
  row_same h fun q hq => hk.block q (World.ownsRow.lt h q hq).2 (by have := (World.ownsRow.lt h q hq).1; omega)
theorem POwn.keepK {w w' : World} {S B : Nat} {v : Value} {ps : List PP} (h : POwn w B v ps) (hk : Keep S w w') (hS : S < B) : POwn w' B v ps := row_keep h hk hS
theorem HOwn.keepK {w w' : World} {S lo : Nat} {v : Value} {h : List OO} {n : Nat} {cs : Nat → OC} (k : HOwn w lo v h n cs) (hk : Keep S w w') (hS : S < lo) : HOwn w' lo v h n cs :=
  ⟨row_keep k.1 hk hS, fun j hj hjn => (k.2.1 j hj hjn).keepK hk hS, k.2.2⟩
/-- A longer list of objects, of which the same ones stand in rows. -/
theorem HOwn.more {w : World} {lo : Nat} {v : Value} {h : List OO} {n : Nat} {cs : Nat → OC} (k : HOwn w lo v h n cs) (hn : h.length = n) (r : List OO) : HOwn w lo v (h ++ r) n cs := by
  have e : ∀ j, j < n → (h ++ r)[j]? = h[j]? := fun j hj => List.getElem?_append_left (by omega)
  have e2 : ∀ j (hj : j < (h ++ r).length) (hjn : j < n), (h ++ r)[j] = h[j]'(by omega) := fun j hj hjn => List.getElem_append_left (by omega)
  refine ⟨?_, fun j hj hjn => ?_, fun i j hi hj hij hjn q h1 h2 => ?_⟩
  · have : rowO (h ++ r) cs n = rowO h cs n := by
      unfold rowO
      have : ∀ l : List Nat, (∀ j ∈ l, j < n) → l.flatMap (fun j => (((h ++ r)[j]?).map fun x => objL x (cs j)).getD [.int .i64 0, .int .i64 0, .slice none 0 0]) = l.flatMap (fun j => ((h[j]?).map fun x => objL x (cs j)).getD [.int .i64 0, .int .i64 0, .slice none 0 0]) := by
        intro l hl
        induction l with
        | nil => rfl
        | cons a t ih => rw [List.flatMap_cons, List.flatMap_cons, ih fun j hj => hl j (List.mem_cons_of_mem _ hj), e a (hl a (List.mem_cons_self ..))]
      exact this _ fun j hj => List.mem_range.1 hj
    rw [this]
    exact k.1
  · rw [e2 j hj hjn]
    exact k.2.1 j (by omega) hjn
  · rw [e2 i hi (by omega)] at h1
    rw [e2 j hj hjn] at h2
    exact k.2.2 i j (by omega) (by omega) hij hjn q h1 h2

/-- What is drawn is small. -/
def SmallP (p : PP) : Prop := p.key.size ≤ 6 ∧ p.v.text.size ≤ 2000
def SmallO (o : OO) : Prop := o.ps.length ≤ 8 ∧ ∀ p ∈ o.ps, SmallP p
def SmallD (h : List OO) : Prop := (1 ≤ h.length ∧ h.length ≤ 4) ∧ ∀ o ∈ h, SmallO o

def keysL : List ByteArray := [⟨#[97]⟩, ⟨#[98]⟩, ⟨#[]⟩, ⟨#[120, 32, 121]⟩, ⟨#[108, 101, 110, 103, 116, 104]⟩]
theorem keysL_size {t : ByteArray} (h : t ∈ keysL) : t.size ≤ 6 := by
  simp only [keysL, List.mem_cons, List.mem_nil_iff, or_false] at h
  rcases h with rfl | rfl | rfl | rfl | rfl <;> decide

set_option maxHeartbeats 1000000 in
theorem sKey (S : Nat) (w : World) (h : Src w S) : Calls Try.prog 39 #[.pointer (some ⟨S, 0, none⟩)] w fun e w' => ∃ t : ByteArray, t.size ≤ 6 ∧ e = .returned (.string t) ∧ Src w' S ∧ Keep S w w' := by
  have hS := h.lt
  have H : Hid _ := fun (_ : Unit) => pick_of S w.heap.size 5 keysL (w.alloc (.cells (keysL.map Value.string).toArray 9)) rfl (by omega) (by omega) (src_grow1 h) (heap_alloc_new _ _) (by omega)
  have HK : Hid (∀ o w', Keep S (w.alloc o) w' → Keep S w w') := fun o w' hk => ((Keep.refl S w).alloc o).trans hk
  clear h
  go_enter Try.func39, Try.ntmps39
  go_wp2_with fail
  refine (H.out ()).mono ?_
  rintro e w1 ⟨t, ht, rfl, hs, hk⟩
  have HT : Hid (t.size ≤ 6 ∧ Src w1 S ∧ Keep S w w1) := ⟨keysL_size ht, hs, HK.out _ _ hk⟩
  clear ht hs hk
  go_wp2_with fail
  go_ret
  exact ⟨t, HT.out.1, rfl, HT.out.2⟩

set_option maxHeartbeats 1000000 in
/-- 'n' of 1 draws nothing. -/
theorem sN1 (S : Nat) (w : World) : Calls Try.prog 64 #[.pointer (some ⟨S, 0, none⟩), .int .i64 1] w fun e w' => e = .returned (.int .i64 0) ∧ w' = w := by
  go_enter Try.func64, Try.ntmps64
  go_wp2_with fail
  go_ret
  exact ⟨rfl, rfl⟩
theorem sNany (S : Nat) (most : Nat) (w : World) (hm : 1 ≤ most) (hm2 : most ≤ 1000000) (h : Src w S) :
    Calls Try.prog 64 #[.pointer (some ⟨S, 0, none⟩), .int .i64 most] w fun e w' => ∃ r : Nat, e = .returned (.int .i64 r) ∧ r < most ∧ Src w' S ∧ Keep S w w' := by
  by_cases e : most = 1
  · subst e
    refine (sN1 S w).mono ?_
    rintro e w' ⟨rfl, rfl⟩
    exact ⟨0, rfl, by omega, h, Keep.refl _ _⟩
  · exact sNs S most w (by omega) hm2 h

end Go.Proofs.Ytlmlmdmechhalaa

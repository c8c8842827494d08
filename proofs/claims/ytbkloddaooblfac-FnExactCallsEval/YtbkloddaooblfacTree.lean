/-
  Trees: what they hold, and how they lie in memory.
-/
import Derived.Test.YtbkloddaooblfacRows
import Derived.WalkKit
import Derived.WalkSpells
import Derived.WalkLawsBesides
import Derived.Below
namespace Go.Proofs.Ytbkloddaooblfac
open Go.RowKit

theorem retT {a b : Int} (h : a = b) : Ending.returned (.int .i64 a) = .returned (.int .i64 b) := by rw [h]
theorem retB {a b : Bool} (h : a = b) : Ending.returned (.bool a) = .returned (.bool b) := by rw [h]

/-- What a tree holds. -/
inductive PT where
  | node (kind : Int) (text : ByteArray) (num : Int) (names : List ByteArray) (strict : Bool) (kids : List PT)

theorem PT.ind {P : PT → Prop} (h : ∀ k t n ns s ks, (∀ x ∈ ks, P x) → P (.node k t n ns s ks)) (t : PT) : P t :=
  PT.rec (motive_1 := P) (motive_2 := fun l => ∀ x ∈ l, P x) (fun k t n ns s ks ih => h k t n ns s ks ih) (fun x hx => by cases hx)
    (fun a r ha hr x hx => (List.mem_cons.1 hx).elim (fun e => e ▸ ha) (hr x)) t

/-- Where a node's two rows lie. -/
structure NC where
  na : Option Addr
  nc : Nat
  ka : Option Addr
  kc : Nat

def nodeC (k : Int) (t : ByteArray) (n : Int) (s : Bool) (nl kl : Nat) (c : NC) : Array Value := #[.int .i64 k, .string t, .int .i64 n, .slice c.na nl c.nc, .bool s, .slice c.ka kl c.kc]
def PT.cells : PT → NC → Array Value
  | .node k t n ns s ks, c => nodeC k t n s ns.length ks.length c

/-- A row of texts. -/
def StrsIn (w : World) (B : Nat) (a : Option Addr) (ns : List ByteArray) : Prop :=
  ns = [] ∨ ∃ b o, a = some ⟨b, o, none⟩ ∧ B ≤ b ∧ ∀ i (h : i < ns.length), w.cell? ⟨b, o + i, none⟩ = some (.string ns[i])

/-- A node's six cells. -/
def SixAt (w : World) (b o : Nat) : PT → NC → Prop
  | .node k t n ns s ks, c => w.cell? ⟨b, o, none⟩ = some (.int .i64 k) ∧ w.cell? ⟨b, o + 1, none⟩ = some (.string t) ∧ w.cell? ⟨b, o + 2, none⟩ = some (.int .i64 n) ∧ w.cell? ⟨b, o + 3, none⟩ = some (.slice c.na ns.length c.nc) ∧ w.cell? ⟨b, o + 4, none⟩ = some (.bool s) ∧ w.cell? ⟨b, o + 5, none⟩ = some (.slice c.ka ks.length c.kc)

def fpOf (b n : Nat) (fs : Nat → List Nat) : List Nat := if n = 0 then [] else b :: (List.range n).flatMap fs

/-- The tree lies in w, in blocks from B on; the last list: the blocks of its rows of kids. -/
inductive NIn (w : World) (B : Nat) : PT → NC → List Nat → Prop
  | mk (k : Int) (t : ByteArray) (n : Int) (ns : List ByteArray) (s : Bool) (ks : List PT) (c : NC) (b o : Nat) (cs : Nat → NC) (fs : Nat → List Nat)
      (hn : StrsIn w B c.na ns) (ha : ks = [] ∨ (c.ka = some ⟨b, o, none⟩ ∧ B ≤ b)) (hc : ∀ i (h : i < ks.length), SixAt w b (o + i * 6) ks[i] (cs i))
      (hk : ∀ i (h : i < ks.length), NIn w B ks[i] (cs i) (fs i)) : NIn w B (.node k t n ns s ks) c (fpOf b ks.length fs)

/-- What is written in blocks from B on stays. -/
def Keeps (B : Nat) (w w' : World) : Prop := ∀ (a : Addr) (v : Value), B ≤ a.block → w.cell? a = some v → w'.cell? a = some v
theorem Keeps.refl (B : Nat) (w : World) : Keeps B w w := fun _ _ _ h => h
theorem Keeps.trans {B : Nat} {w w1 w2 : World} (h : Keeps B w w1) (h1 : Keeps B w1 w2) : Keeps B w w2 := fun a v hb hv => h1 a v hb (h a v hb hv)
theorem Keeps.of_below {w w' : World} (h : Below w.heap.size w w') (B : Nat) : Keeps B w w' := fun a v _ hv => by
  rw [h.cell (World.block_lt_of_cell? w a hv)]; exact hv
theorem Keeps.setCell (w : World) {B : Nat} {p : Addr} (hp : p.block < B) (u : Value) : Keeps B w (w.setCell p u) := fun a v hb hv => by
  rw [World.cell?_of_block (w := w) (Below.heap_setCell w p u a.block (by omega))]; exact hv
theorem StrsIn.keep {w w' : World} {B : Nat} {a : Option Addr} {ns : List ByteArray} (h : StrsIn w B a ns) (hk : Keeps B w w') : StrsIn w' B a ns := by
  rcases h with h | ⟨b, o, ha, hb, hc⟩
  · exact .inl h
  · exact .inr ⟨b, o, ha, hb, fun i hi => hk _ _ hb (hc i hi)⟩
theorem SixAt.keep {w w' : World} {B b o : Nat} {t : PT} {c : NC} (h : SixAt w b o t c) (hb : B ≤ b) (hk : Keeps B w w') : SixAt w' b o t c := by
  cases t
  obtain ⟨h0, h1, h2, h3, h4, h5⟩ := h
  exact ⟨hk _ _ hb h0, hk _ _ hb h1, hk _ _ hb h2, hk _ _ hb h3, hk _ _ hb h4, hk _ _ hb h5⟩
theorem NIn.keep {w w' : World} {B : Nat} (hk : Keeps B w w') {t : PT} {c : NC} {fp : List Nat} (h : NIn w B t c fp) : NIn w' B t c fp := by
  induction h with
  | mk k t n ns s ks c b o cs fs hn ha hc _ ih =>
    refine .mk k t n ns s ks c b o cs fs (hn.keep hk) ha (fun i h => ?_) ih
    rcases ha with rfl | ⟨_, hb⟩
    · simp at h
    · exact (hc i h).keep hb hk
theorem NIn.under {w w' : World} {B : Nat} {t : PT} {c : NC} {fp : List Nat} (h : NIn w B t c fp) (hb : Below w.heap.size w w') : NIn w' B t c fp := h.keep (.of_below hb B)
theorem StrsIn.base {w : World} {B B' : Nat} {a : Option Addr} {ns : List ByteArray} (h : StrsIn w B a ns) (hB : B' ≤ B) : StrsIn w B' a ns := by
  rcases h with h | ⟨b, o, ha, hb, hc⟩
  · exact .inl h
  · exact .inr ⟨b, o, ha, by omega, hc⟩
theorem NIn.base {w : World} {B B' : Nat} (hB : B' ≤ B) {t : PT} {c : NC} {fp : List Nat} (h : NIn w B t c fp) : NIn w B' t c fp := by
  induction h with
  | mk k t n ns s ks c b o cs fs hn ha hc _ ih =>
    exact .mk k t n ns s ks c b o cs fs (hn.base hB) (ha.imp id fun h => ⟨h.1, Nat.le_trans hB h.2⟩) hc ih

/-- All that a tree holds can be handed in. -/
inductive OkT : PT → Prop
  | mk (k : Int) (t : ByteArray) (n : Int) (ns : List ByteArray) (s : Bool) (ks : List PT) (ht : t.size ≤ 9223372036854775807) (hn : ns.length ≤ 9223372036854775807) (hs : ∀ x ∈ ns, x.size ≤ 9223372036854775807) (hl : ks.length ≤ 9223372036854775807) (hk : ∀ x ∈ ks, OkT x) : OkT (.node k t n ns s ks)

def strsZ (ns : List ByteArray) : Nat := (ns.map ByteArray.size).sum
mutual
def szT : PT → Nat
  | .node _ t _ ns _ ks => t.size + (ns.length + strsZ ns) + (ks.length + szL ks)
def szL : List PT → Nat
  | [] => 0
  | t :: r => szT t + szL r
end
theorem strsZ_take (ns : List ByteArray) (i : Nat) (h : i < ns.length) : strsZ (ns.take (i + 1)) = strsZ (ns.take i) + ns[i].size := by
  unfold strsZ; rw [List.take_succ_eq_append_getElem h, List.map_append, List.sum_append]; simp
theorem strsZ_le (ns : List ByteArray) (i : Nat) : strsZ (ns.take i) ≤ strsZ ns := by
  unfold strsZ
  conv => rhs; rw [← List.take_append_drop i ns]
  rw [List.map_append, List.sum_append]; omega
theorem szL_append (a b : List PT) : szL (a ++ b) = szL a + szL b := by
  induction a with
  | nil => simp [szL]
  | cons x r ih => rw [List.cons_append, szL, szL, ih]; omega
theorem szL_take (ks : List PT) (i : Nat) (h : i < ks.length) : szL (ks.take (i + 1)) = szL (ks.take i) + szT ks[i] := by
  rw [List.take_succ_eq_append_getElem h, szL_append]; simp [szL]
theorem szL_le (ks : List PT) (i : Nat) : szL (ks.take i) ≤ szL ks := by
  conv => rhs; rw [← List.take_append_drop i ks]
  rw [szL_append]; omega
theorem szT_mem (ks : List PT) (i : Nat) (h : i < ks.length) : szT ks[i] ≤ szL ks := by
  have := szL_le ks (i + 1); rw [szL_take ks i h] at this; omega

/-- So much is left, or -1. -/
def subR (l n : Nat) : Int := if n ≤ l then ((l - n : Nat) : Int) else -1
theorem subR_le {l n : Nat} (h : n ≤ l) : subR l n = ((l - n : Nat) : Int) := if_pos h
theorem subR_gt {l n : Nat} (h : l < n) : subR l n = -1 := if_neg (by omega)

end Go.Proofs.Ytbkloddaooblfac

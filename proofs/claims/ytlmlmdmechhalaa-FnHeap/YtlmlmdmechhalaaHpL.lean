/-
  How heaps lie in memory; how great they are.
-/
import Derived.Test.YtlmlmdmechhalaaValB
import Derived.Test.YtlmlmdmechhalaaHp
namespace Go.Proofs.Ytlmlmdmechhalaa
open Go.RowKit
open Hp (PP OO propC)

theorem retT {a b : Int} (h : a = b) : Ending.returned (.int .i64 a) = .returned (.int .i64 b) := by rw [h]

theorem oldC {B : Nat} {w w' : World} (h : Below B w w') : (∀ b o, b < B → w'.cell? ⟨b, o, none⟩ = w.cell? ⟨b, o, none⟩) ∧ (∀ b o, b < B → w'.frozen? ⟨b, o, none⟩ = w.frozen? ⟨b, o, none⟩) :=
  ⟨fun _ _ hb => h.cell hb, fun _ _ hb => h.frozen hb⟩

/-- Where an object's row of Props lies. -/
structure OC where
  pa : Option Addr
  pc : Nat
def objC (o : OO) (c : OC) : Array Value := #[.int .i64 o.cls, .int .i64 o.pro, .slice c.pa o.ps.length c.pc]

def PAt (w : World) (b o : Nat) (p : PP) : Prop :=
  w.cell? ⟨b, o, none⟩ = some (.string p.key) ∧ w.cell? ⟨b, o + 1, none⟩ = some (.int .i64 p.v.kind) ∧ w.cell? ⟨b, o + 2, none⟩ = some (.int .i64 p.v.num) ∧ w.cell? ⟨b, o + 3, none⟩ = some (.string p.v.text) ∧ w.cell? ⟨b, o + 4, none⟩ = some (.bool p.hid) ∧ w.cell? ⟨b, o + 5, none⟩ = some (.bool p.fix)
def OAt (w : World) (b o : Nat) (x : OO) (c : OC) : Prop :=
  w.cell? ⟨b, o, none⟩ = some (.int .i64 x.cls) ∧ w.cell? ⟨b, o + 1, none⟩ = some (.int .i64 x.pro) ∧ w.cell? ⟨b, o + 2, none⟩ = some (.slice c.pa x.ps.length c.pc)
/-- A row of Props, in a block from B on. -/
def PsIn (w : World) (B : Nat) (a : Option Addr) (ps : List PP) : Prop :=
  ps = [] ∨ ∃ b o, a = some ⟨b, o, none⟩ ∧ B ≤ b ∧ ∀ i (h : i < ps.length), PAt w b (o + i * 6) ps[i]
/-- A row of Objects. -/
def OsIn (w : World) (B : Nat) (a : Option Addr) (h : List OO) (cs : Nat → OC) : Prop :=
  h = [] ∨ ∃ b o, a = some ⟨b, o, none⟩ ∧ B ≤ b ∧ ∀ i (hi : i < h.length), OAt w b (o + i * 3) h[i] (cs i)
/-- A heap: its objects, and the Props of each. -/
def HIn (w : World) (B : Nat) (a : Option Addr) (h : List OO) (cs : Nat → OC) : Prop :=
  OsIn w B a h cs ∧ ∀ i (hi : i < h.length), PsIn w B (cs i).pa h[i].ps

/-- What is written in blocks from B on stays. -/
def Keeps (B : Nat) (w w' : World) : Prop := ∀ (a : Addr) (v : Value), B ≤ a.block → w.cell? a = some v → w'.cell? a = some v
theorem Keeps.refl (B : Nat) (w : World) : Keeps B w w := fun _ _ _ h => h
theorem Keeps.trans {B : Nat} {w w1 w2 : World} (h : Keeps B w w1) (h1 : Keeps B w1 w2) : Keeps B w w2 := fun a v hb hv => h1 a v hb (h a v hb hv)
theorem Keeps.of_below {w w' : World} (h : Below w.heap.size w w') (B : Nat) : Keeps B w w' := fun a v _ hv => by
  rw [h.cell (World.block_lt_of_cell? w a hv)]; exact hv
theorem Keeps.setCell (w : World) {B : Nat} {p : Addr} (hp : p.block < B) (u : Value) : Keeps B w (w.setCell p u) := fun a v hb hv => by
  rw [World.cell?_of_block (w := w) (Below.heap_setCell w p u a.block (by omega))]; exact hv
theorem PAt.keep {w w' : World} {B b o : Nat} {p : PP} (h : PAt w b o p) (hb : B ≤ b) (hk : Keeps B w w') : PAt w' b o p := by
  obtain ⟨h0, h1, h2, h3, h4, h5⟩ := h
  exact ⟨hk _ _ hb h0, hk _ _ hb h1, hk _ _ hb h2, hk _ _ hb h3, hk _ _ hb h4, hk _ _ hb h5⟩
theorem OAt.keep {w w' : World} {B b o : Nat} {x : OO} {c : OC} (h : OAt w b o x c) (hb : B ≤ b) (hk : Keeps B w w') : OAt w' b o x c := by
  obtain ⟨h0, h1, h2⟩ := h
  exact ⟨hk _ _ hb h0, hk _ _ hb h1, hk _ _ hb h2⟩
theorem PsIn.keep {w w' : World} {B : Nat} {a : Option Addr} {ps : List PP} (h : PsIn w B a ps) (hk : Keeps B w w') : PsIn w' B a ps := by
  rcases h with h | ⟨b, o, ha, hb, hc⟩
  · exact .inl h
  · exact .inr ⟨b, o, ha, hb, fun i hi => (hc i hi).keep hb hk⟩
theorem OsIn.keep {w w' : World} {B : Nat} {a : Option Addr} {h : List OO} {cs : Nat → OC} (k : OsIn w B a h cs) (hk : Keeps B w w') : OsIn w' B a h cs := by
  rcases k with h | ⟨b, o, ha, hb, hc⟩
  · exact .inl h
  · exact .inr ⟨b, o, ha, hb, fun i hi => (hc i hi).keep hb hk⟩
theorem HIn.keep {w w' : World} {B : Nat} {a : Option Addr} {h : List OO} {cs : Nat → OC} (k : HIn w B a h cs) (hk : Keeps B w w') : HIn w' B a h cs :=
  ⟨k.1.keep hk, fun i hi => (k.2 i hi).keep hk⟩
theorem PsIn.under {w w' : World} {B : Nat} {a : Option Addr} {ps : List PP} (h : PsIn w B a ps) (hb : Below w.heap.size w w') : PsIn w' B a ps := h.keep (.of_below hb B)
theorem HIn.under {w w' : World} {B : Nat} {a : Option Addr} {h : List OO} {cs : Nat → OC} (k : HIn w B a h cs) (hb : Below w.heap.size w w') : HIn w' B a h cs := k.keep (.of_below hb B)
theorem PsIn.base {w : World} {B B' : Nat} {a : Option Addr} {ps : List PP} (h : PsIn w B a ps) (hB : B' ≤ B) : PsIn w B' a ps := by
  rcases h with h | ⟨b, o, ha, hb, hc⟩
  · exact .inl h
  · exact .inr ⟨b, o, ha, by omega, hc⟩
theorem HIn.base {w : World} {B B' : Nat} {a : Option Addr} {h : List OO} {cs : Nat → OC} (k : HIn w B a h cs) (hB : B' ≤ B) : HIn w B' a h cs := by
  refine ⟨?_, fun i hi => (k.2 i hi).base hB⟩
  rcases k.1 with h | ⟨b, o, ha, hb, hc⟩
  · exact .inl h
  · exact .inr ⟨b, o, ha, by omega, hc⟩

/-- All that a heap holds can be handed in. -/
def OkP (p : PP) : Prop := p.key.size ≤ 9223372036854775807 ∧ p.v.text.size ≤ 9223372036854775807
def OkO (o : OO) : Prop := o.ps.length ≤ 9223372036854775807 ∧ ∀ p ∈ o.ps, OkP p
def OkH (h : List OO) : Prop := h.length ≤ 9223372036854775807 ∧ ∀ o ∈ h, OkO o

def szP (p : PP) : Nat := p.key.size + p.v.text.size
def szPs (ps : List PP) : Nat := ps.length + (ps.map szP).sum
def szH (h : List OO) : Nat := h.length + (h.map fun o => szPs o.ps).sum
theorem sum_take {α : Type} (f : α → Nat) (l : List α) (i : Nat) (h : i < l.length) : ((l.take (i + 1)).map f).sum = ((l.take i).map f).sum + f l[i] := by
  rw [List.take_succ_eq_append_getElem h, List.map_append, List.sum_append]; simp
theorem sum_le {α : Type} (f : α → Nat) (l : List α) (i : Nat) : ((l.take i).map f).sum ≤ (l.map f).sum := by
  conv => rhs; rw [← List.take_append_drop i l]
  rw [List.map_append, List.sum_append]; omega
theorem sum_mem {α : Type} (f : α → Nat) (l : List α) (i : Nat) (h : i < l.length) : f l[i] ≤ (l.map f).sum := by
  have := sum_le f l (i + 1); rw [sum_take f l i h] at this; omega

/-- So much is left, or -1. -/
def subR (l n : Nat) : Int := if n ≤ l then ((l - n : Nat) : Int) else -1
theorem subR_le {l n : Nat} (h : n ≤ l) : subR l n = ((l - n : Nat) : Int) := if_pos h
theorem subR_gt {l n : Nat} (h : l < n) : subR l n = -1 := if_neg (by omega)

end Go.Proofs.Ytlmlmdmechhalaa

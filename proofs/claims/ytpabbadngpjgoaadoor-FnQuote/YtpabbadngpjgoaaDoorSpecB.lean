/-
  What the specification's readers of tokens have in common.
-/
import Derived.Test.YtpabbadngpjgoaaDoorSpecA
import Derived.Test.YtpabbadngpjgoaaDoorLexV
import Derived.BigRegion
namespace Go.Proofs.YtpabbadngpjgoaaDoor
open Go.RowKit

def zTokObj : Obj := .cells #[.int .i64 0, .string ⟨#[]⟩, .int .i64 0, .bool false, .int .i64 0] 30

theorem keep_new {L : Nat} {w wr : World} {c : Array Value} {t : TypeId} (h : Keep L (w.alloc (.cells c t)) wr) (hL : L < w.heap.size) : wr.heap[w.heap.size]? = some (.cells c t (0, 0)) :=
  (h.block w.heap.size (by simp) (by omega)).trans (heap_alloc_new w _)
theorem keep_zTok {L : Nat} {w wr : World} (h : Keep L (w.alloc zTokObj) wr) (hL : L < w.heap.size) : wr.heap[w.heap.size]? = some (.cells #[.int .i64 0, .string ⟨#[]⟩, .int .i64 0, .bool false, .int .i64 0] 30 (0, 0)) :=
  keep_new (c := #[.int .i64 0, .string ⟨#[]⟩, .int .i64 0, .bool false, .int .i64 0]) (t := 30) h hL
theorem cells5 {wr : World} {R : Nat} {a b c d e : Value} {t : TypeId} (h : wr.heap[R]? = some (.cells #[a, b, c, d, e] t (0, 0))) :
    (wr.cell? ⟨R, 0, none⟩ = some a ∧ wr.cell? ⟨R, 1, none⟩ = some b ∧ wr.cell? ⟨R, 2, none⟩ = some c ∧ wr.cell? ⟨R, 3, none⟩ = some d ∧ wr.cell? ⟨R, 4, none⟩ = some e) ∧
    wr.frozen? ⟨R, 0, none⟩ = false ∧ wr.frozen? ⟨R, 1, none⟩ = false ∧ wr.frozen? ⟨R, 2, none⟩ = false ∧ wr.frozen? ⟨R, 3, none⟩ = false ∧ wr.frozen? ⟨R, 4, none⟩ = false := by
  simp [World.cell?, World.frozen?, h]
theorem LexAt.drew {w : World} {L : Nat} {s : ByteArray} {p : Nat} {line : Bool} (h : LexAt w L s p line) : LexAt w.drew L s p line := h
theorem five_lex0 {w : World} {L b : Nat} {s : ByteArray} {p : Nat} {line : Bool} (h : LexAt w L s p line) (hb : L ≠ b) (v0 v1 v2 v3 v4 : Value) :
    LexAt (((((w.setCell ⟨b, 0, none⟩ v0).setCell ⟨b, 1, none⟩ v1).setCell ⟨b, 2, none⟩ v2).setCell ⟨b, 3, none⟩ v3).setCell ⟨b, 4, none⟩ v4) L s p line :=
  ((((h.other hb 0 v0).other hb 1 v1).other hb 2 v2).other hb 3 v3).other hb 4 v4
theorem five_lex {w : World} {L b : Nat} {s : ByteArray} {p : Nat} {line : Bool} (h : LexAt w L s p line) (hb : L ≠ b) (v0 v1 v2 v3 v4 : Value) :
    LexAt (((((w.setCell ⟨b, 0, none⟩ v0).setCell ⟨b, 1, none⟩ v1).setCell ⟨b, 2, none⟩ v2).setCell ⟨b, 3, none⟩ v3).setCell ⟨b, 4, none⟩ v4).drew L s p line :=
  LexAt.drew (five_lex0 h hb v0 v1 v2 v3 v4)
theorem five_keep0 {L : Nat} {a w : World} (h : Keep L a w) {b : Nat} (hb : a.heap.size ≤ b) (v0 v1 v2 v3 v4 : Value) :
    Keep L a (((((w.setCell ⟨b, 0, none⟩ v0).setCell ⟨b, 1, none⟩ v1).setCell ⟨b, 2, none⟩ v2).setCell ⟨b, 3, none⟩ v3).setCell ⟨b, 4, none⟩ v4) :=
  ((((h.setNew hb 0 v0).setNew hb 1 v1).setNew hb 2 v2).setNew hb 3 v3).setNew hb 4 v4
theorem five_keep {L : Nat} {a w : World} (h : Keep L a w) {b : Nat} (hb : a.heap.size ≤ b) (v0 v1 v2 v3 v4 : Value) :
    Keep L a (((((w.setCell ⟨b, 0, none⟩ v0).setCell ⟨b, 1, none⟩ v1).setCell ⟨b, 2, none⟩ v2).setCell ⟨b, 3, none⟩ v3).setCell ⟨b, 4, none⟩ v4).drew :=
  (five_keep0 h hb v0 v1 v2 v3 v4).drew

/-- What a reader of a token at i tells: the plain token and the place behind it, or that there is none. -/
def SRes (s : ByteArray) (i L : Nat) (line : Bool) (e : Ending) (w' : World) : Prop :=
  (∀ t E, Lex.tokAt s i = some (t, E) → e = .returned (.tuple #[.agg (tokC t.kind t.text t.num false 0), .bool true]) ∧ LexAt w' L s E line) ∧
  (Lex.tokAt s i = none → ∃ (k : Int) (t : ByteArray) (n : Int) (l : Bool) (a : Int), e = .returned (.tuple #[.agg #[.int .i64 k, .string t, .int .i64 n, .bool l, .int .i64 a], .bool false]))
theorem SRes.no {s : ByteArray} {i L : Nat} {line : Bool} {w' : World} (h : Lex.tokAt s i = none) (k : Int) (t : ByteArray) (n : Int) (l : Bool) (a : Int) : SRes s i L line (.returned (.tuple #[.agg #[.int .i64 k, .string t, .int .i64 n, .bool l, .int .i64 a], .bool false])) w' :=
  ⟨fun _ _ g => (by rw [h] at g; cases g), fun _ => ⟨k, t, n, l, a, rfl⟩⟩
theorem SRes.yes {s : ByteArray} {i L E : Nat} {line : Bool} {w' : World} {t : Lex.Tok} (h : Lex.tokAt s i = some (t, E)) {v : Array Value} (hv : v = tokC t.kind t.text t.num false 0) (hl : LexAt w' L s E line) : SRes s i L line (.returned (.tuple #[.agg v, .bool true])) w' :=
  ⟨fun t' E' g => (by rw [h] at g; cases g; rw [hv]; exact ⟨rfl, hl⟩), fun g => (by rw [h] at g; cases g)⟩

end Go.Proofs.YtpabbadngpjgoaaDoor

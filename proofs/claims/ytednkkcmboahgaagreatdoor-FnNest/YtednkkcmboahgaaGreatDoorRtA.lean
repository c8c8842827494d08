/-
  A checked run: how the tables of a program are checked.
-/
import Derived.Test.YtednkkcmboahgaaGreatDoorRxC
namespace Go.Proofs.YtednkkcmboahgaaGreatDoor
open Go.RowKit

/-- All of a table. -/
def AllT {α : Type} (p : Nat → α → Prop) : Trie α → (Nat → Nat) → Prop
  | .leaf, _ => True
  | .node v l r, g => (∀ a, v = some a → p (g 0) a) ∧ AllT p l (fun n => g (2 * n + 1)) ∧ AllT p r (fun n => g (2 * n + 2))
theorem AllT.get {α : Type} {p : Nat → α → Prop} : ∀ {t : Trie α} {g : Nat → Nat}, AllT p t g → ∀ n a, t.get n = some a → p (g n) a
  | .leaf, g, _, n, a, e => by rw [Trie.get_leaf] at e; cases e
  | .node v l r, g, h, n, a, e => by
    rw [Trie.get_node] at e
    obtain ⟨h1, h2, h3⟩ := h
    split at e
    · rename_i hn
      subst hn
      exact h1 a e
    · split at e
      · rename_i hn ho
        have := h2.get (n / 2) a e
        rwa [show 2 * (n / 2) + 1 = n by omega] at this
      · rename_i hn ho
        have := h3.get (n / 2 - 1) a e
        rwa [show 2 * (n / 2 - 1) + 2 = n by omega] at this
theorem allN {α : Type} {p : Nat → α → Prop} {l r : Trie α} {g : Nat → Nat} (hl : AllT p l (fun n => g (2 * n + 1))) (hr : AllT p r (fun n => g (2 * n + 2))) : AllT p (.node none l r) g := ⟨fun a h => (by cases h), hl, hr⟩
theorem allS {α : Type} {p : Nat → α → Prop} {a : α} {l r : Trie α} {g : Nat → Nat} {i : Nat} (hp : p i a) (hi : g 0 = i) (hl : AllT p l (fun n => g (2 * n + 1))) (hr : AllT p r (fun n => g (2 * n + 2))) : AllT p (.node (some a) l r) g := ⟨fun b h => (by cases h; rw [hi]; exact hp), hl, hr⟩
theorem allL {α : Type} {p : Nat → α → Prop} {g : Nat → Nat} : AllT p (.leaf : Trie α) g := trivial

/-- What the program's own table of types tells. -/
def tyOf (P : Program) (t : Nat) (eq : Bool) : Option TI := match P.info? t with
  | some i => match P.underlying t with
    | some d => match i.zero with
      | some z => match ofV 200 z with
        | some a => some { size := i.size, bytes := i.bytes, desc := d, zero := a, eq := eq }
        | none => none
      | none => none
    | none => none
  | none => none
def tyChk (P : Program) (t : Nat) (ti : TI) : Bool :=
  Nat.beq ti.zero.cells.length ti.size && oneL ti.zero.cells && (match ti.desc with
    | .pointer _ => (match P.info? t with
      | some i => i.comparable
      | none => false)
    | _ => true) && (bif ti.eq then !P.stoodInHeld t && !P.eqGuardType P.depth t && (match ti.desc with
    | .struct fs => fs.toList.all (fun f => f.name != "_")
    | _ => true) else true)
theorem tyOk_of {P : Program} {t : Nat} {ti : TI} {eq : Bool} (h1 : tyOf P t eq = some ti) (h2 : tyChk P t ti = true) : TyOk P t ti := by
  unfold tyOf at h1
  split at h1
  · rename_i i hi
    split at h1
    · rename_i d hd
      split at h1
      · rename_i z hz
        split at h1
        · rename_i a ha
          cases h1
          unfold tyChk at h2
          simp only [Bool.and_eq_true] at h2
          obtain ⟨⟨⟨c1, c2⟩, c3⟩, c4⟩ := h2
          refine ⟨hd, ⟨i, hi, rfl, rfl, z, hz, fun E ι => (ofV_V 200).1 ha⟩, Nat.eq_of_beq_eq_true c1, c2, fun e he => ?_, fun he => ?_⟩
          · simp only at he
            subst he
            simp only [hi] at c3
            exact ⟨i, hi, c3⟩
          · simp only at he
            subst he
            simp only [cond_true, Bool.and_eq_true, Bool.not_eq_true'] at c4
            refine ⟨c4.1.1, c4.1.2, fun fs hfs f hf => ?_⟩
            simp only at hfs
            subst hfs
            have := List.all_eq_true.1 c4.2 f hf
            simpa using this
        · cases h1
      · cases h1
    · cases h1
  · cases h1

/-- What is asked of a function's place in the table. -/
def FnOk (P : Program) (f : Nat) (fn : Func) : Prop := P.funcs[f]? = some fn ∧ (∀ args w, (callFunc f args).run P w = .ok (.enter f args) w) ∧ fn.body.isSome = true
def MeOk (P : Program) (t : Nat) (l : List (String × Nat × Nat)) : Prop := ∀ x ∈ l, ∀ b o w, (method (P.types.size + Made.depth) t (.pointer (some ⟨b, o, none⟩)) x.1).run P w = .ok (x.2.1, .pointer (some ⟨b, o + x.2.2, none⟩)) w
theorem findM_mem {name : String} {f off : Nat} : ∀ {l : List (String × Nat × Nat)}, findM l name = some (f, off) → (name, f, off) ∈ l
  | [], h => by simp [findM] at h
  | (n, g, o) :: r, h => by
    simp only [findM] at h
    split at h
    · rename_i hn
      have hn' : n = name := by simpa using hn
      cases h
      subst hn'
      exact List.mem_cons_self ..
    · exact List.mem_cons_of_mem _ (findM_mem h)

def MvOk (P : Program) (t : Nat) (l : List (String × Nat)) : Prop := ∀ x ∈ l, ∀ v w, (method (P.types.size + Made.depth) t v x.1).run P w = .ok (x.2, v) w
theorem findV_mem {name : String} {f : Nat} : ∀ {l : List (String × Nat)}, findV l name = some f → (name, f) ∈ l
  | [], h => by simp [findV] at h
  | (n, g) :: r, h => by
    simp only [findV] at h
    split at h
    · rename_i hn
      have hn' : n = name := by simpa using hn
      cases h
      rw [hn']
      simp
    · exact List.mem_cons_of_mem _ (findV_mem h)
theorem tabOk_of {P : Program} {T : Tab} (h1 : AllT (TyOk P) T.ty id) (h2 : AllT (FnOk P) T.fn id) (h3 : AllT (MeOk P) T.me id) (h3' : AllT (MvOk P) T.mv id) (h4 : P.follows .mixedOrders = true) (h5 : T.gl ≤ T.ng)
    (h6 : ∀ (s : ByteArray) (w : World), s.size ≤ 1000000 → Calls P T.clone #[.string s] w fun e w' => e = .returned (.string s) ∧ Below w.heap.size w w') (h7 : ∀ args w, (callFunc T.clone args).run P w = .ok (.enter T.clone args) w) (h8 : AllT (HookOk P T) T.hook id) : TabOk P T :=
  ⟨fun t ti e => h1.get t ti e, fun f fn e => ⟨(h2.get f fn e).1, fun _ => (h2.get f fn e).2.1⟩, fun t l name f off e1 e2 b o w => h3.get t l e1 (name, f, off) (findM_mem e2) b o w, fun t l name f e1 e2 v w => h3'.get t l e1 (name, f) (findV_mem e2) v w, fun f fn e => (h2.get f fn e).2.2, h4, h5, h6, h7, fun f k e => h8.get f k e⟩

/-- A row of texts. -/
def rowV (l : List (List UInt8)) : Array Value := (l.map fun s => Value.string ⟨s.toArray⟩).toArray
theorem strV {E : Nat → Int} {ι : Pl} {l : List AI} {s : List UInt8} (h : l.map (byteOf E) = s := by rfl) : V E ι (.str l.length l) (.string ⟨s.toArray⟩) := by
  simp only [V]
  exact ⟨trivial, by unfold bytesA; rw [h]⟩

end Go.Proofs.YtednkkcmboahgaaGreatDoor

/-
  A checked run: a function at known arguments, by a run of its own.
-/
import Derived.Test.YtednkkcmboahgaaGreatDoorRtF
namespace Go.Proofs.YtednkkcmboahgaaGreatDoor
open Go.RowKit

mutual
theorem V.free {E : Nat → Int} {ι κ : Pl} : ∀ {a : AV} {v : Value}, freeV a = true → V E ι a v → V E κ a v
  | .bool _, _, _, h => by simp only [V] at h ⊢; exact h
  | .int _ _, _, _, h => by simp only [V] at h ⊢; exact h
  | .str _ _, _, _, h => by simp only [V] at h ⊢; exact h
  | .nilptr, _, _, h => by simp only [V] at h ⊢; exact h
  | .eslice, _, _, h => by simp only [V] at h ⊢; exact h
  | .nilslice, _, _, h => by simp only [V] at h ⊢; exact h
  | .nilmap, _, _, h => by simp only [V] at h ⊢; exact h
  | .nilfunc, _, _, h => by simp only [V] at h ⊢; exact h
  | .niliface, _, _, h => by simp only [V] at h ⊢; exact h
  | .junk, _, _, h => by simp only [V] at h ⊢; exact h
  | .ptr _ _, _, hf, _ => by simp [freeV] at hf
  | .slice _ _ _, _, hf, _ => by simp [freeV] at hf
  | .map _, _, hf, _ => by simp [freeV] at hf
  | .yld _, _, hf, _ => by simp [freeV] at hf
  | .func f a b, _, hf, h => by
    simp only [freeV, Bool.and_eq_true] at hf
    simp only [V] at h ⊢
    obtain ⟨a', b', e, h1, h2⟩ := h
    exact ⟨a', b', e, VL.free hf.1 h1, VL.free hf.2 h2⟩
  | .iface t a, _, hf, h => by
    simp only [freeV] at hf
    simp only [V] at h ⊢
    obtain ⟨u, e, h1⟩ := h
    exact ⟨u, e, V.free hf h1⟩
  | .agg l, _, hf, h => by
    simp only [freeV] at hf
    simp only [V] at h ⊢
    obtain ⟨l', e, h1⟩ := h
    exact ⟨l', e, VL.free hf h1⟩
  | .tuple l, _, hf, h => by
    simp only [freeV] at hf
    simp only [V] at h ⊢
    obtain ⟨l', e, h1⟩ := h
    exact ⟨l', e, VL.free hf h1⟩
theorem VL.free {E : Nat → Int} {ι κ : Pl} : ∀ {l : List AV} {s : List Value}, freeVs l = true → VL E ι l s → VL E κ l s
  | [], _, _, h => by simp only [VL] at h ⊢; exact h
  | a :: r, _, hf, h => by
    simp only [freeVs, Bool.and_eq_true] at hf
    simp only [VL] at h ⊢
    obtain ⟨v, s, e, h1, h2⟩ := h
    exact ⟨v, s, e, V.free hf.1 h1, VL.free hf.2 h2⟩
end

/-- Letters are put to numbers. -/
def fixI (σ : Nat → Int) : AI → AI
  | .lit z => .lit z
  | .sym i => .lit (σ i)
  | .add a b => .add (fixI σ a) (fixI σ b)
  | .sub a b => .sub (fixI σ a) (fixI σ b)
  | .mul a b => .mul (fixI σ a) (fixI σ b)
mutual
def fixV (σ : Nat → Int) : AV → AV
  | .int k a => .int k (fixI σ a)
  | .str n l => .str n (l.map (fixI σ))
  | .func f a b => .func f (fixVs σ a) (fixVs σ b)
  | .iface t v => .iface t (fixV σ v)
  | .agg l => .agg (fixVs σ l)
  | .tuple l => .tuple (fixVs σ l)
  | .bool b => .bool b
  | .ptr n o => .ptr n o
  | .nilptr => .nilptr
  | .slice n o l => .slice n o l
  | .eslice => .eslice
  | .nilslice => .nilslice
  | .map n => .map n
  | .nilmap => .nilmap
  | .yld n => .yld n
  | .nilfunc => .nilfunc
  | .niliface => .niliface
  | .junk => .junk
def fixVs (σ : Nat → Int) : List AV → List AV
  | [] => []
  | a :: r => fixV σ a :: fixVs σ r
end
def fixB (σ : Nat → Int) : List (Nat × List AV) → List (Nat × List AV)
  | [] => []
  | (t, l) :: r => (t, fixVs σ l) :: fixB σ r
theorem fixI_ev (σ E : Nat → Int) : ∀ a, (fixI σ a).ev E = a.ev σ
  | .lit _ => rfl
  | .sym _ => rfl
  | .add a b => by simp [fixI, AI.ev, fixI_ev σ E a, fixI_ev σ E b]
  | .sub a b => by simp [fixI, AI.ev, fixI_ev σ E a, fixI_ev σ E b]
  | .mul a b => by simp [fixI, AI.ev, fixI_ev σ E a, fixI_ev σ E b]
theorem fix_bytes (σ E : Nat → Int) (l : List AI) : bytesA E (l.map (fixI σ)) = bytesA σ l := by
  unfold bytesA
  rw [List.map_map]
  congr 3
  funext a
  simp [Function.comp, byteOf, fixI_ev]
mutual
theorem V_fix {σ E : Nat → Int} {κ : Pl} : ∀ {a : AV} {v : Value}, V E κ (fixV σ a) v ↔ V σ κ a v
  | .bool _, _ => by simp only [fixV, V]
  | .int _ _, _ => by simp only [fixV, V, fixI_ev]
  | .str _ _, _ => by simp only [fixV, V, fix_bytes, List.length_map]
  | .nilptr, _ => by simp only [fixV, V]
  | .eslice, _ => by simp only [fixV, V]
  | .nilslice, _ => by simp only [fixV, V]
  | .nilmap, _ => by simp only [fixV, V]
  | .nilfunc, _ => by simp only [fixV, V]
  | .niliface, _ => by simp only [fixV, V]
  | .junk, _ => by simp only [fixV, V]
  | .ptr _ _, _ => by simp only [fixV, V]
  | .slice _ _ _, _ => by simp only [fixV, V]
  | .map _, _ => by simp only [fixV, V]
  | .yld _, _ => by simp only [fixV, V]
  | .func f a b, _ => by simp only [fixV, V, VL_fix]
  | .iface t a, _ => by simp only [fixV, V, V_fix]
  | .agg l, _ => by simp only [fixV, V, VL_fix]
  | .tuple l, _ => by simp only [fixV, V, VL_fix]
theorem VL_fix {σ E : Nat → Int} {κ : Pl} : ∀ {l : List AV} {s : List Value}, VL E κ (fixVs σ l) s ↔ VL σ κ l s
  | [], _ => by simp only [fixVs, VL]
  | a :: r, _ => by simp only [fixVs, VL, V_fix, VL_fix]
end
mutual
theorem inst_fix (σ : Nat → Int) (g : Nat → Nat) : ∀ a, instV g (fixV σ a) = fixV σ (instV g a)
  | .bool _ | .int _ _ | .str _ _ | .nilptr | .eslice | .nilslice | .nilmap | .nilfunc | .niliface | .junk | .ptr _ _ | .slice _ _ _ | .map _ | .yld _ => by simp only [fixV, instV]
  | .func f a b => by simp only [fixV, instV, insts_fix σ g a, insts_fix σ g b]
  | .iface t a => by simp only [fixV, instV, inst_fix σ g a]
  | .agg l => by simp only [fixV, instV, insts_fix σ g l]
  | .tuple l => by simp only [fixV, instV, insts_fix σ g l]
theorem insts_fix (σ : Nat → Int) (g : Nat → Nat) : ∀ l, instVs g (fixVs σ l) = fixVs σ (instVs g l)
  | [] => rfl
  | a :: r => by simp only [fixVs, instVs, inst_fix σ g a, insts_fix σ g r]
end
theorem fixVs_len (σ : Nat → Int) : ∀ l, (fixVs σ l).length = l.length
  | [] => rfl
  | a :: r => by simp [fixVs, fixVs_len σ r]
theorem fixVs_get (σ : Nat → Int) : ∀ (l : List AV) (i : Nat), (fixVs σ l)[i]? = (l[i]?).map (fixV σ)
  | [], i => by simp [fixVs]
  | a :: r, 0 => by simp [fixVs]
  | a :: r, i + 1 => by simp [fixVs, fixVs_get σ r i]
theorem fixB_len (σ : Nat → Int) : ∀ l, (fixB σ l).length = l.length
  | [] => rfl
  | (t, l) :: r => by simp [fixB, fixB_len σ r]
theorem fixB_get (σ : Nat → Int) : ∀ (bs : List (Nat × List AV)) (i t : Nat) (l : List AV), (fixB σ bs)[i]? = some (t, l) → ∃ l', bs[i]? = some (t, l') ∧ l = fixVs σ l'
  | [], i, t, l, h => by simp [fixB] at h
  | (u, k) :: r, 0, t, l, h => by
    simp only [fixB, List.getElem?_cons_zero, Option.some.injEq, Prod.mk.injEq] at h
    obtain ⟨rfl, rfl⟩ := h
    exact ⟨k, rfl, rfl⟩
  | (u, k) :: r, i + 1, t, l, h => by
    simp only [fixB, List.getElem?_cons_succ] at h
    obtain ⟨l', h1, h2⟩ := fixB_get σ r i t l h
    exact ⟨l', by simpa using h1, h2⟩

theorem BRel.re {T : Tab} {hk : Trie HK} {bd : Bds} {ng : Nat} {E : Nat → Int} {ι : Pl} {L : Loc} {w : World} {b : AB} : BRel (T.re hk bd ng) E ι L w b ↔ BRel T E ι L w b := by
  cases b <;> exact Iff.rfl
theorem Rel.re {T : Tab} {hk : Trie HK} {bd : Bds} {B : Nat} {E : Nat → Int} {ι : Pl} {h : AH} {w : World} (r : Rel (T.re hk bd T.ng) B E ι h w) : Rel T B E ι h w :=
  ⟨fun n b L e1 e2 => BRel.re.1 (r.blk n b L e1 e2), r.inj, r.lo, r.fresh, r.size, r.ng, r.glob, r.inv⟩
theorem Rel.re' {T : Tab} {hk : Trie HK} {bd : Bds} {B : Nat} {E : Nat → Int} {ι : Pl} {h : AH} {w : World} (r : Rel T B E ι h w) : Rel (T.re hk bd T.ng) B E ι h w :=
  ⟨fun n b L e1 e2 => BRel.re.2 (r.blk n b L e1 e2), r.inj, r.lo, r.fresh, r.size, r.ng, r.glob, r.inv⟩

/-- What an inner run told. -/
noncomputable def chkM (x : Option (AV × AH)) (nm : List Nat) (a : AV) (bs : List (Nat × List AV)) : Bool := match x with
  | some (a', h1) => sameV a' (instV (nmF nm) a) && chkB nm h1 bs nm && Nat.ble h1.next 1000000
  | none => false
/-- The like, where no blocks are told. -/
noncomputable def chkR (x : Option (AV × AH)) (a : AV) : Bool := match x with
  | some (a', _) => sameV a' a
  | none => false

section
variable {P : Program} {T : Tab} {hk hk' : Trie HK} {bd bd' : Bds} {ng' f n : Nat} {args : List AV} {a : AV} {bs : List (Nat × List AV)} {nm : List Nat} {S : AH → Prop}

/-- A function at known arguments, by a run of its own; the letters stay. -/
theorem hook_sym (hT : TabOk P (T.re hk bd T.ng)) (hin : ∀ args w, (callFunc f args).run P w = .ok (.enter f args) w) (hfree : freeVs args = true) (hng : ∀ m ∈ nm, T.ng ≤ m) (hnd : nm.Nodup)
    (hstart : ∀ B E w, T.inv.p B w → B ≤ w.heap.size → ∃ κ0 h0, S h0 ∧ Rel T w.heap.size E κ0 h0 w)
    (hrun : ∀ h0, S h0 → chkM (callX (T.re hk bd T.ng) n f args h0) nm a bs = true) : HookOk P (T.re hk' bd ng') f (.mem args a bs) := by
  intro B E ι h w args' as' b h2 hE e hV r
  refine ⟨hin as' w, ?_⟩
  unfold hookA at e
  rcases cond_some' e with ⟨hs, e'⟩ | ⟨_, e'⟩
  · cases e'
    obtain ⟨κ0, h0, hS, r0⟩ := hstart B E w r.inv r.size
    have hm := hrun h0 hS
    unfold chkM at hm
    split at hm
    · rename_i a' h1 hc
      simp only [Bool.and_eq_true, Nat.ble_eq] at hm
      obtain ⟨⟨m1, m2⟩, m3⟩ := hm
      refine (callX_ok hT (E := E) hE hc (VL.free hfree (sameVs_VL hs hV)) r0.re').mono ?_
      rintro ev w' ⟨κ, v, rfl, hv, hgo, hrel⟩
      have ri : Rel T w.heap.size E κ h1 w' := hrel.re
      obtain ⟨hlen, hbs⟩ := chkB_spec m2
      obtain ⟨q1, q2⟩ := r.laid ri hgo.below (fun i t l hi => by
        obtain ⟨m, n, cs, k1, k2, k3, k4⟩ := hbs i t l hi
        exact ⟨m, n, cs, k1, k2, k3, fun j x hj => by
          obtain ⟨v', e1, e2⟩ := k4 j x hj
          exact ⟨v', e1, fun v hv => sameV_V e2 hv⟩⟩) m3 hng hnd hlen
      exact ⟨_, v, rfl, V.inst (outP_ren ri m3 h.next) (sameV_V m1 hv), q2, q1⟩
    · cases hm
  · cases e'

/-- The like; the letters are put to numbers. -/
theorem hook_fix {σ : Nat → Int} (hσ : Env bd σ) (hT : TabOk P (T.re hk bd T.ng)) (hin : ∀ args w, (callFunc f args).run P w = .ok (.enter f args) w) (hfree : freeVs args = true) (hng : ∀ m ∈ nm, T.ng ≤ m) (hnd : nm.Nodup)
    (hstart : ∀ B E w, T.inv.p B w → B ≤ w.heap.size → ∃ κ0 h0, S h0 ∧ Rel T w.heap.size E κ0 h0 w)
    (hrun : ∀ h0, S h0 → chkM (callX (T.re hk bd T.ng) n f args h0) nm a bs = true) : HookOk P (T.re hk' bd' ng') f (.mem (fixVs σ args) (fixV σ a) (fixB σ bs)) := by
  intro B E ι h w args' as' b h2 hE e hV r
  refine ⟨hin as' w, ?_⟩
  unfold hookA at e
  rcases cond_some' e with ⟨hs, e'⟩ | ⟨_, e'⟩
  · cases e'
    obtain ⟨κ0, h0, hS, r0⟩ := hstart B σ w r.inv r.size
    have hm := hrun h0 hS
    unfold chkM at hm
    split at hm
    · rename_i a' h1 hc
      simp only [Bool.and_eq_true, Nat.ble_eq] at hm
      obtain ⟨⟨m1, m2⟩, m3⟩ := hm
      refine (callX_ok hT (E := σ) hσ hc (VL.free hfree (VL_fix.1 (sameVs_VL hs hV))) r0.re').mono ?_
      rintro ev w' ⟨κ, v, rfl, hv, hgo, hrel⟩
      have ri : Rel T w.heap.size σ κ h1 w' := hrel.re
      obtain ⟨hlen, hbs⟩ := chkB_spec m2
      obtain ⟨q1, q2⟩ := r.laid (bs := fixB σ bs) ri hgo.below (fun i t l hi => by
        obtain ⟨l', hi', rfl⟩ := fixB_get σ bs i t l hi
        obtain ⟨m, n, cs, k1, k2, k3, k4⟩ := hbs i t l' hi'
        refine ⟨m, n, cs, k1, k2, by rw [fixVs_len]; exact k3, fun j x hj => ?_⟩
        rw [fixVs_get] at hj
        cases hj' : l'[j]? with
        | none => rw [hj'] at hj; cases hj
        | some y =>
          rw [hj'] at hj
          cases hj
          obtain ⟨v', e1, e2⟩ := k4 j y hj'
          exact ⟨v', e1, fun v hv => by rw [inst_fix]; exact V_fix.2 (sameV_V e2 hv)⟩) m3 hng hnd (by rw [fixB_len]; exact hlen)
      refine ⟨_, v, rfl, V.inst (outP_ren ri m3 h.next) ?_, q2, q1⟩
      rw [inst_fix]
      exact V_fix.2 (sameV_V m1 hv)
    · cases hm
  · cases e'

theorem hook_two {k l : HK} (h1 : HookOk P T f k) (h2 : HookOk P T f l) : HookOk P T f (.two k l) := by
  intro B E ι h w args as a h1' hE e hV r
  unfold hookA at e
  split at e
  · rename_i q hq
    cases e
    exact h1 B E ι h w args as a h1' hE hq hV r
  · exact h2 B E ι h w args as a h1' hE e hV r
end

end Go.Proofs.YtednkkcmboahgaaGreatDoor

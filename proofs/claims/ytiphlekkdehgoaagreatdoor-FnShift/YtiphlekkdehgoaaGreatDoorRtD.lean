/-
  A checked run: functions that are known by their contracts.
-/
import Derived.Test.YtiphlekkdehgoaaGreatDoorRxC
import Derived.Lib.Bytealg
import Derived.Lib.IndexLaws
namespace Go.Proofs.YtiphlekkdehgoaaGreatDoor
open Go.RowKit

theorem byteOf_lit {E : Nat → Int} {z c : Int} (h0 : 0 ≤ z) (h1 : z ≤ 255) (g0 : 0 ≤ c) (g1 : c ≤ 255) : byteOf E (.lit z) = UInt8.ofNat c.toNat ↔ z = c := by
  unfold byteOf
  simp only [AI.ev]
  constructor
  · intro h
    have h2 := congrArg UInt8.toNat h
    simp only [UInt8.toNat_ofNat'] at h2
    omega
  · intro h
    rw [h]
theorem hasL_mem {E : Nat → Int} {c : Int} (g0 : 0 ≤ c) (g1 : c ≤ 255) : ∀ {l : List AI} {b : Bool}, hasL c l = some b → (UInt8.ofNat c.toNat ∈ l.map (byteOf E) ↔ b = true)
  | [], b, h => by
    simp only [hasL, Option.some.injEq] at h
    subst h
    simp
  | a :: r, b, h => by
    simp only [hasL] at h
    split at h
    · rename_i z
      rcases cond_some' h with ⟨hz, h'⟩ | ⟨_, h'⟩
      · simp only [Bool.and_eq_true, leI_iff] at hz
        split at h'
        · rename_i b' hb
          cases h'
          have ih := hasL_mem (E := E) g0 g1 hb
          simp only [List.map_cons, List.mem_cons, ih, Bool.or_eq_true, eqI_iff]
          constructor
          · rintro (h | h)
            · exact .inl ((byteOf_lit hz.1 hz.2 g0 g1).1 h.symm)
            · exact .inr h
          · rintro (h | h)
            · exact .inl ((byteOf_lit hz.1 hz.2 g0 g1).2 h).symm
            · exact .inr h
        · cases h'
      · cases h'
    · cases h
theorem index_mem {l : List UInt8} {c : UInt8} : (0 ≤ Lib.indexByte l c) ↔ c ∈ l := by
  constructor
  · intro h
    have := (Lib.indexByte_some (l := l) (c := c) (o := (Lib.indexByte l c).toNat) (by omega)).1
    exact List.mem_of_getElem? this
  · intro h
    have hg := Lib.indexByte_ge l c
    apply Classical.byContradiction
    intro hn
    have he : Lib.indexByte l c = -1 := by omega
    obtain ⟨k, hk⟩ := List.mem_iff_getElem?.1 h
    exact Lib.indexByte_none he k hk

section
variable {P : Program} {T : Tab} {f : Nat} (hin : ∀ args w, (callFunc f args).run P w = .ok (.enter f args) w)
include hin

theorem hook_has (hc : ∀ (s : ByteArray) (c : UInt8) (w : World), Calls P f #[.string s, .string ⟨#[c]⟩] w fun e w' => e = .returned (.bool (decide (0 ≤ Lib.indexByte s.data.toList c))) ∧ w' = w) : HookOk P T f .has := by
  intro B E ι h w args as a h1 e hV r
  refine ⟨hin as w, ?_⟩
  unfold hookA at e
  simp only [] at e
  split at e
  · rename_i n l m c
    rcases cond_some' e with ⟨hc', e'⟩ | ⟨_, e'⟩
    · simp only [Bool.and_eq_true, leI_iff] at hc'
      split at e'
      · rename_i b hb
        cases e'
        simp only [VL, V] at hV
        obtain ⟨v1, s1, q1, ⟨_, rfl⟩, v2, s2, rfl, ⟨_, rfl⟩, rfl⟩ := hV
        have has : as = #[.string (bytesA E l), .string (bytesA E [.lit c])] := Array.ext' q1
        subst has
        refine (hc (bytesA E l) (UInt8.ofNat c.toNat) w).mono ?_
        rintro e w' ⟨rfl, rfl⟩
        refine ⟨ι, _, rfl, ?_, Go.refl _ _ _ _, r⟩
        simp only [V]
        congr 1
        rw [Bool.eq_iff_iff, decide_eq_true_eq, index_mem, ← hasL_mem (E := E) hc'.1.2 hc'.2 hb]
        unfold bytesA
        simp
      · cases e'
    · cases e'
  · cases e

theorem hook_as {te tp : Nat} {I : World → Prop} (hI : ∀ B w, T.inv.p B w → I w)
    (hc : ∀ (e t : Addr) (old : Value) (w : World), I w → w.cell? t = some old → w.frozen? t = false → Calls P f #[.iface te (.pointer (some e)), .iface tp (.pointer (some t))] w fun ev w' => ev = .returned (.bool true) ∧ ∃ w1, Below w.heap.size w w1 ∧ w' = w1.setCell t (.pointer (some e))) : HookOk P T f (.asE te tp) := by
  intro B E ι h w args as a h1 e hV r
  refine ⟨hin as w, ?_⟩
  unfold hookA at e
  simp only [] at e
  split at e
  · rename_i t n o u q p
    rcases cond_some' e with ⟨hc', e'⟩ | ⟨_, e'⟩
    · simp only [Bool.and_eq_true, Nat.beq_eq, Nat.ble_eq] at hc'
      obtain ⟨⟨rfl, rfl⟩, hng⟩ := hc'
      split at e'
      · rename_i m cs t' hq
        rcases cond_some' e' with ⟨hp, e2⟩ | ⟨_, e2⟩
        · cases e2
          rw [Nat.blt_eq] at hp
          simp only [VL, V] at hV
          obtain ⟨v1, s1, q1, ⟨u1, rfl, L1, hL1, rfl⟩, v2, s2, rfl, ⟨u2, rfl, L2, hL2, rfl⟩, rfl⟩ := hV
          have has : as = #[.iface t (.pointer (some ⟨L1.blk, L1.base + o, none⟩)), .iface u (.pointer (some ⟨L2.blk, L2.base + p, none⟩))] := Array.ext' q1
          subst has
          obtain ⟨c, hw, hcs, hm, _, _⟩ := r.blk _ _ _ hq hL2
          have hlt : L2.base + p < c.size := by omega
          have hcell : ∀ {W : World}, W.heap[L2.blk]? = some (.cells c t' (0, 0)) → W.cell? ⟨L2.blk, L2.base + p, none⟩ = some c[L2.base + p] := fun {W} hW => by simp [World.cell?, hW, hlt]
          have hfr : ∀ {W : World}, W.heap[L2.blk]? = some (.cells c t' (0, 0)) → W.frozen? ⟨L2.blk, L2.base + p, none⟩ = false := fun {W} hW => by simp [World.frozen?, hW]
          refine (hc _ _ _ w (hI B w r.inv) (hcell hw) (hfr hw)).mono ?_
          rintro ev w' ⟨rfl, w1, hb, rfl⟩
          have hw1 : w1.heap[L2.blk]? = some (.cells c t' (0, 0)) := by rw [hb.block _ (Array.getElem?_eq_some_iff.1 hw).1]; exact hw
          obtain ⟨w2, hst, hgo, hrel⟩ := cells_write (P := P) (r.under hb) hq hL2 hng (off := p) (l := [.ptr n o]) (vs := [.pointer (some ⟨L1.blk, L1.base + o, none⟩)]) (VL.one (by simp only [V]; exact ⟨L1, hL1, rfl⟩)) rfl (by simp; omega)
          have hset : (storeCells ⟨L2.blk, L2.base + p, none⟩ [.pointer (some ⟨L1.blk, L1.base + o, none⟩)] 0).run P w1 = .ok () (w1.setCell ⟨L2.blk, L2.base + p, none⟩ (.pointer (some ⟨L1.blk, L1.base + o, none⟩))) := by
            simp [storeCells, Addr.add]
            rw [run_store P w1 _ _ _ (by rfl)]
            simp [hcell hw1, hfr hw1]
          rw [hset] at hst
          cases hst
          exact ⟨ι, .bool true, rfl, by simp [V], (Go.under r hb).trans hgo, hrel⟩
        · cases e2
      · cases e'
    · cases e'
  · cases e

omit hin in
theorem varP_ok {B : Nat} {E : Nat → Int} {ι : Pl} {h : AH} {w : World} (r : Rel T B E ι h w) {g u m : Nat} (hg : g < T.gl) (e : varP h g = some (u, m)) : ∃ L, ι m = some L ∧ w.cell? ⟨g, 0, none⟩ = some (.iface u (.pointer (some ⟨L.blk, L.base, none⟩))) := by
  unfold varP at e
  split at e
  · rename_i n cs t hq
    split at e
    · rename_i u' m' hcs
      cases e
      obtain ⟨L, hL, rfl, hb⟩ := r.glob g hg
      obtain ⟨c, hw, _, _, hc, _⟩ := r.blk _ _ _ hq hL
      obtain ⟨_, v, hv, hV⟩ := hc 0 _ hcs
      simp only [V] at hV
      obtain ⟨x, rfl, L', hL', rfl⟩ := hV
      refine ⟨L', hL', ?_⟩
      rw [hb] at hv
      simp [World.cell?, hw]
      simpa using hv
    · cases e
  · cases e
omit hin in
theorem anyVar_ok {h : AH} {ts m : Nat} : ∀ {gs : List Nat}, anyVar h ts m gs = true → ∃ g ∈ gs, varP h g = some (ts, m)
  | [], e => by simp [anyVar] at e
  | g :: r, e => by
    simp only [anyVar, Bool.or_eq_true] at e
    rcases e with e | e
    · split at e
      · rename_i u n hv
        simp only [Bool.and_eq_true, Nat.beq_eq] at e
        obtain ⟨rfl, rfl⟩ := e
        exact ⟨g, List.mem_cons_self .., hv⟩
      · cases e
    · obtain ⟨g', h1, h2⟩ := anyVar_ok e
      exact ⟨g', List.mem_cons_of_mem _ h1, h2⟩

theorem hook_is {te ts g : Nat} {gs : List Nat} (hgl : g < T.gl) (hgs : ∀ x ∈ gs, x < T.gl) {R : World → Addr → Addr → Prop}
    (hD : ∀ B w, T.inv.p B w → ∀ x ∈ gs, ∀ a b : Addr, w.cell? ⟨x, 0, none⟩ = some (.iface ts (.pointer (some a))) → w.cell? ⟨g, 0, none⟩ = some (.iface ts (.pointer (some b))) → R w b a)
    (hcT : ∀ (e b : Addr) (w : World), e.spot = none → w.cell? ⟨g, 0, none⟩ = some (.iface ts (.pointer (some b))) → Calls P f #[.iface te (.pointer (some e)), .iface ts (.pointer (some b))] w fun ev w' => ev = .returned (.bool true) ∧ Below w.heap.size w w')
    (hcF : ∀ (e b m : Addr) (w : World), e.spot = none → w.cell? ⟨g, 0, none⟩ = some (.iface ts (.pointer (some b))) → R w b m → Calls P f #[.iface te (.pointer (some e)), .iface ts (.pointer (some m))] w fun ev w' => ev = .returned (.bool false) ∧ Below w.heap.size w w') : HookOk P T f (.isE te ts g gs) := by
  intro B E ι h w args as a h1 e hV r
  refine ⟨hin as w, ?_⟩
  unfold hookA at e
  simp only [] at e
  split at e
  · rename_i t n o u m
    rcases cond_some' e with ⟨hc', e'⟩ | ⟨_, e'⟩
    · simp only [Bool.and_eq_true, Nat.beq_eq] at hc'
      obtain ⟨rfl, rfl⟩ := hc'
      simp only [VL, V] at hV
      obtain ⟨v1, s1, q1, ⟨u1, rfl, L1, hL1, rfl⟩, v2, s2, rfl, ⟨u2, rfl, L2, hL2, rfl⟩, rfl⟩ := hV
      have has : as = #[.iface t (.pointer (some ⟨L1.blk, L1.base + o, none⟩)), .iface u (.pointer (some ⟨L2.blk, L2.base + 0, none⟩))] := Array.ext' q1
      subst has
      split at e'
      · rename_i u' yes hv
        rcases cond_some' e' with ⟨hu, e2⟩ | ⟨_, e2⟩
        · rw [Nat.beq_eq] at hu
          subst hu
          obtain ⟨L, hL, hcell⟩ := varP_ok r hgl hv
          rcases cond_some' e2 with ⟨hm, e3⟩ | ⟨hm, e3⟩
          · rw [Nat.beq_eq] at hm
            subst hm
            cases e3
            rw [hL] at hL2
            cases hL2
            refine (hcT _ _ w rfl hcell).mono ?_
            rintro ev w' ⟨rfl, hb⟩
            exact ⟨ι, _, rfl, by simp [V], Go.under r hb, r.under hb⟩
          · rcases cond_some' e3 with ⟨ha, e4⟩ | ⟨_, e4⟩
            · cases e4
              obtain ⟨x, hx, hxv⟩ := anyVar_ok ha
              obtain ⟨L', hL', hcell'⟩ := varP_ok r (hgs x hx) hxv
              rw [hL'] at hL2
              cases hL2
              refine (hcF _ _ _ w rfl hcell (hD B w r.inv x hx _ _ hcell' hcell)).mono ?_
              rintro ev w' ⟨rfl, hb⟩
              exact ⟨ι, _, rfl, by simp [V], Go.under r hb, r.under hb⟩
            · cases e4
        · cases e2
      · cases e'
    · cases e'
  · cases e
end

end Go.Proofs.YtiphlekkdehgoaaGreatDoor

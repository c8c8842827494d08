/-
  A heap that a call itself makes: how it lies; the walk of the program's told (of all holders).
-/
import Derived.Test.YtlmlmdmechhalaaHpU
import Derived.Test.YtlmlmdmechhalaaMkH
namespace Go.Proofs.Ytlmlmdmechhalaa
open Go.RowKit
open Hp (PP OO propC rP kl encP putAll)

def objL (x : OO) (c : OC) : List Value := [.int .i64 x.cls, .int .i64 x.pro, .slice c.pa x.ps.length c.pc]
def pV (x : OO) (c : OC) : Value := .slice c.pa x.ps.length c.pc
def rowO (h : List OO) (cs : Nat → OC) (n : Nat) : List Value := (List.range n).flatMap fun j => ((h[j]?).map fun x => objL x (cs j)).getD [.int .i64 0, .int .i64 0, .slice none 0 0]
/-- The first n objects of a heap, in rows of the call's own, apart from one another. -/
def HOwn (w : World) (lo : Nat) (v : Value) (h : List OO) (n : Nat) (cs : Nat → OC) : Prop :=
  w.ownsRow lo 76 3 v n (rowO h cs n) ∧ (∀ j (hj : j < h.length), j < n → POwn w lo (pV h[j] (cs j)) h[j].ps) ∧
  (∀ i j (hi : i < h.length) (hj : j < h.length), i < j → j < n → ∀ q, (pV h[i] (cs i)).ownBlock = some q → (pV h[j] (cs j)).ownBlock = some q → False)
theorem HOwn.under {w w' : World} {lo : Nat} {v : Value} {h : List OO} {n : Nat} {cs : Nat → OC} (k : HOwn w lo v h n cs) (hb : Below w.heap.size w w') : HOwn w' lo v h n cs :=
  ⟨row_same k.1 fun q hq => hb.block q (World.ownsRow.lt k.1 q hq).2, fun j hj hjn => (k.2.1 j hj hjn).under hb, k.2.2⟩
theorem HOwn.low {w : World} {lo lo' : Nat} {v : Value} {h : List OO} {n : Nat} {cs : Nat → OC} (k : HOwn w lo v h n cs) (hl : lo' ≤ lo) : HOwn w lo' v h n cs :=
  ⟨World.ownsRow.mono k.1 hl, fun j hj hjn => World.ownsRow.mono (k.2.1 j hj hjn) hl, k.2.2⟩
theorem hOwn_nil (w : World) (lo : Nat) (h : List OO) (cs : Nat → OC) : HOwn w lo (.slice none 0 0) h 0 cs :=
  ⟨World.ownsRow_nil _ _ _ _, fun j _ e => absurd e (by omega), fun i j _ _ _ e => absurd e (by omega)⟩
theorem rowO_snoc (h : List OO) (cs : Nat → OC) (n : Nat) (hn : n < h.length) (c : OC) : rowO h (fun j => if j = n then c else cs j) (n + 1) = rowO h cs n ++ objL h[n] c := by
  unfold rowO
  rw [List.range_succ, List.flatMap_append]
  congr 1
  · have : ∀ l : List Nat, (∀ j ∈ l, j < n) → l.flatMap (fun j => ((h[j]?).map fun x => objL x (if j = n then c else cs j)).getD [.int .i64 0, .int .i64 0, .slice none 0 0]) = l.flatMap (fun j => ((h[j]?).map fun x => objL x (cs j)).getD [.int .i64 0, .int .i64 0, .slice none 0 0]) := by
      intro l hl
      induction l with
      | nil => rfl
      | cons a r ih =>
        rw [List.flatMap_cons, List.flatMap_cons, ih fun j hj => hl j (List.mem_cons_of_mem _ hj)]
        have : a < n := hl a (List.mem_cons_self ..)
        rw [if_neg (by omega : ¬ a = n)]
    exact this _ fun j hj => List.mem_range.1 hj
  · simp [hn]
theorem rowO_len (h : List OO) (cs : Nat → OC) (n : Nat) : (rowO h cs n).length = n * 3 := by
  unfold rowO
  induction n with
  | zero => rfl
  | succ n ih =>
    rw [List.range_succ, List.flatMap_append, List.length_append, ih, List.flatMap_cons, List.flatMap_nil, List.append_nil]
    generalize h[n]? = y
    cases y with
    | none => show n * 3 + 3 = _; omega
    | some y => show n * 3 + 3 = _; omega
theorem rowO_at (h : List OO) (cs : Nat → OC) (n j : Nat) (hj : j < h.length) (hjn : j < n) (o : Nat) (ho : o < 3) : (rowO h cs n)[j * 3 + o]? = (objL h[j] (cs j))[o]? := by
  induction n with
  | zero => omega
  | succ n ih =>
    have hs : rowO h cs (n + 1) = rowO h cs n ++ ((h[n]?).map fun x => objL x (cs n)).getD [.int .i64 0, .int .i64 0, .slice none 0 0] := by
      unfold rowO
      rw [List.range_succ, List.flatMap_append]
      simp
    rw [hs]
    by_cases e : j = n
    · subst e
      rw [List.getElem?_append_right (by rw [rowO_len]; omega), rowO_len]
      have : j * 3 + o - j * 3 = o := by omega
      rw [this]
      simp [hj]
    · rw [List.getElem?_append_left (by rw [rowO_len]; omega)]
      exact ih (by omega)
theorem POwn.apart {w : World} {B : Nat} {v : Value} {ps : List PP} (h : POwn w B v ps) {q : Nat} (hq : v.ownBlock = some q) {cur : Array Value} (hc : w.heap[q]? = some (.cells cur 76 (0, 0))) : False := by
  obtain ⟨_, cc, hcc⟩ := own_apart h hq
  rw [hcc] at hc
  injection hc with hc
  injection hc with _ ht _
  exact absurd ht (by decide)
/-- One object more, at the end of the row. -/
theorem HOwn.snoc {w w' : World} {lo W : Nat} {v v' : Value} {h : List OO} {n : Nat} {cs : Nat → OC} (k : HOwn w lo v h n cs) (hn : n < h.length) {c : OC} (hc : POwn w W (pV h[n] c) h[n].ps) (hlo : lo ≤ W) (hW : ∀ j (hj : j < h.length), j < n → ∀ q, (pV h[j] (cs j)).ownBlock = some q → q < W)
    (hg : w.grownBy w' v.ownBlock) (hown : w'.ownsRow lo 76 3 v' (n + 1) (rowO h cs n ++ objL h[n] c)) : HOwn w' lo v' h (n + 1) (fun j => if j = n then c else cs j) := by
  have far : ∀ x (d : OC) l (ps : List PP), POwn w l (pV x d) ps → POwn w' l (pV x d) ps := fun x d l ps hd => row_same hd fun q hq => hg.block q (World.ownsRow.lt hd q hq).2 fun e => by
    obtain ⟨_, cc, hcc⟩ := own_apart k.1 e.symm
    exact hd.apart hq hcc
  refine ⟨by rw [rowO_snoc h cs n hn]; exact hown, fun j hj hjn => ?_, fun i j hi hj hij hjn q h1 h2 => ?_⟩
  · by_cases e : j = n
    · subst e
      simp only [if_true]
      exact World.ownsRow.mono (far _ _ _ _ hc) hlo
    · simp only [if_neg e]
      exact far _ _ _ _ (k.2.1 j hj (by omega))
  · dsimp only at h1 h2
    by_cases e : j = n
    · subst e
      simp only [if_true] at h2
      rw [if_neg (by omega : ¬ i = j)] at h1
      have := hW i hi (by omega) q h1
      have := (World.ownsRow.lt hc q h2).1
      omega
    · rw [if_neg (by omega : ¬ i = n)] at h1
      rw [if_neg e] at h2
      exact k.2.2 i j hi hj hij (by omega) q h1 h2

/-- 'objects = append(objects, o)', objects a slice of the call's own. -/
theorem app_obj {w : World} {ops : Array Oper} {rest : List Oper} {o : Oper} {a : Act} {Q : Exit → Act → World → Prop} (hgd : o.guard = none) (s x : Operand)
    (ho : o.op = .call { callee := .builtin .append, args := #[s, x], argTypes := #[23, 23] })
    (B : Nat) (v : Value) (n : Nat) (l : List Value) (hs : a.eval s = v) (hown : w.ownsRow B 76 3 v n l)
    (ad : Addr) (y : OO) (c : OC) (hx : a.eval x = .slice (some ad) 1 1) (hnews : ∀ j u, (objL y c)[j]? = some u → w.cell? (ad.add j) = some u)
    (hlen : n ≤ 1100000) (hB : B ≤ w.heap.size)
    (h : ∀ v' w', w'.ownsRow B 76 3 v' (n + 1) (l ++ objL y c) → w.grownBy w' v.ownBlock → wpList Try.prog ops Q rest (a.put o.dst v') w') : wpList Try.prog ops Q (o :: rest) a w := by
  obtain ⟨i0, hi, hz0, hz1, hz2⟩ := info_parts Try.infoObject
  refine wpList_append_own w hgd s x 23 ho B 76 i0 zeroOb 3 40 Try.underlying23 hi hz0 hz1 hz2 rfl (by decide) v n l hs hown ad 1 1 (objL y c) hx rfl hnews
    (fun u hu => ?_) (by unfold maxLen; omega) (by omega) hB (fun v' w' h1 h2 _ => h v' w' h1 h2)
  simp only [objL, List.mem_cons, List.mem_nil_iff, or_false] at hu
  rcases hu with rfl | rfl | rfl <;> rfl

/-- A heap of the call's own, as the law's functions want it. -/
theorem HOwn.gh {w : World} {lo : Nat} {a : Option Addr} {cap : Nat} {h : List OO} {cs : Nat → OC} (k : HOwn w lo (.slice a h.length cap) h h.length cs) (h0 : h ≠ []) : ∃ g N gs Ns, a = some ⟨g, 0, none⟩ ∧ GH w g N h cs gs Ns ∧ (∀ q, Blks g h gs q → lo ≤ q ∧ q < w.heap.size) := by
  obtain ⟨k1, k2, k3⟩ := k
  have hpos : 0 < h.length := List.length_pos_iff.2 h0
  rcases k1.2 with ⟨_, e⟩ | ⟨g, cap', cur, e, hlo, hg, hnc, hm, hs, htk⟩
  · omega
  injection e with e1 _ e3
  subst e1 e3
  have hgs : ∀ j (hj : j < h.length), ∃ q N, h[j].ps ≠ [] → (cs j).pa = some ⟨q, 0, none⟩ ∧ PRowN w q N h[j].ps ∧ (pV h[j] (cs j)).ownBlock = some q ∧ lo ≤ q := fun j hj => by
    by_cases hps : h[j].ps = []
    · exact ⟨0, 0, fun h => absurd hps h⟩
    have hp := k2 j hj hj
    rcases hp.2 with ⟨_, e⟩ | ⟨q, c, cu, e, hq, hqb, hn, _, hsz, htk⟩
    · exact absurd (List.length_eq_zero_iff.1 e) hps
    · have e' := e
      unfold pV at e'
      injection e' with e1 _ e3
      refine ⟨q, c * 6, fun _ => ⟨e1, ⟨by omega, fun i => cu.getD i undef, ⟨cu, hqb, hsz, fun i hi => by simp [Array.getD, hsz, hi]⟩, fun i hi => ?_⟩, by rw [e]; rfl, hq⟩⟩
      have hat : ∀ o, o < 6 → cu.getD (i * 6 + o) undef = ((propL h[j].ps[i])[o]?).getD undef := fun o ho => by
        have h1 := flatP_at h[j].ps i hi o ho
        rw [← htk, List.getElem?_take, if_pos (by omega)] at h1
        rw [← h1]
        simp
      refine ⟨hat 0 (by omega), hat 1 (by omega), hat 2 (by omega), hat 3 (by omega), hat 4 (by omega), hat 5 (by omega)⟩
  refine ⟨g, cap * 3, fun j => if hj : j < h.length then (hgs j hj).choose else 0, fun j => if hj : j < h.length then (hgs j hj).choose_spec.choose else 0, rfl, ⟨by omega, ⟨fun i => cur.getD i undef, ⟨cur, hg, hs, fun i hi => by simp [Array.getD, hs, hi]⟩, fun j hj => ?_⟩, fun j hj => ?_, fun j hj hne => ?_, fun i j hi hj hij h1 h2 => ?_⟩, fun q hq => ?_⟩
  · have hat : ∀ o, o < 3 → cur.getD (j * 3 + o) undef = ((objL h[j] (cs j))[o]?).getD undef := fun o ho => by
      have h1 := rowO_at h cs h.length j hj hj o ho
      rw [← htk, List.getElem?_take, if_pos (by omega)] at h1
      rw [← h1]
      simp
    exact ⟨hat 0 (by omega), hat 1 (by omega), hat 2 (by omega)⟩
  · by_cases hps : h[j].ps = []
    · exact .inl hps
    · have := (hgs j hj).choose_spec.choose_spec hps
      simp only [dif_pos hj]
      exact .inr ⟨this.1, this.2.1⟩
  · have := (hgs j hj).choose_spec.choose_spec hne
    simp only [dif_pos hj]
    intro e
    have t3 := this.2.2.1
    rw [e] at t3
    exact (k2 j hj hj).apart t3 hg
  · have q1 := (hgs i hi).choose_spec.choose_spec h1
    have q2 := (hgs j hj).choose_spec.choose_spec h2
    simp only [dif_pos hi, dif_pos hj]
    intro e
    have t2 := q2.2.2.1
    rw [← e] at t2
    rcases Nat.lt_or_gt_of_ne hij with hl | hl
    · exact k3 i j hi hj hl hj _ q1.2.2.1 t2
    · exact k3 j i hj hi hl hi _ t2 q1.2.2.1
  · rcases hq with rfl | ⟨j, hj, hne, rfl⟩
    · exact ⟨hlo, (Array.getElem?_eq_some_iff.1 hg).1⟩
    · have := (hgs j hj).choose_spec.choose_spec hne
      simp only [dif_pos hj]
      exact ⟨this.2.2.2, this.2.1.lt⟩

end Go.Proofs.Ytlmlmdmechhalaa

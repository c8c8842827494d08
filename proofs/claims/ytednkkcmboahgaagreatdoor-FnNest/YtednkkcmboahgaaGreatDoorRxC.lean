/-
  A checked run: RfY, RfZ, RgA, RgB, RgC, RgD, RgE, RgF, RgG, RgH, RgI, RgJ, RgK, RgL, RgM, RgN, RgO, RgP, RgQ, RgR, RgS, RgT, RgU, RgV, RgW, RhC, RgX in one text. (Written by wip/tools/rf/mkmerge.py.)
-/
import Derived.Test.YtednkkcmboahgaaGreatDoorRxB
import Derived.Defers
import Derived.RangeFuncLeaves
import Derived.Orders
import Derived.Test.YtednkkcmboahgaaGreatDoorRxA

/- A checked run: frames, and how one is left. -/
namespace Go.Proofs.YtednkkcmboahgaaGreatDoor
open Go.RowKit

/-- An item of a frame's row. -/
def IR (ι : Pl) : AItem → Item → Prop
  | .code c, i => i = .code c
  | .inBlock n, i => i = .inBlock n
  | .inLoop c, i => i = .inLoop c
  | .inScope c, i => i = .inScope c
  | .inRF _, _ => False
  | .endRF n, i => ∃ L, ι n = some L ∧ i = .endRangeFunc L.blk
  | .beginRound, i => i = .beginRound
def IL (ι : Pl) : List AItem → List Item → Prop
  | [], l => l = []
  | a :: r, l => ∃ i s, l = i :: s ∧ IR ι a i ∧ IL ι r s
def DR (E : Nat → Int) (ι : Pl) : AD → Deferred → Prop
  | .call f args, d => ∃ cap as : Array Value, d = { target := .fn (.func f) cap, args := as } ∧ VL E ι args (as ++ cap).toList
  | .mark n, d => ∃ L, ι n = some L ∧ d = { target := .collected L.blk, args := #[] }
def DL (E : Nat → Int) (ι : Pl) : List AD → List Deferred → Prop
  | [], l => l = []
  | a :: r, l => ∃ d s, l = d :: s ∧ DR E ι a d ∧ DL E ι r s
theorem IR.mono {ι κ : Pl} (h : Ext ι κ) {a : AItem} {i : Item} (g : IR ι a i) : IR κ a i := by
  cases a <;> first
    | exact g
    | (obtain ⟨L, hL, e⟩ := g; exact ⟨L, h _ _ hL, e⟩)
theorem IL.mono {ι κ : Pl} (h : Ext ι κ) : ∀ {a : List AItem} {l : List Item}, IL ι a l → IL κ a l
  | [], _, g => g
  | _ :: _, _, g => by
    obtain ⟨i, s, e, g1, g2⟩ := g
    exact ⟨i, s, e, g1.mono h, IL.mono h g2⟩
theorem DR.mono {E : Nat → Int} {ι κ : Pl} (h : Ext ι κ) {a : AD} {d : Deferred} (g : DR E ι a d) : DR E κ a d := by
  cases a with
  | call f args =>
    obtain ⟨cap, as, e, g1⟩ := g
    exact ⟨cap, as, e, g1.mono h⟩
  | mark n =>
    obtain ⟨L, hL, e⟩ := g
    exact ⟨L, h _ _ hL, e⟩
theorem DL.mono {E : Nat → Int} {ι κ : Pl} (h : Ext ι κ) : ∀ {a : List AD} {l : List Deferred}, DL E ι a l → DL E κ a l
  | [], _, g => g
  | _ :: _, _, g => by
    obtain ⟨i, s, e, g1, g2⟩ := g
    exact ⟨i, s, e, g1.mono h, DL.mono h g2⟩

def RR (ι : Pl) : Option Nat → Option Nat → Prop
  | none, r => r = none
  | some n, r => ∃ L, ι n = some L ∧ r = some L.blk
theorem RR.mono {ι κ : Pl} (h : Ext ι κ) : ∀ {a b : Option Nat}, RR ι a b → RR κ a b
  | none, _, g => g
  | some _, _, g => by
    obtain ⟨L, hL, e⟩ := g
    exact ⟨L, h _ _ hL, e⟩

/-- A frame of the run stands for one of the machine. -/
structure FRel (E : Nat → Int) (ι : Pl) (F : AF) (fr : Frame) : Prop where
  fn : fr.fn = F.fn
  tm : TR E ι F.tm fr.tmps
  todo : IL ι F.todo fr.todo
  dfs : DL E ι F.dfs fr.defers
  mode : fr.mode = if F.ret then .returning else .run
  rnd : RR ι F.rnd fr.roundOf
  kind : fr.kind = .normal ∨ (fr.kind = .deferred ∧ F.rnd = none)
theorem FRel.mono {E : Nat → Int} {ι κ : Pl} (h : Ext ι κ) {F : AF} {fr : Frame} (g : FRel E ι F fr) : FRel E κ F fr := ⟨g.fn, g.tm.mono h, g.todo.mono h, g.dfs.mono h, g.mode, g.rnd.mono h, g.kind⟩

/-- No panic is about to be told. -/
def Quiet (k : CallKind) (cs : List Frame) : Prop := k = .normal ∨ (k = .deferred ∧ ∃ c rest, cs = c :: rest ∧ c.mode = .returning)

/-- The frame is left with a value. -/
def Out (P : Program) (fr : Frame) (cs : List Frame) (w : World) (v : Value) (w1 : World) : Prop := match fr.roundOf with
  | none => Quiet fr.kind cs → ∃ fr', Steps P (lone fr cs w) (lone fr' cs w1) ∧ fr'.fn = fr.fn ∧ fr'.kind = fr.kind ∧ fr'.mode = .returning ∧ fr'.defers = [] ∧ ∃ fn, P.funcs[fr'.fn]? = some fn ∧ (results fn fr'.tmps).run P w1 = .ok v w1
  | some _ => fr.kind = .normal → ∀ c rest, cs = c :: rest → Steps P (lone fr cs w) (lone (c.finish v) rest w1)

section
variable {P : Program} {cs : List Frame}
theorem Out.trans {fr fr' : Frame} {w w' w1 : World} {v : Value} (hs : Quiet fr.kind cs → Steps P (lone fr cs w) (lone fr' cs w')) (hr : fr'.roundOf = fr.roundOf) (hk : fr'.kind = fr.kind) (hf : fr'.fn = fr.fn) (ho : Out P fr' cs w' v w1) : Out P fr cs w v w1 := by
  unfold Out at ho ⊢
  rw [hr, hk] at ho
  cases hro : fr.roundOf with
  | none =>
    rw [hro] at ho
    intro hq
    obtain ⟨fr2, h1, h2, h3, h4⟩ := ho hq
    exact ⟨fr2, (hs hq).trans h1, h2.trans hf, h3, h4⟩
  | some l =>
    rw [hro] at ho
    intro hkn c rest hc
    exact (hs (.inl hkn)).trans (ho hkn c rest hc)

theorem Out.step {fr fr' : Frame} {w w' w1 : World} {v : Value} (hs : step P (lone fr cs w) = .next (lone fr' cs w')) (hr : fr'.roundOf = fr.roundOf) (hk : fr'.kind = fr.kind) (hf : fr'.fn = fr.fn) (ho : Out P fr' cs w' v w1) : Out P fr cs w v w1 :=
  Out.trans (fun _ => .one hs) hr hk hf ho

/-- A call's frame, left. -/
theorem Out.call {fr c : Frame} {w w1 : World} {v : Value} (ho : Out P fr (c :: cs) w v w1) (hk : fr.kind = .normal) : Steps P (lone fr (c :: cs) w) (lone (c.finish v) cs w1) := by
  unfold Out at ho
  cases hro : fr.roundOf with
  | none =>
    rw [hro] at ho
    obtain ⟨fr2, h1, h2, h3, h4, h5, fn, h6, h7⟩ := ho (.inl hk)
    exact h1.trans (.one (step_leave_returned ⟨h4, h5, h3.trans hk, fn, h6, h7⟩))
  | some l =>
    rw [hro] at ho
    exact ho hk c cs rfl
/-- A deferred call's frame, left. -/
theorem Out.deferred {fr c : Frame} {w w1 : World} {v : Value} (ho : Out P fr (c :: cs) w v w1) (hk : fr.kind = .deferred) (hr : fr.roundOf = none) (hc : c.mode = .returning) : Steps P (lone fr (c :: cs) w) (lone c cs w1) := by
  unfold Out at ho
  rw [hr] at ho
  obtain ⟨fr2, h1, h2, h3, h4, h5, fn, h6, h7⟩ := ho (.inr ⟨hk, c, cs, rfl, hc⟩)
  have hst := step_going_returned (P := P) (c := c) (cs := cs) (h3.trans hk) (show fr2.going P w1 (.returned v) from ⟨h4, h5, fn, h6, h7⟩)
  have : ({ c with mode := settle c.mode } : Frame) = c := by
    cases c
    simp only at hc
    subst hc
    rfl
  rw [this] at hst
  exact h1.trans (.one hst)
end

theorem argsT_eq : ∀ (l : List AV) (i : Nat) (t : Trie AV), argsT l i t = writeC l i t
  | [], _, _ => rfl
  | a :: r, i, t => by simp only [argsT, writeC]; exact argsT_eq r (i + 1) _

section
variable {P : Program} {T : Tab} (hT : TabOk P T) {E : Nat → Int} {ι : Pl}
include hT in
/-- A function's frame. -/
theorem enter_ok {f : Nat} {args : List AV} {C : AF} {as : Array Value} (he : enterF T f args = some C) (ha : VL E ι args as.toList) {k : CallKind} (hk : k = .normal ∨ k = .deferred) : FRel E ι C (Frame.enter P f as k) ∧ C.rnd = none ∧ ∀ w, (callFunc f as).run P w = .ok (.enter f as) w := by
  unfold enterF at he
  split at he
  · rename_i fn hfn
    obtain ⟨hP, hcall⟩ := hT.fn f fn hfn
    split at he
    · rename_i c hc
      rcases cond_some' he with ⟨hle, he'⟩ | ⟨_, he'⟩
      · cases he'
        rw [Nat.ble_eq] at hle
        have hlen := ha.len
        rw [Array.length_toList] at hlen
        refine ⟨⟨rfl, ?_, ?_, rfl, rfl, rfl, hk.imp id (fun h => ⟨h, rfl⟩)⟩, rfl, hcall (by rw [hc]; rfl) as⟩
        · refine ⟨by simp [Frame.enter, hP]; omega, fun t ht => ?_⟩
          simp only at ht
          rw [getT_lt ht]
          simp only [argsT_eq, writeC_get]
          simp only [Frame.enter, hP, Option.map_some, Option.getD_some]
          by_cases hlt : t < args.length
          · obtain ⟨a, hget⟩ : ∃ a, args[t]? = some a := ⟨args[t], List.getElem?_eq_getElem hlt⟩
            obtain ⟨v, hv, hV⟩ := ha.at hget
            rw [if_pos ⟨Nat.zero_le _, by omega⟩, Nat.sub_zero, hget]
            have : (as ++ Array.replicate (fn.ntmps - as.size) undef).getD t undef = v := by
              rw [Array.getD_eq_getD_getElem?, Array.getElem?_append_left (by omega), ← Array.getElem?_toList, hv]; rfl
            rw [this]; exact hV
          · rw [if_neg (by omega), Trie.get_leaf]
            have : (as ++ Array.replicate (fn.ntmps - as.size) undef).getD t undef = undef := by
              rw [Array.getD_eq_getD_getElem?, Array.getElem?_append_right (by omega)]
              simp only [Array.getElem?_replicate]
              split <;> rfl
            rw [this]; exact V.undef
        · exact ⟨_, [], by simp [Frame.enter, hP, hc], rfl, rfl⟩
      · cases he'
    · cases he
  · cases he
end

end Go.Proofs.YtednkkcmboahgaaGreatDoor

/- A checked run: rounds of loops; results. -/
namespace Go.Proofs.YtednkkcmboahgaaGreatDoor
open Go.RowKit

section
variable {P : Program} {T : Tab} (hT : TabOk P T) {E : Nat → Int} {ι : Pl} {B : Nat} {h : AH} {w : World}

theorem getLoop_run {b : Nat} {l : Loop} (hw : w.heap[b]? = some (.loop l)) : (Instr.getLoop b).run P w = .ok l w := by
  simp [Instr.getLoop, getObj, Sem.run, hw]
theorem setLoop_run {b : Nat} {l : Loop} (hw : w.heap[b]? = some (.loop l)) (o : Obj) : (setObj b o).run P w = .ok () { w with heap := w.heap.setIfInBounds b o } := by
  simp [setObj, Sem.run, hw]

theorem bindA_TR : ∀ {ps : List Nat} {as : List AV} {vs : List Value} {tm : TM} {tmps : Array Value}, TR E ι tm tmps → VL E ι as vs → TR E ι (bindA ps as tm) ((ps.zip vs).foldl (fun t (p : Nat × Value) => t.setIfInBounds p.1 p.2) tmps)
  | [], as, vs, tm, tmps, ht, _ => by simpa [bindA] using ht
  | p :: ps, [], vs, tm, tmps, ht, hv => by
    simp only [VL] at hv
    subst hv
    simpa [bindA] using ht
  | p :: ps, a :: as, vs, tm, tmps, ht, hv => by
    simp only [VL] at hv
    obtain ⟨v, s, rfl, h1, h2⟩ := hv
    simp only [bindA, List.zip_cons_cons, List.foldl_cons]
    exact bindA_TR (ht.set p h1) h2

/-- A round of a loop. -/
theorem round_ok (r : Rel T B E ι h w) {n : Nat} {args : List AV} {C : AF} {L : Loc} {as : Array Value} (he : roundF h n args = some C) (hL : ι n = some L) (ha : VL E ι args as.toList) : ∃ fr, FRel E ι C fr ∧ fr.kind = .normal ∧ ∃ f tmps asg body, fr = Frame.round L.blk f tmps asg body .normal ∧ (Instr.yield L.blk as).run P w = .ok (.round L.blk f tmps asg body) w := by
  unfold roundF at he
  split at he
  · rename_i st pend fn k tm params asg body dn hg
    rcases cond_some' he with ⟨hle, he'⟩ | ⟨_, he'⟩
    · cases he'
      rw [Nat.beq_eq] at hle
      obtain ⟨tm', D, hD, hw, ht⟩ := r.blk _ _ _ hg hL
      have hlen := ha.len
      rw [Array.length_toList] at hlen
      have hz : ((params.toArray.zip as).foldl (fun t (p : Nat × Value) => t.setIfInBounds p.1 p.2) tm') = ((params.zip as.toList).foldl (fun t (p : Nat × Value) => t.setIfInBounds p.1 p.2) tm') := by
        rw [← Array.foldl_toList, Array.toList_zip]
      refine ⟨Frame.round L.blk fn ((params.zip as.toList).foldl (fun t (p : Nat × Value) => t.setIfInBounds p.1 p.2) tm') asg body .normal, ⟨rfl, bindA_TR ht ha, ?_, rfl, rfl, ⟨L, hL, rfl⟩, .inl rfl⟩, rfl, fn, _, asg, body, rfl, ?_⟩
      · exact ⟨_, _, rfl, rfl, _, _, rfl, rfl, _, _, rfl, rfl, rfl⟩
      · simp only [Instr.yield, Sem.run_bind, getLoop_run hw, Result.andThen_ok]
        rw [if_neg (by simp; omega)]
        simp only [Sem.run_pure]
        rw [hz]
    · cases he'
  · cases he

/-- A loop's block is written. -/
theorem loop_write (r : Rel T B E ι h w) {n : Nat} {st st' : LoopState} {pend pend' : Option Code} {fn k : Nat} {tm : Trie AV} {params : List Nat} {asg body : Code} {dn : Nat} {L : Loc} (hn : h.get n = some (.loop st pend fn k tm params asg body dn)) (hL : ι n = some L) (hg : T.ng ≤ n) :
    ∃ l : Loop, l.state = st ∧ l.pending = pend ∧ w.heap[L.blk]? = some (.loop l) ∧ ∃ w1, (setObj L.blk (.loop { l with state := st', pending := pend' })).run P w = .ok () w1 ∧ Go B ι h w ι (h.put n (.loop st' pend' fn k tm params asg body dn)) w1 ∧ Rel T B E ι (h.put n (.loop st' pend' fn k tm params asg body dn)) w1 := by
  obtain ⟨tm', D, hD, hw, ht⟩ := r.blk _ _ _ hn hL
  refine ⟨_, rfl, rfl, hw, _, setLoop_run hw _, ?_, ?_⟩
  · exact Go.put r hn hL hg rfl rfl rfl (by simp) (fun k hk => (MapKept.heap_set hw).2 k hk)
  · exact r.put hn hL hg (by simp) (fun k hk => (MapKept.heap_set hw).2 k hk) ⟨tm', D, hD, (MapKept.heap_set hw).1, ht⟩

def resOne (tmps : Array Value) : ResultVar → Sem Value
  | .tmp t => pure (tmps.getD t undef)
  | .cell a t => do loadVar t (← asAddr (tmps.getD a undef))
theorem results_eq (fn : Func) (tmps : Array Value) : results fn tmps = (fn.results.mapM (resOne tmps) >>= fun vs => pure (if h : vs.size = 1 then vs[0] else .tuple vs)) := by
  unfold results
  congr 2

include hT in
theorem resA_run (r : Rel T B E ι h w) {tm : TM} {tmps : Array Value} (ht : TR E ι tm tmps) : ∀ {rs : List ResultVar} {l : List AV}, resA T h tm rs = some l → ∃ vs, VL E ι l vs ∧ (rs.mapM (resOne tmps) : Sem (List Value)).run P w = .ok vs w
  | [], l, e => by
    simp only [resA, Option.some.injEq] at e
    subst e
    exact ⟨[], VL.nil, by simp⟩
  | .tmp t :: rs, l, e => by
    simp only [resA] at e
    split at e
    · rename_i m hm
      cases e
      obtain ⟨vs, h1, h2⟩ := resA_run r ht hm
      refine ⟨_, VL.cons (ht.get t) h1, ?_⟩
      rw [List.mapM_cons]
      simp only [resOne, Sem.run_bind, Sem.run_pure, Result.andThen_ok, h2]
    · cases e
  | .cell a t :: rs, l, e => by
    simp only [resA] at e
    split at e
    · rename_i n o ti m hp hti hm
      obtain ⟨vs, h1, h2⟩ := resA_run r ht hm
      have hV := ht.get a
      rw [hp] at hV
      simp only [V] at hV
      obtain ⟨L, hL, hv⟩ := hV
      split at e
      · rename_i q cs u hg
        have key : ∀ {x : AV}, (bif ti.isAgg then (match readC cs ti.size o with | some l => some (AV.agg l) | none => none) else cs.get o) = some x → ∃ vs, VL E ι (x :: m) vs ∧ ((ResultVar.cell a t :: rs).mapM (resOne tmps) : Sem (List Value)).run P w = .ok vs w := fun {x} hx => by
          obtain ⟨v, g1, g2⟩ := load_run (P := P) hT hti (r.blk _ _ _ hg hL) hx
          refine ⟨v :: vs, VL.cons g1 h1, ?_⟩
          have hr : (resOne tmps (.cell a t)).run P w = .ok v w := by simp [resOne, hv, asAddr, g2]
          rw [List.mapM_cons]
          simp only [Sem.run_bind, Result.andThen_ok, hr, Sem.run_pure, h2]
        cases hag : ti.isAgg with
        | true =>
          rw [hag] at e key
          simp only [cond_true] at e key
          split at e
          · rename_i y hy
            cases e
            exact key (by rw [hy])
          · cases e
        | false =>
          rw [hag] at e key
          simp only [cond_false] at e key
          split at e
          · rename_i y hy
            cases e
            exact key hy
          · cases e
      · cases e
    · cases e

include hT in
theorem results_run (r : Rel T B E ι h w) {tm : TM} {tmps : Array Value} (ht : TR E ι tm tmps) {fn : Func} {l : List AV} (e : resA T h tm fn.results.toList = some l) : ∃ v, V E ι (tupA l) v ∧ (results fn tmps).run P w = .ok v w := by
  obtain ⟨vs, h1, h2⟩ := resA_run hT r ht e
  have hrun : (results fn tmps).run P w = .ok (if h : vs.toArray.size = 1 then vs.toArray[0] else .tuple vs.toArray) w := by
    rw [results_eq, Sem.run_bind, Array.mapM_eq_mapM_toList]
    simp only [Sem.run_map, h2, Result.andThen_ok, Sem.run_pure]
  have hlen := h1.len
  rw [hrun]
  match l, vs, h1 with
  | [], vs, h1 =>
    simp only [VL] at h1
    subst h1
    exact ⟨_, by simp only [tupA, V]; exact ⟨#[], rfl, VL.nil⟩, rfl⟩
  | [a], vs, h1 =>
    simp only [VL] at h1
    obtain ⟨v, s, rfl, hv, rfl⟩ := h1
    exact ⟨v, hv, rfl⟩
  | a :: b :: l, vs, h1 =>
    have h1' := h1
    simp only [VL] at h1
    obtain ⟨v, s, rfl, hv, v', s', rfl, hv', h3⟩ := h1
    refine ⟨.tuple (v :: v' :: s').toArray, ?_, ?_⟩
    · simp only [tupA, V]
      exact ⟨_, rfl, h1'⟩
    · rw [dif_neg (by simp)]
end

end Go.Proofs.YtednkkcmboahgaaGreatDoor

/- A checked run: one operation of a frame. -/
namespace Go.Proofs.YtednkkcmboahgaaGreatDoor
open Go.RowKit

abbrev RF (fn : Nat) (tmps : Array Value) (todo : List Item) (ds : List Deferred) (kind : CallKind) (ro : Option Nat) : Frame := { fn := fn, tmps := tmps, todo := todo, defers := ds, mode := .run, kind := kind, roundOf := ro }

section
variable {P : Program} {T : Tab} (hT : TabOk P T) {E : Nat → Int} (hE : Env T.bd E) {ι : Pl} {tm : TM} {ρ : Operand → Value} (hρ : OR T E ι tm ρ) {B : Nat} {h : AH} {w : World}

include hT hE hρ in
/-- Whatever an operation is. -/
theorem act_all {o : Oper} (r : Rel T B E ι h w) {h1 : AH} {an : AN} (e : opA T o tm h = some (an, h1)) : ActN P T B E ι h w ρ o h1 an := by
  cases hk : kindOf o with
  | calm =>
    obtain ⟨a, rfl, rfl, v, hV, hr⟩ := calm_ok hT hE hρ hk e
    exact ⟨ι, w, v, Go.refl _ _ _ _, r, hV, hr w⟩
  | reads =>
    obtain ⟨a, rfl, rfl, v, hV, hr⟩ := reads_ok hT hE hρ hk r e
    exact ⟨ι, w, v, Go.refl _ _ _ _, r, hV, hr⟩
  | makes =>
    obtain ⟨a, b, rfl, rfl, hm⟩ := makes_ok hT hρ hk e
    obtain ⟨obj, L, v, hL, hr, hx⟩ := hm w
    obtain ⟨hV, hB⟩ := hx (putP ι h.next L) (putP_ext (r.fresh h.next (Nat.le_refl _)).2) (putP_same _ _ _)
    exact ⟨putP ι h.next L, w.alloc obj, v, Go.alloc r hL, Rel.alloc r hL hB, hV, hr⟩
  | acts => exact acts_ok hT hE hρ hk r e

theorem notBool {a : AV} {v : Value} (hv : V E ι a v) (ha : ∀ b, a ≠ .bool b) (b : Bool) : v ≠ .bool b := by
  cases a <;> simp only [V] at hv <;> first
    | (exact absurd rfl (ha _))
    | (subst hv; simp; done)
    | (obtain ⟨_, rfl⟩ := hv; simp; done)
    | (obtain ⟨_, _, rfl⟩ := hv; simp; done)
    | (obtain ⟨_, _, _, rfl⟩ := hv; simp; done)
    | (obtain ⟨_, _, _, _, _, _, rfl⟩ := hv; simp; done)
    | (obtain ⟨_, _, rfl, _, _⟩ := hv; simp; done)
    | (obtain ⟨_, rfl, _⟩ := hv; simp; done)

theorem want_eq {tmps : Array Value} (ht : TR E ι tm tmps) (o : Oper) (ops : Array Oper) : Region.wanted o (yielded ops tmps) = wantA o ops.toList tm := by
  unfold Region.wanted wantA
  split
  · rename_i hg
    rw [hg]
  · rename_i j want hg
    rw [hg]
    simp only [nthL_eq, Array.getElem?_toList]
    unfold yielded
    cases hq : ops[j]? with
    | none => simp
    | some q =>
      simp only [Option.bind_some]
      cases hd : q.dst with
      | none => simp
      | some d =>
        simp only [Option.bind_some]
        have hs := ht.get d
        by_cases hlt : d < tmps.size
        · have hget : tmps[d]? = some (tmps.getD d undef) := by
            rw [Array.getD_eq_getD_getElem?, Array.getElem?_eq_getElem hlt]; rfl
          rw [hget]
          generalize tmps.getD d undef = v at hs
          cases ha : getT tm d with
          | bool b =>
            rw [ha] at hs
            simp only [V] at hs
            subst hs
            cases b <;> cases want <;> rfl
          | _ =>
            rw [ha] at hs
            have hnb := notBool hs (by simp)
            cases v <;> first
              | (exact absurd rfl (hnb _))
              | rfl
        · have hnone : tmps[d]? = none := Array.getElem?_eq_none (Nat.le_of_not_lt hlt)
          rw [hnone, getT_ge (by rw [← ht.size]; exact hlt)]
          rfl

theorem eval_RF (fn : Nat) (tmps : Array Value) (todo : List Item) (ds : List Deferred) (kind : CallKind) (ro : Option Nat) : (RF fn tmps todo ds kind ro).eval = Act.eval ⟨tmps, ds⟩ := by
  funext x
  cases x <;> rfl

variable {fn : Nat} {tmps : Array Value} {ds : List Deferred} {kind : CallKind} {ro : Option Nat} {ops : Array Oper} {i : Nat} {is : List Nat} {k : List Item} {cs : List Frame} {o : Oper}
theorem stepG_RF (ho : ops[i]? = some o) (hw : Region.wanted o (yielded ops tmps) = true) (hnd : ro = none ∨ ∀ c, o.op ≠ .defer c) :
    stepG P true { frame := RF fn tmps (.inRegion ops (i :: is) :: k) ds kind ro, callers := cs, status := .running, dying := none } w =
      stepG.apply P true (RF fn tmps (.inRegion ops (i :: is) :: k) ds kind ro) cs none (execOp (Act.eval ⟨tmps, ds⟩) o) w := by
  have he := eval_RF fn tmps (.inRegion ops (i :: is) :: k) ds kind ro
  simp only [RF] at he
  rcases hnd with rfl | hnd
  · simp [stepG, stepG.exec, stepG.oper, Frame.oper?, ho, hw, he]
  · cases ro with
    | none => simp [stepG, stepG.exec, stepG.oper, Frame.oper?, ho, hw, he]
    | some l =>
      simp only [stepG, stepG.exec, stepG.oper, Frame.oper?, ho, hw, he, Option.map_some, Option.getD_some, if_true]
      cases hop : o.op <;> first
        | (exact absurd hop (hnd _))
        | rfl

/-- The slots behind an operation. -/
def putV (tmps : Array Value) (d : Option Nat) (v : Value) : Array Value := match d with
  | some d => tmps.setIfInBounds d v
  | none => tmps
theorem finish_RF (ho : ops[i]? = some o) (v : Value) : (RF fn tmps (.inRegion ops (i :: is) :: k) ds kind ro).finish v = RF fn (putV tmps o.dst v) (.inRegion ops is :: k) ds kind ro := by
  simp only [Frame.finish, ho, Option.bind_some, putV]
  cases o.dst <;> rfl

section
variable (ho : ops[i]? = some o) (hw : Region.wanted o (yielded ops tmps) = true)
include ho hw
theorem step_value {v : Value} {w1 : World} (hnd : ro = none ∨ ∀ c, o.op ≠ .defer c) (hr : (execOp (Act.eval ⟨tmps, ds⟩) o).run P w = .ok (.value v) w1) : step P (lone (RF fn tmps (.inRegion ops (i :: is) :: k) ds kind ro) cs w) = .next (lone (RF fn (putV tmps o.dst v) (.inRegion ops is :: k) ds kind ro) cs w1) := by
  rw [← finish_RF ho]
  exact step_lone_go (by rw [stepG_RF ho hw hnd]; simp [stepG.apply, hr])
theorem step_skip' {w1 : World} (hnd : ro = none ∨ ∀ c, o.op ≠ .defer c) (hr : (execOp (Act.eval ⟨tmps, ds⟩) o).run P w = .ok .skip w1) : step P (lone (RF fn tmps (.inRegion ops (i :: is) :: k) ds kind ro) cs w) = .next (lone (RF fn (putV tmps o.dst undef) (.inRegion ops is :: k) ds kind ro) cs w1) := by
  rw [← finish_RF ho]
  exact step_lone_go (by rw [stepG_RF ho hw hnd]; simp [stepG.apply, hr])
theorem step_enter' {f : Nat} {as : Array Value} {w1 : World} (hnd : ro = none ∨ ∀ c, o.op ≠ .defer c) (hr : (execOp (Act.eval ⟨tmps, ds⟩) o).run P w = .ok (.enter f as) w1) : step P (lone (RF fn tmps (.inRegion ops (i :: is) :: k) ds kind ro) cs w) = .next (lone (Frame.enter P f as .normal) (RF fn tmps (.inRegion ops (i :: is) :: k) ds kind ro :: cs) w1) :=
  step_lone_go (by rw [stepG_RF ho hw hnd]; simp [stepG.apply, hr])
theorem step_round' {l f : Nat} {tm' : Array Value} {asg body : Code} {w1 : World} (hnd : ro = none ∨ ∀ c, o.op ≠ .defer c) (hr : (execOp (Act.eval ⟨tmps, ds⟩) o).run P w = .ok (.round l f tm' asg body) w1) : step P (lone (RF fn tmps (.inRegion ops (i :: is) :: k) ds kind ro) cs w) = .next (lone (Frame.round l f tm' asg body .normal) (RF fn tmps (.inRegion ops (i :: is) :: k) ds kind ro :: cs) w1) :=
  step_lone_go (by rw [stepG_RF ho hw hnd]; simp [stepG.apply, hr])
theorem step_defer' {d : Deferred} {w1 : World} (hro : ro = none) (hr : (execOp (Act.eval ⟨tmps, ds⟩) o).run P w = .ok (.defer d) w1) : step P (lone (RF fn tmps (.inRegion ops (i :: is) :: k) ds kind ro) cs w) = .next (lone (RF fn (putV tmps o.dst undef) (.inRegion ops is :: k) (d :: ds) kind ro) cs w1) := by
  have := finish_RF (fn := fn) (tmps := tmps) (ds := d :: ds) (kind := kind) (ro := ro) (is := is) (k := k) ho undef
  rw [← this]
  exact step_lone_go (by rw [stepG_RF ho hw (.inl hro)]; simp [stepG.apply, hr])
theorem step_recover' {w1 : World} (hro : ro = none) (hq : Quiet kind cs) (hr : (execOp (Act.eval ⟨tmps, ds⟩) o).run P w = .ok .recover w1) : step P (lone (RF fn tmps (.inRegion ops (i :: is) :: k) ds kind ro) cs w) = .next (lone (RF fn (putV tmps o.dst .nilIface) (.inRegion ops is :: k) ds kind ro) cs w1) := by
  rw [← finish_RF ho]
  have hno : tryRecover (RF fn tmps (.inRegion ops (i :: is) :: k) ds kind ro) cs = none := by
    rcases hq with rfl | ⟨rfl, c, rest, rfl, hc⟩
    · cases cs <;> rfl
    · simp [tryRecover, hc]
  subst hro
  exact step_lone_go (by rw [stepG_RF ho hw (.inl rfl)]; simp [stepG.apply, hr, hno])
end
theorem step_unwanted (ho : ops[i]? = some o) (hw : Region.wanted o (yielded ops tmps) = false) : step P (lone (RF fn tmps (.inRegion ops (i :: is) :: k) ds kind ro) cs w) = .next (lone (RF fn (putV tmps o.dst undef) (.inRegion ops is :: k) ds kind ro) cs w) := by
  rw [← finish_RF ho]
  exact step_lone_go (by simp [stepG, stepG.exec, ho, hw])
end

end Go.Proofs.YtednkkcmboahgaaGreatDoor

/- A checked run: a region in the order of its text. -/
namespace Go.Proofs.YtednkkcmboahgaaGreatDoor
open Go.RowKit

/-- A run that tells what the machine does. -/
def Sound (P : Program) (T : Tab) (B : Nat) (E : Nat → Int) (g : AF → AH → Option (AV × AH)) : Prop :=
  ∀ F h a h1 ι w fr cs, g F h = some (a, h1) → FRel E ι F fr → Rel T B E ι h w → ∃ κ v w1, Go B ι h w κ h1 w1 ∧ Rel T B E κ h1 w1 ∧ V E κ a v ∧ Out P fr cs w v w1

theorem putV_TR {E : Nat → Int} {ι : Pl} {tm : TM} {tmps : Array Value} (h : TR E ι tm tmps) (d : Option Nat) {a : AV} {v : Value} (g : V E ι a v) : TR E ι (putT tm d a) (putV tmps d v) := by
  cases d with
  | none => exact h
  | some d => exact h.set d g

theorem OR_of {T : Tab} {B : Nat} {E : Nat → Int} {ι : Pl} {h : AH} {w : World} (r : Rel T B E ι h w) {tm : TM} {tmps : Array Value} {ds : List Deferred} (ht : TR E ι tm tmps) : OR T E ι tm (Act.eval ⟨tmps, ds⟩) := fun _ _ e => evO_V r ht e

section
variable {P : Program} {T : Tab} (hT : TabOk P T) {E : Nat → Int} (hE : Env T.bd E) {B : Nat} {ih : AF → AH → Option (AV × AH)} (hS : Sound P T B E ih)
variable {tmps : Array Value} {ds : List Deferred} {ro : Option Nat} {ops : Array Oper} {i : Nat} {o : Oper}

include hT hE hS in
/-- An operation is carried out, with what it calls. -/
theorem ex_ok {ι : Pl} {h : AH} {w : World} (r : Rel T B E ι h w) {h1 h2 : AH} {an : AN} {a : AV} (hA : ActN P T B E ι h w (Act.eval ⟨tmps, ds⟩) o h1 an) (he : exA T ih an h1 = some (a, h2)) (ho : ops[i]? = some o) (hw : Region.wanted o (yielded ops tmps) = true) (hnd : ro = none ∨ ∀ c, o.op ≠ .defer c) (fn : Nat) (kind : CallKind) (is : List Nat) (k : List Item) (cs : List Frame) :
    ∃ κ v w2, Go B ι h w κ h2 w2 ∧ Rel T B E κ h2 w2 ∧ V E κ a v ∧ Steps P (lone (RF fn tmps (.inRegion ops (i :: is) :: k) ds kind ro) cs w) (lone (RF fn (putV tmps o.dst v) (.inRegion ops is :: k) ds kind ro) cs w2) := by
  cases an with
  | val x =>
    simp only [exA, Option.some.injEq, Prod.mk.injEq] at he
    obtain ⟨rfl, rfl⟩ := he
    obtain ⟨κ, w1, v, g1, g2, g3, g4⟩ := hA
    exact ⟨κ, v, w1, g1, g2, g3, Steps.one (step_value ho hw hnd g4)⟩
  | skip =>
    simp only [exA, Option.some.injEq, Prod.mk.injEq] at he
    obtain ⟨rfl, rfl⟩ := he
    obtain ⟨κ, w1, g1, g2, g3⟩ := hA
    exact ⟨κ, undef, w1, g1, g2, V.undef, Steps.one (step_skip' ho hw hnd g3)⟩
  | enter f args =>
    obtain ⟨rfl, as, hVL, hr⟩ := hA
    simp only [exA] at he
    rcases cond_some' he with ⟨hcl, he'⟩ | ⟨_, he'⟩
    · rw [Nat.beq_eq] at hcl
      subst hcl
      split at he'
      · rename_i n l
        rcases cond_some' he' with ⟨hle, he2⟩ | ⟨_, he2⟩
        · cases he2
          rw [Nat.ble_eq] at hle
          simp only [VL, V] at hVL
          obtain ⟨v, s, e1, ⟨hn, rfl⟩, rfl⟩ := hVL
          have has : as = #[.string (bytesA E l)] := by apply Array.ext'; exact e1
          subst has
          have hC := hT.clone (bytesA E l) w (by rw [bytesA_size]; omega)
          have hin := hT.cloneIn #[.string (bytesA E l)] w
          rw [hin] at hr
          obtain ⟨e0, w0, fr0, ⟨rfl, hb0⟩, hco0, _, hlv0⟩ := hC (RF fn tmps (.inRegion ops (i :: is) :: k) ds kind ro :: cs)
          refine ⟨ι, .string (bytesA E l), w0, Go.under r hb0, r.under hb0, by simp only [V]; exact ⟨hn, trivial⟩, ?_⟩
          have hst := step_leave_returned (P := P) (c := RF fn tmps (.inRegion ops (i :: is) :: k) ds kind ro) (cs := cs) hlv0
          rw [finish_RF ho] at hst
          exact (Steps.one (step_enter' ho hw hnd hr)).trans (Steps.trans hco0 (.one hst))
        · cases he2
      · cases he'
    · split at he'
      · rename_i p hp
        cases he'
        unfold hookT at hp
        split at hp
        · rename_i k' hk'
          obtain ⟨hin, hC⟩ := hT.hook f k' hk' B E ι h1 w args as a h2 hE hp hVL r
          rw [hin] at hr
          obtain ⟨e0, w0, fr0, ⟨κ, v, rfl, hV, hgo, hrel⟩, hco0, _, hlv0⟩ := hC (RF fn tmps (.inRegion ops (i :: is) :: k) ds kind ro :: cs)
          refine ⟨κ, v, w0, hgo, hrel, hV, ?_⟩
          have hst := step_leave_returned (P := P) (c := RF fn tmps (.inRegion ops (i :: is) :: k) ds kind ro) (cs := cs) hlv0
          rw [finish_RF ho] at hst
          exact (Steps.one (step_enter' ho hw hnd hr)).trans (Steps.trans hco0 (.one hst))
        · cases hp
      rename_i hno
      split at he'
      · rename_i C hC
        obtain ⟨hF, _, hcf⟩ := enter_ok hT hC hVL (k := .normal) (.inl rfl)
        obtain ⟨κ, v, w1, g1, g2, g3, g4⟩ := hS C _ a h2 ι w _ (RF fn tmps (.inRegion ops (i :: is) :: k) ds kind ro :: cs) he' hF r
        rw [hcf w] at hr
        refine ⟨κ, v, w1, g1, g2, g3, ?_⟩
        have := g4.call rfl
        rw [finish_RF ho] at this
        exact (Steps.one (step_enter' ho hw hnd hr)).trans this
      · cases he'
  | round n args =>
    obtain ⟨rfl, L, as, hL, hVL, hr⟩ := hA
    simp only [exA] at he
    split at he
    · rename_i C hC
      obtain ⟨fr, hF, hkn, f, tm', asg, body, rfl, hy⟩ := round_ok (P := P) r hC hL hVL
      obtain ⟨κ, v, w1, g1, g2, g3, g4⟩ := hS C _ a h2 ι w _ (RF fn tmps (.inRegion ops (i :: is) :: k) ds kind ro :: cs) he hF r
      rw [hy] at hr
      refine ⟨κ, v, w1, g1, g2, g3, ?_⟩
      have := g4.call hkn
      rw [finish_RF ho] at this
      exact (Steps.one (step_round' ho hw hnd hr)).trans this
    · cases he
  | defer d => simp [exA] at he
  | recover => simp [exA] at he

include hT hE hS in
/-- A region, one by one. -/
theorem regS_ok (fn : Nat) (kind : CallKind) (k : List Item) (cs : List Frame) : ∀ {rest : List Oper} {is : List Nat} {tm tm1 : TM} {dfs dfs1 : List AD} {h h1 : AH} {ι : Pl} {w : World} {tmps : Array Value} {ds : List Deferred},
    regS T (exA T ih) ro.isSome ops.toList rest tm dfs h = some (tm1, dfs1, h1) → is.map (fun i => ops[i]?) = rest.map some → TR E ι tm tmps → DL E ι dfs ds → Rel T B E ι h w →
    ∃ κ w1 tmps1 ds1, Go B ι h w κ h1 w1 ∧ Rel T B E κ h1 w1 ∧ TR E κ tm1 tmps1 ∧ DL E κ dfs1 ds1 ∧ (Quiet kind cs → Steps P (lone (RF fn tmps (.inRegion ops is :: k) ds kind ro) cs w) (lone (RF fn tmps1 (.inRegion ops [] :: k) ds1 kind ro) cs w1))
  | [], is, tm, tm1, dfs, dfs1, h, h1, ι, w, tmps, ds, e, hi, ht, hd, r => by
    simp only [regS, Option.some.injEq, Prod.mk.injEq] at e
    obtain ⟨rfl, rfl, rfl⟩ := e
    have : is = [] := by simpa using hi
    subst this
    exact ⟨ι, w, tmps, ds, Go.refl _ _ _ _, r, ht, hd, fun _ => Steps.refl _ _⟩
  | o :: rest, is, tm, tm1, dfs, dfs1, h, h1, ι, w, tmps, ds, e, hi, ht, hd, r => by
    obtain ⟨i, is', rfl, hoi, hi'⟩ : ∃ i is', is = i :: is' ∧ ops[i]? = some o ∧ is'.map (fun i => ops[i]?) = rest.map some := by
      cases is with
      | nil => simp at hi
      | cons i is' =>
        simp only [List.map_cons, List.cons.injEq] at hi
        exact ⟨i, is', rfl, hi.1, hi.2⟩
    simp only [regS] at e
    have hwe := want_eq ht o ops
    have hρ := OR_of r (ds := ds) ht
    cases hwa : wantA o ops.toList tm with
    | false =>
      rw [hwa] at e hwe
      simp only [Bool.not_false, cond_true] at e
      obtain ⟨κ, w1, tmps1, ds1, g1, g2, g3, g4, g5⟩ := regS_ok fn kind k cs e hi' (putV_TR ht o.dst V.undef) hd r
      exact ⟨κ, w1, tmps1, ds1, g1, g2, g3, g4, fun hq => (Steps.one (step_unwanted hoi hwe)).trans (g5 hq)⟩
    | true =>
      rw [hwa] at e hwe
      simp only [Bool.not_true, cond_false] at e
      split at e
      · cases e
      · rename_i an h2 hop
        have hA := act_all hT hE hρ r hop
        have go : ∀ {a : AV} {h3 : AH}, exA T ih an h2 = some (a, h3) → (∀ c, o.op ≠ .defer c) → regS T (exA T ih) ro.isSome ops.toList rest (putT tm o.dst a) dfs h3 = some (tm1, dfs1, h1) → ∃ κ w1 tmps1 ds1, Go B ι h w κ h1 w1 ∧ Rel T B E κ h1 w1 ∧ TR E κ tm1 tmps1 ∧ DL E κ dfs1 ds1 ∧ (Quiet kind cs → Steps P (lone (RF fn tmps (.inRegion ops (i :: is') :: k) ds kind ro) cs w) (lone (RF fn tmps1 (.inRegion ops [] :: k) ds1 kind ro) cs w1)) := fun {a h3} hx hnd e => by
          obtain ⟨κ, v, w2, g1, g2, g3, g4⟩ := ex_ok hT hE hS r hA hx hoi hwe (.inr hnd) fn kind is' k cs (ro := ro)
          obtain ⟨μ, w1, tmps1, ds1, k1, k2, k3, k4, k5⟩ := regS_ok fn kind k cs e hi' (putV_TR (ht.mono g1.ext) o.dst g3) (hd.mono g1.ext) g2
          exact ⟨μ, w1, tmps1, ds1, g1.trans k1, k2, k3, k4, fun hq => g4.trans (k5 hq)⟩
        have hnd : (∀ d, an ≠ .defer d) → ∀ c, o.op ≠ .defer c := fun hn c hc => by
          unfold opA at hop
          rw [hc] at hop
          simp only [] at hop
          split at hop
          · split at hop
            · split at hop
              · cases hop; exact hn _ rfl
              · cases hop
            · cases hop
          · cases hop
        split at e
        · exact go rfl (hnd (by simp)) e
        · exact go rfl (hnd (by simp)) e
        · rename_i d
          rcases cond_some' e with ⟨_, e'⟩ | ⟨hrn, e'⟩
          · cases e'
          · have hro : ro = none := by cases ro <;> simp_all
            obtain ⟨rfl, f, args, cap, as, rfl, hVL, hr⟩ := hA
            obtain ⟨κ, w1, tmps1, ds1, g1, g2, g3, g4, g5⟩ := regS_ok fn kind k cs (ds := { target := .fn (.func f) cap, args := as } :: ds) e' hi' (putV_TR ht o.dst V.undef) ⟨_, _, rfl, ⟨cap, as, rfl, hVL⟩, hd⟩ r
            exact ⟨κ, w1, tmps1, ds1, g1, g2, g3, g4, fun hq => (Steps.one (step_defer' hoi hwe hro hr)).trans (g5 hq)⟩
        · rcases cond_some' e with ⟨_, e'⟩ | ⟨hrn, e'⟩
          · cases e'
          · have hro : ro = none := by cases ro <;> simp_all
            obtain ⟨rfl, hr⟩ := hA
            obtain ⟨κ, w1, tmps1, ds1, g1, g2, g3, g4, g5⟩ := regS_ok fn kind k cs e' hi' (putV_TR ht o.dst (show V E ι .niliface .nilIface by simp [V])) hd r
            exact ⟨κ, w1, tmps1, ds1, g1, g2, g3, g4, fun hq => (Steps.one (step_recover' hoi hwe hro hq hr)).trans (g5 hq)⟩
        · rename_i hn1 hn2 hn3 hn4
          split at e
          · rename_i a h3 hx
            exact go hx (hnd hn3) e
          · cases e
end

end Go.Proofs.YtednkkcmboahgaaGreatDoor

/- A checked run: the steps of a frame. -/
namespace Go.Proofs.YtednkkcmboahgaaGreatDoor
open Go.RowKit

theorem exit_IL {ι : Pl} {id : Nat} : ∀ {k : List AItem} {k' : List Item}, IL ι k k' → (∀ k1, exitA id k = some k1 → ∃ k1', exitTo id k' = some k1' ∧ IL ι k1 k1') ∧ (exitA id k = none → exitTo id k' = none)
  | [], k', h => by
    simp only [IL] at h
    subst h
    exact ⟨fun k1 e => by simp [exitA] at e, fun _ => rfl⟩
  | a :: r, k', h => by
    obtain ⟨i, s, rfl, h1, h2⟩ := h
    have ih := exit_IL (id := id) h2
    cases a with
    | inBlock n =>
      simp only [IR] at h1
      subst h1
      simp only [exitA, exitTo]
      by_cases hn : n = id
      · subst hn
        have hb : Nat.beq n n = true := by rw [Nat.beq_eq]
        rw [hb]
        simp only [cond_true, beq_self_eq_true, if_true]
        exact ⟨fun k1 e => ⟨s, rfl, by cases e; exact h2⟩, fun e => by cases e⟩
      · have hb : Nat.beq n id = false := by rw [← Bool.not_eq_true, Nat.beq_eq]; exact hn
        have hb' : (n == id) = false := by simpa using hn
        rw [hb, hb']
        simp only [cond_false, Bool.false_eq_true, if_false]
        exact ih
    | inRF n => exact h1.elim
    | endRF n =>
      obtain ⟨L, hL, rfl⟩ := h1
      exact ih
    | _ =>
      simp only [IR] at h1
      subst h1
      exact ih
theorem goto_IL {ι : Pl} {l : Nat} : ∀ {k : List AItem} {k' : List Item}, IL ι k k' → (∀ k1, gotoA l k = some k1 → ∃ k1', gotoIn l k' = some k1' ∧ IL ι k1 k1') ∧ (gotoA l k = none → gotoIn l k' = none)
  | [], k', h => by
    simp only [IL] at h
    subst h
    exact ⟨fun k1 e => by simp [gotoA] at e, fun _ => rfl⟩
  | a :: r, k', h => by
    obtain ⟨i, s, rfl, h1, h2⟩ := h
    have ih := goto_IL (l := l) h2
    cases a with
    | inScope body =>
      simp only [IR] at h1
      subst h1
      simp only [gotoA, gotoIn]
      cases findLabel body l with
      | none => exact ih
      | some rest => exact ⟨fun k1 e => ⟨_, rfl, by cases e; exact ⟨_, _, rfl, rfl, _, _, rfl, rfl, h2⟩⟩, fun e => by cases e⟩
    | inRF n => exact h1.elim
    | endRF n =>
      obtain ⟨L, hL, rfl⟩ := h1
      exact ih
    | _ =>
      simp only [IR] at h1
      subst h1
      exact ih

/-- A region that draws its order. -/
def RegDOk (P : Program) (T : Tab) (B : Nat) (E : Nat → Int) (ih : AF → AH → Option (AV × AH)) : Prop :=
  ∀ (id : Nat) (ops : Array Oper) (tm tm1 : TM) (h h1 : AH) (ι : Pl) (w : World) (tmps : Array Value) (ds : List Deferred) (fn : Nat) (kind : CallKind) (ro : Option Nat) (k : List Item) (cs : List Frame),
    regAll T (exA T ih) ops.toList tm h = some (tm1, h1) → TR E ι tm tmps → Rel T B E ι h w →
    ∃ κ w1 tmps1, Go B ι h w κ h1 w1 ∧ Rel T B E κ h1 w1 ∧ TR E κ tm1 tmps1 ∧ Steps P (lone (RF fn tmps (.code (.region id ops true) :: k) ds kind ro) cs w) (lone (RF fn tmps1 k ds kind ro) cs w1)

section
variable {P : Program} {T : Tab} (hT : TabOk P T) {E : Nat → Int} (hE : Env T.bd E) {B : Nat} {ih : AF → AH → Option (AV × AH)} (hS : Sound P T B E ih) (hD : RegDOk P T B E ih)

/-- What is to be shown of a frame. -/
def Goal (P : Program) (T : Tab) (B : Nat) (E : Nat → Int) (ι : Pl) (h : AH) (w : World) (fr : Frame) (cs : List Frame) (a : AV) (h1 : AH) : Prop :=
  ∃ κ v w1, Go B ι h w κ h1 w1 ∧ Rel T B E κ h1 w1 ∧ V E κ a v ∧ Out P fr cs w v w1

include hS in
theorem cont {F : AF} {ι κ : Pl} {h h' h1 : AH} {w w' : World} {a : AV} {fr fr' : Frame} {cs : List Frame} (e : ih F h' = some (a, h1)) (hF : FRel E κ F fr') (r : Rel T B E κ h' w') (hg : Go B ι h w κ h' w') (hs : Quiet fr.kind cs → Steps P (lone fr cs w) (lone fr' cs w')) (hr : fr'.roundOf = fr.roundOf) (hk : fr'.kind = fr.kind) (hf : fr'.fn = fr.fn) : Goal P T B E ι h w fr cs a h1 := by
  obtain ⟨μ, v, w1, g1, g2, g3, g4⟩ := hS F h' a h1 κ w' fr' cs e hF r
  exact ⟨μ, v, w1, hg.trans g1, g2, g3, Out.trans hs hr hk hf g4⟩

include hS in
/-- One plain step. -/
theorem cont1 {fn : Nat} {tm : TM} {todo : List AItem} {dfs : List AD} {rnd : Option Nat} {ι : Pl} {h h1 : AH} {w : World} {a : AV} {tmps : Array Value} {t1 t2 : List Item} {ds : List Deferred} {kind : CallKind} {ro : Option Nat} {cs : List Frame} (e : ih ⟨fn, tm, todo, dfs, false, rnd⟩ h = some (a, h1)) (ht : TR E ι tm tmps) (hi : IL ι todo t2) (hd : DL E ι dfs ds) (hr : RR ι rnd ro) (hk : kind = .normal ∨ (kind = .deferred ∧ rnd = none)) (r : Rel T B E ι h w)
    (hs : step P (lone (RF fn tmps t1 ds kind ro) cs w) = .next (lone (RF fn tmps t2 ds kind ro) cs w)) : Goal P T B E ι h w (RF fn tmps t1 ds kind ro) cs a h1 :=
  cont hS e ⟨rfl, ht, hi, hd, rfl, hr, hk⟩ r (Go.refl _ _ _ _) (fun _ => .one hs) rfl rfl rfl

include hS in
theorem leave_ok {fn : Nat} {tm : TM} {todo : List AItem} {dfs : List AD} {rnd : Option Nat} {ι : Pl} {h h1 : AH} {w : World} {a : AV} {tmps : Array Value} {t1 : List Item} {ds : List Deferred} {kind : CallKind} {ro : Option Nat} {cs : List Frame} {jump : Option Code} (e : leaveA T ih ⟨fn, tm, todo, dfs, false, rnd⟩ h jump = some (a, h1)) (ht : TR E ι tm tmps) (hi : IL ι todo t1) (hd : DL E ι dfs ds) (hr : RR ι rnd ro) (hk : kind = .normal ∨ (kind = .deferred ∧ rnd = none)) (r : Rel T B E ι h w)
    (hnone : ro = none → (jump = none ∨ jump = some .ret) → step P (lone (RF fn tmps t1 ds kind ro) cs w) = .next (lone { RF fn tmps t1 ds kind ro with mode := .returning } cs w))
    (hsome : ∀ l c rest v w1, ro = some l → kind = .normal → (Instr.endRound l jump).run P w = .ok v w1 → cs = c :: rest → step P (lone (RF fn tmps t1 ds kind ro) cs w) = .next (lone (c.finish v) rest w1)) : Goal P T B E ι h w (RF fn tmps t1 ds kind ro) cs a h1 := by
  unfold leaveA at e
  simp only [] at e
  cases rnd with
  | none =>
    simp only [RR] at hr
    subst hr
    have key : (jump = none ∨ jump = some .ret) → ih ⟨fn, tm, todo, dfs, true, none⟩ h = some (a, h1) → Goal P T B E ι h w (RF fn tmps t1 ds kind none) cs a h1 := fun hj e =>
      cont hS e (fr' := { RF fn tmps t1 ds kind none with mode := .returning }) ⟨rfl, ht, hi, hd, rfl, rfl, hk⟩ r (Go.refl _ _ _ _) (fun _ => .one (hnone rfl hj)) rfl rfl rfl
    simp only [] at e
    split at e
    · exact key (.inl rfl) e
    · exact key (.inr rfl) e
    · cases e
  | some l =>
    simp only [] at e
    obtain ⟨L, hL, rfl⟩ := hr
    split at e
    · rename_i st pend fn' n tm' params asg body dn hg
      rcases cond_some' e with ⟨hng, e'⟩ | ⟨_, e'⟩
      · cases e'
        rw [Nat.ble_eq] at hng
        obtain ⟨lp, h1', h2', hw, w1, hset, hgo, hrel⟩ := loop_write (P := P) r hg hL hng (st' := bif jump.isNone then .ready else .done) (pend' := jump)
        refine ⟨ι, .bool jump.isNone, w1, hgo, hrel, by simp [V], ?_⟩
        have hrun : (Instr.endRound L.blk jump).run P w = .ok (.bool jump.isNone) w1 := by
          have hb : (if jump.isNone = true then LoopState.ready else .done) = (bif jump.isNone then .ready else .done) := by cases jump.isNone <;> rfl
          simp only [Instr.endRound, Sem.run_bind, getLoop_run hw, Result.andThen_ok, hb, hset, Sem.run_pure]
        have hkn : kind = .normal := hk.elim id (fun h => by cases h.2)
        exact fun _ c rest hc => .one (hsome L.blk c rest _ _ rfl hkn hrun hc)
      · cases e'
    · cases e
end

end Go.Proofs.YtednkkcmboahgaaGreatDoor

/- A checked run: all steps of a frame. -/
namespace Go.Proofs.YtednkkcmboahgaaGreatDoor
open Go.RowKit

section
variable {P : Program} {T : Tab} (hT : TabOk P T) {E : Nat → Int} (hE : Env T.bd E) {B : Nat} {ih : AF → AH → Option (AV × AH)} (hS : Sound P T B E ih) (hD : RegDOk P T B E ih)

theorem doReturn_normal {fr : Frame} {c : Frame} {rest : List Frame} {v : Value} {w : World} (hk : fr.kind = .normal) : doReturn P true fr (c :: rest) none v w = .go { frame := c.finish v, callers := rest, status := .running, dying := none } w := by
  simp [doReturn, hk]

variable {fn : Nat} {tm : TM} {todo : List AItem} {dfs : List AD} {rnd : Option Nat} {ι : Pl} {h h1 : AH} {w : World} {a : AV} {tmps : Array Value} {ds : List Deferred} {kind : CallKind} {ro : Option Nat} {cs : List Frame}

include hT hS in
/-- A frame on its way out. -/
theorem ret_ok {fr : Frame} (e : stepF T ih ⟨fn, tm, todo, dfs, true, rnd⟩ h = some (a, h1)) (hF : FRel E ι ⟨fn, tm, todo, dfs, true, rnd⟩ fr) (r : Rel T B E ι h w) : Goal P T B E ι h w fr cs a h1 := by
  have hm : fr.mode = .returning := hF.mode
  have hd := hF.dfs
  cases dfs with
  | nil =>
    simp only [stepF] at e
    have hd' : fr.defers = [] := hd
    split at e
    · rename_i f hf
      split at e
      · rename_i l hl
        cases e
        obtain ⟨v, hV, hr⟩ := results_run hT r hF.tm hl
        have hfn : P.funcs[fr.fn]? = some f := by rw [hF.fn]; exact (hT.fn fn f hf).1
        refine ⟨ι, v, w, Go.refl _ _ _ _, r, hV, ?_⟩
        unfold Out
        cases hro : fr.roundOf with
        | none => exact fun _ => ⟨fr, Steps.refl _ _, rfl, rfl, hm, hd', f, hfn, hr⟩
        | some l => exact fun hk c rest hc => by subst hc; exact .one (step_leave_returned ⟨hm, hd', hk, f, hfn, hr⟩)
      · cases e
    · cases e
  | cons d dfs =>
    obtain ⟨d', ds', hde, hdr, hdl⟩ := hd
    cases d with
    | mark m =>
      simp only [stepF] at e
      split at e
      · rename_i hg
        rcases cond_some' e with ⟨hng, e'⟩ | ⟨_, e'⟩
        · rw [Nat.ble_eq] at hng
          obtain ⟨L, hL, rfl⟩ := hdr
          have hw : w.heap[L.blk]? = some (.deferred (some [])) := r.blk _ _ _ hg hL
          have htk : (Instr.takeDeferred L.blk).run P w = .ok [] { w with heap := w.heap.setIfInBounds L.blk (.deferred none) } := by
            simp [Instr.takeDeferred, getObj, setObj, Sem.run, hw]
          have hst := step_collected (P := P) (cs := cs) (by rw [hm]; simp) hde rfl htk
          refine cont hS e' (fr' := { fr with defers := [] ++ ds' }) ⟨hF.fn, hF.tm, hF.todo, hdl, hF.mode, hF.rnd, hF.kind⟩ ?_ ?_ (fun _ => .one hst) rfl rfl rfl
          · exact r.put hg hL hng (by simp) (fun k hk => (MapKept.heap_set hw).2 k hk) (MapKept.heap_set hw).1
          · exact Go.put r hg hL hng rfl rfl rfl (by simp) (fun k hk => (MapKept.heap_set hw).2 k hk)
        · cases e'
      · cases e
    | call g args =>
      simp only [stepF] at e
      split at e
      · rename_i C hC
        split at e
        · rename_i x h2 hx
          obtain ⟨cap, as, rfl, hVL⟩ := hdr
          obtain ⟨hFC, hCr, hcf⟩ := enter_ok hT hC hVL (k := .deferred) (.inr rfl)
          have hinv : (invoke (.fn (.func g) cap) as).run P w = .ok (.enter g (as ++ cap)) w := by simp [invoke, hcf w]
          have hst := step_defer (P := P) (cs := cs) (by rw [hm]; simp) hde rfl hinv
          obtain ⟨κ, v, w1, g1, g2, g3, g4⟩ := hS C h x h2 ι w _ ({ fr with defers := ds' } :: cs) hx hFC r
          have hs2 := g4.deferred rfl rfl hm
          refine cont hS e (fr' := { fr with defers := ds' }) ⟨hF.fn, hF.tm.mono g1.ext, hF.todo.mono g1.ext, hdl.mono g1.ext, hF.mode, hF.rnd.mono g1.ext, hF.kind⟩ g2 g1 (fun _ => (Steps.one hst).trans hs2) rfl rfl rfl
        · cases e
      · cases e
end

end Go.Proofs.YtednkkcmboahgaaGreatDoor

/- A checked run: a frame that runs. -/
namespace Go.Proofs.YtednkkcmboahgaaGreatDoor
open Go.RowKit

section
variable {P : Program} {T : Tab} (hT : TabOk P T) {E : Nat → Int} (hE : Env T.bd E) {B : Nat} {ih : AF → AH → Option (AV × AH)} (hS : Sound P T B E ih) (hD : RegDOk P T B E ih)
variable {fn : Nat} {tm : TM} {todo : List AItem} {dfs : List AD} {rnd : Option Nat} {ι : Pl} {h h1 : AH} {w : World} {a : AV} {tmps : Array Value} {ds : List Deferred} {kind : CallKind} {ro : Option Nat} {cs : List Frame}

theorem range_map (ops : Array Oper) : (List.range ops.size).map (fun i => ops[i]?) = ops.toList.map some := by
  apply List.ext_getElem?
  intro i
  by_cases hi : i < ops.size
  · simp [hi]
  · simp [hi]

include hT hE hS hD in
theorem code_ok {c : Code} {k : List AItem} {k' : List Item} (hnr : ∀ f params asg body, c ≠ .rangeFunc f params asg body) (e : stepF T ih ⟨fn, tm, .code c :: k, dfs, false, rnd⟩ h = some (a, h1)) (ht : TR E ι tm tmps) (hi : IL ι k k') (hd : DL E ι dfs ds) (hr : RR ι rnd ro) (hk : kind = .normal ∨ (kind = .deferred ∧ rnd = none)) (r : Rel T B E ι h w) : Goal P T B E ι h w (RF fn tmps (.code c :: k') ds kind ro) cs a h1 := by
  have hic : ∀ c : Code, IL ι (.code c :: k) (.code c :: k') := fun c => ⟨_, _, rfl, rfl, hi⟩
  cases c with
  | ret =>
    simp only [stepF] at e
    refine leave_ok hS e ht (hic _) hd hr hk r (fun hro _ => ?_) (fun l c rest v w1 hro hkn hrun hcs => ?_)
    · subst hro
      exact step_lone_go (by simp [stepG, stepG.exec])
    · subst hro hkn hcs
      exact step_lone_go (by simp [stepG, stepG.exec, hrun, doReturn])
  | skip =>
    simp only [stepF] at e
    exact cont1 hS e ht hi hd hr hk r (step_lone_go (by simp [stepG, stepG.exec]))
  | label l =>
    simp only [stepF] at e
    exact cont1 hS e ht hi hd hr hk r (step_lone_go (by simp [stepG, stepG.exec]))
  | seq x y =>
    simp only [stepF] at e
    exact cont1 hS e ht ⟨_, _, rfl, rfl, _, _, rfl, rfl, hi⟩ hd hr hk r (step_lone_go (by simp [stepG, stepG.exec]))
  | cond c x y =>
    simp only [stepF] at e
    split at e
    · rename_i b hb
      have hV := OR_of r (ds := ds) ht c _ hb
      simp only [V] at hV
      have hev : (RF fn tmps (.code (.cond c x y) :: k') ds kind ro).eval c = .bool b := by rw [eval_RF]; exact hV
      refine cont1 hS e ht ⟨_, _, rfl, rfl, hi⟩ hd hr hk r (step_lone_go ?_)
      simp only [RF] at hev
      cases b <;> simp [stepG, stepG.exec, hev]
    · cases e
  | block id body =>
    simp only [stepF] at e
    exact cont1 hS e ht ⟨_, _, rfl, rfl, _, _, rfl, rfl, hi⟩ hd hr hk r (step_lone_go (by simp [stepG, stepG.exec]))
  | loop body =>
    simp only [stepF] at e
    exact cont1 hS e ht ⟨_, _, rfl, rfl, _, _, rfl, rfl, hi⟩ hd hr hk r (step_lone_go (by simp [stepG, stepG.exec]))
  | scope body =>
    simp only [stepF] at e
    exact cont1 hS e ht ⟨_, _, rfl, rfl, _, _, rfl, rfl, hi⟩ hd hr hk r (step_lone_go (by simp [stepG, stepG.exec]))
  | exit id =>
    simp only [stepF] at e
    obtain ⟨x1, x2⟩ := exit_IL (id := id) hi
    split at e
    · rename_i k1 hk1
      obtain ⟨k1', hx, hil⟩ := x1 k1 hk1
      exact cont1 hS e ht hil hd hr hk r (step_lone_go (by simp [stepG, stepG.exec, hx]))
    · rename_i hk1
      have hx := x2 hk1
      refine leave_ok hS e ht (hic _) hd hr hk r (fun hro hj => ?_) (fun l c rest v w1 hro hkn hrun hcs => ?_)
      · rcases hj with hj | hj <;> cases hj
      · subst hro hkn hcs
        exact step_lone_go (by simp [stepG, stepG.exec, hx, hrun, doReturn])
  | goto l =>
    simp only [stepF] at e
    obtain ⟨x1, x2⟩ := goto_IL (l := l) hi
    split at e
    · rename_i k1 hk1
      obtain ⟨k1', hx, hil⟩ := x1 k1 hk1
      exact cont1 hS e ht hil hd hr hk r (step_lone_go (by simp [stepG, stepG.exec, hx]))
    · rename_i hk1
      have hx := x2 hk1
      refine leave_ok hS e ht (hic _) hd hr hk r (fun hro hj => ?_) (fun l c rest v w1 hro hkn hrun hcs => ?_)
      · rcases hj with hj | hj <;> cases hj
      · subst hro hkn hcs
        exact step_lone_go (by simp [stepG, stepG.exec, hx, hrun, doReturn])
  | rangeFunc f params asg body => exact absurd rfl (hnr _ _ _ _)
  | region id ops draw =>
    simp only [stepF] at e
    cases draw with
    | true =>
      simp only [cond_true] at e
      split at e
      · rename_i tm1 h2 hreg
        obtain ⟨κ, w1, tmps1, g1, g2, g3, g4⟩ := hD id ops tm tm1 h h2 ι w tmps ds fn kind ro k' cs hreg ht r
        exact cont hS e (fr' := RF fn tmps1 k' ds kind ro) ⟨rfl, g3, hi.mono g1.ext, hd.mono g1.ext, rfl, hr.mono g1.ext, hk⟩ g2 g1 (fun _ => g4) rfl rfl rfl
      · cases e
    | false =>
      simp only [cond_false] at e
      split at e
      · rename_i tm1 ds1 h2 hreg
        have hros : rnd.isSome = ro.isSome := by
          cases rnd with
          | none => simp only [RR] at hr; rw [hr]
          | some n => obtain ⟨L, _, rfl⟩ := hr; rfl
        rw [hros] at hreg
        obtain ⟨κ, w1, tmps1, ds1', g1, g2, g3, g4, g5⟩ := regS_ok hT hE hS fn kind k' cs hreg (range_map ops) ht hd r
        have hst : step P (lone (RF fn tmps (.code (.region id ops false) :: k') ds kind ro) cs w) = .next (lone (RF fn tmps (.inRegion ops (List.range ops.size) :: k') ds kind ro) cs w) := step_lone_go (by simp [stepG, stepG.exec])
        have hen : step P (lone (RF fn tmps1 (.inRegion ops [] :: k') ds1' kind ro) cs w1) = .next (lone (RF fn tmps1 k' ds1' kind ro) cs w1) := step_lone_go (by simp [stepG, stepG.exec])
        exact cont hS e (fr' := RF fn tmps1 k' ds1' kind ro) ⟨rfl, g3, hi.mono g1.ext, g4, rfl, hr.mono g1.ext, hk⟩ g2 g1 (fun hq => (Steps.one hst).trans ((g5 hq).trans (.one hen))) rfl rfl rfl
      · cases e
  | refuse why => simp [stepF] at e
end

end Go.Proofs.YtednkkcmboahgaaGreatDoor

/- A checked run: loops over functions; every step. -/
namespace Go.Proofs.YtednkkcmboahgaaGreatDoor
open Go.RowKit

section
variable {P : Program} {T : Tab} (hT : TabOk P T) {E : Nat → Int} (hE : Env T.bd E) {B : Nat} {ih : AF → AH → Option (AV × AH)} (hS : Sound P T B E ih) (hD : RegDOk P T B E ih)
variable {fn : Nat} {tm : TM} {todo : List AItem} {dfs : List AD} {rnd : Option Nat} {ι : Pl} {h h1 : AH} {w : World} {a : AV} {tmps : Array Value} {ds : List Deferred} {kind : CallKind} {ro : Option Nat} {cs : List Frame}

include hS in
theorem end_ok {l : Nat} {k : List AItem} {k' : List Item} {L : Loc} (hL : ι l = some L) (e : stepF T ih ⟨fn, tm, .endRF l :: k, dfs, false, rnd⟩ h = some (a, h1)) (ht : TR E ι tm tmps) (hi : IL ι k k') (hd : DL E ι dfs ds) (hr : RR ι rnd ro) (hk : kind = .normal ∨ (kind = .deferred ∧ rnd = none)) (r : Rel T B E ι h w) : Goal P T B E ι h w (RF fn tmps (.endRangeFunc L.blk :: k') ds kind ro) cs a h1 := by
  simp only [stepF] at e
  split at e
  · rename_i st pend f n t params asg body dn hg
    have key : ∀ pl, IL ι pl ((pend.map Item.code).toList ++ k') → st ≠ .busy → (bif Nat.ble T.ng l then ih ⟨fn, tm, pl, dfs, false, rnd⟩ (h.put l (.loop .exhausted pend f n t params asg body dn)) else none) = some (a, h1) → Goal P T B E ι h w (RF fn tmps (.endRangeFunc L.blk :: k') ds kind ro) cs a h1 := fun pl hpl hb e => by
      rcases cond_some' e with ⟨hng, e'⟩ | ⟨_, e'⟩
      · rw [Nat.ble_eq] at hng
        obtain ⟨lp, h1', h2', hw, w1, hset, hgo, hrel⟩ := loop_write (P := P) r hg hL hng (st' := .exhausted) (pend' := pend)
        have heq : ({ lp with state := .exhausted, pending := pend } : Loop) = { lp with state := .exhausted } := by rw [← h2']
        rw [heq] at hset
        have hrun : (Instr.endLoop L.blk).run P w = .ok pend w1 := by
          have hnb : (lp.state == LoopState.busy) = false := by rw [h1']; cases st <;> first | rfl | exact absurd rfl hb
          simp only [Instr.endLoop, Sem.run_bind, getLoop_run hw, Result.andThen_ok, hnb, Bool.false_eq_true, if_false, hset, Sem.run_pure]
          rw [h2']
        have hst : step P (lone (RF fn tmps (.endRangeFunc L.blk :: k') ds kind ro) cs w) = .next (lone (RF fn tmps ((pend.map Item.code).toList ++ k') ds kind ro) cs w1) := step_lone_go (by simp [stepG, stepG.exec, hrun])
        exact cont hS e' (fr' := RF fn tmps ((pend.map Item.code).toList ++ k') ds kind ro) ⟨rfl, ht, hpl, hd, rfl, hr, hk⟩ hrel hgo (fun _ => .one hst) rfl rfl rfl
      · cases e'
    cases pend with
    | none =>
      cases st with
      | busy => simp at e
      | ready => exact key k hi (by simp) e
      | done => exact key k hi (by simp) e
      | exhausted => exact key k hi (by simp) e
    | some c =>
      cases st with
      | busy => simp at e
      | ready => exact key (.code c :: k) ⟨_, _, rfl, rfl, hi⟩ (by simp) e
      | done => exact key (.code c :: k) ⟨_, _, rfl, rfl, hi⟩ (by simp) e
      | exhausted => exact key (.code c :: k) ⟨_, _, rfl, rfl, hi⟩ (by simp) e
  · cases e

include hS in
theorem begin_ok {k : List AItem} {k' : List Item} (e : stepF T ih ⟨fn, tm, .beginRound :: k, dfs, false, rnd⟩ h = some (a, h1)) (ht : TR E ι tm tmps) (hi : IL ι k k') (hd : DL E ι dfs ds) (hr : RR ι rnd ro) (hk : kind = .normal ∨ (kind = .deferred ∧ rnd = none)) (r : Rel T B E ι h w) : Goal P T B E ι h w (RF fn tmps (.beginRound :: k') ds kind ro) cs a h1 := by
  simp only [stepF] at e
  split at e
  · rename_i l
    obtain ⟨L, hL, rfl⟩ := hr
    split at e
    · rename_i pend f n t params asg body dn hg
      rcases cond_some' e with ⟨hng, e'⟩ | ⟨_, e'⟩
      · rw [Nat.ble_eq] at hng
        obtain ⟨lp, h1', h2', hw, w1, hset, hgo, hrel⟩ := loop_write (P := P) r hg hL hng (st' := .busy) (pend' := pend)
        have heq : ({ lp with state := .busy, pending := pend } : Loop) = { lp with state := .busy } := by rw [← h2']
        rw [heq] at hset
        have hrun : (Instr.beginRound L.blk).run P w = .ok () w1 := by
          simp only [Instr.beginRound, Sem.run_bind, getLoop_run hw, Result.andThen_ok, hset, h1', Sem.run_pure]
        have hst : step P (lone (RF fn tmps (.beginRound :: k') ds kind (some L.blk)) cs w) = .next (lone (RF fn tmps k' ds kind (some L.blk)) cs w1) := step_lone_go (by simp [stepG, stepG.exec, stepG.apply, hrun, Frame.finish])
        exact cont hS e' (fr' := RF fn tmps k' ds kind (some L.blk)) ⟨rfl, ht, hi, hd, rfl, ⟨L, hL, rfl⟩, hk⟩ hrel hgo (fun _ => .one hst) rfl rfl rfl
      · cases e'
    · cases e
  · cases e

theorem yield_inv {f : Operand} {g : Nat} {a' b' : Array Value} {l : Nat} {ρ : Operand → Value} (hv : ρ f = .func (.func g) a' b') (hc : ρ (.const (.func (.yield l) #[] #[])) = .func (.yield l) #[] #[]) (hcf : ∀ w, (callFunc g (a' ++ #[Value.func (.yield l) #[] #[]] ++ b')).run P w = .ok (.enter g (a' ++ #[Value.func (.yield l) #[] #[]] ++ b')) w) (w : World) :
    ((do let d ← resolve ρ { callee := .value f, args := #[.const (.func (.yield l) #[] #[])], argTypes := #[] } 0; invoke d.target d.args) : Sem Next).run P w = .ok (.enter g (a' ++ #[Value.func (.yield l) #[] #[]] ++ b')) w := by
  simp only [resolve, Sem.run_bind, hv, Deferred.ofValue, Sem.run_pure, Result.andThen_ok, invoke]
  have : (#[Operand.const (.func (.yield l) #[] #[])].map ρ) = #[Value.func (.yield l) #[] #[]] := by simp [hc]
  rw [this]
  exact hcf w

include hT hS in
theorem rangeFunc_ok {f : Operand} {params : Array Nat} {asg body : Code} {k : List AItem} {k' : List Item} (e : stepF T ih ⟨fn, tm, .code (.rangeFunc f params asg body) :: k, dfs, false, rnd⟩ h = some (a, h1)) (ht : TR E ι tm tmps) (hi : IL ι k k') (hd : DL E ι dfs ds) (hr : RR ι rnd ro) (hk : kind = .normal ∨ (kind = .deferred ∧ rnd = none)) (r : Rel T B E ι h w) : Goal P T B E ι h w (RF fn tmps (.code (.rangeFunc f params asg body) :: k') ds kind ro) cs a h1 := by
  simp only [stepF] at e
  split at e
  · rename_i g first cap hf
    obtain ⟨a', b', hv, hVa, hVb⟩ := V_func (OR_of r (ds := ds) ht f _ hf)
    split at e
    · rename_i C hC
      split at e
      · rename_i x h2 hx
        simp only [RR] at hr
        subst hr
        have r1 := Rel.alloc r (b := .dfr false) (L := ⟨w.heap.size, 0, 0, 0⟩) (o := .deferred (some [])) rfl (heap_new w _)
        have g1 := Go.alloc r (b := .dfr false) (L := ⟨w.heap.size, 0, 0, 0⟩) (o := .deferred (some [])) rfl
        have hsz : (w.alloc (.deferred (some []))).heap.size = w.heap.size + 1 := by simp
        have hlp : BRel T E (putP (putP ι h.next ⟨w.heap.size, 0, 0, 0⟩) (h.new (.dfr false)).next ⟨w.heap.size + 1, 0, 0, 0⟩) ⟨w.heap.size + 1, 0, 0, 0⟩ ((w.alloc (.deferred (some []))).alloc (.loop { state := .ready, pending := none, fn := fn, tmps := tmps, params := params, assign := asg, body := body, defers := w.heap.size })) (.loop .ready none fn tm.n tm.t params.toList asg body h.next) := by
          refine ⟨tmps, ⟨w.heap.size, 0, 0, 0⟩, ?_, ?_, ?_⟩
          · unfold putP
            rw [if_neg (by rw [AH.next_new]; omega), if_pos rfl]
          · have := heap_new (w.alloc (.deferred (some []))) (.loop { state := .ready, pending := none, fn := fn, tmps := tmps, params := params, assign := asg, body := body, defers := w.heap.size })
            rw [hsz] at this
            simpa using this
          · exact ht.mono (g1.ext.trans (putP_ext (r1.fresh _ (Nat.le_refl _)).2))
        have r2 := Rel.alloc r1 (L := ⟨w.heap.size + 1, 0, 0, 0⟩) hsz.symm hlp
        have g2 := Go.alloc r1 (b := .loop .ready none fn tm.n tm.t params.toList asg body h.next) (L := ⟨w.heap.size + 1, 0, 0, 0⟩) (o := .loop { state := .ready, pending := none, fn := fn, tmps := tmps, params := params, assign := asg, body := body, defers := w.heap.size }) hsz.symm
        have gg := g1.trans g2
        rw [AH.next_new] at r2 g2 gg
        generalize hκ : putP (putP ι h.next ⟨w.heap.size, 0, 0, 0⟩) (h.next + 1) ⟨w.heap.size + 1, 0, 0, 0⟩ = κ at r2 g2 gg
        have hκ1 : κ (h.next + 1) = some ⟨w.heap.size + 1, 0, 0, 0⟩ := by rw [← hκ]; exact putP_same _ _ _
        have hκ0 : κ h.next = some ⟨w.heap.size, 0, 0, 0⟩ := by
          rw [← hκ]
          unfold putP
          rw [if_neg (by omega), if_pos rfl]
        generalize hw2 : ((w.alloc (.deferred (some []))).alloc (.loop { state := .ready, pending := none, fn := fn, tmps := tmps, params := params, assign := asg, body := body, defers := w.heap.size })) = w2 at r2 g2 gg
        have hVL : VL E κ (first ++ (.yld (h.next + 1) :: cap)) (a' ++ #[Value.func (.yield (w.heap.size + 1)) #[] #[]] ++ b').toList := by
          rw [Array.toList_append, Array.toList_append, List.append_assoc]
          refine (hVa.mono gg.ext).append (VL.cons ?_ (hVb.mono gg.ext))
          simp only [V]
          exact ⟨_, hκ1, rfl⟩
        obtain ⟨hFC, hCr, hcf⟩ := enter_ok hT hC hVL (k := .normal) (.inl rfl)
        have hel : (Instr.enterLoop fn tmps params asg body none).run P w = .ok (w.heap.size + 1, [{ target := .collected w.heap.size, args := #[] }]) w2 := by
          rw [← hw2]
          simp [Instr.enterLoop]
        have hev := eval_RF fn tmps (.inRangeFunc (w.heap.size + 1) :: k') ({ target := .collected w.heap.size, args := #[] } :: ds) kind none
        have hvf : Act.eval ⟨tmps, { target := .collected w.heap.size, args := #[] } :: ds⟩ f = .func (.func g) a' b' := by
          rw [← hv]
          cases f <;> rfl
        have hinv := yield_inv (P := P) (l := w.heap.size + 1) hvf rfl hcf w2
        have hst : step P (lone (RF fn tmps (.code (.rangeFunc f params asg body) :: k') ds kind none) cs w) = .next (lone (Frame.enter P g (a' ++ #[Value.func (.yield (w.heap.size + 1)) #[] #[]] ++ b') .normal) (RF fn tmps (.inRangeFunc (w.heap.size + 1) :: k') ({ target := .collected w.heap.size, args := #[] } :: ds) kind none :: cs) w2) := by
          refine step_lone_go ?_
          simp only [RF] at hev
          simp only [stepG, stepG.exec, Sem.runT_eq, hel, GStep.bare_after, List.cons_append, List.nil_append, stepG.apply, if_true, hev, hinv, GStep.bare_go]
        obtain ⟨μ, v, w3, k1, k2, k3, k4⟩ := hS C _ x h2 κ w2 _ (RF fn tmps (.inRangeFunc (w.heap.size + 1) :: k') ({ target := .collected w.heap.size, args := #[] } :: ds) kind none :: cs) hx hFC r2
        have hs2 := k4.call rfl
        have hx2 := gg.ext.trans k1.ext
        refine cont hS e (fr' := RF fn tmps (.endRangeFunc (w.heap.size + 1) :: k') ({ target := .collected w.heap.size, args := #[] } :: ds) kind none) ⟨rfl, ht.mono hx2, ⟨_, _, rfl, ⟨_, k1.ext _ _ hκ1, rfl⟩, hi.mono hx2⟩, ⟨_, _, rfl, ⟨_, k1.ext _ _ hκ0, rfl⟩, hd.mono hx2⟩, rfl, rfl, hk⟩ k2 (gg.trans k1) (fun _ => (Steps.one hst).trans hs2) rfl rfl rfl
      · cases e
    · cases e
  · rename_i g first cap l0 hf
    obtain ⟨a', b', hv, hVa, hVb⟩ := V_func (OR_of r (ds := ds) ht f _ hf)
    obtain ⟨L0, hL0, rfl⟩ := hr
    split at e
    · rename_i st0 pend0 fn0 n0 t0 ps0 as0 bo0 dn hg0
      obtain ⟨tm0, D, hDn, hw0, _⟩ := r.blk _ _ _ hg0 hL0
      split at e
      · rename_i C hC
        split at e
        · rename_i x h2 hx
          have hlp : BRel T E (putP ι h.next ⟨w.heap.size, 0, 0, 0⟩) ⟨w.heap.size, 0, 0, 0⟩ (w.alloc (.loop { state := .ready, pending := none, fn := fn, tmps := tmps, params := params, assign := asg, body := body, defers := D.blk })) (.loop .ready none fn tm.n tm.t params.toList asg body dn) := by
            have hx := putP_ext (L := ⟨w.heap.size, 0, 0, 0⟩) (r.fresh h.next (Nat.le_refl _)).2
            refine ⟨tmps, D, hx _ _ hDn, ?_, ht.mono hx⟩
            have := heap_new w (.loop { state := .ready, pending := none, fn := fn, tmps := tmps, params := params, assign := asg, body := body, defers := D.blk })
            simpa using this
          have r2 := Rel.alloc r (L := ⟨w.heap.size, 0, 0, 0⟩) rfl hlp
          have gg := Go.alloc r (b := .loop .ready none fn tm.n tm.t params.toList asg body dn) (L := ⟨w.heap.size, 0, 0, 0⟩) (o := .loop { state := .ready, pending := none, fn := fn, tmps := tmps, params := params, assign := asg, body := body, defers := D.blk }) rfl
          generalize hκ : putP ι h.next ⟨w.heap.size, 0, 0, 0⟩ = κ at r2 gg
          have hκ1 : κ h.next = some ⟨w.heap.size, 0, 0, 0⟩ := by rw [← hκ]; exact putP_same _ _ _
          generalize hw2 : (w.alloc (.loop { state := .ready, pending := none, fn := fn, tmps := tmps, params := params, assign := asg, body := body, defers := D.blk })) = w2 at r2 gg
          have hVL : VL E κ (first ++ (.yld h.next :: cap)) (a' ++ #[Value.func (.yield w.heap.size) #[] #[]] ++ b').toList := by
            rw [Array.toList_append, Array.toList_append, List.append_assoc]
            refine (hVa.mono gg.ext).append (VL.cons ?_ (hVb.mono gg.ext))
            simp only [V]
            exact ⟨_, hκ1, rfl⟩
          obtain ⟨hFC, hCr, hcf⟩ := enter_ok hT hC hVL (k := .normal) (.inl rfl)
          have hel : (Instr.enterLoop fn tmps params asg body (some L0.blk)).run P w = .ok (w.heap.size, []) w2 := by
            rw [← hw2]
            simp [Instr.enterLoop, getLoop_run hw0]
          have hev := eval_RF fn tmps (.inRangeFunc w.heap.size :: k') ds kind (some L0.blk)
          have hinv := yield_inv (P := P) (l := w.heap.size) hv rfl hcf w2
          have hst : step P (lone (RF fn tmps (.code (.rangeFunc f params asg body) :: k') ds kind (some L0.blk)) cs w) = .next (lone (Frame.enter P g (a' ++ #[Value.func (.yield w.heap.size) #[] #[]] ++ b') .normal) (RF fn tmps (.inRangeFunc w.heap.size :: k') ds kind (some L0.blk) :: cs) w2) := by
            refine step_lone_go ?_
            simp only [RF] at hev
            simp only [stepG, stepG.exec, Sem.runT_eq, hel, GStep.bare_after, List.nil_append, stepG.apply, if_true, hev, hinv, GStep.bare_go]
          obtain ⟨μ, v, w3, k1, k2, k3, k4⟩ := hS C _ x h2 κ w2 _ (RF fn tmps (.inRangeFunc w.heap.size :: k') ds kind (some L0.blk) :: cs) hx hFC r2
          have hs2 := k4.call rfl
          have hx2 := gg.ext.trans k1.ext
          refine cont hS e (fr' := RF fn tmps (.endRangeFunc w.heap.size :: k') ds kind (some L0.blk)) ⟨rfl, ht.mono hx2, ⟨_, _, rfl, ⟨_, k1.ext _ _ hκ1, rfl⟩, hi.mono hx2⟩, hd.mono hx2, rfl, ⟨L0, hx2 _ _ hL0, rfl⟩, hk⟩ k2 (gg.trans k1) (fun _ => (Steps.one hst).trans hs2) rfl rfl rfl
        · cases e
      · cases e
    · cases e
  · cases e

include hT hE hS hD in
/-- Every step. -/
theorem stepF_ok : Sound P T B E (stepF T ih) := by
  intro F h a h1 ι w fr cs e hF r
  obtain ⟨fn, tm, todo, dfs, ret, rnd⟩ := F
  cases ret with
  | true => exact ret_ok hT hS e hF r
  | false =>
    obtain ⟨fn', tmps, todo', ds, mode, kind, ro⟩ := fr
    obtain ⟨h1', ht, hi, hd, hm, hr, hk⟩ := hF
    simp only at h1' ht hi hd hm hr hk
    subst h1'
    simp only [Bool.false_eq_true, if_false] at hm
    subst hm
    cases todo with
    | nil =>
      simp only [IL] at hi
      subst hi
      simp only [stepF] at e
      refine leave_ok hS e ht rfl hd hr hk r (fun hro _ => ?_) (fun l c rest v w1 hro hkn hrun hcs => ?_)
      · subst hro
        exact step_lone_go (by simp [stepG, stepG.exec])
      · subst hro hkn hcs
        exact step_lone_go (by simp [stepG, stepG.exec, hrun, doReturn])
    | cons it k =>
      obtain ⟨i, k', rfl, hir, hik⟩ := hi
      cases it with
      | code c =>
        simp only [IR] at hir
        subst hir
        by_cases hrf : ∃ f params asg body, c = .rangeFunc f params asg body
        · obtain ⟨f, params, asg, body, rfl⟩ := hrf
          exact rangeFunc_ok hT hS e ht hik hd hr hk r
        · exact code_ok hT hE hS hD (fun f p s b hc => hrf ⟨f, p, s, b, hc⟩) e ht hik hd hr hk r
      | inBlock n =>
        simp only [IR] at hir
        subst hir
        simp only [stepF] at e
        exact cont1 hS e ht hik hd hr hk r (step_lone_go (by simp [stepG, stepG.exec]))
      | inLoop body =>
        simp only [IR] at hir
        subst hir
        simp only [stepF] at e
        exact cont1 hS e ht ⟨_, _, rfl, rfl, _, _, rfl, rfl, hik⟩ hd hr hk r (step_lone_go (by simp [stepG, stepG.exec]))
      | inScope body =>
        simp only [IR] at hir
        subst hir
        simp only [stepF] at e
        exact cont1 hS e ht hik hd hr hk r (step_lone_go (by simp [stepG, stepG.exec]))
      | inRF n => exact hir.elim
      | endRF n =>
        obtain ⟨L, hL, rfl⟩ := hir
        exact end_ok hS hL e ht hik hd hr hk r
      | beginRound =>
        simp only [IR] at hir
        subst hir
        exact begin_ok hS e ht hik hd hr hk r
end

end Go.Proofs.YtednkkcmboahgaaGreatDoor

/- A checked run: a whole call. -/
namespace Go.Proofs.YtednkkcmboahgaaGreatDoor
open Go.RowKit

section
variable {P : Program} {T : Tab} (hT : TabOk P T) {E : Nat → Int} (hE : Env T.bd E) {B : Nat} (hR : ∀ ih, Sound P T B E ih → RegDOk P T B E ih)

include hT hE hR in
theorem runF_ok : ∀ n, Sound P T B E (runF T n)
  | 0 => fun F h a h1 ι w fr cs e => by cases e
  | n + 1 => by
    have ih := runF_ok n
    exact stepF_ok hT hE ih (hR _ ih)

include hT hE hR in
/-- What a call does, whatever is drawn. -/
theorem callF_ok {n f : Nat} {args : List AV} {h h1 : AH} {a : AV} {ι : Pl} {w : World} {as : Array Value} (e : callF T n f args h = some (a, h1)) (ha : VL E ι args as.toList) (r : Rel T B E ι h w) :
    Calls P f as w fun e w' => ∃ κ v, e = .returned v ∧ V E κ a v ∧ Go B ι h w κ h1 w' ∧ Rel T B E κ h1 w' := by
  unfold callF at e
  split at e
  · rename_i C hC
    obtain ⟨hF, hr, _⟩ := enter_ok hT hC ha (k := .normal) (.inl rfl)
    intro cs
    obtain ⟨κ, v, w1, g1, g2, g3, g4⟩ := runF_ok hT hE hR n C h a h1 ι w _ cs e hF r
    obtain ⟨fr, k1, k2, k3, k4, k5, fn, k6, k7⟩ := g4 (.inl rfl)
    exact ⟨.returned v, w1, fr, ⟨κ, v, rfl, g3, g1, g2⟩, k1, k2, k4, k5, k3, fn, k6, k7⟩
  · cases e
end

end Go.Proofs.YtednkkcmboahgaaGreatDoor

/- A checked run: what a region that draws its order rests on. -/
namespace Go.Proofs.YtednkkcmboahgaaGreatDoor
open Go.RowKit

section
variable {T : Tab} {B : Nat} {E : Nat → Int} {ι : Pl} {h : AH} {w : World}

/-- A block is made ahead of the machine's. -/
theorem Rel.ahead (r : Rel T B E ι h w) (b : AB) : Rel T B E ι (h.new b) w := by
  have hf := r.fresh h.next (Nat.le_refl _)
  have hg : ∀ {m c M}, (h.new b).get m = some c → ι m = some M → h.get m = some c := fun {m c M} e1 e2 => by
    rw [AH.get_new] at e1
    split at e1
    · rename_i em
      subst em
      rw [hf.2] at e2; cases e2
    · exact e1
  refine ⟨fun m c M e1 e2 => r.blk m c M (hg e1 e2) e2, fun m q c d M Q e1 e2 e3 e4 => r.inj m q c d M Q (hg e1 e3) (hg e2 e4) e3 e4, fun m c M e1 hm e2 => r.lo m c M (hg e1 e2) hm e2, fun m hm => ?_, r.size, by rw [AH.next_new]; exact Nat.le_trans r.ng (Nat.le_succ _), r.glob, r.inv⟩
  rw [AH.next_new] at hm
  rw [AH.get_new, if_neg (by omega)]
  exact r.fresh m (by omega)
theorem Go.ahead (b : AB) : Go B ι h w ι (h.new b) w :=
  ⟨Ext.refl _, Below.refl _ _, fun n hn e => ⟨e, by rw [AH.get_new, if_neg (by omega)]⟩, by rw [AH.next_new]; exact Nat.le_succ _⟩

/-- Two heaps that tell the same. -/
structure SameH (h k : AH) : Prop where
  get : ∀ n, k.get n = h.get n
  next : k.next = h.next
theorem Rel.same (r : Rel T B E ι h w) {k : AH} (s : SameH h k) : Rel T B E ι k w := by
  refine ⟨fun m c M e1 e2 => r.blk m c M (by rw [← s.get]; exact e1) e2, fun m q c d M Q e1 e2 => r.inj m q c d M Q (by rw [← s.get]; exact e1) (by rw [← s.get]; exact e2), fun m c M e1 => r.lo m c M (by rw [← s.get]; exact e1), fun m hm => ?_, r.size, by rw [s.next]; exact r.ng, r.glob, r.inv⟩
  rw [s.next] at hm
  rw [s.get]
  exact r.fresh m hm
end

/-- An operation hangs on its operands alone. -/
theorem evOs_congr {gl : Nat} {tm tm' : TM} : ∀ {xs : List Operand}, (∀ x ∈ xs, evO gl tm x = evO gl tm' x) → evOs gl tm xs = evOs gl tm' xs
  | [], _ => rfl
  | x :: xs, h => by
    simp only [evOs]
    rw [h x (List.mem_cons_self ..), evOs_congr fun y hy => h y (List.mem_cons_of_mem _ hy)]
theorem evPs_congr {gl : Nat} {tm tm' : TM} : ∀ {ps : List (Nat × Operand)}, (∀ p ∈ ps, evO gl tm p.2 = evO gl tm' p.2) → evPs gl tm ps = evPs gl tm' ps
  | [], _ => rfl
  | (i, x) :: ps, h => by
    simp only [evPs]
    rw [h (i, x) (List.mem_cons_self ..), evPs_congr fun y hy => h y (List.mem_cons_of_mem _ hy)]
theorem evOo_congr {gl : Nat} {tm tm' : TM} {x : Option Operand} (h : ∀ y, x = some y → evO gl tm y = evO gl tm' y) : evOo gl tm x = evOo gl tm' x := by
  cases x with
  | none => rfl
  | some y => simp only [evOo]; rw [h y rfl]

theorem opA_congr {T : Tab} {o : Oper} {tm tm' : TM} {h : AH} (hx : ∀ x ∈ o.op.operands.toList, evO T.gl tm x = evO T.gl tm' x) : opA T o tm h = opA T o tm' h := by
  obtain ⟨dst, op, type, pos, after, guard⟩ := o
  simp only at hx
  have pl : ∀ ps : Array (Nat × Operand), (∀ x ∈ ((ps.toList.map (·.2)).toArray).toList, evO T.gl tm x = evO T.gl tm' x) → evPs T.gl tm ps.toList = evPs T.gl tm' ps.toList := fun ps hp =>
    evPs_congr fun p hm => hp p.2 (by simp only [List.mem_map]; exact ⟨p, hm, rfl⟩)
  cases op with
  | build t ps =>
    unfold opA
    simp only []
    rw [pl ps hx]
  | buildSlice t len ps =>
    unfold opA
    simp only []
    rw [pl ps hx]
  | makeFunc f first cap =>
    have h1 : evOs T.gl tm first.toList = evOs T.gl tm' first.toList := evOs_congr fun x hm => hx x (by simp only [Op.operands, Array.toList_append, List.mem_append]; exact .inl hm)
    have h2 : evOs T.gl tm cap.toList = evOs T.gl tm' cap.toList := evOs_congr fun x hm => hx x (by simp only [Op.operands, Array.toList_append, List.mem_append]; exact .inr hm)
    unfold opA
    simp only [h1, h2]
  | makeMap t r =>
    have h1 : evOo T.gl tm r = evOo T.gl tm' r := evOo_congr fun y hy => hx y (by subst hy; simp [Op.operands])
    unfold opA
    simp only [h1]
  | slice t x lo hi mx =>
    have h0 : evO T.gl tm x = evO T.gl tm' x := hx x (by simp [Op.operands])
    have h1 : evOo T.gl tm lo = evOo T.gl tm' lo := evOo_congr fun y hy => hx y (by subst hy; simp [Op.operands])
    have h2 : evOo T.gl tm hi = evOo T.gl tm' hi := evOo_congr fun y hy => hx y (by subst hy; simp [Op.operands])
    unfold opA
    cases mx with
    | none => simp only [h0, h1, h2]
    | some m =>
      have h3 : evO T.gl tm m = evO T.gl tm' m := hx m (by simp [Op.operands])
      simp only [h0, h1, h2, h3]
  | call c =>
    have h1 : evOs T.gl tm c.args.toList = evOs T.gl tm' c.args.toList := evOs_congr fun x hm => hx x (by simp only [Op.operands, Call.operands, Array.toList_append, List.mem_append]; exact .inr hm)
    unfold opA
    simp only [h1]
    cases hc : c.callee with
    | builtin b => rfl
    | value f =>
      have h2 : evO T.gl tm f = evO T.gl tm' f := hx f (by simp [Op.operands, Call.operands, hc])
      simp only [h2]
    | invoke rc name =>
      have h2 : evO T.gl tm rc = evO T.gl tm' rc := hx rc (by simp [Op.operands, Call.operands, hc])
      simp only [h2]
  | defer c =>
    have h1 : evOs T.gl tm c.args.toList = evOs T.gl tm' c.args.toList := evOs_congr fun x hm => hx x (by simp only [Op.operands, Call.operands, Array.toList_append, List.mem_append]; exact .inr hm)
    unfold opA
    simp only [h1]
    cases hc : c.callee with
    | builtin b => rfl
    | value f =>
      have h2 : evO T.gl tm f = evO T.gl tm' f := hx f (by simp [Op.operands, Call.operands, hc])
      simp only [h2]
    | invoke rc name => rfl
  | next it s =>
    simp only [Op.operands, List.mem_cons, List.not_mem_nil, or_false, forall_eq] at hx
    unfold opA
    cases s with
    | false => rfl
    | true => simp only [hx]
  | _ =>
    first
      | rfl
      | (simp only [Op.operands, List.mem_cons, List.not_mem_nil, or_false, forall_eq_or_imp, forall_eq] at hx
         unfold opA
         simp only [hx])

theorem sameIs_ev {E : Nat → Int} : ∀ {a b : List AI}, sameIs a b = true → a.map (byteOf E) = b.map (byteOf E) ∧ a.length = b.length
  | [], [], _ => ⟨rfl, rfl⟩
  | x :: a, y :: b, h => by
    simp only [sameIs, Bool.and_eq_true] at h
    obtain ⟨h1, h2⟩ := sameIs_ev h.2
    have := AI.same_ev (E := E) h.1
    have hb : byteOf E x = byteOf E y := by unfold byteOf; rw [this]
    exact ⟨by rw [List.map_cons, List.map_cons, h1, hb], by simp [h2]⟩
  | [], _ :: _, h => by simp [sameIs] at h
  | _ :: _, [], h => by simp [sameIs] at h

mutual
/-- The same value stands for the same. -/
theorem sameV_V {E : Nat → Int} {ι : Pl} : ∀ {u v : AV} {x : Value}, sameV u v = true → V E ι u x → V E ι v x
  | .bool a, v, x, h, g => by
    cases v <;> simp only [sameV] at h <;> first
      | (cases h; done)
      | (have := eq_of_beq h; subst this; exact g)
  | .int k a, v, x, h, g => by
    cases v <;> simp only [sameV] at h <;> first
      | (cases h; done)
      | skip
    simp only [Bool.and_eq_true, decide_eq_true_eq] at h
    obtain ⟨rfl, h2⟩ := h
    simp only [V] at g ⊢
    rw [g, AI.same_ev h2]
  | .str n a, v, x, h, g => by
    cases v <;> simp only [sameV] at h <;> first
      | (cases h; done)
      | skip
    simp only [Bool.and_eq_true, Nat.beq_eq] at h
    obtain ⟨rfl, h2⟩ := h
    obtain ⟨h3, h4⟩ := sameIs_ev (E := E) h2
    simp only [V] at g ⊢
    refine ⟨by rw [← h4]; exact g.1, ?_⟩
    rw [g.2]
    unfold bytesA
    rw [h3]
  | .ptr n o, v, x, h, g => by
    cases v <;> simp only [sameV] at h <;> first
      | (cases h; done)
      | skip
    simp only [Bool.and_eq_true, Nat.beq_eq] at h
    obtain ⟨rfl, rfl⟩ := h
    exact g
  | .nilptr, v, x, h, g => by cases v <;> simp only [sameV] at h <;> first | (cases h; done) | exact g
  | .slice n o l, v, x, h, g => by
    cases v <;> simp only [sameV] at h <;> first
      | (cases h; done)
      | skip
    simp only [Bool.and_eq_true, Nat.beq_eq] at h
    obtain ⟨⟨rfl, rfl⟩, rfl⟩ := h
    exact g
  | .eslice, v, x, h, g => by cases v <;> simp only [sameV] at h <;> first | (cases h; done) | exact g
  | .nilslice, v, x, h, g => by cases v <;> simp only [sameV] at h <;> first | (cases h; done) | exact g
  | .map n, v, x, h, g => by
    cases v <;> simp only [sameV] at h <;> first
      | (cases h; done)
      | skip
    simp only [Nat.beq_eq] at h
    subst h
    exact g
  | .nilmap, v, x, h, g => by cases v <;> simp only [sameV] at h <;> first | (cases h; done) | exact g
  | .func f a b, v, x, h, g => by
    cases v <;> simp only [sameV] at h <;> first
      | (cases h; done)
      | skip
    simp only [Bool.and_eq_true, Nat.beq_eq] at h
    obtain ⟨⟨rfl, h2⟩, h3⟩ := h
    simp only [V] at g ⊢
    obtain ⟨a', b', e, g1, g2⟩ := g
    exact ⟨a', b', e, sameVs_VL h2 g1, sameVs_VL h3 g2⟩
  | .yld n, v, x, h, g => by
    cases v <;> simp only [sameV] at h <;> first
      | (cases h; done)
      | skip
    simp only [Nat.beq_eq] at h
    subst h
    exact g
  | .nilfunc, v, x, h, g => by cases v <;> simp only [sameV] at h <;> first | (cases h; done) | exact g
  | .iface t a, v, x, h, g => by
    cases v <;> simp only [sameV] at h <;> first
      | (cases h; done)
      | skip
    simp only [Bool.and_eq_true, Nat.beq_eq] at h
    obtain ⟨rfl, h2⟩ := h
    simp only [V] at g ⊢
    obtain ⟨u, e, g1⟩ := g
    exact ⟨u, e, sameV_V h2 g1⟩
  | .niliface, v, x, h, g => by cases v <;> simp only [sameV] at h <;> first | (cases h; done) | exact g
  | .agg a, v, x, h, g => by
    cases v <;> simp only [sameV] at h <;> first
      | (cases h; done)
      | skip
    simp only [V] at g ⊢
    obtain ⟨l, e, g1⟩ := g
    exact ⟨l, e, sameVs_VL h g1⟩
  | .tuple a, v, x, h, g => by
    cases v <;> simp only [sameV] at h <;> first
      | (cases h; done)
      | skip
    simp only [V] at g ⊢
    obtain ⟨l, e, g1⟩ := g
    exact ⟨l, e, sameVs_VL h g1⟩
  | .junk, v, x, h, _ => by cases v <;> simp [sameV] at h
theorem sameVs_VL {E : Nat → Int} {ι : Pl} : ∀ {u v : List AV} {x : List Value}, sameVs u v = true → VL E ι u x → VL E ι v x
  | [], [], x, _, g => g
  | a :: r, b :: s, x, h, g => by
    simp only [sameVs, Bool.and_eq_true] at h
    simp only [VL] at g ⊢
    obtain ⟨v, t, e, g1, g2⟩ := g
    exact ⟨v, t, e, sameV_V h.1 g1, sameVs_VL h.2 g2⟩
  | [], _ :: _, _, h, _ => by simp [sameVs] at h
  | _ :: _, [], _, h, _ => by simp [sameVs] at h
end

end Go.Proofs.YtednkkcmboahgaaGreatDoor

/- A checked run: the slots of a region that draws its order. -/
namespace Go.Proofs.YtednkkcmboahgaaGreatDoor
open Go.RowKit

/-- The slots when those of D are done: each one's number, slot and value, in the order of the run. -/
noncomputable def tmOf (D : Nat → Bool) : List (Nat × Option Nat × AV) → TM → TM
  | [], tm => tm
  | (i, d, v) :: r, tm => tmOf D r (if D i then putT tm d v else tm)

theorem putT_n (tm : TM) (d : Option Nat) (v : AV) : (putT tm d v).n = tm.n := by
  cases d with
  | none => rfl
  | some d => exact setT_n tm d v
theorem getT_putT (tm : TM) (d : Option Nat) (v : AV) (t : Nat) : getT (putT tm d v) t = if d = some t ∧ t < tm.n then v else getT tm t := by
  cases d with
  | none => simp [putT]
  | some d =>
    simp only [putT, Option.some.injEq]
    by_cases ht : t < tm.n
    · by_cases hd : d < tm.n
      · rw [getT_setT hd v t ht]
        by_cases e : t = d
        · rw [if_pos e, if_pos ⟨e.symm, ht⟩]
        · rw [if_neg e, if_neg (fun h => e h.1.symm)]
      · have e1 : setT tm d v = tm := by
          cases tm with
          | mk n tr =>
            show @Bool.rec (fun _ => TM) _ _ (Nat.blt d n) = _
            rw [recB]
            rw [cond_neg (by rw [← Bool.not_eq_true, Nat.blt_eq]; exact hd)]
        rw [e1, if_neg (by omega)]
    · rw [if_neg (by omega), getT_ge (by rw [setT_n]; exact ht), getT_ge ht]
theorem tmOf_n (D : Nat → Bool) : ∀ (es : List (Nat × Option Nat × AV)) (tm : TM), (tmOf D es tm).n = tm.n
  | [], tm => rfl
  | (i, d, v) :: r, tm => by
    simp only [tmOf]
    rw [tmOf_n D r]
    split
    · exact putT_n _ _ _
    · rfl
theorem tmOf_append (D : Nat → Bool) : ∀ (a b : List (Nat × Option Nat × AV)) (tm : TM), tmOf D (a ++ b) tm = tmOf D b (tmOf D a tm)
  | [], b, tm => rfl
  | (i, d, v) :: r, b, tm => by
    simp only [List.cons_append, tmOf]
    exact tmOf_append D r b _

theorem tmOf_agree {D D' : Nat → Bool} {t : Nat} : ∀ {es : List (Nat × Option Nat × AV)} {tm tm' : TM}, (∀ e ∈ es, e.2.1 = some t → D e.1 = D' e.1) → getT tm t = getT tm' t → tm.n = tm'.n → getT (tmOf D es tm) t = getT (tmOf D' es tm') t
  | [], tm, tm', _, h, _ => h
  | (i, d, v) :: r, tm, tm', hw, h, hn => by
    simp only [tmOf]
    refine tmOf_agree (fun e he => hw e (List.mem_cons_of_mem _ he)) ?_ ?_
    · by_cases hd : d = some t
      · have := hw (i, d, v) (List.mem_cons_self ..) hd
        simp only at this
        rw [this]
        split
        · rw [getT_putT, getT_putT, hn, h]
        · exact h
      · have k : ∀ (b : Bool) (x : TM), getT (if b then putT x d v else x) t = getT x t := fun b x => by
          split
          · rw [getT_putT, if_neg (fun hh => hd hh.1)]
          · rfl
        rw [k, k, h]
    · have k : ∀ (b : Bool) (x : TM), (if b then putT x d v else x).n = x.n := fun b x => by
        split
        · exact putT_n _ _ _
        · rfl
      rw [k, k, hn]
/-- No one that is done writes it. -/
theorem tmOf_still {D : Nat → Bool} {t : Nat} : ∀ {es : List (Nat × Option Nat × AV)} {tm : TM}, (∀ e ∈ es, e.2.1 = some t → D e.1 = false) → getT (tmOf D es tm) t = getT tm t
  | [], tm, _ => rfl
  | (i, d, v) :: r, tm, hw => by
    simp only [tmOf]
    rw [tmOf_still fun e he => hw e (List.mem_cons_of_mem _ he)]
    split
    · rename_i hD
      rw [getT_putT, if_neg]
      rintro ⟨hd, _⟩
      have := hw (i, d, v) (List.mem_cons_self ..) hd
      simp only at this
      rw [hD] at this; cases this
    · rfl

/-- What an operation reads when all ahead of it is done and nothing behind it. -/
theorem tmOf_reads {D : Nat → Bool} {t : Nat} {pre post : List (Nat × Option Nat × AV)} {tm : TM} (h1 : ∀ e ∈ pre, e.2.1 = some t → D e.1 = true) (h2 : ∀ e ∈ post, e.2.1 = some t → D e.1 = false) : getT (tmOf D (pre ++ post) tm) t = getT (tmOf (fun _ => true) pre tm) t := by
  rw [tmOf_append, tmOf_still h2]
  exact tmOf_agree (fun e he hd => h1 e he hd) rfl rfl

/-- One more is done. -/
theorem tmOf_insert {D : Nat → Bool} {k : Nat} {d : Option Nat} {v : AV} {pre post : List (Nat × Option Nat × AV)} {tm : TM} (hpre : ∀ e ∈ pre, e.1 ≠ k) (hpost : ∀ e ∈ post, e.1 ≠ k) (hw : ∀ e ∈ post, e.2.1 = d → d.isSome = true → D e.1 = false) (t : Nat) :
    getT (tmOf (fun i => if i = k then true else D i) (pre ++ (k, d, v) :: post) tm) t = getT (putT (tmOf D (pre ++ (k, d, v) :: post) tm) d v) t := by
  rw [getT_putT, tmOf_n]
  have hD' : ∀ e : Nat × Option Nat × AV, e.1 ≠ k → (if e.1 = k then true else D e.1) = D e.1 := fun e he => if_neg he
  by_cases hd : d = some t
  · subst hd
    rw [tmOf_append]
    simp only [tmOf, if_true]
    rw [tmOf_still (fun e he hh => by rw [hD' e (hpost e he)]; exact hw e he hh rfl), getT_putT, tmOf_n]
    by_cases ht : t < tm.n
    · simp [ht]
    · simp only [ht, and_false, if_false]
      rw [getT_ge (by rw [tmOf_n]; exact ht), getT_ge (by rw [tmOf_n]; exact ht)]
  · rw [if_neg (fun hh => hd hh.1)]
    refine tmOf_agree (fun e he hh => ?_) rfl rfl
    rcases List.mem_append.1 he with he | he
    · exact hD' e (hpre e he)
    · rcases List.mem_cons.1 he with rfl | he
      · exact absurd hh hd
      · exact hD' e (hpost e he)

end Go.Proofs.YtednkkcmboahgaaGreatDoor

/- A checked run: what the run of a region that draws its order has told. -/
namespace Go.Proofs.YtednkkcmboahgaaGreatDoor
open Go.RowKit

/-- One operation of the run: the slots and the heap ahead of it, how many acts were done, what it told. -/
structure Ent where
  i : Nat
  o : Oper
  tm : TM
  h : AH
  c : Nat
  a : AV

section
variable (T : Tab) (ex : AN → AH → Option (AV × AH)) (ops : List Oper) (b : List Nat)
inductive Run : List (Nat × Oper) → TM → AH → Nat → List Ent → TM → AH → Nat → Prop
  | nil (tm : TM) (h : AH) (c : Nat) : Run [] tm h c [] tm h c
  | skip {i : Nat} {o : Oper} {r : List (Nat × Oper)} {tm tm1 : TM} {h h1 : AH} {c c1 : Nat} {es : List Ent} (hw : wantA o ops tm = false) (hk : (kindOf o).isActs = false) (hr : Run r (putT tm o.dst (.tuple [])) h c es tm1 h1 c1) : Run ((i, o) :: r) tm h c (⟨i, o, tm, h, c, .tuple []⟩ :: es) tm1 h1 c1
  | skipAct {i : Nat} {o : Oper} {r : List (Nat × Oper)} {tm tm1 : TM} {h h1 : AH} {c c1 : Nat} {es : List Ent} (hw : wantA o ops tm = false) (hk : kindOf o = .acts) (hr : Run r (putT tm o.dst (.tuple [])) h (c + 1) es tm1 h1 c1) : Run ((i, o) :: r) tm h c (⟨i, o, tm, h, c, .tuple []⟩ :: es) tm1 h1 c1
  | calm {i : Nat} {o : Oper} {r : List (Nat × Oper)} {tm tm1 : TM} {h h1 h2 : AH} {c c1 : Nat} {es : List Ent} {v : AV} (hw : wantA o ops tm = true) (hk : kindOf o = .calm) (ho : opA T o tm h = some (.val v, h2)) (hr : Run r (putT tm o.dst v) h c es tm1 h1 c1) : Run ((i, o) :: r) tm h c (⟨i, o, tm, h, c, v⟩ :: es) tm1 h1 c1
  | reads {i : Nat} {o : Oper} {r : List (Nat × Oper)} {tm tm1 : TM} {h h1 h2 : AH} {c c1 : Nat} {es : List Ent} {v : AV} (hw : wantA o ops tm = true) (hk : kindOf o = .reads) (ho : opA T o tm h = some (.val v, h2)) (hr : Run r (putT tm o.dst v) h c es tm1 h1 c1) : Run ((i, o) :: r) tm h c (⟨i, o, tm, h, c, v⟩ :: es) tm1 h1 c1
  | makes {i : Nat} {o : Oper} {r : List (Nat × Oper)} {tm tm1 : TM} {h h1 h2 : AH} {c c1 : Nat} {es : List Ent} {v : AV} (hw : wantA o ops tm = true) (hk : kindOf o = .makes) (ho : opA T o tm h = some (.val v, h2)) (hr : Run r (putT tm o.dst v) h2 c es tm1 h1 c1) : Run ((i, o) :: r) tm h c (⟨i, o, tm, h, c, v⟩ :: es) tm1 h1 c1
  | act {i : Nat} {o : Oper} {r : List (Nat × Oper)} {tm tm1 : TM} {h h1 h2 h3 : AH} {c c1 : Nat} {es : List Ent} {an : AN} {v : AV} (hw : wantA o ops tm = true) (hk : kindOf o = .acts) (ho : opA T o tm h = some (an, h2)) (he : ex an h2 = some (v, h3)) (hr : Run r (putT tm o.dst v) h3 (c + 1) es tm1 h1 c1) : Run ((i, o) :: r) tm h c (⟨i, o, tm, h, c, v⟩ :: es) tm1 h1 c1

/-- The read tells the same ahead of each act, up to the first that lies behind it, or at the end. -/
def AgainAt (p : Pend) : List Ent → AH → Prop
  | [], h1 => againA T p.o p.tm p.v h1 = true
  | e :: r, h1 => (kindOf e.o = .acts → againA T p.o p.tm p.v e.h = true ∧ (hasB b e.i p.i = true ∨ AgainAt p r h1)) ∧ (kindOf e.o ≠ .acts → AgainAt p r h1)
def ReadsOk : List Ent → AH → Prop
  | [], _ => True
  | e :: r, h1 => (wantA e.o ops e.tm = true → kindOf e.o = .reads → AgainAt T b ⟨e.i, e.o, e.tm, e.a⟩ r h1) ∧ ReadsOk r h1
end

section
variable {T : Tab} {ex : AN → AH → Option (AV × AH)} {ops : List Oper} {b : List Nat}

theorem againPs_mem {h : AH} : ∀ {l : List Pend}, againPs T h l = true → ∀ p ∈ l, againA T p.o p.tm p.v h = true
  | [], _, p, hp => by cases hp
  | q :: l, hl, p, hp => by
    simp only [againPs, Bool.and_eq_true] at hl
    rcases List.mem_cons.1 hp with rfl | hp
    · exact hl.1
    · exact againPs_mem hl.2 p hp
theorem dropP_mem {i : Nat} : ∀ {l : List Pend} {p : Pend}, p ∈ l → hasB b i p.i = true ∨ p ∈ dropP b i l
  | [], p, hp => by cases hp
  | q :: l, p, hp => by
    simp only [dropP]
    cases hq : hasB b i q.i with
    | true =>
      simp only [cond_true]
      rcases List.mem_cons.1 hp with rfl | hp
      · exact .inl hq
      · exact dropP_mem hp
    | false =>
      simp only [cond_false]
      rcases List.mem_cons.1 hp with rfl | hp
      · exact .inr (List.mem_cons_self ..)
      · exact (dropP_mem hp).imp id (List.mem_cons_of_mem _)

theorem AgainAt.pass {p : Pend} {e : Ent} {es : List Ent} {h1 : AH} (h : AgainAt T b p es h1) (he : kindOf e.o = .acts → False) : AgainAt T b p (e :: es) h1 :=
  ⟨fun ha => (he ha).elim, fun _ => h⟩
theorem AgainAt.act {p : Pend} {pend : List Pend} {e : Ent} {es : List Ent} {h1 : AH} (hk : kindOf e.o = .acts) (hp : againPs T e.h pend = true) (hm : p ∈ pend) (h : ∀ q ∈ dropP b e.i pend, AgainAt T b q es h1) : AgainAt T b p (e :: es) h1 :=
  ⟨fun _ => ⟨againPs_mem hp p hm, (dropP_mem hm).imp id (h p)⟩, fun hn => absurd hk hn⟩

/-- What the run of a region tells. -/
theorem regD_run : ∀ {ord : List (Nat × Oper)} {tm tm1 : TM} {h h1 : AH} {pend : List Pend} {c : Nat}, regD T ex ops b ord tm h pend = some (tm1, h1) →
    ∃ es c1, Run T ex ops ord tm h c es tm1 h1 c1 ∧ (∀ p ∈ pend, AgainAt T b p es h1) ∧ ReadsOk T ops b es h1
  | [], tm, tm1, h, h1, pend, c, e => by
    simp only [regD] at e
    rcases cond_some' e with ⟨hp, e'⟩ | ⟨_, e'⟩
    · cases e'
      exact ⟨[], c, .nil _ _ _, fun p hp' => againPs_mem hp p hp', trivial⟩
    · cases e'
  | (i, o) :: r, tm, tm1, h, h1, pend, c, e => by
    simp only [regD] at e
    have na : ∀ {k : OpKind}, kindOf o = k → k.isActs = false → (kindOf o = .acts → False) := fun hk hf ha => by rw [← hk, ha] at hf; cases hf
    cases hw : wantA o ops tm with
    | false =>
      rw [hw] at e
      simp only [Bool.not_false, cond_true] at e
      cases hk : kindOf o with
      | acts =>
        rw [hk] at e
        simp only [OpKind.isActs, cond_true] at e
        rcases cond_some' e with ⟨hp, e'⟩ | ⟨_, e'⟩
        · obtain ⟨es, c1, g1, g2, g3⟩ := regD_run (c := c + 1) e'
          refine ⟨_, c1, .skipAct hw hk g1, fun p hp' => AgainAt.act hk hp hp' g2, fun hw' => ?_, g3⟩
          simp only at hw'
          rw [hw] at hw'; cases hw'
        · cases e'
      | calm =>
        rw [hk] at e
        simp only [OpKind.isActs, cond_false] at e
        obtain ⟨es, c1, g1, g2, g3⟩ := regD_run (c := c) e
        refine ⟨_, c1, .skip hw (by rw [hk]; rfl) g1, fun p hp' => (g2 p hp').pass (na hk rfl), fun hw' => ?_, g3⟩
        simp only at hw'
        rw [hw] at hw'; cases hw'
      | reads =>
        rw [hk] at e
        simp only [OpKind.isActs, cond_false] at e
        obtain ⟨es, c1, g1, g2, g3⟩ := regD_run (c := c) e
        refine ⟨_, c1, .skip hw (by rw [hk]; rfl) g1, fun p hp' => (g2 p hp').pass (na hk rfl), fun hw' => ?_, g3⟩
        simp only at hw'
        rw [hw] at hw'; cases hw'
      | makes =>
        rw [hk] at e
        simp only [OpKind.isActs, cond_false] at e
        obtain ⟨es, c1, g1, g2, g3⟩ := regD_run (c := c) e
        refine ⟨_, c1, .skip hw (by rw [hk]; rfl) g1, fun p hp' => (g2 p hp').pass (na hk rfl), fun hw' => ?_, g3⟩
        simp only at hw'
        rw [hw] at hw'; cases hw'
    | true =>
      rw [hw] at e
      simp only [Bool.not_true, cond_false] at e
      split at e
      · cases e
      · rename_i an h2 ho
        cases hk : kindOf o with
        | calm =>
          rw [hk] at e
          simp only [] at e
          split at e
          · obtain ⟨es, c1, g1, g2, g3⟩ := regD_run (c := c) e
            exact ⟨_, c1, .calm hw hk ho g1, fun p hp' => (g2 p hp').pass (na hk rfl), fun _ hr => (by have hr' : kindOf o = .reads := hr; rw [hk] at hr'; cases hr'), g3⟩
          · cases e
        | reads =>
          rw [hk] at e
          simp only [] at e
          split at e
          · obtain ⟨es, c1, g1, g2, g3⟩ := regD_run (c := c) e
            exact ⟨_, c1, .reads hw hk ho g1, fun p hp' => (g2 p (List.mem_cons_of_mem _ hp')).pass (na hk rfl), fun _ _ => g2 _ (List.mem_cons_self ..), g3⟩
          · cases e
        | makes =>
          rw [hk] at e
          simp only [] at e
          split at e
          · obtain ⟨es, c1, g1, g2, g3⟩ := regD_run (c := c) e
            exact ⟨_, c1, .makes hw hk ho g1, fun p hp' => (g2 p hp').pass (na hk rfl), fun _ hr => (by have hr' : kindOf o = .reads := hr; rw [hk] at hr'; cases hr'), g3⟩
          · cases e
        | acts =>
          rw [hk] at e
          simp only [] at e
          rcases cond_some' e with ⟨hp, e'⟩ | ⟨_, e'⟩
          · split at e'
            · rename_i v h3 he
              obtain ⟨es, c1, g1, g2, g3⟩ := regD_run (c := c + 1) e'
              exact ⟨_, c1, .act hw hk ho he g1, fun p hp' => AgainAt.act hk hp hp' g2, fun _ hr => (by have hr' : kindOf o = .reads := hr; rw [hk] at hr'; cases hr'), g3⟩
            · cases e'
          · cases e'
end

end Go.Proofs.YtednkkcmboahgaaGreatDoor

/- A checked run: facts of a drawn region's run, one operation at a time. -/
namespace Go.Proofs.YtednkkcmboahgaaGreatDoor
open Go.RowKit

def ent3 (e : Ent) : Nat × Option Nat × AV := (e.i, e.o.dst, e.a)

/-- What an operation of the run told. -/
def EntOk (T : Tab) (ex : AN → AH → Option (AV × AH)) (ops : List Oper) (e : Ent) : Prop :=
  (wantA e.o ops e.tm = false → e.a = .tuple []) ∧
  (wantA e.o ops e.tm = true → kindOf e.o ≠ .acts → ∃ h2, opA T e.o e.tm e.h = some (.val e.a, h2)) ∧
  (wantA e.o ops e.tm = true → kindOf e.o = .acts → ∃ an h2 h3, opA T e.o e.tm e.h = some (an, h2) ∧ ex an h2 = some (e.a, h3))

section
variable {T : Tab} {ex : AN → AH → Option (AV × AH)} {ops : List Oper}

theorem Run.facts {ord : List (Nat × Oper)} {tm tm1 : TM} {h h1 : AH} {c c1 : Nat} {es : List Ent} (r : Run T ex ops ord tm h c es tm1 h1 c1) :
    es.map (fun e => (e.i, e.o)) = ord ∧ tm1 = tmOf (fun _ => true) (es.map ent3) tm ∧ (∀ pre e post, es = pre ++ e :: post → e.tm = tmOf (fun _ => true) (pre.map ent3) tm) ∧ (∀ e ∈ es, EntOk T ex ops e) := by
  have step : ∀ {i : Nat} {o : Oper} {rest : List (Nat × Oper)} {tm tm1 : TM} {h : AH} {c : Nat} {es : List Ent} {v : AV}, EntOk T ex ops ⟨i, o, tm, h, c, v⟩ →
      (es.map (fun e => (e.i, e.o)) = rest ∧ tm1 = tmOf (fun _ => true) (es.map ent3) (putT tm o.dst v) ∧ (∀ pre e post, es = pre ++ e :: post → e.tm = tmOf (fun _ => true) (pre.map ent3) (putT tm o.dst v)) ∧ (∀ e ∈ es, EntOk T ex ops e)) →
      ((⟨i, o, tm, h, c, v⟩ :: es).map (fun e => (e.i, e.o)) = (i, o) :: rest ∧ tm1 = tmOf (fun _ => true) ((⟨i, o, tm, h, c, v⟩ :: es).map ent3) tm ∧ (∀ pre e post, (⟨i, o, tm, h, c, v⟩ :: es : List Ent) = pre ++ e :: post → e.tm = tmOf (fun _ => true) (pre.map ent3) tm) ∧ (∀ e ∈ (⟨i, o, tm, h, c, v⟩ :: es : List Ent), EntOk T ex ops e)) := by
    intro i o rest tm tm1 h c es v hok ⟨g1, g2, g3, g4⟩
    refine ⟨by simp [g1], by simp only [List.map_cons, ent3, tmOf, if_true]; exact g2, fun pre e post he => ?_, fun e he => ?_⟩
    · cases pre with
      | nil =>
        simp only [List.nil_append, List.cons.injEq] at he
        obtain ⟨rfl, _⟩ := he
        rfl
      | cons p pre =>
        simp only [List.cons_append, List.cons.injEq] at he
        obtain ⟨rfl, he⟩ := he
        simp only [List.map_cons, ent3, tmOf, if_true]
        exact g3 pre e post he
    · rcases List.mem_cons.1 he with rfl | he
      · exact hok
      · exact g4 e he
  induction r with
  | nil tm h c => exact ⟨rfl, rfl, fun pre e post he => (by simp at he), fun e he => (by cases he)⟩
  | skip hw hk hr ih => exact step ⟨fun _ => rfl, fun h => (by simp only at h; rw [hw] at h; cases h), fun h => (by simp only at h; rw [hw] at h; cases h)⟩ ih
  | skipAct hw hk hr ih => exact step ⟨fun _ => rfl, fun h => (by simp only at h; rw [hw] at h; cases h), fun h => (by simp only at h; rw [hw] at h; cases h)⟩ ih
  | calm hw hk ho hr ih => exact step ⟨fun h => (by simp only at h; rw [hw] at h; cases h), fun _ _ => ⟨_, ho⟩, fun _ h => (by simp only at h; rw [hk] at h; cases h)⟩ ih
  | reads hw hk ho hr ih => exact step ⟨fun h => (by simp only at h; rw [hw] at h; cases h), fun _ _ => ⟨_, ho⟩, fun _ h => (by simp only at h; rw [hk] at h; cases h)⟩ ih
  | makes hw hk ho hr ih => exact step ⟨fun h => (by simp only at h; rw [hw] at h; cases h), fun _ _ => ⟨_, ho⟩, fun _ h => (by simp only at h; rw [hk] at h; cases h)⟩ ih
  | act hw hk ho he hr ih => exact step ⟨fun h => (by simp only at h; rw [hw] at h; cases h), fun _ h => absurd hk h, fun _ _ => ⟨_, _, _, ho, he⟩⟩ ih
end

end Go.Proofs.YtednkkcmboahgaaGreatDoor

/- A checked run: the pieces of a drawn region between its acts. -/
namespace Go.Proofs.YtednkkcmboahgaaGreatDoor
open Go.RowKit

section
variable {T : Tab} {ex : AN → AH → Option (AV × AH)} {ops : List Oper}

theorem makes_shape {o : Oper} {tm : TM} {h h1 : AH} {an : AN} (hk : kindOf o = .makes) (e : opA T o tm h = some (an, h1)) : ∃ b, h1 = h.new b := by
  cases ho : o.op with
  | alloc t =>
    unfold opA at e
    rw [ho] at e
    simp only [] at e
    split at e
    · cases e; exact ⟨_, rfl⟩
    · cases e
  | box t x =>
    unfold opA at e
    rw [ho] at e
    simp only [] at e
    split at e
    · rcases cond_some' e with ⟨_, e'⟩ | ⟨_, e'⟩
      · cases e'; exact ⟨_, rfl⟩
      · cases e'
    · cases e
  | buildSlice t len ps =>
    unfold opA at e
    rw [ho] at e
    simp only [] at e
    split at e
    · split at e
      · rcases cond_some' e with ⟨_, e'⟩ | ⟨_, e'⟩
        · cases e'
        · split at e'
          · rcases cond_some' e' with ⟨_, e''⟩ | ⟨_, e''⟩
            · cases e''; exact ⟨_, rfl⟩
            · cases e''
          · cases e'
      · cases e
    · cases e
  | makeMap t rs =>
    unfold opA at e
    rw [ho] at e
    simp only [] at e
    split at e
    · cases e; exact ⟨_, rfl⟩
    · cases e; exact ⟨_, rfl⟩
    · cases e
  | makeSlice t l c =>
    unfold opA at e
    rw [ho] at e
    simp only [] at e
    split at e
    · split at e
      · rcases cond_some' e with ⟨_, e'⟩ | ⟨_, e'⟩
        · cases e'; exact ⟨_, rfl⟩
        · cases e'
      · cases e
    · cases e
  | call c =>
    obtain ⟨callee, args, ats⟩ := c
    cases callee with
    | builtin b => cases b <;> simp [kindOf, ho] at hk
    | _ => simp [kindOf, ho] at hk
  | binOp op t x y yt => cases hb : Nat.beq t 116 <;> simp [kindOf, ho, hb] at hk
  | _ => simp [kindOf, ho] at hk

/-- A piece without acts: what it makes lies ahead. -/
inductive Ahead (T : Tab) (ops : List Oper) : AH → List Ent → AH → Prop
  | nil (h : AH) : Ahead T ops h [] h
  | same {e : Ent} {h h' : AH} {seg : List Ent} (hh : e.h = h) (hn : ¬ (wantA e.o ops e.tm = true ∧ kindOf e.o = .makes)) (hr : Ahead T ops h seg h') : Ahead T ops h (e :: seg) h'
  | make {e : Ent} {h h' : AH} {seg : List Ent} {b : AB} (hh : e.h = h) (hw : wantA e.o ops e.tm = true) (hk : kindOf e.o = .makes) (ho : opA T e.o e.tm h = some (.val e.a, h.new b)) (hr : Ahead T ops (h.new b) seg h') : Ahead T ops h (e :: seg) h'

theorem Run.level {ord : List (Nat × Oper)} {tm tm1 : TM} {h h1 : AH} {c c1 : Nat} {es : List Ent} (r : Run T ex ops ord tm h c es tm1 h1 c1) :
    ∃ seg rest ord' tm' h', es = seg ++ rest ∧ (∀ e ∈ seg, kindOf e.o ≠ .acts ∧ e.c = c) ∧ (rest = [] ∨ ∃ e r', rest = e :: r' ∧ kindOf e.o = .acts) ∧ Run T ex ops ord' tm' h' c rest tm1 h1 c1 ∧ Ahead T ops h seg h' := by
  have step : ∀ {e : Ent} {es : List Ent} {h h2 : AH} {c : Nat}, kindOf e.o ≠ .acts → e.c = c → (∀ {seg : List Ent} {h' : AH}, Ahead T ops h2 seg h' → Ahead T ops h (e :: seg) h') →
      (∃ seg rest ord' tm' h', es = seg ++ rest ∧ (∀ e ∈ seg, kindOf e.o ≠ .acts ∧ e.c = c) ∧ (rest = [] ∨ ∃ e r', rest = e :: r' ∧ kindOf e.o = .acts) ∧ Run T ex ops ord' tm' h' c rest tm1 h1 c1 ∧ Ahead T ops h2 seg h') →
      (∃ seg rest ord' tm' h', e :: es = seg ++ rest ∧ (∀ e ∈ seg, kindOf e.o ≠ .acts ∧ e.c = c) ∧ (rest = [] ∨ ∃ e r', rest = e :: r' ∧ kindOf e.o = .acts) ∧ Run T ex ops ord' tm' h' c rest tm1 h1 c1 ∧ Ahead T ops h seg h') := by
    rintro e es h h2 c hne hc hA ⟨seg, rest, ord', tm', h', g1, g2, g3, g4, g5⟩
    refine ⟨e :: seg, rest, ord', tm', h', by simp [g1], fun x hx => ?_, g3, g4, hA g5⟩
    rcases List.mem_cons.1 hx with rfl | hx
    · exact ⟨hne, hc⟩
    · exact g2 x hx
  induction r with
  | nil tm h c => exact ⟨[], [], _, _, _, rfl, fun e he => (by cases he), .inl rfl, .nil _ _ _, .nil _⟩
  | skip hw hk hr ih =>
    refine step (fun ha => ?_) rfl (fun hA => .same rfl (fun hh => ?_) hA) (ih step)
    · simp only at ha
      rw [ha] at hk; cases hk
    · have := hh.1
      simp only at this
      rw [hw] at this; cases this
  | skipAct hw hk hr ih => exact ⟨[], _, _, _, _, rfl, fun e he => (by cases he), .inr ⟨_, _, rfl, hk⟩, .skipAct hw hk hr, .nil _⟩
  | calm hw hk ho hr ih =>
    refine step (fun ha => ?_) rfl (fun hA => .same rfl (fun hh => ?_) hA) (ih step)
    · simp only at ha
      rw [hk] at ha; cases ha
    · have := hh.2
      simp only at this
      rw [hk] at this; cases this
  | reads hw hk ho hr ih =>
    refine step (fun ha => ?_) rfl (fun hA => .same rfl (fun hh => ?_) hA) (ih step)
    · simp only at ha
      rw [hk] at ha; cases ha
    · have := hh.2
      simp only at this
      rw [hk] at this; cases this
  | makes hw hk ho hr ih =>
    obtain ⟨b, rfl⟩ := makes_shape hk ho
    refine step (fun ha => ?_) rfl (fun hA => .make rfl hw hk ho hA) (ih step)
    simp only at ha
    rw [hk] at ha; cases ha
  | act hw hk ho he hr ih => exact ⟨[], _, _, _, _, rfl, fun e he => (by cases he), .inr ⟨_, _, rfl, hk⟩, .act hw hk ho he hr, .nil _⟩

theorem Ahead.next {h h' : AH} {seg : List Ent} (a : Ahead T ops h seg h') : h.next ≤ h'.next := by
  induction a with
  | nil h => exact Nat.le_refl _
  | same hh hn hr ih => exact ih
  | make hh hw hk ho hr ih =>
    rw [AH.next_new] at ih
    omega
theorem Ahead.get {h h' : AH} {seg : List Ent} (a : Ahead T ops h seg h') : ∀ n, n < h.next → h'.get n = h.get n := by
  induction a with
  | nil h => exact fun n _ => rfl
  | same hh hn hr ih => exact ih
  | make hh hw hk ho hr ih =>
    intro n hn
    rw [ih n (by rw [AH.next_new]; omega), AH.get_new, if_neg (by omega)]
theorem Ahead.rel {B : Nat} {E : Nat → Int} {ι : Pl} {w : World} {h h' : AH} {seg : List Ent} (a : Ahead T ops h seg h') (r : Rel T B E ι h w) : Rel T B E ι h' w ∧ Go B ι h w ι h' w := by
  induction a with
  | nil h => exact ⟨r, Go.refl _ _ _ _⟩
  | same hh hn hr ih => exact ih r
  | make hh hw hk ho hr ih =>
    obtain ⟨g1, g2⟩ := ih (r.ahead _)
    exact ⟨g1, (Go.ahead _).trans g2⟩
/-- What is made in the piece. -/
theorem Ahead.made {h h' : AH} {seg : List Ent} (a : Ahead T ops h seg h') : ∀ e ∈ seg, wantA e.o ops e.tm = true → kindOf e.o = .makes → ∃ b, opA T e.o e.tm e.h = some (.val e.a, e.h.new b) ∧ h'.get e.h.next = some b ∧ h.next ≤ e.h.next ∧ e.h.next < h'.next := by
  induction a with
  | nil h => exact fun e he => (by cases he)
  | same hh hn hr ih =>
    intro e he hw hk
    rcases List.mem_cons.1 he with rfl | he
    · exact absurd ⟨hw, hk⟩ hn
    · exact ih e he hw hk
  | @make x h h' seg b hh hw hk ho hr ih =>
    intro e he hw' hk'
    rcases List.mem_cons.1 he with rfl | he
    · rw [hh]
      have hn := hr.next
      rw [AH.next_new] at hn
      refine ⟨b, ho, ?_, Nat.le_refl _, by omega⟩
      rw [hr.get _ (by rw [AH.next_new]; omega), AH.get_new, if_pos rfl]
    · obtain ⟨b', g1, g2, g3, g4⟩ := ih e he hw' hk'
      rw [AH.next_new] at g3
      exact ⟨b', g1, g2, by omega, g4⟩
end

end Go.Proofs.YtednkkcmboahgaaGreatDoor

/- A checked run: what lies ahead of each operation of a region. -/
namespace Go.Proofs.YtednkkcmboahgaaGreatDoor
open Go.RowKit

theorem Ahead.apart {T : Tab} {ops : List Oper} {h h' : AH} {seg : List Ent} (a : Ahead T ops h seg h') : seg.Pairwise (fun e e' => (wantA e.o ops e.tm = true ∧ kindOf e.o = .makes) → (wantA e'.o ops e'.tm = true ∧ kindOf e'.o = .makes) → e.h.next < e'.h.next) := by
  induction a with
  | nil h => exact List.Pairwise.nil
  | same hh hn hr ih => exact List.Pairwise.cons (fun e _ h1 => absurd h1 hn) ih
  | make hh hw hk ho hr ih =>
    refine List.Pairwise.cons (fun e he _ h2 => ?_) ih
    obtain ⟨b, _, _, g, _⟩ := hr.made e he h2.1 h2.2
    rw [AH.next_new] at g
    rw [hh]
    omega

theorem edges_bit {acc : List Nat} {j : Nat} : ∀ {l : List Edge} {m : Nat}, (beforeL.edges l acc m).testBit j = true → m.testBit j = true ∨ ∃ e ∈ l, Region.binds .any e = true ∧ (j = e.on ∨ ∃ x, acc[e.on]? = some x ∧ x.testBit j = true)
  | [], m, h => .inl h
  | e :: l, m, h => by
    simp only [beforeL.edges] at h
    cases hb : Region.binds .any e with
    | false =>
      rw [hb] at h
      simp only [cond_false] at h
      rcases edges_bit h with h | ⟨e', he', hh⟩
      · exact .inl h
      · exact .inr ⟨e', List.mem_cons_of_mem _ he', hh⟩
    | true =>
      rw [hb] at h
      simp only [cond_true] at h
      rcases edges_bit h with h | ⟨e', he', hh⟩
      · simp only [Nat.testBit_or, Bool.or_eq_true, Nat.testBit_two_pow, decide_eq_true_eq] at h
        rcases h with (h | h) | h
        · exact .inl h
        · exact .inr ⟨e, List.mem_cons_self .., hb, .inl h.symm⟩
        · refine .inr ⟨e, List.mem_cons_self .., hb, .inr ?_⟩
          rw [nthL_eq] at h
          cases hx : acc[e.on]? with
          | none => rw [hx] at h; simp at h
          | some x => rw [hx] at h; exact ⟨x, rfl, h⟩
      · exact .inr ⟨e', List.mem_cons_of_mem _ he', hh⟩

/-- The masks, one by one. -/
theorem beforeL_spec : ∀ (r : List Oper) (acc : List Nat), ∃ tail, beforeL r acc = acc ++ tail ∧ tail.length = r.length ∧ ∀ i o, r[i]? = some o → tail[i]? = some (beforeL.edges o.after.toList (acc ++ tail.take i) 0)
  | [], acc => ⟨[], by simp [beforeL], rfl, fun i o h => by simp at h⟩
  | o :: r, acc => by
    simp only [beforeL]
    obtain ⟨tail, h1, h2, h3⟩ := beforeL_spec r (acc ++ [beforeL.edges o.after.toList acc 0])
    refine ⟨beforeL.edges o.after.toList acc 0 :: tail, by rw [h1]; simp, by simp [h2], fun i q hq => ?_⟩
    cases i with
    | zero =>
      simp only [List.getElem?_cons_zero, Option.some.injEq] at hq
      subst hq
      simp
    | succ i =>
      have := h3 i q (by simpa using hq)
      rw [List.getElem?_cons_succ, this]
      simp

theorem before_mask {ops : List Oper} {i : Nat} {o : Oper} (ho : ops[i]? = some o) : (beforeL ops [])[i]? = some (beforeL.edges o.after.toList ((beforeL ops []).take i) 0) := by
  obtain ⟨tail, h1, h2, h3⟩ := beforeL_spec ops []
  simp only [List.nil_append] at h1 h3
  rw [h1]
  exact h3 i o ho

/-- A set that holds what each of its operations waits for. -/
def Closed (ops : List Oper) (D : Nat → Bool) : Prop := ∀ i o, ops[i]? = some o → D i = true → ∀ e ∈ o.after.toList, Region.binds .any e = true → D e.on = true

theorem mask_in {ops : List Oper} {D : Nat → Bool} (hD : Closed ops D) : ∀ (i : Nat) (o : Oper) (m : Nat), ops[i]? = some o → (beforeL ops [])[i]? = some m → (∀ e ∈ o.after.toList, Region.binds .any e = true → D e.on = true) → ∀ j, m.testBit j = true → D j = true := by
  intro i
  induction i using Nat.strongRecOn with
  | ind i ih =>
    intro o m ho hm hw j hj
    rw [before_mask ho] at hm
    cases hm
    rcases edges_bit hj with hj | ⟨e, he, hb, rfl | ⟨x, hx, hj⟩⟩
    · simp at hj
    · exact hw e he hb
    · have hlt : e.on < i := by
        have := (List.getElem?_eq_some_iff.1 hx).1
        simp at this
        omega
      rw [List.getElem?_take, if_pos hlt] at hx
      have hlen : e.on < ops.length := by
        have := (List.getElem?_eq_some_iff.1 ho).1
        omega
      have hD' := hw e he hb
      exact ih e.on hlt ops[e.on] x (List.getElem?_eq_getElem hlen) hx (hD e.on ops[e.on] (List.getElem?_eq_getElem hlen) hD') j hj

end Go.Proofs.YtednkkcmboahgaaGreatDoor

/- A checked run: what the checks of a drawn region tell. -/
namespace Go.Proofs.YtednkkcmboahgaaGreatDoor
open Go.RowKit

theorem memN_iff {x : Nat} : ∀ {l : List Nat}, memN x l = true ↔ x ∈ l
  | [] => by simp [memN]
  | y :: r => by simp only [memN, Bool.or_eq_true, Nat.beq_eq, List.mem_cons, memN_iff (l := r)]

theorem tmps2_spec {ops : List Oper} {b : List Nat} {oi : Oper} {i : Nat} : ∀ {r : List Oper} {j0 : Nat}, tmps2 ops b oi i r j0 = true → ∀ k oj d, r[k]? = some oj → i ≠ j0 + k → oi.dst = some d → d ∈ slotsOf ops oj → hasB b (j0 + k) i = true ∨ hasB b i (j0 + k) = true
  | [], j0, _, k, oj, d, hk, _, _, _ => by simp at hk
  | o :: r, j0, h, k, oj, d, hk, hne, hd, hm => by
    simp only [tmps2, Bool.and_eq_true] at h
    cases k with
    | zero =>
      simp only [List.getElem?_cons_zero, Option.some.injEq] at hk
      subst hk
      have hb : Nat.beq i j0 = false := by rw [← Bool.not_eq_true, Nat.beq_eq]; exact hne
      have h1 := h.1
      rw [hb, hd] at h1
      simp only [cond_false] at h1
      rw [memN_iff.2 hm] at h1
      simp only [cond_true, Bool.or_eq_true] at h1
      exact h1
    | succ k =>
      have := tmps2_spec h.2 k oj d (by simpa using hk) (by omega) hd hm
      rw [show j0 + 1 + k = j0 + (k + 1) by omega] at this
      exact this
theorem tmps1_spec {ops : List Oper} {b : List Nat} : ∀ {r : List Oper} {i0 : Nat}, tmps1 ops b r i0 = true → ∀ k oi, r[k]? = some oi → tmps2 ops b oi (i0 + k) ops 0 = true
  | [], i0, _, k, oi, hk => by simp at hk
  | o :: r, i0, h, k, oi, hk => by
    simp only [tmps1, Bool.and_eq_true] at h
    cases k with
    | zero =>
      simp only [List.getElem?_cons_zero, Option.some.injEq] at hk
      subst hk
      exact h.1
    | succ k =>
      have := tmps1_spec h.2 k oi (by simpa using hk)
      rwa [show i0 + 1 + k = i0 + (k + 1) by omega] at this
/-- Two that touch one slot, one of them writing it, stand in an order. -/
theorem tmpsOk_spec {ops : List Oper} {b : List Nat} (h : tmpsOk ops b = true) {i j d : Nat} {oi oj : Oper} (hi : ops[i]? = some oi) (hj : ops[j]? = some oj) (hne : i ≠ j) (hd : oi.dst = some d) (hm : d ∈ slotsOf ops oj) : hasB b j i = true ∨ hasB b i j = true := by
  have h1 := tmps1_spec (i0 := 0) h i oi hi
  rw [Nat.zero_add] at h1
  have := tmps2_spec h1 j oj d hj (by omega) hd hm
  rwa [Nat.zero_add] at this

theorem hasB_iff {b : List Nat} {i j : Nat} : hasB b i j = true ↔ ∃ m, b[i]? = some m ∧ m.testBit j = true := by
  unfold hasB
  rw [nthL_eq]
  cases b[i]? with
  | none => simp
  | some m => simp

/-- The order of the run. -/
theorem ordOk_spec {b : List Nat} {full : Nat} : ∀ {ord : List (Nat × Oper)} {done : Nat}, ordOk b full done ord = true →
    (∀ pre i o post, ord = pre ++ (i, o) :: post → (∀ j, hasB b i j = true → done.testBit j = true ∨ j ∈ pre.map (·.1)) ∧ done.testBit i = false ∧ i ∉ pre.map (·.1)) ∧ (∀ j, full.testBit j = true → done.testBit j = true ∨ j ∈ ord.map (·.1))
  | [], done, h => by
    simp only [ordOk, Nat.beq_eq] at h
    subst h
    exact ⟨fun pre i o post he => (by simp at he), fun j hj => .inl hj⟩
  | (i, o) :: r, done, h => by
    simp only [ordOk, nthL_eq] at h
    split at h
    · rename_i m hm
      simp only [Bool.and_eq_true, Nat.beq_eq, Bool.not_eq_true'] at h
      obtain ⟨⟨h1, h2⟩, h3⟩ := h
      obtain ⟨g1, g2⟩ := ordOk_spec h3
      have hbit : ∀ j, (done ||| 2 ^ i).testBit j = true → done.testBit j = true ∨ j = i := fun j hj => by
        simp only [Nat.testBit_or, Bool.or_eq_true, Nat.testBit_two_pow, decide_eq_true_eq] at hj
        exact hj.imp id Eq.symm
      refine ⟨fun pre i' o' post he => ?_, fun j hj => ?_⟩
      · cases pre with
        | nil =>
          simp only [List.nil_append, List.cons.injEq, Prod.mk.injEq] at he
          obtain ⟨⟨rfl, rfl⟩, rfl⟩ := he
          refine ⟨fun j hj => .inl ?_, h2, by simp⟩
          obtain ⟨m', hm', hj'⟩ := hasB_iff.1 hj
          rw [hm] at hm'
          cases hm'
          rw [← h1, Nat.testBit_and, Bool.and_eq_true] at hj'
          exact hj'.2
        | cons p pre =>
          simp only [List.cons_append, List.cons.injEq] at he
          obtain ⟨rfl, he⟩ := he
          obtain ⟨k1, k2, k3⟩ := g1 pre i' o' post he
          have hne : i' ≠ i := fun hh => by
            subst hh
            simp [Nat.testBit_or] at k2
          refine ⟨fun j hj => ?_, ?_, ?_⟩
          · rcases k1 j hj with hh | hh
            · rcases hbit j hh with hh | rfl
              · exact .inl hh
              · exact .inr (by simp)
            · exact .inr (by simp only [List.map_cons, List.mem_cons]; exact .inr hh)
          · cases hd : done.testBit i' with
            | false => rfl
            | true => rw [Nat.testBit_or, hd] at k2; simp at k2
          · simp only [List.map_cons, List.mem_cons, not_or]
            exact ⟨hne, k3⟩
      · rcases g2 j hj with hh | hh
        · rcases hbit j hh with hh | rfl
          · exact .inl hh
          · exact .inr (by simp)
        · exact .inr (by simp only [List.map_cons, List.mem_cons]; exact .inr hh)
    · cases h

end Go.Proofs.YtednkkcmboahgaaGreatDoor

/- A checked run: the order that the run takes; the acts in a row. -/
namespace Go.Proofs.YtednkkcmboahgaaGreatDoor
open Go.RowKit

theorem pickN_mem {b : List Nat} {done : Nat} : ∀ {l : List (Nat × Oper)} {x : Nat × Oper}, pickN b done l = some x → x ∈ l
  | [], x, h => by simp [pickN] at h
  | (i, o) :: r, x, h => by
    simp only [pickN] at h
    rcases cond_some' h with ⟨_, h'⟩ | ⟨_, h'⟩
    · exact List.mem_cons_of_mem _ (pickN_mem h')
    · split at h'
      · rcases cond_some' h' with ⟨_, h2⟩ | ⟨_, h2⟩
        · cases h2; exact List.mem_cons_self ..
        · exact List.mem_cons_of_mem _ (pickN_mem h2)
      · cases h'
theorem findN_mem {i : Nat} : ∀ {l : List (Nat × Oper)} {o : Oper}, findN i l = some o → (i, o) ∈ l
  | [], o, h => by simp [findN] at h
  | (j, q) :: r, o, h => by
    simp only [findN] at h
    rcases cond_some' h with ⟨hj, h'⟩ | ⟨_, h'⟩
    · rw [Nat.beq_eq] at hj
      cases h'
      subst hj
      exact List.mem_cons_self ..
    · exact List.mem_cons_of_mem _ (findN_mem h')
theorem dropN_sub {i : Nat} : ∀ {l : List (Nat × Oper)} {x : Nat × Oper}, x ∈ dropN i l → x ∈ l
  | [], x, h => by simp [dropN] at h
  | (j, q) :: r, x, h => by
    simp only [dropN] at h
    cases hj : Nat.beq j i with
    | true => rw [hj] at h; exact List.mem_cons_of_mem _ h
    | false =>
      rw [hj] at h
      simp only [cond_false] at h
      rcases List.mem_cons.1 h with rfl | h
      · exact List.mem_cons_self ..
      · exact List.mem_cons_of_mem _ (dropN_sub h)
theorem orderD_mem {b : List Nat} : ∀ {n done : Nat} {l : List (Nat × Oper)} {acts : List Nat} {x : Nat × Oper}, x ∈ orderD b n done l acts → x ∈ l
  | 0, done, l, acts, x, h => by simp [orderD] at h
  | n + 1, done, l, acts, x, h => by
    simp only [orderD] at h
    split at h
    · rename_i i o hp
      rcases List.mem_cons.1 h with rfl | h
      · exact pickN_mem hp
      · exact dropN_sub (orderD_mem h)
    · split at h
      · split at h
        · rename_i o hf
          rcases List.mem_cons.1 h with rfl | h
          · exact findN_mem hf
          · exact dropN_sub (orderD_mem h)
        · cases h
      · cases h
theorem numL_mem : ∀ {l : List Oper} {i0 i : Nat} {o : Oper}, (i, o) ∈ numL l i0 → i0 ≤ i ∧ l[i - i0]? = some o
  | [], i0, i, o, h => by simp [numL] at h
  | q :: r, i0, i, o, h => by
    simp only [numL] at h
    rcases List.mem_cons.1 h with h | h
    · cases h
      simp
    · obtain ⟨h1, h2⟩ := numL_mem h
      refine ⟨by omega, ?_⟩
      rw [show i - i0 = (i - (i0 + 1)) + 1 by omega]
      simpa using h2
/-- Each number of the order bears its operation. -/
theorem ord_op {ops : List Oper} {b acts : List Nat} {n done i : Nat} {o : Oper} (h : (i, o) ∈ orderD b n done (numL ops 0) acts) : ops[i]? = some o := by
  obtain ⟨_, h2⟩ := numL_mem (orderD_mem h)
  simpa using h2

theorem actsOf_mem : ∀ {l : List Oper} {i0 i : Nat}, i ∈ actsOf l i0 ↔ i0 ≤ i ∧ ∃ o, l[i - i0]? = some o ∧ kindOf o = .acts
  | [], i0, i => by simp [actsOf]
  | q :: r, i0, i => by
    have ih := actsOf_mem (l := r) (i0 := i0 + 1) (i := i)
    have hk : (kindOf q).isActs = true ↔ kindOf q = .acts := by cases kindOf q <;> simp [OpKind.isActs]
    simp only [actsOf]
    have tail : (i ∈ actsOf r (i0 + 1)) ↔ i0 < i ∧ ∃ o, (q :: r)[i - i0]? = some o ∧ kindOf o = .acts := by
      rw [ih]
      constructor
      · rintro ⟨h1, o, h2, h3⟩
        refine ⟨by omega, o, ?_, h3⟩
        rw [show i - i0 = (i - (i0 + 1)) + 1 by omega]
        simpa using h2
      · rintro ⟨h1, o, h2, h3⟩
        refine ⟨by omega, o, ?_, h3⟩
        rw [show i - i0 = (i - (i0 + 1)) + 1 by omega] at h2
        simpa using h2
    cases hq : (kindOf q).isActs with
    | true =>
      simp only [cond_true, List.mem_cons, tail]
      constructor
      · rintro (rfl | ⟨h1, h2⟩)
        · exact ⟨Nat.le_refl _, q, by simp, hk.1 hq⟩
        · exact ⟨by omega, h2⟩
      · rintro ⟨h1, h2⟩
        by_cases he : i = i0
        · exact .inl he
        · exact .inr ⟨by omega, h2⟩
    | false =>
      simp only [cond_false, tail]
      constructor
      · rintro ⟨h1, h2⟩; exact ⟨by omega, h2⟩
      · rintro ⟨h1, o, h2, h3⟩
        refine ⟨?_, o, h2, h3⟩
        by_cases he : i = i0
        · subst he
          simp only [Nat.sub_self, List.getElem?_cons_zero, Option.some.injEq] at h2
          subst h2
          rw [hk.2 h3] at hq; cases hq
        · omega

/-- The acts stand in a row, each behind the one ahead of it. -/
def ChainL (b : List Nat) : List Nat → Prop
  | [] => True
  | e :: r => (∀ f s, r = f :: s → hasB b f e = true) ∧ ChainL b r
theorem chain_spec {ops : List Oper} {b : List Nat} : ∀ {acts : List Nat}, chainOk ops b acts = true → looseOf b acts = none → ChainL b acts
  | [], _, _ => trivial
  | [e], _, _ => ⟨fun f s h => (by cases h), trivial⟩
  | [e, f], h, hl => by
    simp only [looseOf] at hl
    rcases Bool.eq_false_or_eq_true (hasB b f e) with hb | hb
    · exact ⟨fun f' s h => (by cases h; exact hb), fun f' s h => (by cases h), trivial⟩
    · rw [hb] at hl; cases hl
  | [e, f, g], h, hl => by
    simp only [chainOk, Bool.and_eq_true] at h
    simp only [looseOf] at hl
    rcases Bool.eq_false_or_eq_true (hasB b g f) with hb | hb
    · exact ⟨fun f' s h' => (by cases h'; exact h.1.1), fun f' s h' => (by cases h'; exact hb), fun f' s h' => (by cases h'), trivial⟩
    · rw [hb] at hl; cases hl
  | e :: f :: g :: x :: r, h, hl => by
    have h' : hasB b f e = true ∧ chainOk ops b (f :: g :: x :: r) = true := by
      have h2 : (hasB b f e && chainOk ops b (f :: g :: x :: r)) = true := h
      simpa only [Bool.and_eq_true] using h2
    have hl' : looseOf b (f :: g :: x :: r) = none := by
      have h2 : looseOf b (f :: g :: x :: r) = none := hl
      exact h2
    exact ⟨fun f' s hh => (by cases hh; exact h'.1), chain_spec h'.2 hl'⟩

end Go.Proofs.YtednkkcmboahgaaGreatDoor

/- A checked run: what an operation that is ready reads. -/
namespace Go.Proofs.YtednkkcmboahgaaGreatDoor
open Go.RowKit

structure OrdR (ops : List Oper) (es : List Ent) : Prop where
  op : ∀ e ∈ es, ops[e.i]? = some e.o
  pos : ∀ pre e post, es = pre ++ e :: post → (∀ j, hasB (beforeL ops []) e.i j = true → j ∈ pre.map (·.i)) ∧ e.i ∉ pre.map (·.i)
  tmps : tmpsOk ops (beforeL ops []) = true

/-- What the operation waits for is done. -/
def Ready (D : Nat → Bool) (o : Oper) : Prop := ∀ e ∈ o.after.toList, Region.binds .any e = true → D e.on = true

section
variable {ops : List Oper} {es pre post : List Ent} {e : Ent} {D : Nat → Bool} {tm0 : TM}

theorem hasB_in (hD : Closed ops D) {i j : Nat} {o : Oper} (ho : ops[i]? = some o) (hr : Ready D o) (hb : hasB (beforeL ops []) i j = true) : D j = true := by
  obtain ⟨m, hm, hj⟩ := hasB_iff.1 hb
  exact mask_in hD i o m ho hm hr j hj

/-- The slots that it touches are as they were in the run. -/
theorem reads_agree (R : OrdR ops es) (he : es = pre ++ e :: post) (hD : Closed ops D) (hn : D e.i = false) (hr : Ready D e.o) {t : Nat} (ht : t ∈ slotsOf ops e.o) : getT (tmOf D (es.map ent3) tm0) t = getT (tmOf (fun _ => true) (pre.map ent3) tm0) t := by
  have hoe : ops[e.i]? = some e.o := R.op e (by rw [he]; simp)
  obtain ⟨p1, p2⟩ := R.pos pre e post he
  rw [he, List.map_append]
  refine tmOf_reads (fun x hx hd => ?_) (fun x hx hd => ?_)
  · obtain ⟨y, hy, rfl⟩ := List.mem_map.1 hx
    simp only [ent3] at hd ⊢
    have hoy : ops[y.i]? = some y.o := R.op y (by rw [he]; simp [hy])
    have hne : y.i ≠ e.i := fun hh => p2 (by rw [← hh]; exact List.mem_map.2 ⟨y, hy, rfl⟩)
    rcases tmpsOk_spec R.tmps hoy hoe hne hd ht with hb | hb
    · exact hasB_in hD hoe hr hb
    · exfalso
      obtain ⟨q1, q2, rfl⟩ := List.append_of_mem hy
      obtain ⟨k1, _⟩ := R.pos q1 y (q2 ++ e :: post) (by rw [he]; simp)
      have := k1 _ hb
      exact p2 (by rw [List.map_append]; exact List.mem_append.2 (.inl this))
  · obtain ⟨y, hy, rfl⟩ := List.mem_map.1 hx
    simp only [ent3] at hd ⊢
    rcases List.mem_cons.1 hy with rfl | hy
    · exact hn
    · have hoy : ops[y.i]? = some y.o := R.op y (by rw [he]; simp [hy])
      obtain ⟨q1, q2, hq⟩ := List.append_of_mem hy
      obtain ⟨_, k2⟩ := R.pos (pre ++ e :: q1) y q2 (by rw [he, hq]; simp)
      have hne : y.i ≠ e.i := fun hh => k2 (by rw [hh]; simp)
      rcases tmpsOk_spec R.tmps hoy hoe hne hd ht with hb | hb
      · exfalso
        have := p1 _ hb
        exact k2 (by rw [List.map_append]; exact List.mem_append.2 (.inl this))
      · cases hDy : D y.i with
        | false => rfl
        | true =>
          exfalso
          have := hasB_in hD hoy (hD y.i y.o hoy hDy) hb
          rw [hn] at this; cases this

/-- Behind it: one more is done. -/
theorem put_agree (R : OrdR ops es) (he : es = pre ++ e :: post) (hD : Closed ops D) (hn : D e.i = false) (t : Nat) : getT (tmOf (fun i => if i = e.i then true else D i) (es.map ent3) tm0) t = getT (putT (tmOf D (es.map ent3) tm0) e.o.dst e.a) t := by
  have hoe : ops[e.i]? = some e.o := R.op e (by rw [he]; simp)
  obtain ⟨p1, p2⟩ := R.pos pre e post he
  have hpost : ∀ y ∈ post, y.i ≠ e.i := fun y hy hh => by
    obtain ⟨q1, q2, hq⟩ := List.append_of_mem hy
    obtain ⟨_, k2⟩ := R.pos (pre ++ e :: q1) y q2 (by rw [he, hq]; simp)
    exact k2 (by rw [hh]; simp)
  rw [he, List.map_append, List.map_cons]
  refine tmOf_insert (k := e.i) (d := e.o.dst) (v := e.a) (fun x hx => ?_) (fun x hx => ?_) (fun x hx hd hs => ?_) t
  · obtain ⟨y, hy, rfl⟩ := List.mem_map.1 hx
    exact fun hh => p2 (by rw [← hh]; exact List.mem_map.2 ⟨y, hy, rfl⟩)
  · obtain ⟨y, hy, rfl⟩ := List.mem_map.1 hx
    exact hpost y hy
  · obtain ⟨y, hy, rfl⟩ := List.mem_map.1 hx
    simp only [ent3] at hd ⊢
    obtain ⟨d, hde⟩ := Option.isSome_iff_exists.1 hs
    have hoy : ops[y.i]? = some y.o := R.op y (by rw [he]; simp [hy])
    have hmem : d ∈ slotsOf ops y.o := by
      unfold slotsOf
      rw [hd, hde]
      simp
    rcases tmpsOk_spec R.tmps hoe hoy (Ne.symm (hpost y hy)) hde hmem with hb | hb
    · cases hDy : D y.i with
      | false => rfl
      | true =>
        exfalso
        have := hasB_in hD hoy (hD y.i y.o hoy hDy) hb
        rw [hn] at this; cases this
    · exfalso
      obtain ⟨q1, q2, hq⟩ := List.append_of_mem hy
      obtain ⟨_, k2⟩ := R.pos (pre ++ e :: q1) y q2 (by rw [he, hq]; simp)
      have := p1 _ hb
      exact k2 (by rw [List.map_append]; exact List.mem_append.2 (.inl this))
end

end Go.Proofs.YtednkkcmboahgaaGreatDoor

/- A checked run: what comes behind an act waits for it. -/
namespace Go.Proofs.YtednkkcmboahgaaGreatDoor
open Go.RowKit

theorem edges_keep {acc : List Nat} {j : Nat} : ∀ {l : List Edge} {m : Nat}, m.testBit j = true → (beforeL.edges l acc m).testBit j = true
  | [], m, h => h
  | e :: l, m, h => by
    simp only [beforeL.edges]
    cases hb : Region.binds .any e with
    | false => simp only [cond_false]; exact edges_keep h
    | true =>
      simp only [cond_true]
      refine edges_keep ?_
      simp only [Nat.testBit_or, h, Bool.true_or]
theorem edges_has {acc : List Nat} : ∀ {l : List Edge} {m : Nat} {e : Edge}, e ∈ l → Region.binds .any e = true → (beforeL.edges l acc m).testBit e.on = true
  | x :: l, m, e, he, hb => by
    simp only [beforeL.edges]
    rcases List.mem_cons.1 he with rfl | he
    · rw [hb]
      simp only [cond_true]
      refine edges_keep ?_
      simp [Nat.testBit_or]
    · cases hx : Region.binds .any x with
      | false => simp only [cond_false]; exact edges_has he hb
      | true => simp only [cond_true]; exact edges_has he hb
theorem edge_hasB {ops : List Oper} {i : Nat} {o : Oper} (ho : ops[i]? = some o) {e : Edge} (he : e ∈ o.after.toList) (hb : Region.binds .any e = true) : hasB (beforeL ops []) i e.on = true :=
  hasB_iff.2 ⟨_, before_mask ho, edges_has he hb⟩

theorem isActs_iff {o : Oper} : (kindOf o).isActs = true ↔ kindOf o = .acts := by cases kindOf o <;> simp [OpKind.isActs]

theorem pickN_kind {b : List Nat} {done : Nat} : ∀ {l : List (Nat × Oper)} {x : Nat × Oper}, pickN b done l = some x → kindOf x.2 ≠ .acts
  | [], x, h => by simp [pickN] at h
  | (i, o) :: r, x, h => by
    simp only [pickN] at h
    rcases cond_some' h with ⟨_, h'⟩ | ⟨hk, h'⟩
    · exact pickN_kind h'
    · split at h'
      · rcases cond_some' h' with ⟨_, h2⟩ | ⟨_, h2⟩
        · cases h2
          intro hh
          rw [isActs_iff.2 hh] at hk; cases hk
        · exact pickN_kind h2
      · cases h'
theorem pickN_none {b : List Nat} {done : Nat} : ∀ {l : List (Nat × Oper)}, (∀ x ∈ l, ∃ m, b[x.1]? = some m) → pickN b done l = none → ∀ x ∈ l, kindOf x.2 ≠ .acts → ∃ j, hasB b x.1 j = true ∧ done.testBit j = false
  | [], _, _, x, hx, _ => by cases hx
  | (i, o) :: r, hb, h, x, hx, hk => by
    simp only [pickN] at h
    have hb' : ∀ x ∈ r, ∃ m, b[x.1]? = some m := fun x hx => hb x (List.mem_cons_of_mem _ hx)
    obtain ⟨m, hm⟩ := hb (i, o) (List.mem_cons_self ..)
    simp only at hm
    cases hi : (kindOf o).isActs with
    | true =>
      rw [hi] at h
      simp only [cond_true] at h
      rcases List.mem_cons.1 hx with rfl | hx
      · exact absurd (isActs_iff.1 hi) hk
      · exact pickN_none hb' h x hx hk
    | false =>
      rw [hi] at h
      simp only [cond_false, nthL_eq, hm] at h
      cases hq : Nat.beq (m &&& done) m with
      | true => rw [hq] at h; cases h
      | false =>
        rw [hq] at h
        simp only [cond_false] at h
        rcases List.mem_cons.1 hx with rfl | hx
        · have hne : m &&& done ≠ m := fun hh => by rw [← Bool.not_eq_true, Nat.beq_eq] at hq; exact hq hh
          apply Classical.byContradiction
          intro hno
          apply hne
          apply Nat.eq_of_testBit_eq
          intro j
          rw [Nat.testBit_and]
          cases hj : m.testBit j with
          | false => rfl
          | true =>
            cases hd : done.testBit j with
            | true => rfl
            | false => exact absurd ⟨j, hasB_iff.2 ⟨m, hm, hj⟩, hd⟩ hno
        · exact pickN_none hb' h x hx hk

/-- What comes behind an act and does not act waits for something that comes no earlier than it. -/
theorem orderD_late {b : List Nat} : ∀ {n done : Nat} {l : List (Nat × Oper)} {acts : List Nat} {pre post : List (Nat × Oper)} {i : Nat} {o : Oper}, (∀ x ∈ l, ∃ m, b[x.1]? = some m) → orderD b n done l acts = pre ++ (i, o) :: post → kindOf o = .acts → ∀ x ∈ post, kindOf x.2 ≠ .acts → ∃ j, hasB b x.1 j = true ∧ done.testBit j = false ∧ j ∉ pre.map (·.1)
  | 0, done, l, acts, pre, post, i, o, _, h, _, x, hx, _ => by simp [orderD] at h
  | n + 1, done, l, acts, pre, post, i, o, hb, h, hk, x, hx, hn => by
    simp only [orderD] at h
    have go : ∀ {i' : Nat} {o' : Oper} {acts' : List Nat} {pre' : List (Nat × Oper)}, orderD b n (done ||| 2 ^ i') (dropN i' l) acts' = pre' ++ (i, o) :: post → ∃ j, hasB b x.1 j = true ∧ done.testBit j = false ∧ j ∉ ((i', o') :: pre').map (·.1) := fun {i' o' acts' pre'} h' => by
      obtain ⟨j, h1, h2, h3⟩ := orderD_late (fun y hy => hb y (dropN_sub hy)) h' hk x hx hn
      simp only [Nat.testBit_or, Bool.or_eq_false_iff, Nat.testBit_two_pow, decide_eq_false_iff_not] at h2
      refine ⟨j, h1, h2.1, ?_⟩
      simp only [List.map_cons, List.mem_cons, not_or]
      exact ⟨fun hh => h2.2 hh.symm, h3⟩
    split at h
    · rename_i i' o' hp
      cases pre with
      | nil =>
        simp only [List.nil_append, List.cons.injEq, Prod.mk.injEq] at h
        obtain ⟨⟨rfl, rfl⟩, _⟩ := h
        exact absurd hk (pickN_kind hp)
      | cons p pre =>
        simp only [List.cons_append, List.cons.injEq] at h
        obtain ⟨rfl, h⟩ := h
        exact go h
    · rename_i hp
      split at h
      · rename_i e r
        split at h
        · rename_i q hf
          cases pre with
          | nil =>
            simp only [List.nil_append, List.cons.injEq, Prod.mk.injEq] at h
            obtain ⟨⟨rfl, rfl⟩, h⟩ := h
            have hxl : x ∈ l := dropN_sub (orderD_mem (by rw [h]; exact hx))
            obtain ⟨j, h1, h2⟩ := pickN_none hb hp x hxl hn
            exact ⟨j, h1, h2, by simp⟩
          | cons p pre =>
            simp only [List.cons_append, List.cons.injEq] at h
            obtain ⟨rfl, h⟩ := h
            exact go h
        · simp at h
      · simp at h

/-- All acts ahead of one that is ready are done. -/
theorem chain_in {ops : List Oper} {D : Nat → Bool} (hD : Closed ops D) : ∀ {p q : List Nat} {x : Nat} {o : Oper}, ChainL (beforeL ops []) (p ++ x :: q) → (∀ y ∈ p, ∃ o, ops[y]? = some o) → ops[x]? = some o → Ready D o → ∀ y ∈ p, D y = true
  | [], q, x, o, _, _, _, _, y, hy => by cases hy
  | [z], q, x, o, hc, hv, ho, hr, y, hy => by
    simp only [List.mem_singleton] at hy
    subst hy
    exact hasB_in hD ho hr (hc.1 x q rfl)
  | z :: z' :: p, q, x, o, hc, hv, ho, hr, y, hy => by
    have ih := chain_in hD (p := z' :: p) hc.2 (fun y hy => hv y (List.mem_cons_of_mem _ hy)) ho hr
    rcases List.mem_cons.1 hy with rfl | hy
    · obtain ⟨o', ho'⟩ := hv z' (by simp)
      have hz := ih z' (List.mem_cons_self ..)
      exact hasB_in hD ho' (hD z' o' ho' hz) (hc.1 z' (p ++ x :: q) rfl)
    · exact ih y hy

end Go.Proofs.YtednkkcmboahgaaGreatDoor

/- A checked run: where a drawn region stands, and what it does with an operation that is ready. -/
namespace Go.Proofs.YtednkkcmboahgaaGreatDoor
open Go.RowKit

/-- All that the run of the region tells. -/
structure Pack (T : Tab) (ex : AN → AH → Option (AV × AH)) (ops : List Oper) (es : List Ent) (tm0 tm1 : TM) (h1 : AH) : Prop where
  ord : OrdR ops es
  tms : ∀ pre e post, es = pre ++ e :: post → e.tm = tmOf (fun _ => true) (pre.map ent3) tm0
  oks : ∀ e ∈ es, EntOk T ex ops e
  reads : ReadsOk T ops (beforeL ops []) es h1
  late : ∀ pre e post, es = pre ++ e :: post → kindOf e.o = .acts → ∀ x ∈ post, kindOf x.o ≠ .acts → ∃ j, hasB (beforeL ops []) x.i j = true ∧ j ∉ pre.map (·.i)
  full : ∀ j, j < ops.length → ∃ e ∈ es, e.i = j
  last : tm1 = tmOf (fun _ => true) (es.map ent3) tm0

/-- It makes something. -/
def WM (ops : List Oper) (e : Ent) : Prop := wantA e.o ops e.tm = true ∧ kindOf e.o = .makes

/-- The machine stands where those of D are done. -/
structure Sim (T : Tab) (B : Nat) (E : Nat → Int) (ex : AN → AH → Option (AV × AH)) (ops : List Oper) (es : List Ent) (tm0 tm1 : TM) (h1 : AH) (ι0 : Pl) (h0 : AH) (w0 : World) (D : Nat → Bool) (past rest : List Ent) (H : AH) (κ : Pl) (w : World) (tmps : Array Value) : Prop where
  split : es = past ++ rest
  head : rest = [] ∨ ∃ e r, rest = e :: r ∧ kindOf e.o = .acts
  run : ∃ ord tm c c1, Run T ex ops ord tm H c rest tm1 h1 c1
  closed : Closed ops D
  ahead : ∀ e ∈ rest, D e.i = false
  acts : ∀ e ∈ past, kindOf e.o = .acts → D e.i = true
  slots : TR E κ (tmOf D (es.map ent3) tm0) tmps
  rel : Rel T B E κ H w
  go : Go B ι0 h0 w0 κ H w
  pend : ∀ e ∈ past, WM ops e → D e.i = false → κ e.h.next = none ∧ ∃ b, opA T e.o e.tm e.h = some (.val e.a, e.h.new b) ∧ H.get e.h.next = some b
  names : ∀ e ∈ past, WM ops e → h0.next ≤ e.h.next ∧ e.h.next < H.next
  apart : past.Pairwise fun e e' => WM ops e → WM ops e' → e.h.next < e'.h.next

def addD (D : Nat → Bool) (i : Nat) : Nat → Bool := fun j => if j = i then true else D j

theorem OrdR.alone {ops : List Oper} {es pre post : List Ent} {e : Ent} (R : OrdR ops es) (he : es = pre ++ e :: post) : (∀ y ∈ pre, y.i ≠ e.i) ∧ (∀ y ∈ post, y.i ≠ e.i) := by
  obtain ⟨_, p2⟩ := R.pos pre e post he
  refine ⟨fun y hy hh => p2 (by rw [← hh]; exact List.mem_map.2 ⟨y, hy, rfl⟩), fun y hy hh => ?_⟩
  obtain ⟨q1, q2, hq⟩ := List.append_of_mem hy
  obtain ⟨_, k2⟩ := R.pos (pre ++ e :: q1) y q2 (by rw [he, hq]; simp)
  exact k2 (by rw [hh]; simp)
theorem closed_add {ops : List Oper} {D : Nat → Bool} (hD : Closed ops D) {i : Nat} {o : Oper} (ho : ops[i]? = some o) (hr : Ready D o) : Closed ops (addD D i) := by
  intro j oj hj hDj e he hb
  unfold addD at hDj ⊢
  by_cases hji : j = i
  · subst hji
    rw [ho] at hj
    cases hj
    split
    · rfl
    · exact hr e he hb
  · rw [if_neg hji] at hDj
    split
    · rfl
    · exact hD j oj hj hDj e he hb
theorem TR.congr {E : Nat → Int} {κ : Pl} {tm tm' : TM} {tmps : Array Value} (h : TR E κ tm tmps) (hn : tm'.n = tm.n) (hg : ∀ t, getT tm' t = getT tm t) : TR E κ tm' tmps :=
  ⟨by rw [h.size, hn], fun t ht => by rw [hg]; exact h.slot t (by rw [← hn]; exact ht)⟩

theorem not_defer {o : Oper} (hk : kindOf o ≠ .acts) : ∀ c, o.op ≠ .defer c := fun c hc => hk (by simp [kindOf, hc])

theorem opA_defer {T : Tab} {o : Oper} {tm : TM} {h h1 : AH} {an : AN} (hop : opA T o tm h = some (an, h1)) (hn : ∀ d, an ≠ .defer d) : ∀ c, o.op ≠ .defer c := fun c hc => by
  unfold opA at hop
  rw [hc] at hop
  simp only [] at hop
  split at hop
  · split at hop
    · split at hop
      · cases hop; exact hn _ rfl
      · cases hop
    · cases hop
  · cases hop

section
variable {T : Tab} {B : Nat} {E : Nat → Int} {ex : AN → AH → Option (AV × AH)} {ops : List Oper} {es : List Ent} {tm0 tm1 : TM} {h1 : AH} {ι0 : Pl} {h0 : AH} {w0 : World} {D : Nat → Bool} {past rest : List Ent} {H : AH} {κ : Pl} {w : World} {tmps : Array Value} {pre post : List Ent} {e : Ent}

/-- What it reads of the slots is as it was in the run. -/
theorem Pack.ops_eq (K : Pack T ex ops es tm0 tm1 h1) (he : es = pre ++ e :: post) (hD : Closed ops D) (hn : D e.i = false) (hr : Ready D e.o) : ∀ x ∈ e.o.op.operands.toList, evO T.gl (tmOf D (es.map ent3) tm0) x = evO T.gl e.tm x := by
  intro x hx
  cases x with
  | tmp t =>
    simp only [evO]
    rw [K.tms pre e post he, reads_agree K.ord he hD hn hr]
    unfold slotsOf
    simp only [List.mem_append, List.mem_filterMap]
    exact .inr (.inr ⟨_, hx, rfl⟩)
  | _ => rfl
theorem Pack.want_eq (K : Pack T ex ops es tm0 tm1 h1) (he : es = pre ++ e :: post) (hD : Closed ops D) (hn : D e.i = false) (hr : Ready D e.o) : wantA e.o ops (tmOf D (es.map ent3) tm0) = wantA e.o ops e.tm := by
  unfold wantA
  cases hg : e.o.guard with
  | none => rfl
  | some p =>
    obtain ⟨j, want⟩ := p
    simp only []
    cases hq : nthL j ops with
    | none => rfl
    | some q =>
      simp only []
      cases hd : q.dst with
      | none => rfl
      | some d =>
        simp only []
        rw [K.tms pre e post he, reads_agree K.ord he hD hn hr]
        unfold slotsOf
        rw [hg]
        simp only [hq, hd, List.mem_append]
        exact .inr (.inl (by simp))

/-- One more is done that does not act. -/
theorem Sim.put (S : Sim T B E ex ops es tm0 tm1 h1 ι0 h0 w0 D past rest H κ w tmps) (K : Pack T ex ops es tm0 tm1 h1) (he : es = pre ++ e :: post) (hn : D e.i = false) (hr : Ready D e.o) {κ' : Pl} {w' : World} {v : Value} (hx : Ext κ κ') (hrel : Rel T B E κ' H w') (hgo : Go B ι0 h0 w0 κ' H w') (hv : V E κ' e.a v)
    (hp : ∀ x ∈ past, WM ops x → D x.i = false → x.i ≠ e.i → κ' x.h.next = none) (hra : ∀ x ∈ rest, x.i ≠ e.i) :
    Sim T B E ex ops es tm0 tm1 h1 ι0 h0 w0 (addD D e.i) past rest H κ' w' (putV tmps e.o.dst v) := by
  have hoe : ops[e.i]? = some e.o := K.ord.op e (by rw [he]; simp)
  refine ⟨S.split, S.head, S.run, closed_add S.closed hoe hr, fun x hx => ?_, fun x hx hk => ?_, ?_, hrel, hgo, fun x hx hw hd => ?_, S.names, S.apart⟩
  · unfold addD
    rw [if_neg (hra x hx)]
    exact S.ahead x hx
  · unfold addD
    split
    · rfl
    · exact S.acts x hx hk
  · have h1 := putV_TR (S.slots.mono hx) e.o.dst hv
    refine h1.congr ?_ (fun t => ?_)
    · rw [putT_n, tmOf_n, tmOf_n]
    · exact put_agree K.ord he S.closed hn t
  · unfold addD at hd
    by_cases hxe : x.i = e.i
    · rw [if_pos hxe] at hd; cases hd
    · rw [if_neg hxe] at hd
      obtain ⟨g1, g2⟩ := S.pend x hx hw hd
      exact ⟨hp x hx hw hd hxe, g2⟩

/-- A name gets its block. -/
theorem Go.gets {n : Nat} {L : Loc} {o : Obj} (g : Go B ι0 h0 w0 κ H w) (r : Rel T B E κ H w) (hn : h0.next ≤ n) (hι : κ n = none) : Go B ι0 h0 w0 (putP κ n L) H (w.alloc o) := by
  refine ⟨g.ext.trans (putP_ext hι), g.below.trans ⟨rfl, rfl, rfl, by simp, fun k hk => Below.heap_alloc _ _ _ (Nat.lt_of_lt_of_le hk r.size)⟩, fun m hm hi => ?_, g.next⟩
  obtain ⟨g1, g2⟩ := g.still m hm hi
  refine ⟨?_, g2⟩
  unfold putP
  rw [if_neg (by omega)]
  exact g1

theorem again_reach {b : List Nat} {p : Pend} (hb : ∀ f ∈ post, kindOf f.o = .acts → hasB b f.i p.i = false) : AgainAt T b p (post ++ rest) h1 → AgainAt T b p rest h1 := by
  induction post with
  | nil => exact fun h => h
  | cons f r ih =>
    intro h
    refine ih (fun f hf => hb f (List.mem_cons_of_mem _ hf)) ?_
    obtain ⟨g1, g2⟩ := h
    by_cases hk : kindOf f.o = .acts
    · rcases (g1 hk).2 with h' | h'
      · rw [hb f (List.mem_cons_self ..) hk] at h'; cases h'
      · exact h'
    · exact g2 hk
theorem reads_mem {b : List Nat} : ∀ {es pre post : List Ent} {e : Ent}, ReadsOk T ops b es h1 → es = pre ++ e :: post → wantA e.o ops e.tm = true → kindOf e.o = .reads → AgainAt T b ⟨e.i, e.o, e.tm, e.a⟩ post h1
  | _, [], post, e, h, rfl, hw, hk => h.1 hw hk
  | _, p :: pre, post, e, h, rfl, hw, hk => reads_mem (es := pre ++ e :: post) h.2 rfl hw hk

/-- A read that is still to come tells the same now. -/
theorem Sim.again (S : Sim T B E ex ops es tm0 tm1 h1 ι0 h0 w0 D past rest H κ w tmps) (K : Pack T ex ops es tm0 tm1 h1) {q : List Ent} (hq : past = pre ++ e :: q) (hn : D e.i = false) (hw : wantA e.o ops e.tm = true) (hk : kindOf e.o = .reads) : againA T e.o e.tm e.a H = true := by
  have he : es = pre ++ e :: (q ++ rest) := by rw [S.split, hq]; simp
  have h := reads_mem K.reads he hw hk
  have h' := again_reach (fun f hf hfa => by
    cases hb : hasB (beforeL ops []) f.i e.i with
    | false => rfl
    | true =>
      have hof : ops[f.i]? = some f.o := K.ord.op f (by rw [he]; simp [hf])
      have hDf := S.acts f (by rw [hq]; simp [hf]) hfa
      have := hasB_in S.closed hof (S.closed f.i f.o hof hDf) hb
      rw [hn] at this; cases this) h
  obtain ⟨ord, tm, c, c1, hrun⟩ := S.run
  rcases S.head with rfl | ⟨f, r, rfl, hfa⟩
  · cases hrun
    exact h'
  · have hfh : f.h = H := by cases hrun <;> rfl
    have := (h'.1 hfa).1
    rw [hfh] at this
    exact this
end

end Go.Proofs.YtednkkcmboahgaaGreatDoor

/- A checked run: a drawn region, one operation more. -/
namespace Go.Proofs.YtednkkcmboahgaaGreatDoor
open Go.RowKit

section
variable {P : Program} {T : Tab} (hT : TabOk P T) {E : Nat → Int} (hE : Env T.bd E) {B : Nat} {ih : AF → AH → Option (AV × AH)} (hS : Sound P T B E ih)
variable {ops : Array Oper} {es : List Ent} {tm0 tm1 : TM} {h1 : AH} {ι0 : Pl} {h0 : AH} {w0 : World} {D : Nat → Bool} {past rest : List Ent} {H : AH} {κ : Pl} {w : World} {tmps : Array Value}
variable (fn : Nat) (ds : List Deferred) (kind : CallKind) (ro : Option Nat) (is : List Nat) (k : List Item) (cs : List Frame)

include hT hE in
/-- One that does not act. -/
theorem Sim.calm (S : Sim T B E (exA T ih) ops.toList es tm0 tm1 h1 ι0 h0 w0 D past rest H κ w tmps) (K : Pack T (exA T ih) ops.toList es tm0 tm1 h1) {pre q : List Ent} {e : Ent} (hq : past = pre ++ e :: q) (hn : D e.i = false) (hr : Ready D e.o) (hk : kindOf e.o ≠ .acts) :
    ∃ κ' w' tmps', Sim T B E (exA T ih) ops.toList es tm0 tm1 h1 ι0 h0 w0 (addD D e.i) past rest H κ' w' tmps' ∧ Steps P (lone (RF fn tmps (.inRegion ops (e.i :: is) :: k) ds kind ro) cs w) (lone (RF fn tmps' (.inRegion ops is :: k) ds kind ro) cs w') := by
  have he : es = pre ++ e :: (q ++ rest) := by rw [S.split, hq]; simp
  have hoe : ops.toList[e.i]? = some e.o := K.ord.op e (by rw [he]; simp)
  have hoe' : ops[e.i]? = some e.o := by rw [← Array.getElem?_toList]; exact hoe
  have hra : ∀ x ∈ rest, x.i ≠ e.i := fun x hx => (K.ord.alone he).2 x (by simp [hx])
  have hx := K.ops_eq he S.closed hn hr
  have hwe := K.want_eq he S.closed hn hr
  have hwm := want_eq S.slots e.o ops
  have hρ := OR_of S.rel (ds := ds) S.slots
  obtain ⟨k1, k2, _⟩ := K.oks e (by rw [he]; simp)
  have still : ∀ x ∈ past, WM ops.toList x → D x.i = false → x.i ≠ e.i → κ x.h.next = none := fun x hx hw hd _ => (S.pend x hx hw hd).1
  cases hw : wantA e.o ops.toList e.tm with
  | false =>
    rw [hwe, hw] at hwm
    have ha := k1 hw
    exact ⟨κ, w, putV tmps e.o.dst undef, S.put K he hn hr (Ext.refl _) S.rel S.go (by rw [ha]; exact V.undef) still hra, Steps.one (step_unwanted hoe' hwm)⟩
  | true =>
    rw [hwe, hw] at hwm
    obtain ⟨h2, hop⟩ := k2 hw hk
    cases hkk : kindOf e.o with
    | acts => exact absurd hkk hk
    | calm =>
      rw [← opA_congr hx] at hop
      obtain ⟨a, ea, _, v, hv, hrun⟩ := calm_ok hT hE hρ hkk hop
      cases ea
      exact ⟨κ, w, _, S.put K he hn hr (Ext.refl _) S.rel S.go hv still hra, Steps.one (step_value hoe' hwm (.inr (not_defer hk)) (hrun w))⟩
    | reads =>
      have hag := S.again K hq hn hw hkk
      unfold againA at hag
      split at hag
      · rename_i u hh hu
        rw [← opA_congr hx] at hu
        obtain ⟨a, ea, _, v, hv, hrun⟩ := reads_ok hT hE hρ hkk S.rel hu
        cases ea
        exact ⟨κ, w, _, S.put K he hn hr (Ext.refl _) S.rel S.go (sameV_V hag hv) still hra, Steps.one (step_value hoe' hwm (.inr (not_defer hk)) hrun)⟩
      · cases hag
    | makes =>
      have hme : e ∈ past := by rw [hq]; simp
      obtain ⟨p1, b, p2, p3⟩ := S.pend e hme ⟨hw, hkk⟩ hn
      rw [← opA_congr hx] at p2
      obtain ⟨a, b', ea, eb, hmk⟩ := makes_ok hT hρ hkk p2
      cases ea
      have hbb : b = b' := by
        have h3 := congrArg (fun x : AH => x.get e.h.next) eb
        simp only [AH.get_new, if_true, Option.some.injEq] at h3
        exact h3
      subst hbb
      obtain ⟨obj, L, v, hL, hrun, hX⟩ := hmk w
      obtain ⟨hV, hB⟩ := hX (putP κ e.h.next L) (putP_ext p1) (putP_same _ _ _)
      obtain ⟨n1, n2⟩ := S.names e hme ⟨hw, hkk⟩
      refine ⟨putP κ e.h.next L, w.alloc obj, _, S.put K he hn hr (putP_ext p1) (S.rel.gets p3 p1 hL hB) (S.go.gets S.rel n1 p1) hV (fun x hxp hxw hxd hxe => ?_) hra, Steps.one (step_value hoe' hwm (.inr (not_defer hk)) hrun)⟩
      unfold putP
      rw [if_neg ?_]
      · exact (S.pend x hxp hxw hxd).1
      · have hap := S.apart
        rw [hq] at hap hxp
        rw [List.pairwise_append] at hap
        obtain ⟨_, a2, a3⟩ := hap
        rw [List.pairwise_cons] at a2
        rcases List.mem_append.1 hxp with hxp | hxp
        · have := a3 x hxp e (List.mem_cons_self ..) hxw ⟨hw, hkk⟩
          omega
        · rcases List.mem_cons.1 hxp with rfl | hxp
          · exact absurd rfl hxe
          · have := a2.1 x hxp ⟨hw, hkk⟩ hxw
            omega

include hT hE hS in
/-- The next one that acts. -/
theorem Sim.act {e : Ent} {r : List Ent} (S : Sim T B E (exA T ih) ops.toList es tm0 tm1 h1 ι0 h0 w0 D past (e :: r) H κ w tmps) (K : Pack T (exA T ih) ops.toList es tm0 tm1 h1) (hr : Ready D e.o) (hk : kindOf e.o = .acts) :
    ∃ seg rest' H' κ' w' tmps', r = seg ++ rest' ∧ Sim T B E (exA T ih) ops.toList es tm0 tm1 h1 ι0 h0 w0 (addD D e.i) (past ++ e :: seg) rest' H' κ' w' tmps' ∧ Steps P (lone (RF fn tmps (.inRegion ops (e.i :: is) :: k) ds kind ro) cs w) (lone (RF fn tmps' (.inRegion ops is :: k) ds kind ro) cs w') := by
  have he : es = past ++ e :: r := S.split
  have hn : D e.i = false := S.ahead e (List.mem_cons_self ..)
  have hoe : ops.toList[e.i]? = some e.o := K.ord.op e (by rw [he]; simp)
  have hoe' : ops[e.i]? = some e.o := by rw [← Array.getElem?_toList]; exact hoe
  have hra := (K.ord.alone he).2
  have hx := K.ops_eq he S.closed hn hr
  have hwe := K.want_eq he S.closed hn hr
  have hwm := want_eq S.slots e.o ops
  have hρ := OR_of S.rel (ds := ds) S.slots
  have close : ∀ {h3 : AH} {κ' : Pl} {w' : World} {v : Value} {ord : List (Nat × Oper)} {tm : TM} {c c1 : Nat}, Run T (exA T ih) ops.toList ord tm h3 c r tm1 h1 c1 → Go B κ H w κ' h3 w' → Rel T B E κ' h3 w' → V E κ' e.a v →
      ∃ seg rest' H', r = seg ++ rest' ∧ Sim T B E (exA T ih) ops.toList es tm0 tm1 h1 ι0 h0 w0 (addD D e.i) (past ++ e :: seg) rest' H' κ' w' (putV tmps e.o.dst v) := by
    intro h3 κ' w' v ord tm c c1 hrun hgo hrel hv
    obtain ⟨seg, rest', ord', tm', h', g1, g2, g3, g4, g5⟩ := hrun.level
    obtain ⟨r1, r2⟩ := g5.rel hrel
    have hap := g5.apart
    refine ⟨seg, rest', h', g1, ⟨by rw [he, g1]; simp, g3, ⟨_, _, _, _, g4⟩, closed_add S.closed hoe hr, fun x hx => ?_, fun x hx hxa => ?_, ?_, r1, S.go.trans (hgo.trans r2), fun x hx hxw hxd => ?_, fun x hx hxw => ?_, ?_⟩⟩
    · have hxr : x ∈ r := by rw [g1]; simp [hx]
      unfold addD
      rw [if_neg (hra x hxr)]
      exact S.ahead x (List.mem_cons_of_mem _ hxr)
    · unfold addD
      rcases List.mem_append.1 hx with hx | hx
      · split
        · rfl
        · exact S.acts x hx hxa
      · rcases List.mem_cons.1 hx with rfl | hx
        · rw [if_pos rfl]
        · exact absurd hxa (g2 x hx).1
    · refine (putV_TR (S.slots.mono hgo.ext) e.o.dst hv).congr ?_ (fun t => ?_)
      · rw [putT_n, tmOf_n, tmOf_n]
      · exact put_agree K.ord he S.closed hn t
    · unfold addD at hxd
      by_cases hxe : x.i = e.i
      · rw [if_pos hxe] at hxd; cases hxd
      · rw [if_neg hxe] at hxd
        rcases List.mem_append.1 hx with hx | hx
        · obtain ⟨p1, b, p2, p3⟩ := S.pend x hx hxw hxd
          obtain ⟨_, n2⟩ := S.names x hx hxw
          obtain ⟨s1, s2⟩ := hgo.still _ n2 p1
          exact ⟨s1, b, p2, by rw [g5.get _ (Nat.lt_of_lt_of_le n2 hgo.next), s2]; exact p3⟩
        · rcases List.mem_cons.1 hx with rfl | hx
          · exact absurd rfl hxe
          · obtain ⟨b, q1, q2, q3, q4⟩ := g5.made x hx hxw.1 hxw.2
            exact ⟨(hrel.fresh _ q3).2, b, q1, q2⟩
    · have hn1 := S.go.next
      have hn2 := hgo.next
      have hn3 := g5.next
      rcases List.mem_append.1 hx with hx | hx
      · obtain ⟨a1, a2⟩ := S.names x hx hxw
        omega
      · rcases List.mem_cons.1 hx with rfl | hx
        · have := hxw.2
          rw [hk] at this; cases this
        · obtain ⟨b, q1, q2, q3, q4⟩ := g5.made x hx hxw.1 hxw.2
          omega
    · rw [List.pairwise_append]
      refine ⟨S.apart, List.pairwise_cons.2 ⟨fun x _ hew => ?_, hap⟩, fun x hx y hy hxw hyw => ?_⟩
      · have := hew.2
        rw [hk] at this; cases this
      · rcases List.mem_cons.1 hy with rfl | hy
        · have := hyw.2
          rw [hk] at this; cases this
        · obtain ⟨_, a2⟩ := S.names x hx hxw
          obtain ⟨b, q1, q2, q3, q4⟩ := g5.made y hy hyw.1 hyw.2
          have := hgo.next
          omega
  obtain ⟨ord, tm, c, c1, hrun⟩ := S.run
  cases hrun with
  | skip hw hk' hr' => rw [isActs_iff.2 hk] at hk'; cases hk'
  | calm hw hk' ho hr' => exact absurd (hk'.symm.trans hk) (by simp)
  | reads hw hk' ho hr' => exact absurd (hk'.symm.trans hk) (by simp)
  | makes hw hk' ho hr' => exact absurd (hk'.symm.trans hk) (by simp)
  | skipAct hw hk' hr' =>
    simp only at hwe hwm
    rw [hwe, hw] at hwm
    obtain ⟨seg, rest', H', g1, g2⟩ := close hr' (Go.refl _ _ _ _) S.rel V.undef
    exact ⟨seg, rest', H', κ, w, _, g1, g2, Steps.one (step_unwanted hoe' hwm)⟩
  | act hw hk' ho he' hr' =>
    simp only at hwe hwm hx
    rw [hwe, hw] at hwm
    rw [← opA_congr hx] at ho
    have hA := act_all hT hE hρ S.rel ho
    have hnd := opA_defer ho (fun d hd => by subst hd; simp [exA] at he')
    obtain ⟨μ, v, w2, q1, q2, q3, q4⟩ := ex_ok hT hE hS S.rel hA he' hoe' hwm (.inr hnd) fn kind is k cs (ro := ro)
    obtain ⟨seg, rest', H', g1, g2⟩ := close hr' q1 q2 q3
    exact ⟨seg, rest', H', μ, w2, _, g1, g2, q4⟩
end

end Go.Proofs.YtednkkcmboahgaaGreatDoor

/- A checked run: a drawn region, to its end. -/
namespace Go.Proofs.YtednkkcmboahgaaGreatDoor
open Go.RowKit

/-- Of the acts that are left none is ready but the first. -/
def Tight (ops : List Oper) (rest : List Ent) : Prop := ∀ p e0 r, rest = p ++ e0 :: r → kindOf e0.o = .acts → ∀ e ∈ r, kindOf e.o = .acts → ∀ D, Closed ops D → D e0.i = false → ¬ Ready D e.o
theorem Tight.tail {ops : List Oper} {p rest : List Ent} (h : Tight ops (p ++ rest)) : Tight ops rest := fun q e0 r hr => h (p ++ q) e0 r (by rw [hr]; simp)

theorem first_undone {D : Nat → Bool} : ∀ {es : List Ent}, (∀ e ∈ es, D e.i = true) ∨ ∃ pre e post, es = pre ++ e :: post ∧ D e.i = false ∧ ∀ y ∈ pre, D y.i = true
  | [] => .inl fun e he => by cases he
  | e :: es => by
    cases hd : D e.i with
    | false => exact .inr ⟨[], e, es, rfl, hd, fun y hy => by cases hy⟩
    | true =>
      rcases first_undone (D := D) (es := es) with h | ⟨pre, x, post, h1, h2, h3⟩
      · refine .inl fun y hy => ?_
        rcases List.mem_cons.1 hy with rfl | hy
        · exact hd
        · exact h y hy
      · refine .inr ⟨e :: pre, x, post, by rw [h1]; rfl, h2, fun y hy => ?_⟩
        rcases List.mem_cons.1 hy with rfl | hy
        · exact hd
        · exact h3 y hy

theorem filter_add {ops : List Oper} {es pre post : List Ent} {e : Ent} {D : Nat → Bool} (R : OrdR ops es) (he : es = pre ++ e :: post) (hn : D e.i = false) : (es.filter fun x => !D x.i).length = (es.filter fun x => !addD D e.i x.i).length + 1 := by
  obtain ⟨a1, a2⟩ := R.alone he
  have k : ∀ {l : List Ent}, (∀ y ∈ l, y.i ≠ e.i) → l.filter (fun x => !addD D e.i x.i) = l.filter (fun x => !D x.i) := fun {l} hl => List.filter_congr fun y hy => by
    unfold addD
    rw [if_neg (hl y hy)]
  have he2 : addD D e.i e.i = true := by unfold addD; rw [if_pos rfl]
  rw [he, List.filter_append, List.filter_append, List.filter_cons, List.filter_cons, k a1, k a2, hn, he2]
  simp
  omega

section
variable {P : Program} {T : Tab} (hT : TabOk P T) {E : Nat → Int} (hE : Env T.bd E) {B : Nat} {ih : AF → AH → Option (AV × AH)} (hS : Sound P T B E ih)
variable {ops : Array Oper} {es : List Ent} {tm0 tm1 : TM} {h1 : AH} {ι0 : Pl} {h0 : AH} {w0 : World}

theorem Sim.done {ex : AN → AH → Option (AV × AH)} {D : Nat → Bool} {past rest : List Ent} {H : AH} {κ : Pl} {w : World} {tmps : Array Value} (S : Sim T B E ex ops.toList es tm0 tm1 h1 ι0 h0 w0 D past rest H κ w tmps) (K : Pack T ex ops.toList es tm0 tm1 h1) (hd : ∀ e ∈ es, D e.i = true) : Go B ι0 h0 w0 κ h1 w ∧ Rel T B E κ h1 w ∧ TR E κ tm1 tmps := by
  have hrest : rest = [] := by
    rcases S.head with h | ⟨e, r, h, _⟩
    · exact h
    · have h2 := S.ahead e (by rw [h]; exact List.mem_cons_self ..)
      rw [hd e (by rw [S.split, h]; simp)] at h2
      cases h2
  subst hrest
  obtain ⟨ord, tm, c, c1, hrun⟩ := S.run
  cases hrun
  refine ⟨S.go, S.rel, S.slots.congr ?_ (fun t => ?_)⟩
  · rw [K.last, tmOf_n, tmOf_n]
  · rw [K.last]
    refine tmOf_agree (fun x hx _ => ?_) rfl rfl
    obtain ⟨y, hy, rfl⟩ := List.mem_map.1 hx
    exact (hd y hy).symm

variable (fn : Nat) (ds : List Deferred) (kind : CallKind) (ro : Option Nat) (k : List Item) (cs : List Frame)

include hT hE hS in
/-- One that is ready, wherever it stands. -/
theorem Sim.next {D : Nat → Bool} {past rest : List Ent} {H : AH} {κ : Pl} {w : World} {tmps : Array Value} (S : Sim T B E (exA T ih) ops.toList es tm0 tm1 h1 ι0 h0 w0 D past rest H κ w tmps) (K : Pack T (exA T ih) ops.toList es tm0 tm1 h1) {i : Nat} {o : Oper} (ho : ops[i]? = some o) (hn : D i = false) (hr : Ready D o) (is : List Nat) :
    (∃ past' p rest' H' κ' w' tmps', rest = p ++ rest' ∧ Sim T B E (exA T ih) ops.toList es tm0 tm1 h1 ι0 h0 w0 (addD D i) past' rest' H' κ' w' tmps' ∧ Steps P (lone (RF fn tmps (.inRegion ops (i :: is) :: k) ds kind ro) cs w) (lone (RF fn tmps' (.inRegion ops is :: k) ds kind ro) cs w')) ∨
    (∃ e0 r e, rest = e0 :: r ∧ e ∈ r ∧ e.i = i ∧ kindOf e0.o = .acts ∧ kindOf e.o = .acts ∧ Ready D e.o) := by
  have hol : ops.toList[i]? = some o := by rw [Array.getElem?_toList]; exact ho
  obtain ⟨e, he, hei⟩ := K.full i (List.getElem?_eq_some_iff.1 hol).1
  subst hei
  have heo : e.o = o := by
    have := K.ord.op e he
    rw [hol] at this
    cases this; rfl
  subst heo
  have hsp := S.split
  rw [hsp] at he
  rcases List.mem_append.1 he with hp | hp
  · have hk : kindOf e.o ≠ .acts := fun hk => by
      rw [S.acts e hp hk] at hn; cases hn
    obtain ⟨pre, q, hq⟩ := List.append_of_mem hp
    obtain ⟨κ', w', tmps', g1, g2⟩ := S.calm hT hE fn ds kind ro is k cs K hq hn hr hk
    exact .inl ⟨past, [], rest, H, κ', w', tmps', rfl, g1, g2⟩
  · rcases S.head with h | ⟨e0, r, h, hk0⟩
    · rw [h] at hp; cases hp
    · subst h
      rcases List.mem_cons.1 hp with rfl | hp
      · obtain ⟨seg, rest', H', κ', w', tmps', g1, g2, g3⟩ := S.act hT hE hS fn ds kind ro is k cs K hr hk0
        exact .inl ⟨_, e :: seg, rest', H', κ', w', tmps', by rw [g1]; rfl, g2, g3⟩
      · by_cases hk : kindOf e.o = .acts
        · exact .inr ⟨e0, r, e, rfl, hp, rfl, hk0, hk, hr⟩
        · exfalso
          obtain ⟨j, hb, hj⟩ := K.late past e0 r hsp hk0 e hp hk
          have hDj := hasB_in S.closed hol hr hb
          obtain ⟨q1, q2, hq⟩ := List.append_of_mem hp
          obtain ⟨p1, _⟩ := K.ord.pos (past ++ e0 :: q1) e q2 (by rw [hsp, hq]; simp)
          have hm := p1 j hb
          obtain ⟨y, hy, rfl⟩ := List.mem_map.1 hm
          rcases List.mem_append.1 hy with hy | hy
          · exact hj (List.mem_map.2 ⟨y, hy, rfl⟩)
          · have : D y.i = false := S.ahead y (by
              rcases List.mem_cons.1 hy with rfl | hy
              · exact List.mem_cons_self ..
              · rw [hq]; simp [hy])
            rw [this] at hDj; cases hDj

theorem addD_listed {D : Nat → Bool} {listed : Array Bool} {i : Nat} (hD : ∀ j, D j = listed.getD j false) (hi : i < listed.size) : ∀ j, addD D i j = (listed.setIfInBounds i true).getD j false := fun j => by
  unfold addD
  by_cases hj : j = i
  · subst hj
    simp [hi]
  · rw [if_neg hj, getD_set_ne false (Ne.symm hj)]
    exact hD j

theorem ready_of {D : Nat → Bool} {listed : Array Bool} (hD : ∀ j, D j = listed.getD j false) (hsz : listed.size = ops.size) {i : Nat} : i ∈ Region.ready .any ops listed ↔ D i = false ∧ ∃ o, ops[i]? = some o ∧ Ready D o := by
  rw [mem_ready]
  constructor
  · rintro ⟨h1, o, ho, hr⟩
    have hi : i < listed.size := by rw [hsz]; exact (Array.getElem?_eq_some_iff.1 ho).1
    refine ⟨?_, o, ho, fun e he hb => ?_⟩
    · rw [hD]
      simp [hi] at h1 ⊢
      exact h1
    · rw [hD]
      exact hr e (by simpa using he) hb
  · rintro ⟨h1, o, ho, hr⟩
    have hi : i < listed.size := by rw [hsz]; exact (Array.getElem?_eq_some_iff.1 ho).1
    refine ⟨?_, o, ho, fun e he hb => ?_⟩
    · rw [hD] at h1
      simp [hi] at h1 ⊢
      exact h1
    · rw [← hD]
      exact hr e (by simpa using he) hb

/-- While one is not done, one is ready. -/
theorem Pack.more {ex : AN → AH → Option (AV × AH)} (K : Pack T ex ops.toList es tm0 tm1 h1) {D : Nat → Bool} : (∀ e ∈ es, D e.i = true) ∨ ∃ i o, D i = false ∧ ops[i]? = some o ∧ Ready D o := by
  rcases first_undone (D := D) (es := es) with h | ⟨pre, e, post, he, hn, hp⟩
  · exact .inl h
  · have hol := K.ord.op e (by rw [he]; simp)
    refine .inr ⟨e.i, e.o, hn, by rw [← Array.getElem?_toList]; exact hol, fun x hx hb => ?_⟩
    obtain ⟨y, hy, hyi⟩ := List.mem_map.1 ((K.ord.pos pre e post he).1 _ (edge_hasB hol hx hb))
    rw [← hyi]
    exact hp y hy

theorem ready_get {listed : Array Bool} {t : Nat} (hi : (Region.ready .any ops listed)[t % (Region.ready .any ops listed).length]? = none) : Region.ready .any ops listed = [] := by
  cases hr : Region.ready .any ops listed with
  | nil => rfl
  | cons x xs =>
    rw [hr] at hi
    have hlt : t % (x :: xs).length < (x :: xs).length := Nat.mod_lt _ (by simp)
    rw [List.getElem?_eq_none_iff] at hi
    omega

theorem go_succ (fuel t : Nat) (listed : Array Bool) : Region.linearise.go .any ops (fuel + 1) t listed [] = (match (Region.ready .any ops listed)[t % (Region.ready .any ops listed).length]? with
    | some i => i :: Region.linearise.go .any ops fuel (t / (Region.ready .any ops listed).length) (listed.setIfInBounds i true) []
    | none => []) := by
  simp only [Region.linearise.go]
  change (match (Region.ready .any ops listed)[t % (Region.ready .any ops listed).length]? with
      | some i => Region.linearise.go .any ops fuel (t / (Region.ready .any ops listed).length) (listed.setIfInBounds i true) [i]
      | none => [].reverse) = _
  split
  · rw [linearise_go_acc]; rfl
  · rfl

include hT hE hS in
/-- Whatever order is drawn. -/
theorem sim_main (K : Pack T (exA T ih) ops.toList es tm0 tm1 h1) : ∀ (fuel t : Nat) (listed : Array Bool) {D : Nat → Bool} {past rest : List Ent} {H : AH} {κ : Pl} {w : World} {tmps : Array Value}, (∀ j, D j = listed.getD j false) → listed.size = ops.size → (es.filter fun x => !D x.i).length ≤ fuel → Tight ops.toList rest →
    Sim T B E (exA T ih) ops.toList es tm0 tm1 h1 ι0 h0 w0 D past rest H κ w tmps →
    ∃ κ' w' tmps', Go B ι0 h0 w0 κ' h1 w' ∧ Rel T B E κ' h1 w' ∧ TR E κ' tm1 tmps' ∧ Steps P (lone (RF fn tmps (.inRegion ops (Region.linearise.go .any ops fuel t listed []) :: k) ds kind ro) cs w) (lone (RF fn tmps' (.inRegion ops [] :: k) ds kind ro) cs w')
  | 0, t, listed, D, past, rest, H, κ, w, tmps, hD, hsz, hf, ht, S => by
    have hall : ∀ e ∈ es, D e.i = true := fun e he => by
      cases hd : D e.i with
      | true => rfl
      | false =>
        have : e ∈ es.filter fun x => !D x.i := List.mem_filter.2 ⟨he, by rw [hd]; rfl⟩
        rw [List.length_eq_zero_iff.1 (Nat.le_zero.1 hf)] at this
        cases this
    obtain ⟨g1, g2, g3⟩ := S.done K hall
    exact ⟨κ, w, tmps, g1, g2, g3, by simp only [Region.linearise.go, List.reverse_nil]; exact Steps.refl _ _⟩
  | fuel + 1, t, listed, D, past, rest, H, κ, w, tmps, hD, hsz, hf, ht, S => by
    rw [go_succ]
    cases hi : (Region.ready .any ops listed)[t % (Region.ready .any ops listed).length]? with
    | none =>
      have hnil := ready_get hi
      rcases K.more (D := D) with hall | ⟨i, o, h1', h2', h3'⟩
      · obtain ⟨g1, g2, g3⟩ := S.done K hall
        exact ⟨κ, w, tmps, g1, g2, g3, Steps.refl _ _⟩
      · have : i ∈ Region.ready .any ops listed := (ready_of hD hsz).2 ⟨h1', o, h2', h3'⟩
        rw [hnil] at this; cases this
    | some i =>
      simp only []
      obtain ⟨hn, o, ho, hr⟩ := (ready_of hD hsz).1 (List.mem_of_getElem? hi)
      have hlt : i < listed.size := by rw [hsz]; exact (Array.getElem?_eq_some_iff.1 ho).1
      rcases S.next hT hE hS fn ds kind ro k cs K ho hn hr (Region.linearise.go .any ops fuel (t / (Region.ready .any ops listed).length) (listed.setIfInBounds i true) []) with ⟨past', p, rest', H', κ', w', tmps', e1, S', st⟩ | ⟨e0, r, e, e1, e2, e3, e4, e5, e6⟩
      · have hol : ops.toList[i]? = some o := by rw [Array.getElem?_toList]; exact ho
        obtain ⟨e, he, hei⟩ := K.full i (List.getElem?_eq_some_iff.1 hol).1
        obtain ⟨pre, post, hsp⟩ := List.append_of_mem he
        have hcnt := filter_add (D := D) K.ord hsp (by rw [hei]; exact hn)
        rw [hei] at hcnt
        obtain ⟨κ2, w2, tmps2, g1, g2, g3, g4⟩ := sim_main K fuel _ _ (addD_listed hD hlt) (by rw [Array.size_setIfInBounds]; exact hsz) (by omega) (Tight.tail (by rw [← e1]; exact ht)) S'
        exact ⟨κ2, w2, tmps2, g1, g2, g3, st.trans g4⟩
      · exact absurd e6 (ht [] e0 r e1 e4 e e2 e5 D S.closed (S.ahead e0 (by rw [e1]; exact List.mem_cons_self ..)))
end

end Go.Proofs.YtednkkcmboahgaaGreatDoor

/- A checked run: where a drawn region begins. -/
namespace Go.Proofs.YtednkkcmboahgaaGreatDoor
open Go.RowKit

theorem split_map {α β : Type} {f : α → β} : ∀ {l : List α} {p : List α} {x : α} {q : List α}, l = p ++ x :: q → l.map f = p.map f ++ f x :: q.map f := by
  rintro l p x q rfl
  simp

theorem orderD_len {b : List Nat} : ∀ {n done : Nat} {l : List (Nat × Oper)} {acts : List Nat}, (orderD b n done l acts).length ≤ n
  | 0, done, l, acts => by simp [orderD]
  | n + 1, done, l, acts => by
    simp only [orderD]
    split
    · simp only [List.length_cons]
      exact Nat.succ_le_succ orderD_len
    · split
      · split
        · simp only [List.length_cons]
          exact Nat.succ_le_succ orderD_len
        · simp
      · simp

section
variable {T : Tab} {ex : AN → AH → Option (AV × AH)} {ops : List Oper} {es : List Ent} {tm0 tm1 : TM} {h h1 : AH} {c c1 : Nat}

theorem pack_of {n : Nat} {acts : List Nat} (hr : Run T ex ops (orderD (beforeL ops []) n 0 (numL ops 0) acts) tm0 h c es tm1 h1 c1) (hrd : ReadsOk T ops (beforeL ops []) es h1) (htm : tmpsOk ops (beforeL ops []) = true) (hord : ordOk (beforeL ops []) (2 ^ ops.length - 1) 0 (orderD (beforeL ops []) n 0 (numL ops 0) acts) = true) : Pack T ex ops es tm0 tm1 h1 := by
  obtain ⟨f1, f2, f3, f4⟩ := hr.facts
  obtain ⟨o1, o2⟩ := ordOk_spec hord
  have hop : ∀ e ∈ es, ops[e.i]? = some e.o := fun e he => ord_op (b := beforeL ops []) (n := n) (done := 0) (acts := acts) (by rw [← f1]; exact List.mem_map.2 ⟨e, he, rfl⟩)
  have hfst : ∀ l : List Ent, (l.map (fun e => (e.i, e.o))).map (·.1) = l.map (·.i) := fun l => by rw [List.map_map]; rfl
  refine ⟨⟨hop, fun pre e post he => ?_, htm⟩, f3, f4, hrd, fun pre e post he hk x hx hn => ?_, fun j hj => ?_, f2⟩
  · obtain ⟨g1, g2, g3⟩ := o1 _ _ _ _ (f1.symm.trans (split_map he))
    rw [hfst] at g1 g3
    exact ⟨fun j hj => (g1 j hj).resolve_left (by simp), g3⟩
  · have hb : ∀ y ∈ numL ops 0, ∃ m, (beforeL ops [])[y.1]? = some m := fun y hy => by
      obtain ⟨_, h2⟩ := numL_mem (i := y.1) (o := y.2) hy
      exact ⟨_, before_mask (by simpa using h2)⟩
    obtain ⟨j, g1, _, g3⟩ := orderD_late hb (f1.symm.trans (split_map he)) hk (x.i, x.o) (List.mem_map.2 ⟨x, hx, rfl⟩) hn
    rw [hfst] at g3
    exact ⟨j, g1, g3⟩
  · have := o2 j (by rw [Nat.testBit_two_pow_sub_one]; simpa using hj)
    rcases this with h | h
    · simp at h
    · rw [← f1, hfst] at h
      obtain ⟨e, he, hi⟩ := List.mem_map.1 h
      exact ⟨e, he, hi⟩

/-- The machine at its first operation. -/
theorem sim_start {B : Nat} {E : Nat → Int} {ι : Pl} {w : World} {tmps : Array Value} {ord : List (Nat × Oper)} (hr : Run T ex ops ord tm0 h c es tm1 h1 c1) (ht : TR E ι tm0 tmps) (r : Rel T B E ι h w) : ∃ past rest H, Sim T B E ex ops es tm0 tm1 h1 ι h w (fun _ => false) past rest H ι w tmps := by
  obtain ⟨seg, rest, ord', tm', h', g1, g2, g3, g4, g5⟩ := hr.level
  obtain ⟨r1, r2⟩ := g5.rel r
  refine ⟨seg, rest, h', g1, g3, ⟨_, _, _, _, g4⟩, fun i o _ hd => (by cases hd), fun _ _ => rfl, fun e he hk => absurd hk (g2 e he).1, ?_, r1, r2, fun e he hw _ => ?_, fun e he hw => ?_, g5.apart⟩
  · exact ht.congr (tmOf_n _ _ _) fun t => tmOf_still fun _ _ _ => rfl
  · obtain ⟨b, q1, q2, q3, _⟩ := g5.made e he hw.1 hw.2
    exact ⟨(r.fresh _ q3).2, b, q1, q2⟩
  · obtain ⟨b, _, _, q3, q4⟩ := g5.made e he hw.1 hw.2
    exact ⟨q3, q4⟩
end

/-- Those ahead of one in the run. -/
theorem ahead_closed {ops : List Oper} {es pre post : List Ent} {e : Ent} (R : OrdR ops es) (he : es = pre ++ e :: post) : Closed ops (fun j => decide (j ∈ pre.map (·.i))) ∧ Ready (fun j => decide (j ∈ pre.map (·.i))) e.o := by
  refine ⟨fun i o ho hd x hx hb => ?_, fun x hx hb => ?_⟩
  · simp only [decide_eq_true_eq] at hd ⊢
    obtain ⟨y, hy, rfl⟩ := List.mem_map.1 hd
    obtain ⟨q1, q2, rfl⟩ := List.append_of_mem hy
    have := (R.pos q1 y (q2 ++ e :: post) (by rw [he]; simp)).1 _ (edge_hasB ho hx hb)
    rw [List.map_append]
    exact List.mem_append.2 (.inl this)
  · simp only [decide_eq_true_eq]
    exact (R.pos pre e post he).1 _ (edge_hasB (R.op e (by rw [he]; simp)) hx hb)

/-- Two acts of a row: the later one of the run waits for the earlier. -/
theorem chain_two {ops : List Oper} {es p r : List Ent} {e0 e : Ent} {acts : List Nat} (hC : ChainL (beforeL ops []) acts) (hv : ∀ y ∈ acts, ∃ o, ops[y]? = some o) (R : OrdR ops es) (he : es = p ++ e0 :: r) (hm : e ∈ r) (h0 : e0.i ∈ acts) (h1 : e.i ∈ acts) {D : Nat → Bool} (hD : Closed ops D) (hn : D e0.i = false) : ¬ Ready D e.o := by
  intro hr
  have hoe : ops[e.i]? = some e.o := R.op e (by rw [he]; simp [hm])
  have hoe0 : ops[e0.i]? = some e0.o := R.op e0 (by rw [he]; simp)
  have hne := (R.alone he).2 e hm
  obtain ⟨p1, q1, hs⟩ := List.append_of_mem h1
  rw [hs] at h0
  rcases List.mem_append.1 h0 with h | h
  · have := chain_in hD (by rw [← hs]; exact hC) (fun y hy => hv y (by rw [hs]; simp [hy])) hoe hr _ h
    rw [hn] at this; cases this
  · rcases List.mem_cons.1 h with h | h
    · exact hne h.symm
    · obtain ⟨s, t, rfl⟩ := List.append_of_mem h
      obtain ⟨c1, c2⟩ := ahead_closed R he
      have hs' : acts = (p1 ++ e.i :: s) ++ e0.i :: t := by rw [hs]; simp
      have := chain_in c1 (by rw [← hs']; exact hC) (fun y hy => hv y (by rw [hs']; exact List.mem_append.2 (.inl hy))) hoe0 c2 e.i (by simp)
      simp only [decide_eq_true_eq] at this
      obtain ⟨y, hy, hyi⟩ := List.mem_map.1 this
      obtain ⟨q1, q2, hq⟩ := List.append_of_mem hm
      have hal := (R.alone (es := es) (pre := p ++ e0 :: q1) (e := e) (post := q2) (by rw [he, hq]; simp)).1 y (by simp [hy])
      exact hal hyi

theorem acts_valid {ops : List Oper} : ∀ y ∈ actsOf ops 0, ∃ o, ops[y]? = some o := fun y hy => by
  obtain ⟨_, o, h2, _⟩ := actsOf_mem.1 hy
  exact ⟨o, by simpa using h2⟩
theorem acts_of {ops : List Oper} {i : Nat} {o : Oper} (ho : ops[i]? = some o) (hk : kindOf o = .acts) : i ∈ actsOf ops 0 := actsOf_mem.2 ⟨Nat.zero_le _, o, by simpa using ho, hk⟩

theorem tight_of {ops : List Oper} {es past rest : List Ent} (hC : ChainL (beforeL ops []) (actsOf ops 0)) (R : OrdR ops es) (hs : es = past ++ rest) : Tight ops rest := by
  intro p e0 r hr hk0 e he hk D hD hn
  have hs' : es = (past ++ p) ++ e0 :: r := by rw [hs, hr]; simp
  have ho0 := R.op e0 (by rw [hs']; simp)
  have hoe := R.op e (by rw [hs']; simp [he])
  exact chain_two hC acts_valid R hs' he (acts_of ho0 hk0) (acts_of hoe hk) hD hn

end Go.Proofs.YtednkkcmboahgaaGreatDoor

/- A checked run: two last stores in either order. -/
namespace Go.Proofs.YtednkkcmboahgaaGreatDoor
open Go.RowKit

theorem loose_spec {ops : List Oper} {b : List Nat} {f g : Nat} : ∀ {acts : List Nat}, chainOk ops b acts = true → looseOf b acts = some (f, g) → ∃ A, acts = A ++ [f, g] ∧ ChainL b (A ++ [f]) ∧ ChainL b (A ++ [g]) ∧ isStore ops f = true ∧ isStore ops g = true ∧ hasB b g f = false
  | [], _, hl => by simp [looseOf] at hl
  | [e], _, hl => by simp [looseOf] at hl
  | [e, x], h, hl => by
    simp only [looseOf] at hl
    cases hb : hasB b x e with
    | true => rw [hb] at hl; cases hl
    | false =>
      rw [hb] at hl
      cases hl
      simp only [chainOk, hb, Bool.false_or, Bool.and_eq_true] at h
      exact ⟨[], rfl, ⟨fun f s hh => (by cases hh), trivial⟩, ⟨fun f s hh => (by cases hh), trivial⟩, h.1, h.2, hb⟩
  | [e, x, y], h, hl => by
    simp only [looseOf] at hl
    cases hb : hasB b y x with
    | true => rw [hb] at hl; cases hl
    | false =>
      rw [hb] at hl
      cases hl
      simp only [chainOk, hb, Bool.false_or, Bool.and_eq_true] at h
      exact ⟨[e], rfl, ⟨fun f s hh => (by cases hh; exact h.1.1), fun f s hh => (by cases hh), trivial⟩, ⟨fun f s hh => (by cases hh; exact h.1.2), fun f s hh => (by cases hh), trivial⟩, h.2.1, h.2.2, hb⟩
  | e :: x :: y :: z :: r, h, hl => by
    have h' : hasB b x e = true ∧ chainOk ops b (x :: y :: z :: r) = true := by
      have h2 : (hasB b x e && chainOk ops b (x :: y :: z :: r)) = true := h
      simpa only [Bool.and_eq_true] using h2
    have hl' : looseOf b (x :: y :: z :: r) = some (f, g) := hl
    obtain ⟨A, a1, a2, a3, a4⟩ := loose_spec h'.2 hl'
    cases A with
    | nil => simp at a1
    | cons a A =>
      simp only [List.cons_append, List.cons.injEq] at a1
      obtain ⟨rfl, a1⟩ := a1
      exact ⟨e :: x :: A, by rw [a1]; rfl, ⟨fun f s hh => (by cases hh; exact h'.1), a2⟩, ⟨fun f s hh => (by cases hh; exact h'.1), a3⟩, a4⟩

theorem lastTwo_spec {f g : Nat} : ∀ {l : List (Nat × Oper)}, lastTwo f g l = true → ∃ p x y, l = p ++ [x, y] ∧ x.1 = f ∧ y.1 = g
  | [], h => by simp [lastTwo] at h
  | [x], h => by simp [lastTwo] at h
  | [x, y], h => by
    simp only [lastTwo, Bool.and_eq_true, Nat.beq_eq] at h
    exact ⟨[], x, y, rfl, h.1, h.2⟩
  | x :: y :: z :: r, h => by
    obtain ⟨p, u, v, h1, h2⟩ := lastTwo_spec (l := y :: z :: r) h
    exact ⟨x :: p, u, v, by rw [h1]; rfl, h2⟩

theorem readsOk_spec {b : List Nat} {f g : Nat} : ∀ {l : List Oper} {i0 : Nat}, readsOk b f g l i0 = true → ∀ k o, l[k]? = some o → kindOf o = .reads → hasB b f (i0 + k) = true ∧ hasB b g (i0 + k) = true
  | [], i0, _, k, o, hk, _ => by simp at hk
  | q :: r, i0, h, k, o, hk, hr => by
    simp only [readsOk, Bool.and_eq_true] at h
    cases k with
    | zero =>
      simp only [List.getElem?_cons_zero, Option.some.injEq] at hk
      subst hk
      have h1 := h.1
      rw [hr] at h1
      simp only [OpKind.isReads, cond_true, Bool.and_eq_true] at h1
      exact h1
    | succ k =>
      have := readsOk_spec h.2 k o (by simpa using hk) hr
      rwa [show i0 + 1 + k = i0 + (k + 1) by omega] at this

theorem isStore_spec {ops : List Oper} {i : Nat} {o : Oper} (ho : ops[i]? = some o) (h : isStore ops i = true) : o.guard = none ∧ o.dst = none ∧ (∃ t a x, o.op = .store t a x) ∧ kindOf o = .acts := by
  unfold isStore at h
  rw [nthL_eq, ho] at h
  simp only [] at h
  split at h
  · rename_i t a x hop
    simp only [Bool.and_eq_true, Option.isNone_iff_eq_none] at h
    exact ⟨h.1, h.2, ⟨t, a, x, hop⟩, by simp [kindOf, hop]⟩
  · cases h

theorem store_op {T : Tab} {o : Oper} {t : Nat} {a x : Operand} {tm : TM} {h h2 : AH} {an : AN} (hs : o.op = .store t a x) (e : opA T o tm h = some (an, h2)) : an = .skip ∧ ∃ n off b b', evO T.gl tm a = some (.ptr n off) ∧ h.get n = some b ∧ h2 = h.put n b' ∧ ∀ k : AH, k.get n = some b → opA T o tm k = some (.skip, k.put n b') := by
  unfold opA at e
  rw [hs] at e
  simp only [] at e
  split at e
  · rename_i n off ti v e1 e2 e3
    split at e
    · rename_i m cs t' hg
      rcases cond_some' e with ⟨hc, e'⟩ | ⟨_, e'⟩
      · simp only [Option.some.injEq, Prod.mk.injEq] at e'
        obtain ⟨rfl, rfl⟩ := e'
        refine ⟨rfl, n, off, _, _, e1, hg, rfl, fun k hk => ?_⟩
        unfold opA
        rw [hs]
        simp only [e1, e2, e3, hk, hc, cond_true]
      · cases e'
    · cases e
  · cases e

section
variable {T : Tab} {ops : List Oper} {h1 h1' : AH} {b : List Nat}

theorem again_swap {p : Pend} {f g f' g' : Ent} (hf : kindOf f.o = .acts) (hg : kindOf g'.o = .acts) (hh : g'.h = f.h) (hb : hasB b g'.i p.i = true) : ∀ {q : List Ent}, AgainAt T b p (q ++ [f, g]) h1 → AgainAt T b p (q ++ [g', f']) h1'
  | [], h => ⟨fun _ => ⟨by rw [hh]; exact (h.1 hf).1, .inl hb⟩, fun hn => absurd hg hn⟩
  | x :: q, h => ⟨fun ha => ⟨(h.1 ha).1, (h.1 ha).2.imp id (again_swap hf hg hh hb)⟩, fun hn => again_swap hf hg hh hb (h.2 hn)⟩
theorem readsOk_swap {f g f' g' : Ent} (hf : kindOf f.o = .acts) (hg : kindOf g'.o = .acts) (hf' : kindOf f'.o = .acts) (hh : g'.h = f.h) : ∀ {q : List Ent}, (∀ e ∈ q, kindOf e.o = .reads → hasB b g'.i e.i = true) → ReadsOk T ops b (q ++ [f, g]) h1 → ReadsOk T ops b (q ++ [g', f']) h1'
  | [], _, _ => ⟨fun _ hk => absurd (hg.symm.trans hk) (by simp), fun _ hk => absurd (hf'.symm.trans hk) (by simp), trivial⟩
  | x :: q, hb, h => ⟨fun hw hk => again_swap hf hg hh (hb x (List.mem_cons_self ..) hk) (h.1 hw hk), readsOk_swap hf hg hf' hh (fun e he => hb e (List.mem_cons_of_mem _ he)) h.2⟩

/-- A list that ends in two. -/
theorem two_split {α : Type} {q : List α} {a b : α} : ∀ {pre : List α} {e : α} {post : List α}, q ++ [a, b] = pre ++ e :: post → (∃ s, q = pre ++ e :: s ∧ post = s ++ [a, b]) ∨ (pre = q ∧ e = a ∧ post = [b]) ∨ (pre = q ++ [a] ∧ e = b ∧ post = []) := by
  induction q with
  | nil =>
    intro pre e post h
    cases pre with
    | nil =>
      simp only [List.nil_append, List.cons.injEq] at h
      obtain ⟨rfl, rfl⟩ := h
      exact .inr (.inl ⟨rfl, rfl, rfl⟩)
    | cons x pre =>
      simp only [List.nil_append, List.cons_append, List.cons.injEq] at h
      obtain ⟨rfl, h⟩ := h
      cases pre with
      | nil =>
        simp only [List.nil_append, List.cons.injEq] at h
        obtain ⟨rfl, rfl⟩ := h
        exact .inr (.inr ⟨rfl, rfl, rfl⟩)
      | cons y pre => simp at h
  | cons x q ih =>
    intro pre e post h
    cases pre with
    | nil =>
      simp only [List.cons_append, List.nil_append, List.cons.injEq] at h
      obtain ⟨rfl, rfl⟩ := h
      exact .inl ⟨q, rfl, rfl⟩
    | cons y pre =>
      simp only [List.cons_append, List.cons.injEq] at h
      obtain ⟨rfl, h⟩ := h
      rcases ih h with ⟨s, h1, h2⟩ | ⟨h1, h2, h3⟩ | ⟨h1, h2, h3⟩
      · exact .inl ⟨s, by rw [h1]; rfl, h2⟩
      · exact .inr (.inl ⟨by rw [h1], h2, h3⟩)
      · exact .inr (.inr ⟨by rw [h1]; rfl, h2, h3⟩)
end

theorem Go.same {B : Nat} {ι κ : Pl} {h k k' : AH} {w u : World} (g : Go B ι h w κ k u) (s : SameH k k') : Go B ι h w κ k' u :=
  ⟨g.ext, g.below, fun n hn e => ⟨(g.still n hn e).1, by rw [s.get]; exact (g.still n hn e).2⟩, by rw [s.next]; exact g.next⟩

end Go.Proofs.YtednkkcmboahgaaGreatDoor

/- A checked run: a region that draws its order. -/
namespace Go.Proofs.YtednkkcmboahgaaGreatDoor
open Go.RowKit

theorem Run.two {T : Tab} {ex : AN → AH → Option (AV × AH)} {ops : List Oper} {ord : List (Nat × Oper)} {tm tm1 : TM} {H h1 : AH} {c c1 : Nat} {f g : Ent} (r : Run T ex ops ord tm H c [f, g] tm1 h1 c1) (kf : kindOf f.o = .acts) (gf : f.o.guard = none) (kg : kindOf g.o = .acts) (gg : g.o.guard = none) :
    ∃ an h2 h3 an' h4, f.h = H ∧ f.tm = tm ∧ opA T f.o tm H = some (an, h2) ∧ ex an h2 = some (f.a, h3) ∧ g.tm = putT tm f.o.dst f.a ∧ opA T g.o g.tm h3 = some (an', h4) ∧ ex an' h4 = some (g.a, h1) ∧ tm1 = putT g.tm g.o.dst g.a := by
  have wn : ∀ {o : Oper} {t : TM}, o.guard = none → wantA o ops t = true := fun {o t} h => by unfold wantA; rw [h]
  cases r with
  | skip hw _ _ => simp only at gf; rw [wn gf] at hw; cases hw
  | skipAct hw _ _ => simp only at gf; rw [wn gf] at hw; cases hw
  | calm _ hk _ _ => exact absurd (hk.symm.trans kf) (by simp)
  | reads _ hk _ _ => exact absurd (hk.symm.trans kf) (by simp)
  | makes _ hk _ _ => exact absurd (hk.symm.trans kf) (by simp)
  | act _ _ ho he hr =>
    cases hr with
    | skip hw _ _ => simp only at gg; rw [wn gg] at hw; cases hw
    | skipAct hw _ _ => simp only at gg; rw [wn gg] at hw; cases hw
    | calm _ hk _ _ => exact absurd (hk.symm.trans kg) (by simp)
    | reads _ hk _ _ => exact absurd (hk.symm.trans kg) (by simp)
    | makes _ hk _ _ => exact absurd (hk.symm.trans kg) (by simp)
    | act _ _ ho' he' hr' =>
      cases hr'
      exact ⟨_, _, _, _, _, rfl, rfl, ho, he, rfl, ho', he', rfl⟩

theorem nameAt_store {T : Tab} {ops : List Oper} {i n : Nat} {o : Oper} {t : Nat} {a x : Operand} {tm : TM} (ho : ops[i]? = some o) (hs : o.op = .store t a x) (h : nameAt T tm ops i = some n) : ∃ off, evO T.gl tm a = some (.ptr n off) := by
  unfold nameAt at h
  rw [nthL_eq, ho] at h
  simp only [hs] at h
  split at h
  · rename_i n' off e
    cases h
    exact ⟨off, e⟩
  · cases h

section
variable {T : Tab} {B : Nat} {E : Nat → Int} {ih : AF → AH → Option (AV × AH)} {ops : List Oper} {es : List Ent} {tm0 tm1 : TM} {h1 : AH} {ι0 : Pl} {h0 : AH} {w0 : World} {D : Nat → Bool} {past : List Ent} {H : AH} {κ : Pl} {w : World} {tmps : Array Value} {f g : Ent}

/-- The two of the end change places. -/
theorem Sim.switch (S : Sim T B E (exA T ih) ops es tm0 tm1 h1 ι0 h0 w0 D past [f, g] H κ w tmps) (K : Pack T (exA T ih) ops es tm0 tm1 h1) (hsf : isStore ops f.i = true) (hsg : isStore ops g.i = true) (hfg : hasB (beforeL ops []) g.i f.i = false) (hrd : readsOk (beforeL ops []) f.i g.i ops 0 = true) {n m : Nat} (hnf : nameAt T tm1 ops f.i = some n) (hng : nameAt T tm1 ops g.i = some m) (hnm : n ≠ m) :
    ∃ f' g' h1', f'.i = f.i ∧ g'.i = g.i ∧ g'.o = g.o ∧ SameH h1' h1 ∧ Pack T (exA T ih) ops (past ++ [g', f']) tm0 tm1 h1' ∧ Sim T B E (exA T ih) ops (past ++ [g', f']) tm0 tm1 h1' ι0 h0 w0 D past [g', f'] H κ w tmps := by
  have hes : es = past ++ [f, g] := S.split
  have hof : ops[f.i]? = some f.o := K.ord.op f (by rw [hes]; simp)
  have hog : ops[g.i]? = some g.o := K.ord.op g (by rw [hes]; simp)
  obtain ⟨gf, df, ⟨tf, af, xf, of⟩, kf⟩ := isStore_spec hof hsf
  obtain ⟨gg, dg, ⟨tg, ag, xg, og⟩, kg⟩ := isStore_spec hog hsg
  obtain ⟨ord, tm, c, c1, hrun⟩ := S.run
  obtain ⟨an, h2, h3, an', h4, e1, e2, e3, e4, e5, e6, e7, e8⟩ := hrun.two kf gf kg gg
  have wn : ∀ {o : Oper} {t : TM}, o.guard = none → wantA o ops t = true := fun {o t} h => by unfold wantA; rw [h]
  obtain ⟨rfl, n', off, bf, bf', q1, q2, q3, q4⟩ := store_op of e3
  simp only [exA, Option.some.injEq, Prod.mk.injEq] at e4
  obtain ⟨fa, fh⟩ := e4
  obtain ⟨rfl, m', off', bg, bg', p1, p2, p3, p4⟩ := store_op og e6
  simp only [exA, Option.some.injEq, Prod.mk.injEq] at e7
  obtain ⟨ga, gh⟩ := e7
  have pf : ∀ v, putT tm f.o.dst v = tm := fun v => by rw [df]; rfl
  have pg : ∀ v, putT tm g.o.dst v = tm := fun v => by rw [dg]; rfl
  rw [pf] at e5
  rw [e5] at p1 p4 e8
  rw [pg] at e8
  subst e8
  have hn' : n' = n := by
    obtain ⟨o1, h⟩ := nameAt_store hof of hnf
    rw [q1] at h; cases h; rfl
  have hm' : m' = m := by
    obtain ⟨o1, h⟩ := nameAt_store hog og hng
    rw [p1] at h; cases h; rfl
  subst hn' hm'
  have hgm : H.get m' = some bg := by
    rw [← fh, q3, AH.get_put, if_neg (Ne.symm hnm)] at p2
    exact p2
  have hgn : (H.put m' bg').get n' = some bf := by rw [AH.get_put, if_neg hnm]; exact q2
  have og' := p4 H hgm
  have of' := q4 (H.put m' bg') hgn
  have hsame : SameH ((H.put m' bg').put n' bf') h1 := by
    rw [← gh, p3, ← fh, q3]
    refine ⟨fun x => ?_, by rw [AH.next_put, AH.next_put, AH.next_put, AH.next_put]⟩
    rw [AH.get_put, AH.get_put, AH.get_put, AH.get_put]
    by_cases hx : x = m'
    · rw [if_pos hx, if_neg (fun hh => hnm (hh.symm.trans hx)), if_pos hx]
    · rw [if_neg hx, if_neg hx]
  have htm : tm1 = tmOf (fun _ => true) (past.map ent3) tm0 := by rw [← e2]; exact K.tms past f [g] hes
  obtain ⟨f1, f2⟩ := K.ord.pos past f [g] hes
  obtain ⟨g1, g2⟩ := K.ord.pos (past ++ [f]) g [] (by rw [hes]; simp)
  have hne : f.i ≠ g.i := fun hh => g2 (by rw [← hh]; simp)
  have hDf := S.ahead f (by simp)
  have hDg := S.ahead g (by simp)
  refine ⟨⟨f.i, f.o, tm1, H.put m' bg', c + 1, .tuple []⟩, ⟨g.i, g.o, tm1, H, c, .tuple []⟩, (H.put m' bg').put n' bf', rfl, rfl, rfl, hsame, ⟨⟨fun e he => ?_, fun pre e post he => ?_, K.ord.tmps⟩, fun pre e post he => ?_, fun e he => ?_, ?_, fun pre e post he hk x hx hn => ?_, fun j hj => ?_, ?_⟩, ⟨rfl, .inr ⟨_, _, rfl, kg⟩, ?_, S.closed, fun e he => ?_, S.acts, ?_, S.rel, S.go, S.pend, S.names, S.apart⟩⟩
  · rcases List.mem_append.1 he with he | he
    · exact K.ord.op e (by rw [hes]; simp [he])
    · simp only [List.mem_cons, List.not_mem_nil, or_false] at he
      rcases he with rfl | rfl
      · exact hog
      · exact hof
  · rcases two_split he with ⟨s, s1, _⟩ | ⟨s1, s2, _⟩ | ⟨s1, s2, _⟩
    · exact K.ord.pos pre e (s ++ [f, g]) (by rw [hes, s1]; simp)
    · subst s1 s2
      refine ⟨fun j hj => ?_, fun hh => g2 (by rw [List.map_append]; exact List.mem_append.2 (.inl hh))⟩
      have := g1 j hj
      rw [List.map_append] at this
      rcases List.mem_append.1 this with h | h
      · exact h
      · simp only [List.map_cons, List.map_nil, List.mem_singleton] at h
        subst h
        rw [hfg] at hj; cases hj
    · subst s1 s2
      refine ⟨fun j hj => ?_, ?_⟩
      · rw [List.map_append]
        exact List.mem_append.2 (.inl (f1 j hj))
      · rw [List.map_append]
        intro hh
        rcases List.mem_append.1 hh with h | h
        · exact f2 h
        · simp only [List.map_cons, List.map_nil, List.mem_singleton] at h
          exact hne h
  · rcases two_split he with ⟨s, s1, _⟩ | ⟨s1, s2, _⟩ | ⟨s1, s2, _⟩
    · exact K.tms pre e (s ++ [f, g]) (by rw [hes, s1]; simp)
    · subst s1 s2
      exact htm
    · subst s1 s2
      rw [List.map_append, tmOf_append, ← htm]
      simp only [List.map_cons, List.map_nil, ent3, tmOf, if_true]
      exact (pg _).symm
  · rcases List.mem_append.1 he with he | he
    · exact K.oks e (by rw [hes]; simp [he])
    · simp only [List.mem_cons, List.not_mem_nil, or_false] at he
      rcases he with rfl | rfl
      · exact ⟨fun h => (by simp only at h; rw [wn gg] at h), fun _ h => absurd kg h, fun _ _ => ⟨_, _, _, og', rfl⟩⟩
      · exact ⟨fun h => (by simp only at h; rw [wn gf] at h), fun _ h => absurd kf h, fun _ _ => ⟨_, _, _, of', rfl⟩⟩
  · refine readsOk_swap (f := f) (g := g) (g' := ⟨g.i, g.o, tm1, H, c, .tuple []⟩) (f' := ⟨f.i, f.o, tm1, H.put m' bg', c + 1, .tuple []⟩) (h1 := h1) kf kg kf e1.symm (fun e he hk => ?_) (by rw [← hes]; exact K.reads)
    have := readsOk_spec hrd e.i e.o (K.ord.op e (by rw [hes]; simp [he])) hk
    rw [Nat.zero_add] at this
    exact this.2
  · rcases two_split he with ⟨s, s1, s2⟩ | ⟨s1, s2, s3⟩ | ⟨s1, s2, s3⟩
    · rw [s2] at hx
      rcases List.mem_append.1 hx with hx | hx
      · exact K.late pre e (s ++ [f, g]) (by rw [hes, s1]; simp) hk x (by simp [hx]) hn
      · simp only [List.mem_cons, List.not_mem_nil, or_false] at hx
        rcases hx with rfl | rfl
        · exact absurd kg hn
        · exact absurd kf hn
    · rw [s3] at hx
      simp only [List.mem_singleton] at hx
      subst hx
      exact absurd kf hn
    · rw [s3] at hx; cases hx
  · obtain ⟨e, he, hi⟩ := K.full j hj
    rw [hes] at he
    rcases List.mem_append.1 he with he | he
    · exact ⟨e, by simp [he], hi⟩
    · simp only [List.mem_cons, List.not_mem_nil, or_false] at he
      rcases he with rfl | rfl
      · exact ⟨⟨e.i, e.o, tm1, H.put m' bg', c + 1, .tuple []⟩, by simp, hi⟩
      · exact ⟨⟨e.i, e.o, tm1, H, c, .tuple []⟩, by simp, hi⟩
  · rw [List.map_append, tmOf_append, ← htm]
    simp only [List.map_cons, List.map_nil, ent3, tmOf, if_true]
    rw [pg, pf]
  · have r0 : Run T (exA T ih) ops [] tm1 ((H.put m' bg').put n' bf') (c + 1 + 1) [] tm1 ((H.put m' bg').put n' bf') (c + 1 + 1) := .nil _ _ _
    have r1 : Run T (exA T ih) ops [(f.i, f.o)] tm1 (H.put m' bg') (c + 1) [⟨f.i, f.o, tm1, H.put m' bg', c + 1, .tuple []⟩] tm1 ((H.put m' bg').put n' bf') (c + 1 + 1) := .act (wn gf) kf of' rfl (by rw [pf]; exact r0)
    exact ⟨[(g.i, g.o), (f.i, f.o)], tm1, c, c + 1 + 1, .act (wn gg) kg og' rfl (by rw [pg]; exact r1)⟩
  · simp only [List.mem_cons, List.not_mem_nil, or_false] at he
    rcases he with rfl | rfl
    · exact hDg
    · exact hDf
  · have h := S.slots
    rw [hes, List.map_append, tmOf_append] at h
    rw [List.map_append, tmOf_append]
    simp only [List.map_cons, List.map_nil, ent3, tmOf, hDf, hDg, Bool.false_eq_true, if_false] at h ⊢
    exact h
end

section
variable {P : Program} {T : Tab} (hT : TabOk P T) {E : Nat → Int} (hE : Env T.bd E) {B : Nat} {ih : AF → AH → Option (AV × AH)} (hS : Sound P T B E ih)
variable {ops : Array Oper} {es : List Ent} {tm0 tm1 : TM} {h1 : AH} {ι0 : Pl} {h0 : AH} {w0 : World}
variable (fn : Nat) (ds : List Deferred) (kind : CallKind) (ro : Option Nat) (k : List Item) (cs : List Frame)

include hT hE hS in
theorem sim_loose (K : Pack T (exA T ih) ops.toList es tm0 tm1 h1) {q : List Ent} {f g : Ent} (hes : es = q ++ [f, g]) (hsf : isStore ops.toList f.i = true) (hsg : isStore ops.toList g.i = true) (hfg : hasB (beforeL ops.toList []) g.i f.i = false) (hrd : readsOk (beforeL ops.toList []) f.i g.i ops.toList 0 = true) {n m : Nat} (hnf : nameAt T tm1 ops.toList f.i = some n) (hng : nameAt T tm1 ops.toList g.i = some m) (hnm : n ≠ m)
    (h2 : ∀ p e0 r, es = p ++ e0 :: r → kindOf e0.o = .acts → ∀ e ∈ r, kindOf e.o = .acts → ∀ D, Closed ops.toList D → D e0.i = false → Ready D e.o → e0.i = f.i ∧ e.i = g.i) :
    ∀ (fuel t : Nat) (listed : Array Bool) {D : Nat → Bool} {past rest : List Ent} {H : AH} {κ : Pl} {w : World} {tmps : Array Value}, (∀ j, D j = listed.getD j false) → listed.size = ops.size → (es.filter fun x => !D x.i).length ≤ fuel →
    Sim T B E (exA T ih) ops.toList es tm0 tm1 h1 ι0 h0 w0 D past rest H κ w tmps →
    ∃ κ' w' tmps', Go B ι0 h0 w0 κ' h1 w' ∧ Rel T B E κ' h1 w' ∧ TR E κ' tm1 tmps' ∧ Steps P (lone (RF fn tmps (.inRegion ops (Region.linearise.go .any ops fuel t listed []) :: k) ds kind ro) cs w) (lone (RF fn tmps' (.inRegion ops [] :: k) ds kind ro) cs w')
  | 0, t, listed, D, past, rest, H, κ, w, tmps, hD, hsz, hf, S => by
    have hall : ∀ e ∈ es, D e.i = true := fun e he => by
      cases hd : D e.i with
      | true => rfl
      | false =>
        have : e ∈ es.filter fun x => !D x.i := List.mem_filter.2 ⟨he, by rw [hd]; rfl⟩
        rw [List.length_eq_zero_iff.1 (Nat.le_zero.1 hf)] at this
        cases this
    obtain ⟨g1, g2, g3⟩ := S.done K hall
    exact ⟨κ, w, tmps, g1, g2, g3, by simp only [Region.linearise.go, List.reverse_nil]; exact Steps.refl _ _⟩
  | fuel + 1, t, listed, D, past, rest, H, κ, w, tmps, hD, hsz, hf, S => by
    rw [go_succ]
    cases hi : (Region.ready .any ops listed)[t % (Region.ready .any ops listed).length]? with
    | none =>
      have hnil := ready_get hi
      rcases K.more (D := D) with hall | ⟨i, o, h1', h2', h3'⟩
      · obtain ⟨g1, g2, g3⟩ := S.done K hall
        exact ⟨κ, w, tmps, g1, g2, g3, Steps.refl _ _⟩
      · have : i ∈ Region.ready .any ops listed := (ready_of hD hsz).2 ⟨h1', o, h2', h3'⟩
        rw [hnil] at this; cases this
    | some i =>
      simp only []
      obtain ⟨hn, o, ho, hr⟩ := (ready_of hD hsz).1 (List.mem_of_getElem? hi)
      have hlt : i < listed.size := by rw [hsz]; exact (Array.getElem?_eq_some_iff.1 ho).1
      rcases S.next hT hE hS fn ds kind ro k cs K ho hn hr (Region.linearise.go .any ops fuel (t / (Region.ready .any ops listed).length) (listed.setIfInBounds i true) []) with ⟨past', p, rest', H', κ', w', tmps', e1, S', st⟩ | ⟨e0, r, e, e1, e2, e3, e4, e5, e6⟩
      · have hol : ops.toList[i]? = some o := by rw [Array.getElem?_toList]; exact ho
        obtain ⟨e, he, hei⟩ := K.full i (List.getElem?_eq_some_iff.1 hol).1
        obtain ⟨pre, post, hsp⟩ := List.append_of_mem he
        have hcnt := filter_add (D := D) K.ord hsp (by rw [hei]; exact hn)
        rw [hei] at hcnt
        obtain ⟨κ2, w2, tmps2, g1, g2, g3, g4⟩ := sim_loose K hes hsf hsg hfg hrd hnf hng hnm h2 fuel _ _ (addD_listed hD hlt) (by rw [Array.size_setIfInBounds]; exact hsz) (by omega) S'
        exact ⟨κ2, w2, tmps2, g1, g2, g3, st.trans g4⟩
      · subst e1
        obtain ⟨j1, j2⟩ := h2 past e0 r S.split e4 e e2 e5 D S.closed (S.ahead e0 (List.mem_cons_self ..)) e6
        have hff := K.ord.alone (es := es) (pre := q) (e := f) (post := [g]) hes
        obtain ⟨rfl, rfl, rfl⟩ : past = q ∧ e0 = f ∧ r = [g] := by
          rcases two_split (hes.symm.trans S.split) with ⟨s, s1, _⟩ | h | ⟨_, s2, _⟩
          · exact absurd j1 (hff.1 e0 (by rw [s1]; simp))
          · exact h
          · subst s2
            exact absurd j1 (hff.2 e0 (by simp))
        simp only [List.mem_singleton] at e2
        subst e2 e3
        obtain ⟨f', g', h1', i1, i2, i3, hsm, K', S'⟩ := S.switch K hsf hsg hfg hrd hnf hng hnm
        obtain ⟨seg, rest', H', κ', w', tmps', r1, S2, st⟩ := S'.act hT hE hS fn ds kind ro (Region.linearise.go .any ops fuel (t / (Region.ready .any ops listed).length) (listed.setIfInBounds e.i true) []) k cs K' (by rw [i3]; exact e6) (by rw [i3]; exact e5)
        have hcnt := filter_add (D := D) K'.ord (pre := past) (e := g') (post := [f']) rfl (by rw [i2]; exact hn)
        have hsame : ((past ++ [g', f']).filter fun x => !D x.i).length = (es.filter fun x => !D x.i).length := by
          rw [hes, List.filter_append, List.filter_append, List.length_append, List.length_append]
          have d1 := S.ahead e0 (by simp)
          have d2 := S.ahead e (by simp)
          simp [i1, i2, d1, d2]
        rw [i2] at S2 hcnt st
        have htg : Tight ops.toList rest' := fun p x r hr hx y hy => by
          exfalso
          have hlen := congrArg List.length r1
          rw [hr] at hlen
          simp only [List.length_cons, List.length_nil, List.length_append] at hlen
          have := List.length_pos_of_mem hy
          omega
        obtain ⟨κ2, w2, tmps2, g1, g2, g3, g4⟩ := sim_main hT hE hS fn ds kind ro k cs K' fuel (t / (Region.ready .any ops listed).length) _ (addD_listed hD hlt) (by rw [Array.size_setIfInBounds]; exact hsz) (by omega) htg S2
        exact ⟨κ2, w2, tmps2, g1.same hsm, g2.same hsm, g3, st.trans g4⟩

theorem step_draw {id : Nat} {tmps : Array Value} {w : World} : step P (lone (RF fn tmps (.code (.region id ops true) :: k) ds kind ro) cs w) = .next (lone (RF fn tmps (.inRegion ops (Region.schedule (P.follows .mixedOrders) ops (w.tape w.drawn (.order fn id))) :: k) ds kind ro) cs { w with drawn := w.drawn + 1 }) :=
  step_lone_go (by simp [stepG, stepG.exec, choose, Sem.run, Question.forced, Question.cut])
theorem step_drawn {tmps : Array Value} {w : World} : step P (lone (RF fn tmps (.inRegion ops [] :: k) ds kind ro) cs w) = .next (lone (RF fn tmps k ds kind ro) cs w) :=
  step_lone_go (by simp [stepG, stepG.exec])
end

theorem map_two {l : List Ent} {x y : Nat × Oper} {f g : Nat} (h : l.map (fun e => (e.i, e.o)) = [x, y]) (hx : x.1 = f) (hy : y.1 = g) : ∃ ef eg : Ent, l = [ef, eg] ∧ ef.i = f ∧ eg.i = g := by
  cases l with
  | nil => cases h
  | cons a l =>
    cases l with
    | nil => cases h
    | cons b l =>
      cases l with
      | nil =>
        simp only [List.map_cons, List.map_nil, List.cons.injEq, and_true] at h
        exact ⟨a, b, rfl, by rw [← hx, ← h.1], by rw [← hy, ← h.2]⟩
      | cons c l => simp at h

/-- A region that draws its order. -/
theorem regD_ok {P : Program} {T : Tab} (hT : TabOk P T) {E : Nat → Int} (hE : Env T.bd E) {B : Nat} {ih : AF → AH → Option (AV × AH)} (hS : Sound P T B E ih) : RegDOk P T B E ih := by
  intro id ops tm tm1 h h1 ι w tmps ds fn kind ro k cs e ht r
  unfold regAll at e
  simp only [] at e
  rcases cond_some' e with ⟨hc, e'⟩ | ⟨_, e'⟩
  · simp only [Bool.and_eq_true] at hc
    obtain ⟨⟨hch, htm⟩, hord⟩ := hc
    split at e'
    · rename_i tm2 h2 hreg
      obtain ⟨es, c1, hrun, _, hrd⟩ := regD_run (c := 0) hreg
      have K := pack_of hrun hrd htm hord
      have r' : Rel T B E ι h { w with drawn := w.drawn + 1 } := r.drew _
      obtain ⟨past, rest, H, S⟩ := sim_start hrun ht r'
      have hlen : es.length ≤ ops.size := by
        have := congrArg List.length hrun.facts.1
        rw [List.length_map] at this
        rw [this]
        have h3 := orderD_len (b := beforeL ops.toList []) (n := ops.toList.length) (done := 0) (l := numL ops.toList 0) (acts := actsOf ops.toList 0)
        simpa using h3
      have hD' : ∀ j, (fun _ => false : Nat → Bool) j = (Array.replicate ops.size false).getD j false := fun j => by
        by_cases hj : j < ops.size
        · simp [hj]
        · simp [hj]
      have hcount : (es.filter fun x => !(fun _ => false : Nat → Bool) x.i).length ≤ ops.size := Nat.le_trans (List.length_filter_le _ _) hlen
      have hgo : Go B ι h w ι h { w with drawn := w.drawn + 1 } := Go.under r ⟨rfl, rfl, rfl, Nat.le_refl _, fun _ _ => rfl⟩
      have close : ∀ {t : Nat}, (∃ κ' w' tmps', Go B ι h { w with drawn := w.drawn + 1 } κ' h2 w' ∧ Rel T B E κ' h2 w' ∧ TR E κ' tm2 tmps' ∧ Steps P (lone (RF fn tmps (.inRegion ops (Region.linearise.go .any ops ops.size t (Array.replicate ops.size false) []) :: k) ds kind ro) cs { w with drawn := w.drawn + 1 }) (lone (RF fn tmps' (.inRegion ops [] :: k) ds kind ro) cs w')) → t = w.tape w.drawn (.order fn id) →
          ∃ κ w1 tmps1, Go B ι h w κ h2 w1 ∧ Rel T B E κ h2 w1 ∧ TR E κ tm2 tmps1 ∧ Steps P (lone (RF fn tmps (.code (.region id ops true) :: k) ds kind ro) cs w) (lone (RF fn tmps1 k ds kind ro) cs w1) := by
        rintro t ⟨κ', w', tmps', g1, g2, g3, g4⟩ rfl
        refine ⟨κ', w', tmps', hgo.trans g1, g2, g3, (Steps.one (step_draw fn ds kind ro k cs)).trans (Steps.trans ?_ (Steps.one (step_drawn (ops := ops) fn ds kind ro k cs)))⟩
        simp only [Region.schedule, hT.mixed, Bool.true_or, if_true]
        exact g4
      cases hl : looseOf (beforeL ops.toList []) (actsOf ops.toList 0) with
      | none =>
        rw [hl] at e'
        cases e'
        exact close (sim_main hT hE hS fn ds kind ro k cs K ops.size _ _ hD' (by simp) hcount (tight_of (chain_spec hch hl) K.ord S.split) S) rfl
      | some p =>
        obtain ⟨f, g⟩ := p
        rw [hl] at e'
        simp only [] at e'
        rcases cond_some' e' with ⟨hc2, e2⟩ | ⟨_, e2⟩
        · cases e2
          simp only [Bool.and_eq_true] at hc2
          obtain ⟨⟨hlt, hro⟩, hnm⟩ := hc2
          obtain ⟨A, a1, a2, a3, a4, a5, a6⟩ := loose_spec hch hl
          obtain ⟨p, x, y, hp, hx, hy⟩ := lastTwo_spec hlt
          obtain ⟨q, l2, hq1, _, hq3⟩ := List.map_eq_append_iff.1 (hrun.facts.1.trans hp)
          obtain ⟨ef, eg, rfl, hef, heg⟩ := map_two hq3 hx hy
          subst hef heg
          split at hnm
          · rename_i n m hn1 hn2
            have hne : n ≠ m := fun hh => by
              subst hh
              have : Nat.beq n n = true := by rw [Nat.beq_eq]
              rw [this] at hnm; cases hnm
            have hvA : ∀ y ∈ A, ∃ o, ops.toList[y]? = some o := fun y hy => acts_valid y (by rw [a1]; simp [hy])
            have hvf : ∃ o, ops.toList[ef.i]? = some o := acts_valid _ (by rw [a1]; simp)
            have hvg : ∃ o, ops.toList[eg.i]? = some o := acts_valid _ (by rw [a1]; simp)
            refine close (sim_loose hT hE hS fn ds kind ro k cs K hq1 a4 a5 a6 hro hn1 hn2 hne (fun p' e0 r' he0 hk0 e he hk D hD hd hrdy => ?_) ops.size _ _ hD' (by simp) hcount S) rfl
            have ho0 := K.ord.op e0 (by rw [he0]; simp)
            have hoe := K.ord.op e (by rw [he0]; simp [he])
            have m0 := acts_of ho0 hk0
            have m1 := acts_of hoe hk
            rw [a1] at m0 m1
            have c1 : e0.i ∈ A ++ [ef.i] → e.i ∈ A ++ [ef.i] → False := fun u v => chain_two a2 (fun y hy => by
              rcases List.mem_append.1 hy with hy | hy
              · exact hvA y hy
              · simp only [List.mem_singleton] at hy
                subst hy
                exact hvf) K.ord he0 he u v hD hd hrdy
            have c2 : e0.i ∈ A ++ [eg.i] → e.i ∈ A ++ [eg.i] → False := fun u v => chain_two a3 (fun y hy => by
              rcases List.mem_append.1 hy with hy | hy
              · exact hvA y hy
              · simp only [List.mem_singleton] at hy
                subst hy
                exact hvg) K.ord he0 he u v hD hd hrdy
            simp only [List.mem_append, List.mem_cons, List.not_mem_nil, or_false] at m0 m1 c1 c2
            rcases m0 with m0 | m0 | m0
            · rcases m1 with m1 | m1 | m1
              · exact (c1 (.inl m0) (.inl m1)).elim
              · exact (c1 (.inl m0) (.inr m1)).elim
              · exact (c2 (.inl m0) (.inr m1)).elim
            · rcases m1 with m1 | m1 | m1
              · exact (c1 (.inr m0) (.inl m1)).elim
              · exact (c1 (.inr m0) (.inr m1)).elim
              · exact ⟨m0, m1⟩
            · rcases m1 with m1 | m1 | m1
              · exact (c2 (.inr m0) (.inl m1)).elim
              · rcases two_split (hq1.symm.trans he0) with ⟨s, s1, _⟩ | ⟨_, s2, _⟩ | ⟨_, _, s3⟩
                · have := (K.ord.alone (es := es) (pre := q ++ [ef]) (e := eg) (post := []) (by rw [hq1]; simp)).1 e0 (by rw [s1]; simp)
                  exact absurd m0 this
                · subst s2
                  exact ⟨rfl, m1.trans m0⟩
                · subst s3
                  cases he
              · exact (c2 (.inr m0) (.inr m1)).elim
          · cases hnm
        · cases e2
    · cases e'
  · cases e'

end Go.Proofs.YtednkkcmboahgaaGreatDoor

/- A checked run: the quick words tell what the plain ones tell. -/
namespace Go.Proofs.YtednkkcmboahgaaGreatDoor

section
variable (T : Tab)
theorem againX_eq (o : Oper) (tm : TM) (v : AV) (h : AH) : againX T o tm v h = againA T o tm v h := by
  unfold againX againA
  rw [opX_eq]
  cases opA T o tm h with
  | none => rfl
  | some p =>
    obtain ⟨an, h1⟩ := p
    cases an <;> rfl
theorem againPX_eq (h : AH) : ∀ l, againPX T h l = againPs T h l
  | [] => rfl
  | p :: r => by
    show @Bool.rec (fun _ => Bool) false (againPX T h r) (againX T p.o p.tm p.v h) = (againA T p.o p.tm p.v h && againPs T h r)
    rw [againX_eq, againPX_eq h r]
    cases againA T p.o p.tm p.v h <;> rfl

variable (ex : AN → AH → RT)
theorem regSX_eq (rn : Bool) (ops : List Oper) : ∀ (rest : List Oper) (tm : TM) (ds : List AD) (h : AH), regSX T ex rn ops rest tm ds h = regS T ex rn ops rest tm ds h
  | [], tm, ds, h => rfl
  | o :: r, tm, ds, h => by
    have k : regSX T ex rn ops r = regS T ex rn ops r := by
      funext a b c
      exact regSX_eq rn ops r a b c
    show @Bool.rec (fun _ => RS) (regSX T ex rn ops r (putT tm o.dst (.tuple [])) ds h) (rsO T ex rn o (regSX T ex rn ops r) tm ds h) (wantA o ops tm) = _
    rw [k]
    simp only [regS]
    cases wantA o ops tm with
    | false => rfl
    | true =>
      unfold rsO
      rw [opX_eq]
      simp only [Bool.not_true, cond_false]
      cases opA T o tm h with
      | none => rfl
      | some p =>
        obtain ⟨an, h1⟩ := p
        cases an with
        | val v => rfl
        | skip => rfl
        | enter f a =>
          have e1 : rsN ex rn o.dst (regS T ex rn ops r) tm ds (.enter f a) h1 = exK (ex (.enter f a) h1) (fun v h2 => regS T ex rn ops r (putT tm o.dst v) ds h2) := rfl
          show rsN ex rn o.dst (regS T ex rn ops r) tm ds (.enter f a) h1 = (match ex (.enter f a) h1 with
            | some (v, h2) => regS T ex rn ops r (putT tm o.dst v) ds h2
            | none => none)
          rw [e1]
          cases ex (.enter f a) h1 <;> rfl
        | round n a =>
          have e1 : rsN ex rn o.dst (regS T ex rn ops r) tm ds (.round n a) h1 = exK (ex (.round n a) h1) (fun v h2 => regS T ex rn ops r (putT tm o.dst v) ds h2) := rfl
          show rsN ex rn o.dst (regS T ex rn ops r) tm ds (.round n a) h1 = (match ex (.round n a) h1 with
            | some (v, h2) => regS T ex rn ops r (putT tm o.dst v) ds h2
            | none => none)
          rw [e1]
          cases ex (.round n a) h1 <;> rfl
        | defer d => cases rn <;> rfl
        | recover => cases rn <;> rfl

theorem regDX_eq (ops : List Oper) (b : List Nat) : ∀ (ord : List (Nat × Oper)) (tm : TM) (h : AH) (pend : List Pend), regDX T ex ops b ord tm h pend = regD T ex ops b ord tm h pend
  | [], tm, h, pend => by
    show @Bool.rec (fun _ => RD) none (some (tm, h)) (againPX T h pend) = (bif againPs T h pend then some (tm, h) else none)
    rw [againPX_eq]
    cases againPs T h pend <;> rfl
  | (i, o) :: r, tm, h, pend => by
    have k : regDX T ex ops b r = regD T ex ops b r := by
      funext x y z
      exact regDX_eq ops b r x y z
    show @Bool.rec (fun _ => RD) (rdS T b i o (regDX T ex ops b r) tm h pend) (rdO T ex b i o (regDX T ex ops b r) tm h pend) (wantA o ops tm) = _
    rw [k]
    simp only [regD]
    cases wantA o ops tm with
    | false =>
      show rdS T b i o (regD T ex ops b r) tm h pend = _
      unfold rdS
      rw [againPX_eq]
      cases (kindOf o).isActs with
      | false => rfl
      | true => cases againPs T h pend <;> rfl
    | true =>
      show rdO T ex b i o (regD T ex ops b r) tm h pend = _
      unfold rdO
      rw [opX_eq]
      simp only [Bool.not_true, cond_false]
      cases opA T o tm h with
      | none => rfl
      | some p =>
        obtain ⟨an, h1⟩ := p
        show rdN T ex b i o (regD T ex ops b r) tm h pend an h1 = _
        unfold rdN
        rw [againPX_eq]
        cases kindOf o with
        | calm => cases an <;> rfl
        | reads => cases an <;> rfl
        | makes => cases an <;> rfl
        | acts =>
          simp only []
          cases againPs T h pend with
          | false => rfl
          | true =>
            simp only [cond_true]
            cases ex an h1 <;> rfl

theorem regAllX_eq (ops : List Oper) (tm : TM) (h : AH) : regAllX T ex ops tm h = regAll T ex ops tm h := by
  unfold regAllX
  rw [regDX_eq]
  show _ = (bif regOk ops then (match regD T ex ops (beforeL ops []) (orderD (beforeL ops []) ops.length 0 (numL ops 0) (actsOf ops 0)) tm h [] with
    | some (tm1, h1) => (match looseOf (beforeL ops []) (actsOf ops 0) with
      | none => some (tm1, h1)
      | some (f, g) => regL T ops tm1 h1 f g)
    | none => none) else none)
  cases regOk ops with
  | false => rfl
  | true =>
    simp only [cond_true]
    cases regD T ex ops (beforeL ops []) (orderD (beforeL ops []) ops.length 0 (numL ops 0) (actsOf ops 0)) tm h [] with
    | none => rfl
    | some p =>
      obtain ⟨tm1, h1⟩ := p
      simp only []
      cases looseOf (beforeL ops []) (actsOf ops 0) with
      | none => rfl
      | some q => rfl

variable (ih : IH)
theorem stepX_eq (F : AF) (h : AH) : stepX T ih F h = stepF T ih F h := by
  obtain ⟨fn, tm, todo, dfs, ret, rnd⟩ := F
  cases ret with
  | true =>
    cases dfs with
    | nil => rfl
    | cons d ds => rfl
  | false =>
    cases todo with
    | nil => rfl
    | cons i k =>
      cases i with
      | code c =>
        cases c with
        | region id ops draw =>
          cases draw with
          | true =>
            have e1 : stepX T ih ⟨fn, tm, .code (.region id ops true) :: k, dfs, false, rnd⟩ h = Option.rec (motive := fun _ => RT) none (fun p => Prod.rec (motive := fun _ => RT) (fun tm1 h1 => ih ⟨fn, tm1, k, dfs, false, rnd⟩ h1) p) (regAllX T (exA T ih) ops.toList tm h) := rfl
            have e2 : stepF T ih ⟨fn, tm, .code (.region id ops true) :: k, dfs, false, rnd⟩ h = (match regAll T (exA T ih) ops.toList tm h with
              | some (tm1, h1) => ih ⟨fn, tm1, k, dfs, false, rnd⟩ h1
              | none => none) := rfl
            rw [e1, e2, regAllX_eq]
            cases regAll T (exA T ih) ops.toList tm h <;> rfl
          | false =>
            have e1 : stepX T ih ⟨fn, tm, .code (.region id ops false) :: k, dfs, false, rnd⟩ h = Option.rec (motive := fun _ => RT) none (fun p => Prod.rec (motive := fun _ => RT) (fun tm1 q => Prod.rec (motive := fun _ => RT) (fun ds1 h1 => ih ⟨fn, tm1, k, ds1, false, rnd⟩ h1) q) p) (regSX T (exA T ih) rnd.isSome ops.toList ops.toList tm dfs h) := rfl
            have e2 : stepF T ih ⟨fn, tm, .code (.region id ops false) :: k, dfs, false, rnd⟩ h = (match regS T (exA T ih) rnd.isSome ops.toList ops.toList tm dfs h with
              | some (tm1, ds1, h1) => ih ⟨fn, tm1, k, ds1, false, rnd⟩ h1
              | none => none) := rfl
            rw [e1, e2, regSX_eq]
            cases regS T (exA T ih) rnd.isSome ops.toList ops.toList tm dfs h <;> rfl
        | _ => rfl
      | _ => rfl

theorem runX_eq : ∀ n, runX T n = runF T n
  | 0 => rfl
  | n + 1 => by
    funext F h
    show stepX T (runX T n) F h = stepF T (runF T n) F h
    rw [runX_eq n, stepX_eq]
theorem callX_eq (n f : Nat) (args : List AV) (h : AH) : callX T n f args h = callF T n f args h := by
  unfold callX callF
  rw [runX_eq]
  all_goals (cases enterF T f args <;> rfl)
end

end Go.Proofs.YtednkkcmboahgaaGreatDoor

/- A checked run: a whole call, by the quick words. -/
namespace Go.Proofs.YtednkkcmboahgaaGreatDoor
open Go.RowKit

/-- What a call does, whatever is drawn. -/
theorem callX_ok {P : Program} {T : Tab} (hT : TabOk P T) {E : Nat → Int} (hE : Env T.bd E) {B n f : Nat} {args : List AV} {h h1 : AH} {a : AV} {ι : Pl} {w : World} {as : Array Value} (e : callX T n f args h = some (a, h1)) (ha : VL E ι args as.toList) (r : Rel T B E ι h w) :
    Calls P f as w fun e w' => ∃ κ v, e = .returned v ∧ V E κ a v ∧ Go B ι h w κ h1 w' ∧ Rel T B E κ h1 w' :=
  callF_ok hT hE (fun _ hS => regD_ok hT hE hS) (by rw [← callX_eq]; exact e) ha r

end Go.Proofs.YtednkkcmboahgaaGreatDoor

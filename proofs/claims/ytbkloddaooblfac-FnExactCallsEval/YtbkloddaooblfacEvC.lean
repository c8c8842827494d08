/-
  The walk of impl's CallsEval.
-/
import Derived.Test.YtbkloddaooblfacEvO
namespace Go.Proofs.Ytbkloddaooblfac
open Go.RowKit Go.Shelf

attribute [local go_sem] Oper.semAt_some

def ceAsg : Array Oper := #[{ dst := some 3, op := Op.alloc 56, type := 0, pos := "l06_scope.go:30", after := #[], guard := none },
  { dst := none, op := Op.store 56 (Operand.tmp 3) (Operand.tmp 6), type := 0, pos := "l06_scope.go:30", after := #[{ on := 0, ground := Ground.data }, { on := 0, ground := Ground.phase }], guard := none }]
def ceBody : Code := Code.block 1
  ((Code.region 3
        #[{ dst := some 7, op := Op.load 56 (Operand.tmp 3), type := 56, pos := "l06_scope.go:31", after := #[], guard := none },
          { dst := some 8, op := Op.call { callee := Callee.value (Operand.func 62), args := #[Operand.tmp 7], argTypes := #[56] }, type := 4, pos := "l06_scope.go:31", after := #[{ on := 0, ground := Ground.data }], guard := none }]
        false).seq
    (Code.cond (Operand.tmp 8)
      ((Code.region 4 #[{ dst := none, op := Op.store 4 (Operand.tmp 2) (Operand.const (Value.bool true)), type := 0, pos := "l06_scope.go:32", after := #[], guard := none }] false).seq Code.ret)
      Code.skip))

/-- The loop's record. -/
def ceRec (fn : FuncId) (tm : Array Value) (D : Nat) (st : LoopState) (pe : Option Code) : Loop := { state := st, pending := pe, fn, tmps := tm, params := #[6], assign := Code.region 2 ceAsg false, body := ceBody, defers := D }
structure CeR (w : World) (B l D r : Nat) (rc : Loop) (v : Bool) (W : World) : Prop where
  bel : Below w.heap.size w W
  sz : B ≤ W.heap.size
  lp : W.heap[l]? = some (.loop rc)
  df : W.heap[D]? = some (.deferred (some []))
  bx : Boxed W r 4 (.bool v)
theorem CeR.keep {w : World} {B l D r : Nat} {rc : Loop} {v : Bool} {W W' : World} (h : CeR w B l D r rc v W) (hb : Below B W W') (h1 : w.heap.size ≤ B) (h2 : l < B) (h3 : D < B) (h4 : r < B) : CeR w B l D r rc v W' :=
  ⟨h.bel.trans (hb.mono h1), Nat.le_trans h.sz hb.size, (hb.block _ h2).trans h.lp, (hb.block _ h3).trans h.df, (hb.block _ h4).trans h.bx⟩
theorem CeR.put {w : World} {B l D r : Nat} {rc rc' : Loop} {v : Bool} {W : World} (h : CeR w B l D r rc v W) (h1 : w.heap.size ≤ l) : CeR w B l D r rc' v (W.putObj l (.loop rc')) := by
  have hD : D ≠ l := fun e => by have := h.df; rw [e, h.lp] at this; cases this
  have hr : r ≠ l := fun e => by have := h.bx; rw [e] at this; exact absurd (h.lp.symm.trans this) (by simp)
  exact ⟨h.bel.trans ((Below.refl _ W).grown (grownBy_putObj' W l _) h.bel.size (fun k e => by cases e; exact h1)), by simpa using h.sz, World.putObj_heap_same (Array.getElem?_eq_some_iff.1 h.lp).1, (World.putObj_heap_other hD).trans h.df, (World.putObj_heap_other hr).trans h.bx⟩
theorem CeR.alloc {w : World} {B l D r : Nat} {rc : Loop} {v : Bool} {W : World} (h : CeR w B l D r rc v W) (ob : Obj) : CeR w B l D r rc v (W.alloc ob) :=
  ⟨h.bel.alloc h.bel.size ob, by have := h.sz; simp; omega, (Below.heap_alloc _ _ _ (Array.getElem?_eq_some_iff.1 h.lp).1).trans h.lp, (Below.heap_alloc _ _ _ (Array.getElem?_eq_some_iff.1 h.df).1).trans h.df, h.bx.alloc ob⟩
theorem CeR.set {w : World} {B l D r : Nat} {rc : Loop} {v : Bool} {W : World} (h : CeR w B l D r rc v W) (h1 : w.heap.size ≤ r) (u : Bool) : CeR w B l D r rc u (W.setCell ⟨r, 0, none⟩ (.bool u)) := by
  have hl : l ≠ r := fun e => by have := h.bx; rw [← e] at this; exact absurd (h.lp.symm.trans this) (by simp)
  have hD : D ≠ r := fun e => by have := h.bx; rw [← e] at this; exact absurd (h.df.symm.trans this) (by simp)
  exact ⟨h.bel.setCell h1 _, by have := h.sz; simpa [World.setCell] using this, (Below.heap_setCell _ _ _ _ hl).trans h.lp, (Below.heap_setCell _ _ _ _ hD).trans h.df, h.bx.set _⟩
theorem KY.put {W : World} {l : Nat} {rc rc' : Loop} (h : W.heap[l]? = some (.loop rc)) : KY W (W.putObj l (.loop rc')) :=
  ⟨rfl, rfl, rfl, by simp, fun k o hk hn => (World.putObj_heap_other (fun e => by subst e; rw [h] at hk; cases hk; exact hn _ rfl)).trans hk⟩
theorem KY.trans {a b c : World} (h : KY a b) (k : KY b c) : KY a c := ⟨k.os.trans h.os, k.tape.trans h.tape, k.output.trans h.output, Nat.le_trans h.size k.size, fun i o hi h1 => k.block i o (h.block i o hi h1) h1⟩
theorem KY.of_below {w w' : World} (h : Below w.heap.size w w') : KY w w' := ⟨h.os, h.tape, h.output, h.size, fun k _ hk _ => (h.block k (Array.getElem?_eq_some_iff.1 hk).1).trans hk⟩
theorem KZ.trans {B : Nat} {a b c : World} (h : KZ B a b) (k : KZ B b c) : KZ B a c := ⟨Nat.le_trans h.size k.size, fun i o hB hi => k.block i o hB (h.block i o hB hi)⟩
theorem KZ.of_below {B : Nat} {w w' : World} (h : Below w.heap.size w w') : KZ B w w' := ⟨h.size, fun k _ _ hk => (h.block k (Array.getElem?_eq_some_iff.1 hk).1).trans hk⟩
theorem KZ.put {B l : Nat} (w : World) (ob : Obj) (h : l < B) : KZ B w (w.putObj l ob) := ⟨by simp, fun k o hB hk => (World.putObj_heap_other (by omega)).trans hk⟩
theorem KZ.set {B r : Nat} (w : World) (u : Value) (h : r < B) : KZ B w (w.setCell ⟨r, 0, none⟩ u) := ⟨by simp [World.setCell], fun k o hB hk => (Below.heap_setCell _ _ _ _ (by simp; omega)).trans hk⟩

set_option maxHeartbeats 4000000 in
set_option maxRecDepth 100000 in
/-- What a round of CallsEval's loop does. -/
theorem ceYOK (fn : FuncId) (w : World) (B l D r : Nat) (x0 x1 x3 x4 x5 x6 x7 x8 : Value) (hwB : w.heap.size ≤ B) (hl : l < B) (hD : D < B) (hr : r < B) (hwl : w.heap.size ≤ l) (hwr : w.heap.size ≤ r) :
    YOK l B (CeR w B l D r (ceRec fn #[x0, x1, .pointer (some ⟨r, 0, none⟩), x3, x4, x5, x6, x7, x8] D .ready none) false) (CeR w B l D r (ceRec fn #[x0, x1, .pointer (some ⟨r, 0, none⟩), x3, x4, x5, x6, x7, x8] D .done (some .ret)) true) := by
  refine ⟨fun W W' h hb => h.keep hb hwB hl hD hr, fun W W' h hb => h.keep hb hwB hl hD hr, ?_⟩
  intro m t c fp W hC hz hin
  obtain ⟨PP, hPP⟩ : ∃ PP : Ending → World → Prop, PP = fun e W' =>
    (e = .returned (.bool true) ∧ evalT t = false ∧ CeR w B l D r (ceRec fn #[x0, x1, .pointer (some ⟨r, 0, none⟩), x3, x4, x5, x6, x7, x8] D .ready none) false W' ∧ KY W W') ∨ (e = .returned (.bool false) ∧ evalT t = true ∧ CeR w B l D r (ceRec fn #[x0, x1, .pointer (some ⟨r, 0, none⟩), x3, x4, x5, x6, x7, x8] D .done (some .ret)) true W' ∧ KZ B W W') := ⟨_, rfl⟩
  rw [← hPP]
  refine ⟨fn, _, _, _, run_yield hC.lp rfl, roundIn_of_wpIn trivial ?_⟩
  have HC : Hid (CeR w B l D r (ceRec fn #[x0, x1, .pointer (some ⟨r, 0, none⟩), x3, x4, x5, x6, x7, x8] D .ready none) false W) := hC
  have HN : Hid (szT t ≤ 1048576 ∧ NIn W 0 t c fp) := ⟨hz, hin⟩
  obtain ⟨EV, hEV⟩ : ∃ EV, EV = evalT t := ⟨_, rfl⟩
  rw [← hEV] at hPP
  have HPP : Hid (PP = fun e W' =>
    (e = .returned (.bool true) ∧ EV = false ∧ CeR w B l D r (ceRec fn #[x0, x1, .pointer (some ⟨r, 0, none⟩), x3, x4, x5, x6, x7, x8] D .ready none) false W' ∧ KY W W') ∨ (e = .returned (.bool false) ∧ EV = true ∧ CeR w B l D r (ceRec fn #[x0, x1, .pointer (some ⟨r, 0, none⟩), x3, x4, x5, x6, x7, x8] D .done (some .ret)) true W' ∧ KZ B W W')) := hPP
  have HCALL : Hid (∀ V, Keeps 0 W V → Calls Try.prog 62 #[.agg (t.cells c)] V fun e w' => e = .returned (.bool EV) ∧ Below V.heap.size V w') := fun V hk => by
    rw [hEV]; exact iEval t 0 c fp V hz (hin.keep hk)
  clear hC hz hin hEV hPP
  cases t with
  | node k x n ns s ks =>
  unfold PT.cells nodeC at HCALL ⊢
  dsimp only at HCALL ⊢
  unfold ceRec ceAsg
  dsimp only
  gi_wp2
  have h1 := HC.out.alloc (.cells #[.int .i64 k, .string x, .int .i64 n, .slice c.na ns.length c.nc, .bool s, .slice c.ka ks.length c.kc] 56)
  refine ⟨_, run_beginRound h1.lp rfl, ?_⟩
  have h2 := h1.put (rc' := { ceRec fn #[x0, x1, .pointer (some ⟨r, 0, none⟩), x3, x4, x5, x6, x7, x8] D .ready none with state := .busy }) hwl
  have hX : ((W.alloc (.cells #[.int .i64 k, .string x, .int .i64 n, .slice c.na ns.length c.nc, .bool s, .slice c.ka ks.length c.kc] 56)).putObj l (.loop { ceRec fn #[x0, x1, .pointer (some ⟨r, 0, none⟩), x3, x4, x5, x6, x7, x8] D .ready none with state := .busy })).heap[W.heap.size]? = some (.cells #[.int .i64 k, .string x, .int .i64 n, .slice c.na ns.length c.nc, .bool s, .slice c.ka ks.length c.kc] 56 (0, 0)) :=
    (World.putObj_heap_other (by have := (Array.getElem?_eq_some_iff.1 HC.out.lp).1; omega)).trans (World.alloc_heap_new W _)
  have hKY : KY W ((W.alloc (.cells #[.int .i64 k, .string x, .int .i64 n, .slice c.na ns.length c.nc, .bool s, .slice c.ka ks.length c.kc] 56)).putObj l (.loop { ceRec fn #[x0, x1, .pointer (some ⟨r, 0, none⟩), x3, x4, x5, x6, x7, x8] D .ready none with state := .busy })) := (KY.of_below ((Below.refl _ _).alloc (Nat.le_refl _) _)).trans (KY.put h1.lp)
  have hKZ : KZ B W ((W.alloc (.cells #[.int .i64 k, .string x, .int .i64 n, .slice c.na ns.length c.nc, .bool s, .slice c.ka ks.length c.kc] 56)).putObj l (.loop { ceRec fn #[x0, x1, .pointer (some ⟨r, 0, none⟩), x3, x4, x5, x6, x7, x8] D .ready none with state := .busy })) := (KZ.of_below ((Below.refl _ _).alloc (Nat.le_refl _) _)).trans (KZ.put _ _ hl)
  generalize (W.alloc (.cells #[.int .i64 k, .string x, .int .i64 n, .slice c.na ns.length c.nc, .bool s, .slice c.ka ks.length c.kc] 56)).putObj l (.loop { ceRec fn #[x0, x1, .pointer (some ⟨r, 0, none⟩), x3, x4, x5, x6, x7, x8] D .ready none with state := .busy }) = W2 at *
  clear h1
  generalize W.heap.size = X at *
  have hkeep : Keeps 0 W W2 := fun a v _ hv => by
    cases ho : W.heap[a.block]? with
    | none => simp [World.cell?, ho] at hv
    | some ob =>
      have hlp : ∀ rr, ob ≠ .loop rr := fun rr e => by subst e; simp [World.cell?, ho] at hv
      rw [World.cell?_of_block (w := W) ((hKY.block _ _ ho hlp).trans ho.symm)]; exact hv
  have HC2 := HCALL.out W2 hkeep
  have HCC : Hid (CallsIn (Fence.wide.inRound l) (m - 1) Try.prog 62 #[.agg #[.int .i64 k, .string x, .int .i64 n, .slice c.na ns.length c.nc, .bool s, .slice c.ka ks.length c.kc]] W2 fun e w' => e = .returned (.bool EV) ∧ Below W2.heap.size W2 w') := CallsIn.inRound l (callsIn_wide.2 HC2)
  have H2 : Hid (CeR w B l D r { ceRec fn #[x0, x1, .pointer (some ⟨r, 0, none⟩), x3, x4, x5, x6, x7, x8] D .ready none with state := .busy } false W2 ∧ KY W W2 ∧ KZ B W W2) := ⟨h2, hKY, hKZ⟩
  clear HC2 hkeep HCALL HC h2 hKY hKZ HN
  obtain ⟨⟨p0, p1, p2, p3, p4, p5⟩, -⟩ := six_of hX
  have hdd : ∀ q : Nat, ((Fence.wide.inRound l).depth.isSome = true → 1 ≤ q) := fun q h => by cases h
  unfold ceBody
  gi_wp2
  refine ⟨trivial, fun h => (by cases h), HCC.out.mono ?_⟩
  rintro e W3 ⟨rfl, hb3⟩
  clear HCC p0 p1 p2 p3 p4 p5 hX
  have h3 := H2.out.1.keep (hb3.mono H2.out.1.sz) hwB hl hD hr
  have HK3 : Hid (KY W W3 ∧ KZ B W W3) := ⟨H2.out.2.1.trans (KY.of_below hb3), H2.out.2.2.trans (KZ.of_below hb3)⟩
  have hc3 := h3.bx.cell
  have hf3 := h3.bx.frozen
  have H3 : Hid (CeR w B l D r { ceRec fn #[x0, x1, .pointer (some ⟨r, 0, none⟩), x3, x4, x5, x6, x7, x8] D .ready none with state := .busy } false W3) := h3
  clear h3 H2 hb3 W2
  cases EV with
  | true =>
    gi_wp2
    have h4 := H3.out.set hwr true
    refine ⟨_, _, run_endRound (some .ret) h4.lp, ?_⟩
    rw [HPP.out]
    exact .inr ⟨rfl, by trivial, h4.put hwl, (HK3.out.2.trans (KZ.set _ _ hr)).trans (KZ.put _ _ hl)⟩
  | false =>
    gi_wp2
    refine ⟨_, _, run_endRound none H3.out.lp, ?_⟩
    rw [HPP.out]
    exact .inl ⟨rfl, by trivial, H3.out.put hwl, HK3.out.1.trans (KY.put H3.out.lp)⟩

set_option maxHeartbeats 4000000 in
set_option maxRecDepth 100000 in
/-- CallsEval's loop. -/
theorem ceRange (m : Nat) (t : PT) (c : NC) (fp : List Nat) (w w1 : World) (r Bn : Nat) (Q : Exit → Act → World → Prop) (x0 x1 x3 x4 x6 x7 x8 : Value) (hin : NIn w1 0 t c fp) (hz : szT t ≤ 1048576) (hnd : fp.Nodup) (hpl : ∀ x ∈ fp, Plain w1 x) (hb : Below w.heap.size w w1) (hwr : w.heap.size ≤ r) (hbx : Boxed w1 r 4 (.bool false)) (hBn : w1.heap[Bn]? = some (.cells (t.cells c) 56 (0, 0)))
    (hdone : specC t = false → ∀ W D, Below w.heap.size w W → W.heap[D]? = some (.deferred (some [])) → w.heap.size ≤ D → Boxed W r 4 (.bool false) → Q .normal { tmps := #[x0, x1, .pointer (some ⟨r, 0, none⟩), x3, x4, .func (.func 76) #[] #[.pointer (some ⟨Bn, 0, none⟩)], x6, x7, x8], defers := [dmk D] } W)
    (hret : specC t = true → ∀ W D, Below w.heap.size w W → W.heap[D]? = some (.deferred (some [])) → w.heap.size ≤ D → Boxed W r 4 (.bool true) → Code.ret.wpIn Fence.wide m Try.prog Q { tmps := #[x0, x1, .pointer (some ⟨r, 0, none⟩), x3, x4, .func (.func 76) #[] #[.pointer (some ⟨Bn, 0, none⟩)], x6, x7, x8], defers := [dmk D] } W) :
    (Code.rangeFunc (.tmp 5) #[6] (Code.region 2 ceAsg false) ceBody).wpIn Fence.wide m Try.prog Q { tmps := #[x0, x1, .pointer (some ⟨r, 0, none⟩), x3, x4, .func (.func 76) #[] #[.pointer (some ⟨Bn, 0, none⟩)], x6, x7, x8], defers := [] } w1 := by
  refine wpIn_rangeFunc ?_
  intro fn hfn
  have hw1 := hb.size
  have hrl := hbx.lt
  have hBl := (Array.getElem?_eq_some_iff.1 hBn).1
  obtain ⟨tm, htm⟩ : ∃ tm : Array Value, tm = #[x0, x1, .pointer (some ⟨r, 0, none⟩), x3, x4, .func (.func 76) #[] #[.pointer (some ⟨Bn, 0, none⟩)], x6, x7, x8] := ⟨_, rfl⟩
  have hY := ceYOK fn w (w1.heap.size + 1 + 1) (w1.heap.size + 1) w1.heap.size r x0 x1 x3 x4 (.func (.func 76) #[] #[.pointer (some ⟨Bn, 0, none⟩)]) x6 x7 x8 (by omega) (by omega) (by omega) (by omega) (by omega) hwr
  rw [← htm] at hY
  obtain ⟨W1, hW1⟩ : ∃ W1, (w1.alloc (.deferred (some []))).alloc (.loop (ceRec fn tm w1.heap.size .ready none)) = W1 := ⟨_, rfl⟩
  have hL1 : W1.heap[w1.heap.size + 1]? = some (.loop (ceRec fn tm w1.heap.size .ready none)) := by
    rw [← hW1]; have := World.alloc_heap_new (w1.alloc (.deferred (some []))) (.loop (ceRec fn tm w1.heap.size .ready none)); rwa [World.size_alloc] at this
  have hK1 : W1.heap[w1.heap.size]? = some (.deferred (some [])) := by
    rw [← hW1]; exact (Below.heap_alloc _ _ _ (by simp)).trans (World.alloc_heap_new w1 _)
  have hb1 : Below w1.heap.size w1 W1 := by
    rw [← hW1]; exact ((Below.refl _ w1).alloc (Nat.le_refl _) _).alloc (by simp) _
  have hS1 : W1.heap.size = w1.heap.size + 1 + 1 := by rw [← hW1]; simp
  refine ⟨w1.heap.size + 1, [{ target := .collected w1.heap.size, args := #[] }], W1, { target := .fn (.func 76) #[.pointer (some ⟨Bn, 0, none⟩)], args := #[.func (.yield (w1.heap.size + 1)) #[] #[]] }, W1, 76,
    #[.func (.yield (w1.heap.size + 1)) #[] #[]] ++ #[.pointer (some ⟨Bn, 0, none⟩)], W1, ?_, ?_, fun _ _ => trivial, ?_, (fun h => by cases h), ?_⟩
  · rw [← hW1, htm]; exact run_enterLoop_outer _ _ _ _ _
  · simp [resolve, go_sem]
  · simp [invoke, go_sem]
  · refine callsIn_wide.2 ?_
    refine (iOwn1 (w1.heap.size + 1) (w1.heap.size + 1 + 1) _ _ hY t c fp W1 Bn ((hb1.block _ hBl).trans hBn) ⟨hb.trans (hb1.mono hw1), by omega, hL1, hK1, (hb1.block _ hrl).trans hbx⟩ (hin.under hb1) hz hnd (fun x hx => (hpl x hx).under hb1) (by omega)).mono ?_
    rintro e W2 ⟨⟨v, rfl⟩, (⟨hs, hC⟩ | ⟨hs, hC⟩)⟩
    · have hp := hC.put (rc' := { ceRec fn tm w1.heap.size .ready none with state := .exhausted }) (by omega)
      refine ⟨none, _, run_endLoop hC.lp (by simp [ceRec]), hdone hs _ w1.heap.size hp.bel hp.df hw1 hp.bx⟩
    · have hp := hC.put (rc' := { ceRec fn tm w1.heap.size .done (some .ret) with state := .exhausted }) (by omega)
      refine ⟨some .ret, _, run_endLoop hC.lp (by simp [ceRec]), hret hs _ w1.heap.size hp.bel hp.df hw1 hp.bx⟩

set_option maxHeartbeats 4000000 in
set_option maxRecDepth 100000 in
theorem iCallsEval (t : PT) (c : NC) (fp : List Nat) (w : World) (hin : NIn w 0 t c fp) (hz : szT t ≤ 1048576) (hnd : fp.Nodup) (hpl : ∀ x ∈ fp, Plain w x) :
    Calls Try.prog 33 #[.agg (t.cells c)] w fun e w' => e = .returned (.bool (specC t)) ∧ Below w.heap.size w w' := by
  have HIN : Hid (NIn w 0 t c fp ∧ szT t ≤ 1048576 ∧ fp.Nodup ∧ ∀ x ∈ fp, Plain w x) := ⟨hin, hz, hnd, hpl⟩
  have HO : Hid (∀ W, Calls Try.prog 61 #[.agg (t.cells c)] W fun e w' => e = .returned (.func (.func 76) #[] #[.pointer (some ⟨W.heap.size, 0, none⟩)]) ∧ w' = W.alloc (.cells (t.cells c) 56)) := fun W => iOwn t c W
  clear hin hz hnd hpl
  obtain ⟨R0, hR0⟩ : ∃ R0, R0 = specC t := ⟨_, rfl⟩
  rw [← hR0]
  obtain ⟨PP, hPP⟩ : ∃ PP : Ending → World → Prop, PP = fun e w' => e = .returned (.bool R0) ∧ Below w.heap.size w w' := ⟨_, rfl⟩
  rw [← hPP]
  have HR : Hid (R0 = specC t ∧ PP = fun e w' => e = .returned (.bool R0) ∧ Below w.heap.size w w') := ⟨hR0, hPP⟩
  clear hR0 hPP
  obtain ⟨cc, hcc⟩ : ∃ cc, cc = t.cells c := ⟨_, rfl⟩
  have HCC : Hid (cc = t.cells c) := hcc
  cases t with
  | node k x n ns s ks =>
  unfold PT.cells nodeC at HO ⊢
  dsimp only at HO ⊢
  clear hcc
  refine (callsIn_wide (n := 0)).1 ?_
  refine callsIn_of_wp_marks Try.func33 rfl trivial ?_ rfl
  simp only [Try.ntmps33, List.size_toArray, List.length_cons, List.length_nil, Nat.reduceAdd, Nat.reduceSub, Array.replicate_succ, Array.replicate_zero, List.push_toArray, List.append_toArray, List.nil_append, List.cons_append]
  refine wpIn_wide.2 ?_
  go_wp2_with (go_at_call 61; refine (HO.out _).mono ?_; rintro e w9 ⟨rfl, rfl⟩)
  have hb : Below w.heap.size w (((w.alloc (.cells #[.int .i64 k, .string x, .int .i64 n, .slice c.na ns.length c.nc, .bool s, .slice c.ka ks.length c.kc] 56)).alloc (.cells #[.bool false] 4)).alloc (.cells #[.int .i64 k, .string x, .int .i64 n, .slice c.na ns.length c.nc, .bool s, .slice c.ka ks.length c.kc] 56)) := (((Below.refl _ _).alloc (Nat.le_refl _) _).alloc (by simp) _).alloc (by simp; omega) _
  have hbx : Boxed (((w.alloc (.cells #[.int .i64 k, .string x, .int .i64 n, .slice c.na ns.length c.nc, .bool s, .slice c.ka ks.length c.kc] 56)).alloc (.cells #[.bool false] 4)).alloc (.cells #[.int .i64 k, .string x, .int .i64 n, .slice c.na ns.length c.nc, .bool s, .slice c.ka ks.length c.kc] 56)) (w.heap.size + 1) 4 (.bool false) := by
    have := Boxed.new (w.alloc (.cells #[.int .i64 k, .string x, .int .i64 n, .slice c.na ns.length c.nc, .bool s, .slice c.ka ks.length c.kc] 56)) 4 (.bool false)
    rw [World.size_alloc] at this
    exact this.alloc _
  have hBn : (((w.alloc (.cells #[.int .i64 k, .string x, .int .i64 n, .slice c.na ns.length c.nc, .bool s, .slice c.ka ks.length c.kc] 56)).alloc (.cells #[.bool false] 4)).alloc (.cells #[.int .i64 k, .string x, .int .i64 n, .slice c.na ns.length c.nc, .bool s, .slice c.ka ks.length c.kc] 56)).heap[w.heap.size + 1 + 1]? = some (.cells #[.int .i64 k, .string x, .int .i64 n, .slice c.na ns.length c.nc, .bool s, .slice c.ka ks.length c.kc] 56 (0, 0)) := by
    have := World.alloc_heap_new ((w.alloc (.cells #[.int .i64 k, .string x, .int .i64 n, .slice c.na ns.length c.nc, .bool s, .slice c.ka ks.length c.kc] 56)).alloc (.cells #[.bool false] 4)) (.cells #[.int .i64 k, .string x, .int .i64 n, .slice c.na ns.length c.nc, .bool s, .slice c.ka ks.length c.kc] 56)
    simpa only [World.size_alloc] using this
  generalize ((w.alloc _).alloc _).alloc _ = W1 at hb hbx hBn ⊢
  obtain ⟨i1, i2, i3, i4⟩ := HIN.out
  refine (wpIn_wide (n := 0)).1 ?_
  refine ceRange 0 (.node k x n ns s ks) c fp w W1 (w.heap.size + 1) (w.heap.size + 1 + 1) _ _ _ _ _ _ _ _ (i1.under hb) i2 i3 (fun y hy => (i4 y hy).under hb) hb (by omega) hbx hBn ?_ ?_
  · intro hs W D hbW hd hDw hbx2
    have hRf : Hid (R0 = false) := by show _ = _; rw [HR.out.1]; exact hs
    have hcl := hbx2.cell
    have hfz := hbx2.frozen
    clear hb hbx hBn i1 i2 i3 i4
    show Exit.inBlock _ _ _ _ _
    go_wp2_with fail
    have hbx3 := hbx2.set (.bool false)
    have hbW3 := hbW.setCell (p := ⟨w.heap.size + 1, 0, none⟩) (by simp) (.bool false)
    have hd3 : (W.setCell ⟨w.heap.size + 1, 0, none⟩ (.bool false)).heap[D]? = some (.deferred (some [])) := (Below.heap_setCell _ _ _ _ (fun e => by simp at e; rw [e, show W.heap[w.heap.size + 1]? = _ from hbx2] at hd; cases hd)).trans hd
    have hDr : w.heap.size + 1 ≠ D := fun e => by rw [← e, show W.heap[w.heap.size + 1]? = _ from hbx2] at hd; cases hd
    generalize W.setCell ⟨w.heap.size + 1, 0, none⟩ (.bool false) = W3 at *
    have hb4 : Boxed (W3.putObj D (.deferred none)) (w.heap.size + 1) 4 (.bool false) := (World.putObj_heap_other hDr).trans hbx3
    have hc4 := hb4.cell
    refine ⟨by simp, .inl ⟨D, _, rfl, run_takeDeferred hd3, ?_⟩⟩
    refine ⟨.bool false, ?_, ?_⟩
    · simp [results, Try.results33, go_sem, hc4]
    · rw [HR.out.2]
      exact ⟨retB hRf.out.symm, hbW3.trans ((Below.refl _ W3).grown (grownBy_putObj' W3 D _) hbW3.size (fun k e => by cases e; exact hDw))⟩
  · intro hs W D hbW hd hDw hbx2
    have hRt : Hid (R0 = true) := by show _ = _; rw [HR.out.1]; exact hs
    have hcl := hbx2.cell
    clear hb hbx hBn i1 i2 i3 i4
    refine wpIn_wide.2 ?_
    go_wp2_with fail
    have hDr : w.heap.size + 1 ≠ D := fun e => by rw [← e, show W.heap[w.heap.size + 1]? = _ from hbx2] at hd; cases hd
    have hb4 : Boxed (W.putObj D (.deferred none)) (w.heap.size + 1) 4 (.bool true) := (World.putObj_heap_other hDr).trans hbx2
    have hc4 := hb4.cell
    refine ⟨by simp, .inl ⟨D, _, rfl, run_takeDeferred hd, ?_⟩⟩
    refine ⟨.bool true, ?_, ?_⟩
    · simp [results, Try.results33, go_sem, hc4]
    · rw [HR.out.2]
      exact ⟨retB hRt.out.symm, hbW.trans ((Below.refl _ W).grown (grownBy_putObj' W D _) hbW.size (fun k e => by cases e; exact hDw))⟩

end Go.Proofs.Ytbkloddaooblfac

/-
  A checked run from the midst of a function: what goes ahead is walked by hand.
-/
import Derived.Test.YtednkkcmboahgaaGreatDoorRtI
namespace Go.Proofs.YtednkkcmboahgaaGreatDoor
open Go.RowKit

/-- Pieces, one behind the other. -/
def seqL : List Code → Code → Code
  | [], r => r
  | p :: ps, r => .seq p (seqL ps r)
/-- The pieces are walked: each ends, or it returns. -/
def ChainWp (P : Program) (fn : Func) (R : Ending → World → Prop) (F : Act → World → Prop) : List Code → Act → World → Prop
  | [], a, w => F a w
  | p :: ps, a, w => p.wp P (fun e a' w' => match e with
    | .normal => ChainWp P fn R F ps a' w'
    | .ret => bodyPost P fn R .ret a' w'
    | _ => False) a w

theorem chain_steps {P : Program} {fn : Func} {R : Ending → World → Prop} {F : Act → World → Prop} {r : Code} (b : Frame) (cs : List Frame) : ∀ {ps : List Code} {a : Act} {w : World}, ChainWp P fn R F ps a w →
    (∃ a' w', F a' w' ∧ Steps P (lone (b.at a [.code (seqL ps r)]) cs w) (lone (b.at a' [.code r]) cs w')) ∨ (∃ a' w' todo, bodyPost P fn R .ret a' w' ∧ Steps P (lone (b.at a [.code (seqL ps r)]) cs w) (lone { b.at a' todo with mode := .returning } cs w'))
  | [], a, w, h => .inl ⟨a, w, h, Steps.refl _ _⟩
  | p :: ps, a, w, h => by
    obtain ⟨e, a', w', hq, harr⟩ := h b [.code (seqL ps r)] cs
    have h0 : Steps P (lone (b.at a [.code (seqL (p :: ps) r)]) cs w) (lone (b.at a (.code p :: [.code (seqL ps r)])) cs w) := .one step_seq
    cases e with
    | normal =>
      rcases chain_steps b cs hq with ⟨a2, w2, k1, k2⟩ | ⟨a2, w2, todo, k1, k2⟩
      · exact .inl ⟨a2, w2, k1, h0.trans (Steps.trans harr k2)⟩
      · exact .inr ⟨a2, w2, todo, k1, h0.trans (Steps.trans harr k2)⟩
    | ret =>
      obtain ⟨todo, hs⟩ := harr
      exact .inr ⟨a', w', todo, hq, h0.trans hs⟩
    | exit id => exact hq.elim
    | goto l => exact hq.elim
    | panic c => exact hq.elim
    | outgrown => exact hq.elim

/-- From where the pieces end, a checked run goes on. -/
def MidOk (P : Program) (f : Nat) (r : Code) (R : Ending → World → Prop) (a : Act) (w : World) : Prop :=
  a.defers = [] ∧ ∃ T, TabOk P T ∧ ∃ B E ι tm h n x h1, Env T.bd E ∧ TR E ι tm a.tmps ∧ Rel T B E ι h w ∧ runX T n ⟨f, tm, [.code r], [], false, none⟩ h = some (x, h1) ∧ ∀ κ v w2, V E κ x v → Go B ι h w κ h1 w2 → R (.returned v) w2

theorem calls_mid {P : Program} {f : Nat} {fn : Func} {ps : List Code} {r : Code} {args : Array Value} {w : World} {R : Ending → World → Prop} (hf : P.funcs[f]? = some fn) (hb : fn.body = some (seqL ps r))
    (h : ChainWp P fn R (fun a w' => MidOk P f r R a w') ps { tmps := args ++ Array.replicate (fn.ntmps - args.size) undef, defers := [] } w) : Calls P f args w R := by
  intro cs
  let b : Frame := { (default : Frame) with fn := f, kind := .normal }
  have henter : Frame.enter P f args .normal = b.at { tmps := args ++ Array.replicate (fn.ntmps - args.size) undef, defers := [] } [.code (seqL ps r)] := by
    simp [Frame.enter, Frame.at, hf, hb, b]
  rw [henter]
  rcases chain_steps b cs h with ⟨a', w', ⟨hd, T, hT, B, E, ι, tm, hp, n, x, h1, hE, ht, hr, hrun, hR⟩, hs⟩ | ⟨a', w', todo, ⟨hd, v, hres, hR⟩, hs⟩
  · rw [runX_eq] at hrun
    obtain ⟨κ, v, w1, g1, g2, g3, g4⟩ := runF_ok hT hE (fun _ hS => regD_ok hT hE hS) n _ hp x h1 ι w' (b.at a' [.code r]) cs hrun ⟨rfl, ht, ⟨_, _, rfl, rfl, rfl⟩, (by show DL E ι [] a'.defers; rw [hd]; rfl), rfl, rfl, .inl rfl⟩ hr
    obtain ⟨fr, k1, k2, k3, k4, k5, fn', k6, k7⟩ := g4 (.inl rfl)
    exact ⟨.returned v, w1, fr, hR κ v w1 g3 g1, Steps.trans hs k1, k2, k4, k5, k3, fn', k6, k7⟩
  · exact ⟨.returned v, w', _, hR, hs, rfl, rfl, hd, rfl, fn, hf, hres⟩

/-- How a piece ends. -/
def midP (P : Program) (fn : Func) (R : Ending → World → Prop) (K : Act → World → Prop) (e : Exit) (a : Act) (w : World) : Prop := match e with
  | .normal => K a w
  | .ret => bodyPost P fn R .ret a w
  | _ => False
/-- Five pieces ahead. -/
theorem calls_mid5 {P : Program} {f : Nat} {fn : Func} {c0 c1 c2 c3 c4 r : Code} {args : Array Value} {w : World} {R : Ending → World → Prop} (hf : P.funcs[f]? = some fn) (hb : fn.body = some (.seq c0 (.seq c1 (.seq c2 (.seq c3 (.seq c4 r))))))
    (h : c0.wp P (midP P fn R fun a w => c1.wp P (midP P fn R fun a w => c2.wp P (midP P fn R fun a w => c3.wp P (midP P fn R fun a w => c4.wp P (midP P fn R fun a w => MidOk P f r R a w) a w) a w) a w) a w) { tmps := args ++ Array.replicate (fn.ntmps - args.size) undef, defers := [] } w) : Calls P f args w R :=
  calls_mid (ps := [c0, c1, c2, c3, c4]) hf hb h

end Go.Proofs.YtednkkcmboahgaaGreatDoor

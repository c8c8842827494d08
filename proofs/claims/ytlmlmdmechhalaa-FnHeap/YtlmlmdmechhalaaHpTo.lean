/-
  The walks of the law's functions that copy a heap: toProp, toPropS.
-/
import Derived.Test.YtlmlmdmechhalaaHpSz
import Derived.Deep.OwnRows
import Derived.Laws.MakeOwn
namespace Go.Proofs.Ytlmlmdmechhalaa
open Go.RowKit
open Hp (PP OO propC)

theorem six_of {W : World} {b : Nat} {t : TypeId} {v0 v1 v2 v3 v4 v5 : Value} (h : W.heap[b]? = some (.cells #[v0, v1, v2, v3, v4, v5] t (0, 0))) :
    (W.cell? ⟨b, 0, none⟩ = some v0 ∧ W.cell? ⟨b, 1, none⟩ = some v1 ∧ W.cell? ⟨b, 2, none⟩ = some v2 ∧ W.cell? ⟨b, 3, none⟩ = some v3 ∧ W.cell? ⟨b, 4, none⟩ = some v4 ∧ W.cell? ⟨b, 5, none⟩ = some v5) ∧
    (W.frozen? ⟨b, 0, none⟩ = false ∧ W.frozen? ⟨b, 1, none⟩ = false ∧ W.frozen? ⟨b, 2, none⟩ = false ∧ W.frozen? ⟨b, 3, none⟩ = false ∧ W.frozen? ⟨b, 4, none⟩ = false ∧ W.frozen? ⟨b, 5, none⟩ = false) := by
  simp [World.cell?, World.frozen?, h]
theorem Below.rowIs {w w' : World} {b n : Nat} {t : TypeId} {f : Nat → Value} (h : w.rowIs b t n f) (hb : Below w.heap.size w w') : w'.rowIs b t n f := h.of_block (hb.block b h.lt)

def zeroPr : Value := .agg #[.string ByteArray.empty, .int .i64 0, .int .i64 0, .string ByteArray.empty, .bool false, .bool false]
theorem Try.infoProp : (Try.prog.info? 78).map (fun i => (i.zero, i.size, i.bytes)) = some (some zeroPr, 6, 56) := by kernel_rfl
theorem run_makeP (n : Nat) (hn : n ≤ 1048576) (w : World) :
    (Instr.makeSlice 74 (.int .i64 (n : Int)) (.int .i64 (n : Int))).run Try.prog w = .ok (.slice (some ⟨w.heap.size, 0, none⟩) n n) (w.alloc (.cells (madeCells zeroPr.cells (n * 6)) 78)) := by
  obtain ⟨i, hi, hzz⟩ := Option.map_eq_some_iff.1 Try.infoProp
  simp only [Prod.mk.injEq] at hzz
  obtain ⟨hz, hs, hb⟩ := hzz
  have hr := run_make (P := Try.prog) w 74 78 i zeroPr Try.underlying74 hi hz .i64 .i64 n n (by omega) (Int.le_refl _) (by rw [hb]; omega) (by omega)
  simp only [Int.toNat_natCast, hs] at hr
  exact hr
theorem madeRowP (w : World) (n : Nat) : (w.alloc (.cells (madeCells zeroPr.cells (n * 6)) 78)).rowIs w.heap.size 78 (n * 6) (fun j => (madeCells zeroPr.cells (n * 6)).getD j (.int .i64 0)) := by
  refine ⟨_, heap_alloc_new w _, size_madeCells _ _, fun i hi => ?_⟩
  have : i < (madeCells zeroPr.cells (n * 6)).size := by rw [size_madeCells]; exact hi
  simp [Array.getD, this]

def PF (f : Nat → Value) (o : Nat) (p : PP) : Prop := f o = .string p.key ∧ f (o + 1) = .int .i64 p.v.kind ∧ f (o + 2) = .int .i64 p.v.num ∧ f (o + 3) = .string p.v.text ∧ f (o + 4) = .bool p.hid ∧ f (o + 5) = .bool p.fix
/-- The first i of a row of Props that was made. -/
structure PDone (w : World) (g : Nat) (ps : List PP) (i : Nat) (f : Nat → Value) : Prop where
  row : w.rowIs g 78 (ps.length * 6) f
  six : ∀ j (h : j < ps.length), j < i → PF f (j * 6) ps[j]
def PRow (w : World) (g : Nat) (ps : List PP) : Prop := ∃ f, PDone w g ps ps.length f
theorem PRow.lt {w : World} {g : Nat} {ps : List PP} (h : PRow w g ps) : g < w.heap.size := by obtain ⟨f, h⟩ := h; exact h.row.lt
theorem PRow.under {w w' : World} {g : Nat} {ps : List PP} (h : PRow w g ps) (hb : Below w.heap.size w w') : PRow w' g ps := by
  obtain ⟨f, h⟩ := h
  exact ⟨f, Below.rowIs h.row hb, h.six⟩
theorem PRow.other {w : World} {g : Nat} {ps : List PP} (h : PRow w g ps) {a : Addr} (hne : g ≠ a.block) (u : Value) : PRow (w.setCell a u) g ps := by
  obtain ⟨f, h⟩ := h
  exact ⟨f, h.row.of_block (Below.heap_setCell w a u g hne), h.six⟩
theorem PRow.psIn {w : World} {g B : Nat} {ps : List PP} (h : PRow w g ps) (hB : B ≤ g) : PsIn w B (some ⟨g, 0, none⟩) ps := by
  obtain ⟨f, h⟩ := h
  refine .inr ⟨g, 0, rfl, hB, fun i hi => ?_⟩
  obtain ⟨a0, a1, a2, a3, a4, a5⟩ := h.six i hi hi
  have hr := fun p (hp : p < 6) => h.row.cell (i := i * 6 + p) (by omega)
  rw [Nat.zero_add]
  exact ⟨(hr 0 (by omega)).trans (congrArg some a0), (hr 1 (by omega)).trans (congrArg some a1), (hr 2 (by omega)).trans (congrArg some a2), (hr 3 (by omega)).trans (congrArg some a3), (hr 4 (by omega)).trans (congrArg some a4), (hr 5 (by omega)).trans (congrArg some a5)⟩

def setP (w : World) (g o : Nat) (p : PP) : World := (((((w.setCell ⟨g, o, none⟩ (.string p.key)).setCell ⟨g, o + 1, none⟩ (.int .i64 p.v.kind)).setCell ⟨g, o + 2, none⟩ (.int .i64 p.v.num)).setCell ⟨g, o + 3, none⟩ (.string p.v.text)).setCell ⟨g, o + 4, none⟩ (.bool p.hid)).setCell ⟨g, o + 5, none⟩ (.bool p.fix)
theorem setP_below {w W : World} {B : Nat} (h : Below B w W) {g : Nat} (o : Nat) (p : PP) (hb : B ≤ g) : Below B w (setP W g o p) :=
  (((((h.setCell (p := ⟨g, o, none⟩) hb _).setCell (p := ⟨g, o + 1, none⟩) hb _).setCell (p := ⟨g, o + 2, none⟩) hb _).setCell (p := ⟨g, o + 3, none⟩) hb _).setCell (p := ⟨g, o + 4, none⟩) hb _).setCell (p := ⟨g, o + 5, none⟩) hb _
theorem PDone.step {w : World} {g : Nat} {ps : List PP} {i : Nat} {f : Nat → Value} (hD : PDone w g ps i f) (hlt : i < ps.length) : ∃ f, PDone (setP w g (i * 6) ps[i]) g ps (i + 1) f := by
  refine ⟨_, (((((hD.row.set (i * 6) (.string ps[i].key)).set (i * 6 + 1) (.int .i64 ps[i].v.kind)).set (i * 6 + 2) (.int .i64 ps[i].v.num)).set (i * 6 + 3) (.string ps[i].v.text)).set (i * 6 + 4) (.bool ps[i].hid)).set (i * 6 + 5) (.bool ps[i].fix), fun j hj hji => ?_⟩
  by_cases e : j = i
  · subst e
    refine ⟨?_, ?_, ?_, ?_, ?_, ?_⟩ <;> simp
  · obtain ⟨a0, a1, a2, a3, a4, a5⟩ := hD.six j hj (by omega)
    have hne : ∀ p q, p < 6 → q < 6 → ¬ j * 6 + p = i * 6 + q := fun p q _ _ => by omega
    have hs : ∀ p, p < 6 → (fun x => if x = i * 6 + 5 then Value.bool ps[i].fix else if x = i * 6 + 4 then .bool ps[i].hid else if x = i * 6 + 3 then .string ps[i].v.text else if x = i * 6 + 2 then .int .i64 ps[i].v.num else if x = i * 6 + 1 then .int .i64 ps[i].v.kind else if x = i * 6 then .string ps[i].key else f x) (j * 6 + p) = f (j * 6 + p) := fun p hp => by
      have h0 : ¬ j * 6 + p = i * 6 := hne p 0 hp (by omega)
      simp only [if_neg (hne p 5 hp (by omega)), if_neg (hne p 4 hp (by omega)), if_neg (hne p 3 hp (by omega)), if_neg (hne p 2 hp (by omega)), if_neg (hne p 1 hp (by omega)), if_neg h0]
    exact ⟨(hs 0 (by omega)).trans a0, (hs 1 (by omega)).trans a1, (hs 2 (by omega)).trans a2, (hs 3 (by omega)).trans a3, (hs 4 (by omega)).trans a4, (hs 5 (by omega)).trans a5⟩

set_option maxHeartbeats 2000000 in
theorem lToProp (p : PP) (w : World) : Calls Try.prog 91 #[.agg (propC p)] w fun e w' => e = .returned (.agg (propC p)) ∧ Below w.heap.size w w' := by
  obtain ⟨key, ⟨k, n, t⟩, hd, fx⟩ := p
  have C1 := fun (W : World) => lToValue ⟨k, n, t⟩ W
  have H1 : Hid (∀ W, Calls Try.prog 30 #[.agg #[.int .i64 k, .int .i64 n, .string t]] W fun e w' => e = .returned (.agg #[.int .i64 k, .int .i64 n, .string t]) ∧ Below W.heap.size W w') := C1
  clear C1
  unfold propC
  dsimp only
  have HB0 : Hid (∀ o1 o2 o3, Below w.heap.size w (((w.alloc o1).alloc o2).alloc o3)) := fun o1 o2 o3 => (((Below.refl _ _).alloc (Nat.le_refl _) o1).alloc (by simp) o2).alloc (by simp; omega) o3
  go_enter Try.func91, Try.ntmps91
  go_wp2_with fail
  generalize hW0 : ((w.alloc _).alloc _).alloc _ = W0
  have hP : W0.heap[w.heap.size]? = some (.cells #[.string key, .int .i64 k, .int .i64 n, .string t, .bool hd, .bool fx] 143 (0, 0)) := by
    rw [← hW0, Below.heap_alloc _ _ _ (by simp; omega), Below.heap_alloc _ _ _ (by simp)]; exact heap_alloc_new _ _
  have hR : W0.heap[w.heap.size + 1]? = some (.cells #[.string ⟨#[]⟩, .int .i64 0, .int .i64 0, .string ⟨#[]⟩, .bool false, .bool false] 78 (0, 0)) := by
    rw [← hW0, Below.heap_alloc _ _ _ (by simp), ← World.size_alloc w]; exact heap_alloc_new _ _
  have hO : W0.heap[w.heap.size + 1 + 1]? = some (.cells #[.string key, .int .i64 0, .int .i64 0, .string ⟨#[]⟩, .bool false, .bool false] 78 (0, 0)) := by
    rw [← hW0]
    have := heap_alloc_new ((w.alloc (.cells #[.string key, .int .i64 k, .int .i64 n, .string t, .bool hd, .bool fx] 143)).alloc (.cells #[.string ⟨#[]⟩, .int .i64 0, .int .i64 0, .string ⟨#[]⟩, .bool false, .bool false] 78)) (.cells #[.string key, .int .i64 0, .int .i64 0, .string ⟨#[]⟩, .bool false, .bool false] 78)
    simpa only [World.size_alloc] using this
  have hBW : Below w.heap.size w W0 := by rw [← hW0]; exact HB0.out _ _ _
  have hS0 : W0.heap.size = w.heap.size + 1 + 1 + 1 := by rw [← hW0]; simp
  clear hW0
  refine (H1.out W0).mono ?_
  rintro e W1 ⟨rfl, hb1⟩
  have hsz1 := hb1.size
  replace hP := (hb1.block _ (by omega)).trans hP
  replace hR := (hb1.block _ (by omega)).trans hR
  replace hO := (hb1.block _ (by omega)).trans hO
  have hbf : Below w.heap.size w W1 := hBW.trans (hb1.mono (by omega))
  have HBF : Hid (Below w.heap.size w W1) := hbf
  obtain ⟨⟨p0, p1, p2, p3, p4, p5⟩, _⟩ := six_of hP
  obtain ⟨⟨o0, o1, o2, o3, o4, o5⟩, f0, f1, f2, f3, f4, f5⟩ := six_of hO
  obtain ⟨⟨r0, r1, r2, r3, r4, r5⟩, e0, e1, e2, e3, e4, e5⟩ := six_of hR
  clear hO hR hP hBW hb1 hbf HB0 H1
  go_wp2_with fail
  refine bodyPost_ret (v := .agg #[.string key, .int .i64 k, .int .i64 n, .string t, .bool hd, .bool fx]) (by simp [results, Try.results91, go_sem, r0, r1, r2, r3, r4, r5]) rfl ⟨rfl, ?_⟩
  have hO : ∀ W, Below w.heap.size w W → ∀ j u, Below w.heap.size w (W.setCell ⟨w.heap.size + 1 + 1, j, none⟩ u) := fun W h j u => h.setCell (by simp; omega) u
  have hR : ∀ W, Below w.heap.size w W → ∀ j u, Below w.heap.size w (W.setCell ⟨w.heap.size + 1, j, none⟩ u) := fun W h j u => h.setCell (by simp) u
  exact hR _ (hR _ (hR _ (hR _ (hR _ (hR _ (hO _ (hO _ (hO _ (hO _ (hO _ HBF.out _ _) _ _) _ _) _ _) _ _) _ _) _ _) _ _) _ _) _ _) _ _

set_option maxHeartbeats 2000000 in
theorem lToPropS (a : Option Addr) (cap B : Nat) (ps : List PP) (w : World) (hn : ps.length ≤ 1048576) (h : PsIn w B a ps) :
    Calls Try.prog 86 #[.slice a ps.length cap] w fun e w' => e = .returned (.slice (some ⟨w.heap.size, 0, none⟩) ps.length ps.length) ∧ Below w.heap.size w w' ∧ PRow w' w.heap.size ps := by
  have hmk := run_makeP ps.length hn
  have HB0 : Hid (∀ o, Below w.heap.size w (w.alloc o)) := fun o => (Below.refl _ _).alloc (Nat.le_refl _) o
  have HD0 : Hid (PDone (w.alloc (.cells (madeCells zeroPr.cells (ps.length * 6)) 78)) w.heap.size ps 0 (fun j => (madeCells zeroPr.cells (ps.length * 6)).getD j (.int .i64 0))) := ⟨madeRowP w ps.length, fun j _ h => by omega⟩
  generalize madeCells zeroPr.cells (ps.length * 6) = mc at *
  rcases h with rfl | ⟨b, o, rfl, hB, hc⟩
  · clear hn
    simp only [List.length_nil, Int.natCast_zero] at hmk HD0 ⊢
    go_enter Try.func86, Try.ntmps86
    go_wp2
    refine wp_loop_rounds 1 ?_
    rw [rounds_succ]
    go_wp2
    go_ret
    exact ⟨rfl, HB0.out _, _, HD0.out⟩
  · have HC : Hid (∀ i (h : i < ps.length), PAt w b (o + i * 6) ps[i]) := hc
    clear hc
    go_enter Try.func86, Try.ntmps86
    go_wp2
    go_loopw [4] (fun vi wr => ∃ i : Nat, i ≤ ps.length ∧ vi = .int .i64 i ∧ Below w.heap.size w wr ∧ ∃ f, PDone wr w.heap.size ps i f) (fun vi _ => ps.length - (intOf vi).toNat)
    case atStart => exact ⟨0, Nat.zero_le _, rfl, HB0.out _, _, HD0.out⟩
    case round =>
      obtain ⟨i, hi, rfl, hb, f, hD⟩ := hrel
      by_cases hlt : i < ps.length
      · have h6 := (HC.out i hlt).keep hB (.of_below hb B)
        have hcall := lToProp ps[i] wr
        have hlt' : (i : Int) < (ps.length : Int) := by omega
        have hstep : ∀ w1, Below wr.heap.size wr w1 → ∃ f, PDone (setP w1 w.heap.size (i * 6) ps[i]) w.heap.size ps (i + 1) f := fun w1 hb1 => (PDone.mk (Below.rowIs hD.row hb1) hD.six).step hlt
        have hrow0 := hD.row
        clear hD
        generalize ps[i] = x at *
        obtain ⟨key, ⟨k, n, t⟩, hd, fx⟩ := x
        obtain ⟨h60, h61, h62, h63, h64, h65⟩ := h6
        dsimp only at h60 h61 h62 h63 h64 h65
        have HCALL : Hid (Calls Try.prog 91 #[.agg #[.string key, .int .i64 k, .int .i64 n, .string t, .bool hd, .bool fx]] wr fun e w' => e = .returned (.agg #[.string key, .int .i64 k, .int .i64 n, .string t, .bool hd, .bool fx]) ∧ Below wr.heap.size wr w') := hcall
        have HST : Hid (∀ w1, Below wr.heap.size wr w1 → ∃ f, PDone (setP w1 w.heap.size (i * 6) ⟨key, ⟨k, n, t⟩, hd, fx⟩) w.heap.size ps (i + 1) f) := hstep
        have HROW : Hid (wr.rowIs w.heap.size 78 (ps.length * 6) f) := hrow0
        clear hcall hstep hrow0
        go_wp2_with fail
        refine HCALL.out.mono ?_
        rintro e w1 ⟨rfl, hb1⟩
        have hrow := Below.rowIs HROW.out hb1
        have q0 := hrow.cell (i := i * 6) (by omega)
        have q1 := hrow.cell (i := i * 6 + 1) (by omega)
        have q2 := hrow.cell (i := i * 6 + 2) (by omega)
        have q3 := hrow.cell (i := i * 6 + 3) (by omega)
        have q4 := hrow.cell (i := i * 6 + 4) (by omega)
        have q5 := hrow.cell (i := i * 6 + 5) (by omega)
        have r0 := hrow.frozen (i * 6)
        have r1 := hrow.frozen (i * 6 + 1)
        have r2 := hrow.frozen (i * 6 + 2)
        have r3 := hrow.frozen (i * 6 + 3)
        have r4 := hrow.frozen (i * 6 + 4)
        have r5 := hrow.frozen (i * 6 + 5)
        clear h60 h61 h62 h63 h64 h65 hrow
        go_wp2_with fail
        have hDn := HST.out w1 hb1
        have hbb : Below w.heap.size w w1 := hb.trans (hb1.mono hb.size)
        exact ⟨⟨i + 1, by omega, by go_num, setP_below hbb (i * 6) ⟨key, ⟨k, n, t⟩, hd, fx⟩ (Nat.le_refl _), hDn⟩, by simp [intOf]; omega⟩
      · have hil : i = ps.length := by omega
        subst hil
        go_wp2_with fail
        go_ret
        exact ⟨rfl, hb, f, hD⟩

end Go.Proofs.Ytlmlmdmechhalaa

/-
  The walks of the law's functions that copy a heap: toObject, toObjectS, toHeap.
-/
import Derived.Test.YtlmlmdmechhalaaHpTo
namespace Go.Proofs.Ytlmlmdmechhalaa
open Go.RowKit
open Hp (PP OO propC)

theorem three_of {W : World} {b : Nat} {t : TypeId} {v0 v1 v2 : Value} (h : W.heap[b]? = some (.cells #[v0, v1, v2] t (0, 0))) :
    (W.cell? ⟨b, 0, none⟩ = some v0 ∧ W.cell? ⟨b, 1, none⟩ = some v1 ∧ W.cell? ⟨b, 2, none⟩ = some v2) ∧ (W.frozen? ⟨b, 0, none⟩ = false ∧ W.frozen? ⟨b, 1, none⟩ = false ∧ W.frozen? ⟨b, 2, none⟩ = false) := by
  simp [World.cell?, World.frozen?, h]

theorem one_of {W : World} {b : Nat} {t : TypeId} {v0 : Value} (h : W.heap[b]? = some (.cells #[v0] t (0, 0))) : W.cell? ⟨b, 0, none⟩ = some v0 ∧ W.frozen? ⟨b, 0, none⟩ = false := by
  simp [World.cell?, World.frozen?, h]

def zeroOb : Value := .agg #[.int .i64 0, .int .i64 0, .slice none 0 0]
theorem Try.infoObject : (Try.prog.info? 76).map (fun i => (i.zero, i.size, i.bytes)) = some (some zeroOb, 3, 40) := by kernel_rfl
theorem run_makeO (n : Nat) (hn : n ≤ 1048576) (w : World) :
    (Instr.makeSlice 23 (.int .i64 (n : Int)) (.int .i64 (n : Int))).run Try.prog w = .ok (.slice (some ⟨w.heap.size, 0, none⟩) n n) (w.alloc (.cells (madeCells zeroOb.cells (n * 3)) 76)) := by
  obtain ⟨i, hi, hzz⟩ := Option.map_eq_some_iff.1 Try.infoObject
  simp only [Prod.mk.injEq] at hzz
  obtain ⟨hz, hs, hb⟩ := hzz
  have hr := run_make (P := Try.prog) w 23 76 i zeroOb Try.underlying23 hi hz .i64 .i64 n n (by omega) (Int.le_refl _) (by rw [hb]; omega) (by omega)
  simp only [Int.toNat_natCast, hs] at hr
  exact hr
theorem madeRowO (w : World) (n : Nat) : (w.alloc (.cells (madeCells zeroOb.cells (n * 3)) 76)).rowIs w.heap.size 76 (n * 3) (fun j => (madeCells zeroOb.cells (n * 3)).getD j (.int .i64 0)) := by
  refine ⟨_, heap_alloc_new w _, size_madeCells _ _, fun i hi => ?_⟩
  have : i < (madeCells zeroOb.cells (n * 3)).size := by rw [size_madeCells]; exact hi
  simp [Array.getD, this]

def OF (f : Nat → Value) (o : Nat) (x : OO) (c : OC) : Prop := f o = .int .i64 x.cls ∧ f (o + 1) = .int .i64 x.pro ∧ f (o + 2) = .slice c.pa x.ps.length c.pc
/-- The first i of a row of Objects that was made: gs, the blocks of their Props. -/
structure ODone (w : World) (g : Nat) (h : List OO) (i : Nat) (f : Nat → Value) (cs : Nat → OC) (gs : Nat → Nat) : Prop where
  row : w.rowIs g 76 (h.length * 3) f
  three : ∀ j (hj : j < h.length), j < i → OF f (j * 3) h[j] (cs j)
  pa : ∀ j, j < i → (cs j).pa = some ⟨gs j, 0, none⟩ ∧ g < gs j
  props : ∀ j (hj : j < h.length), j < i → PRow w (gs j) h[j].ps
  mono : ∀ j k, j < k → k < i → gs j < gs k
  cap : ∀ j (hj : j < h.length), j < i → (cs j).pc = h[j].ps.length
/-- A heap that was made: its objects in block g, their Props in blocks behind it, one a row. -/
def HRow (w : World) (g : Nat) (h : List OO) (cs : Nat → OC) (gs : Nat → Nat) : Prop := ∃ f, ODone w g h h.length f cs gs
theorem HRow.under {w w' : World} {g : Nat} {h : List OO} {cs : Nat → OC} {gs : Nat → Nat} (k : HRow w g h cs gs) (hb : Below w.heap.size w w') : HRow w' g h cs gs := by
  obtain ⟨f, k⟩ := k
  exact ⟨f, Below.rowIs k.row hb, k.three, k.pa, fun j hj hji => (k.props j hj hji).under hb, k.mono, k.cap⟩
theorem HRow.other {w : World} {g : Nat} {h : List OO} {cs : Nat → OC} {gs : Nat → Nat} (k : HRow w g h cs gs) {a : Addr} (ha : a.block < g) (u : Value) : HRow (w.setCell a u) g h cs gs := by
  obtain ⟨f, k⟩ := k
  exact ⟨f, k.row.of_block (Below.heap_setCell w a u g (by omega)), k.three, k.pa, fun j hj hji => (k.props j hj hji).other (by have := (k.pa j hji).2; omega) u, k.mono, k.cap⟩
theorem HRow.hIn {w : World} {g B : Nat} {h : List OO} {cs : Nat → OC} {gs : Nat → Nat} (k : HRow w g h cs gs) (hB : B ≤ g) : HIn w B (some ⟨g, 0, none⟩) h cs := by
  obtain ⟨f, k⟩ := k
  refine ⟨.inr ⟨g, 0, rfl, hB, fun i hi => ?_⟩, fun i hi => ?_⟩
  · obtain ⟨a0, a1, a2⟩ := k.three i hi hi
    have hr := fun p (hp : p < 3) => k.row.cell (i := i * 3 + p) (by omega)
    rw [Nat.zero_add]
    exact ⟨(hr 0 (by omega)).trans (congrArg some a0), (hr 1 (by omega)).trans (congrArg some a1), (hr 2 (by omega)).trans (congrArg some a2)⟩
  · rw [(k.pa i hi).1]
    exact (k.props i hi hi).psIn (by have := (k.pa i hi).2; omega)
theorem HRow.caps {w : World} {g : Nat} {h : List OO} {cs : Nat → OC} {gs : Nat → Nat} (k : HRow w g h cs gs) : ∀ i (hi : i < h.length), h[i].ps.length ≤ (cs i).pc := by obtain ⟨f, k⟩ := k; exact fun i hi => by rw [k.cap i hi hi]; exact Nat.le_refl _
theorem HRow.lt {w : World} {g : Nat} {h : List OO} {cs : Nat → OC} {gs : Nat → Nat} (k : HRow w g h cs gs) : g < w.heap.size := by obtain ⟨f, k⟩ := k; exact k.row.lt

def setO (w : World) (g o : Nat) (x : OO) (c : OC) : World := ((w.setCell ⟨g, o, none⟩ (.int .i64 x.cls)).setCell ⟨g, o + 1, none⟩ (.int .i64 x.pro)).setCell ⟨g, o + 2, none⟩ (.slice c.pa x.ps.length c.pc)
theorem setO_below {w W : World} {B : Nat} (h : Below B w W) {g : Nat} (o : Nat) (x : OO) (c : OC) (hb : B ≤ g) : Below B w (setO W g o x c) :=
  ((h.setCell (p := ⟨g, o, none⟩) hb _).setCell (p := ⟨g, o + 1, none⟩) hb _).setCell (p := ⟨g, o + 2, none⟩) hb _
theorem ODone.step {w w1 : World} {g : Nat} {h : List OO} {i : Nat} {f : Nat → Value} {cs : Nat → OC} {gs : Nat → Nat} (hD : ODone w g h i f cs gs) (hb1 : Below w.heap.size w w1) (hlt : i < h.length) {b : Nat} (hb : w.heap.size ≤ b) (hp : PRow w1 b h[i].ps) :
    ∃ f cs gs, ODone (setO w1 g (i * 3) h[i] ⟨some ⟨b, 0, none⟩, h[i].ps.length⟩) g h (i + 1) f cs gs := by
  have hg := hD.row.lt
  refine ⟨_, fun j => if j = i then ⟨some ⟨b, 0, none⟩, h[i].ps.length⟩ else cs j, fun j => if j = i then b else gs j, (((Below.rowIs hD.row hb1).set (i * 3) (.int .i64 h[i].cls)).set (i * 3 + 1) (.int .i64 h[i].pro)).set (i * 3 + 2) (.slice (some ⟨b, 0, none⟩) h[i].ps.length h[i].ps.length), fun j hj hji => ?_, fun j hji => ?_, fun j hj hji => ?_, fun j k hjk hki => ?_, fun j hj hji => ?_⟩
  · by_cases e : j = i
    · subst e
      simp only [if_true]
      refine ⟨?_, ?_, ?_⟩ <;> simp
    · obtain ⟨a0, a1, a2⟩ := hD.three j hj (by omega)
      simp only [if_neg e]
      have hne : ∀ p q, p < 3 → q < 3 → ¬ j * 3 + p = i * 3 + q := fun p q _ _ => by omega
      have hs : ∀ p, p < 3 → (fun x => if x = i * 3 + 2 then Value.slice (some ⟨b, 0, none⟩) h[i].ps.length h[i].ps.length else if x = i * 3 + 1 then .int .i64 h[i].pro else if x = i * 3 then .int .i64 h[i].cls else f x) (j * 3 + p) = f (j * 3 + p) := fun p hp => by
        have h0 : ¬ j * 3 + p = i * 3 := hne p 0 hp (by omega)
        simp only [if_neg (hne p 2 hp (by omega)), if_neg (hne p 1 hp (by omega)), if_neg h0]
      exact ⟨(hs 0 (by omega)).trans a0, (hs 1 (by omega)).trans a1, (hs 2 (by omega)).trans a2⟩
  · by_cases e : j = i
    · simp only [if_pos e]; exact ⟨trivial, by omega⟩
    · simp only [if_neg e]; exact hD.pa j (by omega)
  · have key : ∀ c, g ≠ c → ∀ q, PRow w1 c q → PRow (setO w1 g (i * 3) h[i] ⟨some ⟨b, 0, none⟩, h[i].ps.length⟩) c q := fun c hc q hq => ((hq.other (a := ⟨g, i * 3, none⟩) (fun e => hc e.symm) _).other (a := ⟨g, i * 3 + 1, none⟩) (fun e => hc e.symm) _).other (a := ⟨g, i * 3 + 2, none⟩) (fun e => hc e.symm) _
    by_cases e : j = i
    · subst e
      simp only [if_true]
      exact key b (by omega) _ hp
    · simp only [if_neg e]
      exact key _ (by have := (hD.pa j (by omega)).2; omega) _ ((hD.props j hj (by omega)).under hb1)
  · by_cases e : k = i
    · rw [if_neg (by omega), if_pos e]
      have := (hD.props j (by omega) (by omega)).lt
      omega
    · rw [if_neg (by omega), if_neg e]
      exact hD.mono j k hjk (by omega)
  · by_cases e : j = i
    · subst e; simp only [if_true]
    · simp only [if_neg e]; exact hD.cap j hj (by omega)

set_option maxHeartbeats 2000000 in
theorem lToObject (x : OO) (c : OC) (B : Nat) (w : World) (hn : x.ps.length ≤ 1048576) (h : PsIn w B c.pa x.ps) :
    Calls Try.prog 78 #[.agg (objC x c)] w fun e w' => ∃ b, e = .returned (.agg (objC x ⟨some ⟨b, 0, none⟩, x.ps.length⟩)) ∧ Below w.heap.size w w' ∧ w.heap.size ≤ b ∧ PRow w' b x.ps := by
  have C1 := fun (W : World) (hW : Below w.heap.size w W) => lToPropS c.pa c.pc B x.ps W hn (h.under hW)
  obtain ⟨cls, pro, ps⟩ := x
  unfold objC
  dsimp only at C1 ⊢
  generalize c.pa = pa at *
  generalize c.pc = pc at *
  have H1 : Hid (∀ W, Below w.heap.size w W → Calls Try.prog 86 #[.slice pa ps.length pc] W fun e w' => e = .returned (.slice (some ⟨W.heap.size, 0, none⟩) ps.length ps.length) ∧ Below W.heap.size W w' ∧ PRow w' W.heap.size ps) := C1
  have HB0 : Hid (∀ o1 o2 o3, Below w.heap.size w (((w.alloc o1).alloc o2).alloc o3)) := fun o1 o2 o3 => (((Below.refl _ _).alloc (Nat.le_refl _) o1).alloc (by simp) o2).alloc (by simp; omega) o3
  clear C1 h hn
  go_enter Try.func78, Try.ntmps78
  go_wp2_with fail
  generalize hW0 : ((w.alloc _).alloc _).alloc _ = W0
  have hP : W0.heap[w.heap.size]? = some (.cells #[.int .i64 cls, .int .i64 pro, .slice pa ps.length pc] 120 (0, 0)) := by
    rw [← hW0, Below.heap_alloc _ _ _ (by simp; omega), Below.heap_alloc _ _ _ (by simp)]; exact heap_alloc_new _ _
  have hR : W0.heap[w.heap.size + 1]? = some (.cells #[.int .i64 0, .int .i64 0, .slice none 0 0] 76 (0, 0)) := by
    rw [← hW0, Below.heap_alloc _ _ _ (by simp), ← World.size_alloc w]; exact heap_alloc_new _ _
  have hO : W0.heap[w.heap.size + 1 + 1]? = some (.cells #[.int .i64 cls, .int .i64 pro, .slice none 0 0] 76 (0, 0)) := by
    rw [← hW0]
    have := heap_alloc_new ((w.alloc (.cells #[.int .i64 cls, .int .i64 pro, .slice pa ps.length pc] 120)).alloc (.cells #[.int .i64 0, .int .i64 0, .slice none 0 0] 76)) (.cells #[.int .i64 cls, .int .i64 pro, .slice none 0 0] 76)
    simpa only [World.size_alloc] using this
  have hBW : Below w.heap.size w W0 := by rw [← hW0]; exact HB0.out _ _ _
  have hS0 : W0.heap.size = w.heap.size + 1 + 1 + 1 := by rw [← hW0]; simp
  clear hW0
  refine (H1.out W0 hBW).mono ?_
  rintro e W1 ⟨rfl, hb1, hrow⟩
  have hsz1 := hb1.size
  replace hP := (hb1.block _ (by omega)).trans hP
  replace hR := (hb1.block _ (by omega)).trans hR
  replace hO := (hb1.block _ (by omega)).trans hO
  have hbf : Below w.heap.size w W1 := hBW.trans (hb1.mono (by omega))
  have HBF : Hid (Below w.heap.size w W1) := hbf
  have HRW : Hid (PRow W1 W0.heap.size ps) := hrow
  obtain ⟨⟨p0, p1, p2⟩, _⟩ := three_of hP
  obtain ⟨⟨o0, o1, o2⟩, f0, f1, f2⟩ := three_of hO
  obtain ⟨⟨r0, r1, r2⟩, e0, e1, e2⟩ := three_of hR
  have hg : w.heap.size + 1 + 1 < W0.heap.size := by omega
  clear hO hR hP hBW hb1 hbf HB0 H1 hrow
  generalize W0.heap.size = g at *
  go_wp2_with fail
  refine bodyPost_ret (v := .agg #[.int .i64 cls, .int .i64 pro, .slice (some ⟨g, 0, none⟩) ps.length ps.length]) (by simp [results, Try.results78, go_sem, r0, r1, r2]) rfl ⟨g, rfl, ?_, by omega, ?_⟩
  · have hO : ∀ W, Below w.heap.size w W → ∀ j u, Below w.heap.size w (W.setCell ⟨w.heap.size + 1 + 1, j, none⟩ u) := fun W h j u => h.setCell (by simp; omega) u
    have hR : ∀ W, Below w.heap.size w W → ∀ j u, Below w.heap.size w (W.setCell ⟨w.heap.size + 1, j, none⟩ u) := fun W h j u => h.setCell (by simp) u
    exact hR _ (hR _ (hR _ (hO _ HBF.out _ _) _ _) _ _) _ _
  · have hO : ∀ W, PRow W g ps → ∀ j u, PRow (W.setCell ⟨w.heap.size + 1 + 1, j, none⟩ u) g ps := fun W h j u => h.other (by simp; omega) u
    have hR : ∀ W, PRow W g ps → ∀ j u, PRow (W.setCell ⟨w.heap.size + 1, j, none⟩ u) g ps := fun W h j u => h.other (by simp; omega) u
    exact hR _ (hR _ (hR _ (hO _ HRW.out _ _) _ _) _ _) _ _

set_option maxHeartbeats 2000000 in
theorem lToObjectS (a : Option Addr) (cap B : Nat) (h : List OO) (cs0 : Nat → OC) (w : World) (hn : h.length ≤ 1048576) (hz : ∀ x ∈ h, x.ps.length ≤ 1048576) (hh : HIn w B a h cs0) :
    Calls Try.prog 59 #[.slice a h.length cap] w fun e w' => e = .returned (.slice (some ⟨w.heap.size, 0, none⟩) h.length h.length) ∧ Below w.heap.size w w' ∧ ∃ cs gs, HRow w' w.heap.size h cs gs := by
  have hmk := run_makeO h.length hn
  have HB0 : Hid (∀ o, Below w.heap.size w (w.alloc o)) := fun o => (Below.refl _ _).alloc (Nat.le_refl _) o
  have HD0 : Hid (ODone (w.alloc (.cells (madeCells zeroOb.cells (h.length * 3)) 76)) w.heap.size h 0 (fun j => (madeCells zeroOb.cells (h.length * 3)).getD j (.int .i64 0)) cs0 (fun _ => 0)) := ⟨madeRowO w h.length, fun j _ h => by omega, fun j h => by omega, fun j _ h => by omega, fun j k _ h => by omega, fun j _ h => by omega⟩
  generalize madeCells zeroOb.cells (h.length * 3) = mc at *
  obtain ⟨hos, hps⟩ := hh
  rcases hos with rfl | ⟨b, o, rfl, hB, hc⟩
  · clear hn hz hps
    simp only [List.length_nil, Int.natCast_zero] at hmk HD0 ⊢
    go_enter Try.func59, Try.ntmps59
    go_wp2
    refine wp_loop_rounds 1 ?_
    rw [rounds_succ]
    go_wp2
    go_ret
    exact ⟨rfl, HB0.out _, _, _, _, HD0.out⟩
  · have HC : Hid ((∀ i (hi : i < h.length), OAt w b (o + i * 3) h[i] (cs0 i)) ∧ (∀ i (hi : i < h.length), PsIn w B (cs0 i).pa h[i].ps) ∧ (∀ x ∈ h, x.ps.length ≤ 1048576)) := ⟨hc, hps, hz⟩
    clear hc hps hz
    go_enter Try.func59, Try.ntmps59
    go_wp2
    go_loopw [4] (fun vi wr => ∃ i : Nat, i ≤ h.length ∧ vi = .int .i64 i ∧ Below w.heap.size w wr ∧ ∃ f cs gs, ODone wr w.heap.size h i f cs gs) (fun vi _ => h.length - (intOf vi).toNat)
    case atStart => exact ⟨0, Nat.zero_le _, rfl, HB0.out _, _, _, _, HD0.out⟩
    case round =>
      obtain ⟨i, hi, rfl, hb, f, cs, gs, hD⟩ := hrel
      by_cases hlt : i < h.length
      · obtain ⟨HC1, HC2, HC3⟩ := HC.out
        have h3 := (HC1 i hlt).keep hB (.of_below hb B)
        have hcall := lToObject h[i] (cs0 i) B wr (HC3 _ (List.getElem_mem hlt)) ((HC2 i hlt).under hb)
        have hlt' : (i : Int) < (h.length : Int) := by omega
        have hstep : ∀ w1 b', Below wr.heap.size wr w1 → wr.heap.size ≤ b' → PRow w1 b' h[i].ps → ∃ f cs gs, ODone (setO w1 w.heap.size (i * 3) h[i] ⟨some ⟨b', 0, none⟩, h[i].ps.length⟩) w.heap.size h (i + 1) f cs gs := fun w1 b' hb1 hb' hp => hD.step hb1 hlt hb' hp
        have hrow0 := hD.row
        clear hD HC1 HC2 HC3
        generalize h[i] = x at *
        generalize cs0 i = c at *
        obtain ⟨cls, pro, ps⟩ := x
        obtain ⟨h60, h61, h62⟩ := h3
        dsimp only at h60 h61 h62
        have HCALL : Hid (Calls Try.prog 78 #[.agg #[.int .i64 cls, .int .i64 pro, .slice c.pa ps.length c.pc]] wr fun e w' => ∃ b, e = .returned (.agg #[.int .i64 cls, .int .i64 pro, .slice (some ⟨b, 0, none⟩) ps.length ps.length]) ∧ Below wr.heap.size wr w' ∧ wr.heap.size ≤ b ∧ PRow w' b ps) := hcall
        have HST : Hid (∀ w1 b', Below wr.heap.size wr w1 → wr.heap.size ≤ b' → PRow w1 b' ps → ∃ f cs gs, ODone (setO w1 w.heap.size (i * 3) ⟨cls, pro, ps⟩ ⟨some ⟨b', 0, none⟩, ps.length⟩) w.heap.size h (i + 1) f cs gs) := hstep
        have HROW : Hid (wr.rowIs w.heap.size 76 (h.length * 3) f) := hrow0
        clear hcall hstep hrow0
        go_wp2_with fail
        refine HCALL.out.mono ?_
        rintro e w1 ⟨b', rfl, hb1, hlt1, hpr⟩
        have hrow := Below.rowIs HROW.out hb1
        have q0 := hrow.cell (i := i * 3) (by omega)
        have q1 := hrow.cell (i := i * 3 + 1) (by omega)
        have q2 := hrow.cell (i := i * 3 + 2) (by omega)
        have r0 := hrow.frozen (i * 3)
        have r1 := hrow.frozen (i * 3 + 1)
        have r2 := hrow.frozen (i * 3 + 2)
        have HPR : Hid (PRow w1 b' ps) := hpr
        clear h60 h61 h62 hrow hpr
        go_wp2_with fail
        have hDn := HST.out w1 b' hb1 hlt1 HPR.out
        have hbb : Below w.heap.size w w1 := hb.trans (hb1.mono hb.size)
        exact ⟨⟨i + 1, by omega, by go_num, setO_below hbb (i * 3) ⟨cls, pro, ps⟩ ⟨some ⟨b', 0, none⟩, ps.length⟩ (Nat.le_refl _), hDn⟩, by simp [intOf]; omega⟩
      · have hil : i = h.length := by omega
        subst hil
        go_wp2_with fail
        go_ret
        exact ⟨rfl, hb, cs, gs, f, hD⟩

set_option maxHeartbeats 2000000 in
theorem lToHeap (a : Option Addr) (cap B : Nat) (h : List OO) (cs0 : Nat → OC) (w : World) (hn : h.length ≤ 1048576) (hz : ∀ x ∈ h, x.ps.length ≤ 1048576) (hh : HIn w B a h cs0) :
    Calls Try.prog 26 #[.agg #[.slice a h.length cap]] w fun e w' => ∃ g cs gs, e = .returned (.agg #[.slice (some ⟨g, 0, none⟩) h.length h.length]) ∧ Below w.heap.size w w' ∧ w.heap.size ≤ g ∧ HRow w' g h cs gs := by
  have C1 := fun (W : World) (hW : Below w.heap.size w W) => lToObjectS a cap B h cs0 W hn hz (hh.under hW)
  have H1 : Hid (∀ W, Below w.heap.size w W → Calls Try.prog 59 #[.slice a h.length cap] W fun e w' => e = .returned (.slice (some ⟨W.heap.size, 0, none⟩) h.length h.length) ∧ Below W.heap.size W w' ∧ ∃ cs gs, HRow w' W.heap.size h cs gs) := C1
  have HB0 : Hid (∀ o1 o2 o3, Below w.heap.size w (((w.alloc o1).alloc o2).alloc o3)) := fun o1 o2 o3 => (((Below.refl _ _).alloc (Nat.le_refl _) o1).alloc (by simp) o2).alloc (by simp; omega) o3
  clear C1 hh hn hz
  generalize h.length = len at *
  go_enter Try.func26, Try.ntmps26
  go_wp2_with fail
  generalize hW0 : ((w.alloc _).alloc _).alloc _ = W0
  have hR : W0.heap[w.heap.size + 1]? = some (.cells #[.slice none 0 0] 25 (0, 0)) := by
    rw [← hW0, Below.heap_alloc _ _ _ (by simp), ← World.size_alloc w]; exact heap_alloc_new _ _
  have hO : W0.heap[w.heap.size + 1 + 1]? = some (.cells #[.slice none 0 0] 25 (0, 0)) := by
    rw [← hW0]
    have := heap_alloc_new ((w.alloc (.cells #[.slice a len cap] 43)).alloc (.cells #[.slice none 0 0] 25)) (.cells #[.slice none 0 0] 25)
    simpa only [World.size_alloc] using this
  have hBW : Below w.heap.size w W0 := by rw [← hW0]; exact HB0.out _ _ _
  have hS0 : W0.heap.size = w.heap.size + 1 + 1 + 1 := by rw [← hW0]; simp
  clear hW0
  refine (H1.out W0 hBW).mono ?_
  rintro e W1 ⟨rfl, hb1, cs, gs, hrow⟩
  have hsz1 := hb1.size
  replace hR := (hb1.block _ (by omega)).trans hR
  replace hO := (hb1.block _ (by omega)).trans hO
  have hbf : Below w.heap.size w W1 := hBW.trans (hb1.mono (by omega))
  have HBF : Hid (Below w.heap.size w W1) := hbf
  have HRW : Hid (HRow W1 W0.heap.size h cs gs) := hrow
  obtain ⟨o0, f0⟩ := one_of hO
  obtain ⟨r0, e0⟩ := one_of hR
  have hg : w.heap.size + 1 + 1 < W0.heap.size := by omega
  clear hO hR hBW hb1 hbf HB0 H1 hrow
  generalize W0.heap.size = g at *
  go_wp2_with fail
  refine bodyPost_ret (v := .agg #[.slice (some ⟨g, 0, none⟩) len len]) (by simp [results, Try.results26, go_sem, r0]) rfl ⟨g, cs, gs, rfl, ?_, by omega, ?_⟩
  · have hO : ∀ W, Below w.heap.size w W → ∀ j u, Below w.heap.size w (W.setCell ⟨w.heap.size + 1 + 1, j, none⟩ u) := fun W h j u => h.setCell (by simp; omega) u
    have hR : ∀ W, Below w.heap.size w W → ∀ j u, Below w.heap.size w (W.setCell ⟨w.heap.size + 1, j, none⟩ u) := fun W h j u => h.setCell (by simp) u
    exact hR _ (hO _ HBF.out _ _) _ _
  · have hO : ∀ W, HRow W g h cs gs → ∀ j u, HRow (W.setCell ⟨w.heap.size + 1 + 1, j, none⟩ u) g h cs gs := fun W h j u => h.other (by simp; omega) u
    have hR : ∀ W, HRow W g h cs gs → ∀ j u, HRow (W.setCell ⟨w.heap.size + 1, j, none⟩ u) g h cs gs := fun W h j u => h.other (by simp; omega) u
    exact hR _ (hO _ HRW.out _ _) _ _

end Go.Proofs.Ytlmlmdmechhalaa

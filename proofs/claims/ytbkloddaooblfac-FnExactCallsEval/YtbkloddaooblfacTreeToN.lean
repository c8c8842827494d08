/-
  The walk of the law's toNode.
-/
import Derived.Test.YtbkloddaooblfacTreeToS
namespace Go.Proofs.Ytbkloddaooblfac
open Go.RowKit

theorem Done.tree {w : World} {g B : Nat} {ks : List PT} {f : Nat → Value} {cs : Nat → NC} {fs : Nat → List Nat} (hD : Done w g ks ks.length f cs fs) (k : Int) (t : ByteArray) (n : Int) {ns : List ByteArray} (s : Bool) {na : Option Addr} (nc kc : Nat) (hn : StrsIn w B na ns) (hB : B ≤ g) :
    NIn w B (.node k t n ns s ks) ⟨na, nc, some ⟨g, 0, none⟩, kc⟩ (fpOf g ks.length fs) ∧ (fpOf g ks.length fs).Nodup ∧ ∀ x ∈ fpOf g ks.length fs, g ≤ x ∧ Plain w x := by
  refine ⟨.mk k t n ns s ks _ g 0 cs fs hn (.inr ⟨rfl, hB⟩) (fun i hi => ?_) (fun i hi => (hD.kid i hi hi).base (by omega)), ?_, ?_⟩
  · have h6 := hD.six i hi hi
    have hr := fun p (hp : p < 6) => hD.row.cell (i := i * 6 + p) (by omega)
    rw [Nat.zero_add]
    generalize ks[i] = x at h6 ⊢
    cases x
    obtain ⟨a0, a1, a2, a3, a4, a5⟩ := h6
    exact ⟨(hr 0 (by omega)).trans (congrArg some a0), (hr 1 (by omega)).trans (congrArg some a1), (hr 2 (by omega)).trans (congrArg some a2), (hr 3 (by omega)).trans (congrArg some a3), (hr 4 (by omega)).trans (congrArg some a4), (hr 5 (by omega)).trans (congrArg some a5)⟩
  · unfold fpOf
    split
    · simp
    · exact List.nodup_cons.2 ⟨fun h => by have := (hD.bound g h).1; omega, hD.nodup⟩
  · intro x hx
    unfold fpOf at hx
    split at hx
    · simp at hx
    · rcases List.mem_cons.1 hx with rfl | h
      · obtain ⟨c, e, _⟩ := hD.row
        exact ⟨Nat.le_refl _, c, _, e⟩
      · have := hD.bound x h; exact ⟨by omega, this.2⟩

theorem oldC {B : Nat} {w w' : World} (h : Below B w w') : (∀ b o, b < B → w'.cell? ⟨b, o, none⟩ = w.cell? ⟨b, o, none⟩) ∧ (∀ b o, b < B → w'.frozen? ⟨b, o, none⟩ = w.frozen? ⟨b, o, none⟩) :=
  ⟨fun _ _ hb => h.cell hb, fun _ _ hb => h.frozen hb⟩

theorem six_of {W : World} {b : Nat} {t : TypeId} {v0 v1 v2 v3 v4 v5 : Value} (h : W.heap[b]? = some (.cells #[v0, v1, v2, v3, v4, v5] t (0, 0))) :
    (W.cell? ⟨b, 0, none⟩ = some v0 ∧ W.cell? ⟨b, 1, none⟩ = some v1 ∧ W.cell? ⟨b, 2, none⟩ = some v2 ∧ W.cell? ⟨b, 3, none⟩ = some v3 ∧ W.cell? ⟨b, 4, none⟩ = some v4 ∧ W.cell? ⟨b, 5, none⟩ = some v5) ∧
    (W.frozen? ⟨b, 0, none⟩ = false ∧ W.frozen? ⟨b, 1, none⟩ = false ∧ W.frozen? ⟨b, 2, none⟩ = false ∧ W.frozen? ⟨b, 3, none⟩ = false ∧ W.frozen? ⟨b, 4, none⟩ = false ∧ W.frozen? ⟨b, 5, none⟩ = false) := by
  simp [World.cell?, World.frozen?, h]
theorem blk_set {W : World} {b : Nat} {t : TypeId} {c : Array Value} (h : W.heap[b]? = some (.cells c t (0, 0))) (o : Nat) (u : Value) : (W.setCell ⟨b, o, none⟩ u).heap[b]? = some (.cells (c.setIfInBounds o u) t (0, 0)) := by
  simp [World.setCell, Array.getElem?_modify, h]
theorem blk_other {W : World} {b b' : Nat} {o : Option Obj} (h : W.heap[b]? = o) (hne : b ≠ b') (j : Nat) (u : Value) : (W.setCell ⟨b', j, none⟩ u).heap[b]? = o := (Below.heap_setCell W ⟨b', j, none⟩ u b hne).trans h

set_option maxHeartbeats 2000000 in
theorem lTo (t : PT) : ToOK t := by
  induction t using PT.ind with
  | h k t n ns s ks ih =>
  intro B c fp w hz hin
  rw [szT] at hz
  cases hin with
  | mk _ _ _ _ _ _ _ b o cs fs hns ha hc hk =>
  have hmem : ∀ x ∈ ks, szT x ≤ 1048576 := fun x hx => by
    obtain ⟨i, hi, rfl⟩ := List.getElem_of_mem hx
    have := szT_mem ks i hi; omega
  have C1 := fun W (h : Below w.heap.size w W) => lToStr c.na c.nc B ns W (by omega) (hns.keep (.of_below h B))
  have C2 := fun W (h : Below w.heap.size w W) => lToS c.ka c.kc B b o ks cs fs W (by omega) hmem ha (fun i hi => by
    rcases ha with rfl | ⟨_, hB⟩
    · simp at hi
    · exact (hc i hi).keep hB (.of_below h B)) (fun i hi => (hk i hi).under h) ih
  have H1 : Hid (∀ W, Below w.heap.size w W → Calls Try.prog 59 #[.slice c.na ns.length c.nc] W fun e w' => e = .returned (.slice (some ⟨W.heap.size, 0, none⟩) ns.length ns.length) ∧ StrsIn w' W.heap.size (some ⟨W.heap.size, 0, none⟩) ns ∧ Below W.heap.size W w') := C1
  have H2 : Hid (∀ W, Below w.heap.size w W → Calls Try.prog 60 #[.slice c.ka ks.length c.kc] W fun e w' => e = .returned (.slice (some ⟨W.heap.size, 0, none⟩) ks.length ks.length) ∧ Below W.heap.size W w' ∧ ∃ f cs fs, Done w' W.heap.size ks ks.length f cs fs) := C2
  clear C1 C2 hns ha hc hk ih hmem hz cs fs
  unfold PT.cells nodeC
  dsimp only
  generalize c.na = na at *
  generalize c.nc = nc at *
  generalize c.ka = ka at *
  generalize c.kc = kc at *
  have hb0 : ∀ o1 o2 o3, Below w.heap.size w (((w.alloc o1).alloc o2).alloc o3) := fun o1 o2 o3 => (((Below.refl _ _).alloc (Nat.le_refl _) o1).alloc (by simp) o2).alloc (by simp; omega) o3
  have HB0 : Hid (∀ o1 o2 o3, Below w.heap.size w (((w.alloc o1).alloc o2).alloc o3)) := hb0
  clear hb0
  go_enter Try.func32, Try.ntmps32
  go_wp2_with fail
  generalize hW0 : ((w.alloc _).alloc _).alloc _ = W0
  have hP : W0.heap[w.heap.size]? = some (.cells #[.int .i64 k, .string t, .int .i64 n, .slice na ns.length nc, .bool s, .slice ka ks.length kc] 51 (0, 0)) := by
    rw [← hW0, Below.heap_alloc _ _ _ (by simp; omega), Below.heap_alloc _ _ _ (by simp)]; exact heap_alloc_new _ _
  have hR : W0.heap[w.heap.size + 1]? = some (.cells #[.int .i64 0, .string ⟨#[]⟩, .int .i64 0, .slice none 0 0, .bool false, .slice none 0 0] 56 (0, 0)) := by
    rw [← hW0, Below.heap_alloc _ _ _ (by simp), ← World.size_alloc w]; exact heap_alloc_new _ _
  have hO : W0.heap[w.heap.size + 1 + 1]? = some (.cells #[.int .i64 k, .string t, .int .i64 n, .slice none 0 0, .bool false, .slice none 0 0] 56 (0, 0)) := by
    rw [← hW0]
    have := heap_alloc_new ((w.alloc (.cells #[.int .i64 k, .string t, .int .i64 n, .slice na ns.length nc, .bool s, .slice ka ks.length kc] 51)).alloc (.cells #[.int .i64 0, .string ⟨#[]⟩, .int .i64 0, .slice none 0 0, .bool false, .slice none 0 0] 56)) (.cells #[.int .i64 k, .string t, .int .i64 n, .slice none 0 0, .bool false, .slice none 0 0] 56)
    simpa only [World.size_alloc] using this
  have hBW : Below w.heap.size w W0 := by rw [← hW0]; exact HB0.out _ _ _
  have hS0 : W0.heap.size = w.heap.size + 1 + 1 + 1 := by rw [← hW0]; simp
  clear hW0
  refine (H1.out W0 hBW).mono ?_
  rintro e W1 ⟨rfl, hst, hb1⟩
  rw [hS0] at hst hb1 ⊢
  have hsz1 := hb1.size
  replace hP := (hb1.block _ (by omega)).trans hP
  replace hR := (hb1.block _ (by omega)).trans hR
  replace hO := (hb1.block _ (by omega)).trans hO
  have hO3 := blk_set hO 3 (.slice (some ⟨w.heap.size + 1 + 1 + 1, 0, none⟩) ns.length ns.length)
  have hO4 := blk_set hO3 4 (.bool s)
  have hP4 := blk_other (blk_other hP (b' := w.heap.size + 1 + 1) (by omega) 3 (.slice (some ⟨w.heap.size + 1 + 1 + 1, 0, none⟩) ns.length ns.length)) (b' := w.heap.size + 1 + 1) (by omega) 4 (.bool s)
  have hR4 := blk_other (blk_other hR (b' := w.heap.size + 1 + 1) (by omega) 3 (.slice (some ⟨w.heap.size + 1 + 1 + 1, 0, none⟩) ns.length ns.length)) (b' := w.heap.size + 1 + 1) (by omega) 4 (.bool s)
  obtain ⟨⟨p0, p1, p2, p3, p4, p5⟩, _⟩ := six_of hP
  obtain ⟨⟨o0, o1, o2, o3, o4, o5⟩, f0, f1, f2, f3, f4, f5⟩ := six_of hO
  clear hP hR hO hO3
  have HX : Hid ((((W1.setCell ⟨w.heap.size + 1 + 1, 3, none⟩ (.slice (some ⟨w.heap.size + 1 + 1 + 1, 0, none⟩) ns.length ns.length)).setCell ⟨w.heap.size + 1 + 1, 4, none⟩ (.bool s)).heap[w.heap.size + 1 + 1]? = some (.cells #[.int .i64 k, .string t, .int .i64 n, .slice (some ⟨w.heap.size + 1 + 1 + 1, 0, none⟩) ns.length ns.length, .bool s, .slice none 0 0] 56 (0, 0))) ∧
    (((W1.setCell ⟨w.heap.size + 1 + 1, 3, none⟩ (.slice (some ⟨w.heap.size + 1 + 1 + 1, 0, none⟩) ns.length ns.length)).setCell ⟨w.heap.size + 1 + 1, 4, none⟩ (.bool s)).heap[w.heap.size + 1]? = some (.cells #[.int .i64 0, .string ⟨#[]⟩, .int .i64 0, .slice none 0 0, .bool false, .slice none 0 0] 56 (0, 0)))) := ⟨hO4, hR4⟩
  clear hO4 hP4 hR4
  go_wp2_with fail
  obtain ⟨hO, hR⟩ := HX.out
  have hk2 : Keeps (w.heap.size + 1 + 1 + 1) W1 ((W1.setCell ⟨w.heap.size + 1 + 1, 3, none⟩ (.slice (some ⟨w.heap.size + 1 + 1 + 1, 0, none⟩) ns.length ns.length)).setCell ⟨w.heap.size + 1 + 1, 4, none⟩ (.bool s)) :=
    (Keeps.setCell _ (by simp) _).trans (Keeps.setCell _ (by simp) _)
  have hb2 : Below w.heap.size w ((W1.setCell ⟨w.heap.size + 1 + 1, 3, none⟩ (.slice (some ⟨w.heap.size + 1 + 1 + 1, 0, none⟩) ns.length ns.length)).setCell ⟨w.heap.size + 1 + 1, 4, none⟩ (.bool s)) :=
    ((hBW.trans (hb1.mono (by omega))).setCell (by simp; omega) _).setCell (by simp; omega) _
  have hz2 : ((W1.setCell ⟨w.heap.size + 1 + 1, 3, none⟩ (.slice (some ⟨w.heap.size + 1 + 1 + 1, 0, none⟩) ns.length ns.length)).setCell ⟨w.heap.size + 1 + 1, 4, none⟩ (.bool s)).heap.size = W1.heap.size := by simp only [World.setCell, Array.size_modify]
  have hst2 := hst.keep hk2
  clear HX hk2 hst p0 p1 p2 p3 p4 p5 o0 o1 o2 o3 o4 o5 f0 f1 f2 f3 f4 f5 hBW
  generalize (W1.setCell ⟨w.heap.size + 1 + 1, 3, none⟩ (.slice (some ⟨w.heap.size + 1 + 1 + 1, 0, none⟩) ns.length ns.length)).setCell ⟨w.heap.size + 1 + 1, 4, none⟩ (.bool s) = W2 at *
  refine (H2.out W2 hb2).mono ?_
  rintro e W3 ⟨rfl, hb3, f, cs, fs, hD⟩
  have hz3 := hb3.size
  replace hO := (hb3.block _ (by omega)).trans hO
  replace hR := (hb3.block _ (by omega)).trans hR
  have hst3 := hst2.keep (.of_below hb3 _)
  obtain ⟨T1, T2, T3⟩ := hD.tree k t n s ns.length ks.length hst3 (by omega)
  have HT : Hid (NIn W3 (w.heap.size + 1 + 1 + 1) (.node k t n ns s ks) ⟨some ⟨w.heap.size + 1 + 1 + 1, 0, none⟩, ns.length, some ⟨W2.heap.size, 0, none⟩, ks.length⟩ (fpOf W2.heap.size ks.length fs) ∧ (fpOf W2.heap.size ks.length fs).Nodup ∧ ∀ x ∈ fpOf W2.heap.size ks.length fs, W2.heap.size ≤ x ∧ Plain W3 x) := ⟨T1, T2, T3⟩
  have hbf : Below w.heap.size w W3 := hb2.trans (hb3.mono (by omega))
  clear T1 T2 T3 hD hst3 hst2
  have hgg : w.heap.size + 1 + 1 + 1 ≤ W2.heap.size := by omega
  clear hz2
  generalize W2.heap.size = g at *
  obtain ⟨⟨o0, o1, o2, o3, o4, o5⟩, f0, f1, f2, f3, f4, f5⟩ := six_of hO
  obtain ⟨⟨r0, r1, r2, r3, r4, r5⟩, e0, e1, e2, e3, e4, e5⟩ := six_of hR
  clear hO hR
  go_wp2_with fail
  refine bodyPost_ret (v := .agg #[.int .i64 k, .string t, .int .i64 n, .slice (some ⟨w.heap.size + 1 + 1 + 1, 0, none⟩) ns.length ns.length, .bool s, .slice (some ⟨g, 0, none⟩) ks.length ks.length]) (by simp [results, Try.results32, go_sem, r0, r1, r2, r3, r4, r5]) rfl
    ⟨⟨some ⟨w.heap.size + 1 + 1 + 1, 0, none⟩, ns.length, some ⟨g, 0, none⟩, ks.length⟩, fpOf g ks.length fs, rfl, ?_, ?_, HT.out.2.1, fun x hx => ?_⟩
  · refine (HT.out.1.keep (((((((Keeps.setCell _ (by simp) _).trans (Keeps.setCell _ (by simp) _)).trans (Keeps.setCell _ (by simp) _)).trans (Keeps.setCell _ (by simp) _)).trans (Keeps.setCell _ (by simp) _)).trans (Keeps.setCell _ (by simp) _)).trans (Keeps.setCell _ (by simp) _))).base (by omega)
  · exact ((((((hbf.setCell (by simp; omega) _).setCell (by simp) _).setCell (by simp) _).setCell (by simp) _).setCell (by simp) _).setCell (by simp) _).setCell (by simp) _
  · obtain ⟨h1, h2⟩ := HT.out.2.2 x hx
    exact ⟨by omega, ((((((h2.set _ _).set _ _).set _ _).set _ _).set _ _).set _ _).set _ _⟩

end Go.Proofs.Ytbkloddaooblfac

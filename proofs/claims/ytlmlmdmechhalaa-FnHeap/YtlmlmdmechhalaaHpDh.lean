/-
  The walk of the specification's l05Heap: a heap that is drawn.
-/
import Derived.Test.YtlmlmdmechhalaaHpDs
import Derived.Test.YtlmlmdmechhalaaHpSD
import Derived.Deep.CutRange
namespace Go.Proofs.Ytlmlmdmechhalaa
open Go.RowKit
open Hp (PP OO propC)

set_option maxHeartbeats 16000000 in
set_option maxRecDepth 100000 in
theorem sHeapD (S : Nat) (w : World) (h : Src w S) : Calls Try.prog 37 #[.pointer (some ⟨S, 0, none⟩)] w fun e w' => ∃ a cap hs cs, e = .returned (.agg #[.slice a hs.length cap]) ∧ SmallD hs ∧ Src w' S ∧ Keep S w w' ∧ HIn w' w.heap.size a hs cs ∧ CapH hs cs := by
  have N1 : Hid _ := fun (most : Nat) (hm : 1 ≤ most) (hm2 : most ≤ 1000000) (W : World) (h : Src W S) => sNany S most W hm hm2 h
  have H1 : Hid _ := fun (W : World) (h : Src W S) => sOne S 4 W (by omega) (by omega) h
  have H15 : Hid _ := fun (W : World) (h : Src W S) => sOne S 15 W (by omega) (by omega) h
  have HKEY : Hid _ := fun (W : World) (h : Src W S) => sKey S W h
  have C2 := fun (W : World) (h : Src W S) => sValue S W h
  unfold Drawn at C2
  have HVAL : Hid _ := C2
  have HOWN : Hid _ := fun (W : World) (cls pro : Int) (pa : Option Addr) (pc B : Nat) (ps : List PP) (key : ByteArray) (hn : ps.length ≤ 8) (h : PsIn W B pa ps) => sOwn cls pro pa pc B ps key W (by omega) h
  have hS := h.lt
  have HN : Hid (∀ o1 o2, _) := two_new w
  have HS0 : Hid (Src w S) := h
  clear C2 h
  go_enter Try.func37, Try.ntmps37
  go_wp2_with fail
  have hn := HN.out (.cells #[.slice none 0 0] 25) (.cells #[.slice none 0 0] 25)
  have hs0 : Src ((w.alloc (.cells #[.slice none 0 0] 25)).alloc (.cells #[.slice none 0 0] 25)) S := src_grow2 HS0.out
  generalize World.alloc _ _ = W0 at hn hs0 ⊢
  obtain ⟨n1, n2, n3, n4⟩ := hn
  have HD0 : Hid (DSt w W0 S W0.heap.size none 0 []) := ⟨hs0, (Keep.refl S w).ofBelow n3, hS, n1, n2, ⟨fun _ => ⟨none, 0⟩, hOwn_nil _ _ _ _, fun j hj => absurd hj (by simp), fun q hq => by simp [Value.ownBlock] at hq⟩, fun o ho => absurd ho (by simp)⟩
  clear hs0 n1 n2 n3 n4 HN HS0
  refine (N1.out 4 (by omega) (by omega) W0 HD0.out.src).mono ?_
  rintro e W1 ⟨r0, rfl, hr0, hs1, hk1⟩
  have HD1 : Hid (DSt w W1 S W1.heap.size none 0 []) := by
    have k := HD0.out.keepK hs1 hk1
    obtain ⟨cs, ho, -, -⟩ := k.own
    exact ⟨k.src, k.keep, k.low, k.res, k.box, ⟨cs, ho, fun j hj => absurd hj (by simp), fun q hq => by simp [Value.ownBlock] at hq⟩, k.small⟩
  clear hs1 hk1 HD0
  go_wp2_with fail
  rw [show (1 + (r0 : Int)) = ((1 + r0 : Nat) : Int) by omega]
  generalize hNN : 1 + r0 = NN
  have hNN4 : NN ≤ 4 := by omega
  have hNN1 : 1 ≤ NN := by omega
  clear hNN
  go_loopw [5] (fun vi wr => ∃ (i : Nat) (a : Option Addr) (cap : Nat) (hs : List OO), i ≤ NN ∧ vi = .int .i64 i ∧ hs.length = i ∧ Hid (DSt w wr S wr.heap.size a cap hs)) (fun vi _ => NN - (intOf vi).toNat)
  case atStart => exact ⟨0, none, 0, [], Nat.zero_le _, rfl, rfl, HD1.out⟩
  case round =>
    obtain ⟨i, a, cap, hs, hi, rfl, hlen, HD⟩ := hrel
    subst hlen
    by_cases hlt : hs.length < NN
    case neg =>
      have hle : hs.length = NN := by omega
      subst hle
      have HD4 : Hid (hs.length ≤ 4 ∧ 1 ≤ hs.length) := ⟨by omega, by omega⟩
      have hnl : ¬ (hs.length : Int) < (hs.length : Int) := by omega
      go_wp2_with fail
      refine (H15.out wr HD.out.src).mono ?_
      rintro e A1 ⟨b, rfl, hs1, hk1⟩
      have HA1 : Hid (DSt w A1 S wr.heap.size a cap hs) := HD.out.keepK hs1 hk1
      clear hs1 hk1
      cases b
      · obtain ⟨y0, y1, y2, hfin⟩ := HA1.out.fin ⟨HD4.out.2, HD4.out.1⟩
        have HF : Hid _ := hfin
        clear hfin
        go_wp2_with fail
        obtain ⟨z0, f1, f2, f3, cs, f4⟩ := HF.out
        clear y0 y1 y2
        generalize World.setCell _ _ _ = W9 at z0 f2 f3 f4 ⊢
        exact bodyPost_ret (v := .agg #[.slice a hs.length cap]) (by simp [results, Try.results37, go_sem, z0]) rfl ⟨a, cap, hs, cs, rfl, f1, f2, f3, f4⟩
      · go_wp2_with fail
        refine (N1.out hs.length HD4.out.2 (by have := HD4.out.1; omega) A1 HA1.out.src).mono ?_
        rintro e A2 ⟨kk, rfl, hkk, hs2, hk2⟩
        have HA2 : Hid (DSt w A2 S wr.heap.size a cap hs) := HA1.out.keepK hs2 hk2
        clear hs2 hk2 HA1
        go_wp2_with fail
        refine (N1.out 4 (by omega) (by omega) A2 HA2.out.src).mono ?_
        rintro e A3 ⟨r4, rfl, hr4, hs3, hk3⟩
        have HA3 : Hid (DSt w A3 S wr.heap.size a cap hs) := HA2.out.keepK hs3 hk3
        clear hs3 hk3 HA2
        obtain ⟨cs, ho, -, -⟩ := HA3.out.own
        obtain ⟨g, rfl⟩ : ∃ g, a = some ⟨g, 0, none⟩ := by
          rcases ho.1.2 with ⟨_, e⟩ | ⟨g, cap', _, e, _⟩
          · omega
          · injection e with e1 _ _; exact ⟨g, e1⟩
        have HO : Hid (HOwn A3 (w.heap.size + 2) (.slice (some ⟨g, 0, none⟩) hs.length cap) hs hs.length cs ∧ DSt w A3 S wr.heap.size (some ⟨g, 0, none⟩) cap hs) := ⟨ho, HA3.out⟩
        clear ho
        have hkk' : (kk : Int) < (hs.length : Int) := by omega
        have hwk1 : IntKind.i64.wrap ((kk : Int) + 1) = (kk : Int) + 1 := by rw [IntKind.wrap_i64]; have := HD4.out.1; omega
        have HBC : Hid (∀ W : World, DSt w W S wr.heap.size (some ⟨g, 0, none⟩) cap hs → W.cell? ⟨w.heap.size + 1, 0, none⟩ = some (.slice (some ⟨g, 0, none⟩) hs.length cap)) := fun W k => (one_of k.box).1
        have HPG : Hid (∀ W : World, HOwn W (w.heap.size + 2) (.slice (some ⟨g, 0, none⟩) hs.length cap) hs hs.length cs → ∀ b o, (cs kk).pa = some ⟨b, o, none⟩ → hs[kk].ps ≠ [] → b ≠ g) := fun W k b o e _ e2 => by
          obtain ⟨_, c1, h1⟩ := own_apart (k.2.1 kk hkk hkk) (k := b) (by unfold pV; rw [e]; rfl)
          obtain ⟨_, c2, h2⟩ := own_apart k.1 (k := g) rfl
          rw [e2, h2] at h1
          injection h1 with h1
          injection h1 with _ h1 _
          exact absurd h1 (by decide)
        have HSP0 : Hid (∀ (W : World) (x : Int), HOwn W (w.heap.size + 2) (.slice (some ⟨g, 0, none⟩) hs.length cap) hs hs.length cs → DSt w W S wr.heap.size (some ⟨g, 0, none⟩) cap hs → (∃ v, W.cell? ⟨g, kk * 3 + 0, none⟩ = some v) ∧ W.frozen? ⟨g, kk * 3 + 0, none⟩ = false ∧ Spo w (W.setCell ⟨g, kk * 3 + 0, none⟩ (.int .i64 x)) S (some ⟨g, 0, none⟩) cap (hs.set kk { hs[kk] with cls := x })) := fun W x k d =>
          d.spoil hkk k ⟨rfl, rfl, rfl, Nat.le_refl _, fun _ _ _ => rfl⟩ { hs[kk] with cls := x } (cs kk) (show SmallO { hs[kk] with cls := x } from ⟨(d.small _ (List.getElem_mem hkk)).1.1, (d.small _ (List.getElem_mem hkk)).1.2⟩) (k.2.1 kk hkk hkk).psIn (POwn.capO (k.2.1 kk hkk hkk) _ rfl) (HPG.out W k) 0 (by omega) _ rfl (fun t ht hne => by
            rcases (by omega : t = 1 ∨ t = 2) with rfl | rfl <;> rfl)
        have HSP1 : Hid (∀ (W : World) (x : Int), HOwn W (w.heap.size + 2) (.slice (some ⟨g, 0, none⟩) hs.length cap) hs hs.length cs → DSt w W S wr.heap.size (some ⟨g, 0, none⟩) cap hs → (∃ v, W.cell? ⟨g, kk * 3 + 1, none⟩ = some v) ∧ W.frozen? ⟨g, kk * 3 + 1, none⟩ = false ∧ Spo w (W.setCell ⟨g, kk * 3 + 1, none⟩ (.int .i64 x)) S (some ⟨g, 0, none⟩) cap (hs.set kk { hs[kk] with pro := x })) := fun W x k d =>
          d.spoil hkk k ⟨rfl, rfl, rfl, Nat.le_refl _, fun _ _ _ => rfl⟩ { hs[kk] with pro := x } (cs kk) (show SmallO { hs[kk] with pro := x } from ⟨(d.small _ (List.getElem_mem hkk)).1.1, (d.small _ (List.getElem_mem hkk)).1.2⟩) (k.2.1 kk hkk hkk).psIn (POwn.capO (k.2.1 kk hkk hkk) _ rfl) (HPG.out W k) 1 (by omega) _ rfl (fun t ht hne => by
            rcases (by omega : t = 0 ∨ t = 2) with rfl | rfl <;> rfl)
        have hlw : S < w.heap.size := hS
        have HB9 : Hid (∀ (W W1 : World) (v : Value), HOwn W (w.heap.size + 2) (.slice (some ⟨g, 0, none⟩) hs.length cap) hs hs.length cs → DSt w W S wr.heap.size (some ⟨g, 0, none⟩) cap hs → W.grownBy W1 v.ownBlock → v = pV hs[kk] (cs kk) → W1.cell? ⟨w.heap.size + 1, 0, none⟩ = some (.slice (some ⟨g, 0, none⟩) hs.length cap)) := fun W W1 v k d hg e => by
          subst e
          exact (World.cell?_of_block (w := W) (hg.block _ (Array.getElem?_eq_some_iff.1 d.box).1 (fun e => by have h9 : w.heap.size + 2 ≤ w.heap.size + 1 := (own_apart (k.2.1 kk hkk hkk) e.symm).1; omega))).trans (one_of d.box).1
        rcases (by omega : r4 = 0 ∨ r4 = 1 ∨ r4 = 2 ∨ r4 = 3) with rfl | rfl | rfl | rfl
        · go_wp2_with fail
          have Q1 : Hid (HOwn A3.drew (w.heap.size + 2) (.slice (some ⟨g, 0, none⟩) hs.length cap) hs hs.length cs ∧ DSt w A3.drew S wr.heap.size (some ⟨g, 0, none⟩) cap hs) := ⟨HO.out.1.under (Below.refl A3.heap.size A3).drew, HO.out.2.under (Below.refl A3.heap.size A3).drew⟩
          refine wp_region_held_drew (S := fun W' => W'.cell? ⟨w.heap.size + 1, 0, none⟩ = some (.slice (some ⟨g, 0, none⟩) hs.length cap)) (by kernel_rfl) (HBC.out _ Q1.out.2) (fun hHeld => ?_)
          generalize hD1 : A3.drew = Y1 at Q1 hHeld ⊢
          clear hD1
          refine takeIn 0 (v := ?vs1x0) rfl (by kernel_rfl) (by kernel_rfl) (by kernel_rfl) (fun _ _ _ h => h) ?ws1x0 (by assumption) ?ys1x0 ?rs1x0
          case ws1x0 => rfl
          case ys1x0 => (intro w hSw; (try dsimp only at hSw); go_simp; first | done | with_reducible rfl)
          simp only [Act.put, List.setIfInBounds_toArray, List.set_cons_zero, List.set_cons_succ]
          refine takeIn 1 (v := ?vs1x1) rfl (by kernel_rfl) (by kernel_rfl) (by kernel_rfl) (fun _ _ _ h => h) ?ws1x1 (by assumption) ?ys1x1 ?rs1x1
          case ws1x1 => rfl
          case ys1x1 => (intro w hSw; (try dsimp only at hSw); go_simp; first | done | with_reducible rfl)
          simp only [Act.put, List.setIfInBounds_toArray, List.set_cons_zero, List.set_cons_succ]
          refine takeIn 2 (v := ?vs1x2) rfl (by kernel_rfl) (by kernel_rfl) (by kernel_rfl) (fun _ _ _ h => h) ?ws1x2 (by assumption) ?ys1x2 ?rs1x2
          case ws1x2 => rfl
          case ys1x2 => (intro w hSw; (try dsimp only at hSw); go_simp; first | done | with_reducible rfl)
          simp only [Act.put, List.setIfInBounds_toArray, List.set_cons_zero, List.set_cons_succ]
          refine takeIn 3 (v := ?vs1x3) rfl (by kernel_rfl) (by kernel_rfl) (by kernel_rfl) (fun _ _ _ h => h) ?ws1x3 (by assumption) ?ys1x3 ?rs1x3
          case ws1x3 => rfl
          case ys1x3 => (intro w hSw; (try dsimp only at hSw); go_simp; first | done | with_reducible rfl)
          simp only [Act.put, List.setIfInBounds_toArray, List.set_cons_zero, List.set_cons_succ]
          refine takeIn 4 (v := ?vs1x4) rfl (by kernel_rfl) (by kernel_rfl) (by kernel_rfl) (fun _ _ _ h => h) ?ws1x4 (by assumption) ?ys1x4 ?rs1x4
          case ws1x4 => rfl
          case ys1x4 => (intro w hSw; (try dsimp only at hSw); go_simp; first | done | with_reducible rfl)
          simp only [Act.put, List.setIfInBounds_toArray, List.set_cons_zero, List.set_cons_succ]
          refine takeIn 5 (v := ?vs1x5) rfl (by kernel_rfl) (by kernel_rfl) (by kernel_rfl) (fun _ _ _ h => h) ?ws1x5 (by assumption) ?ys1x5 ?rs1x5
          case ws1x5 => rfl
          case ys1x5 => (intro w hSw; (try dsimp only at hSw); go_simp; first | done | with_reducible rfl)
          simp only [Act.put, List.setIfInBounds_toArray, List.set_cons_zero, List.set_cons_succ]
          refine takeIn 7 (v := ?vs1x7) rfl (by kernel_rfl) (by kernel_rfl) (by kernel_rfl) (fun _ _ _ h => h) ?ws1x7 (by assumption) ?ys1x7 ?rs1x7
          case ws1x7 => rfl
          case ys1x7 => (intro w hSw; (try dsimp only at hSw); go_simp; first | done | with_reducible rfl)
          simp only [Act.put, List.setIfInBounds_toArray, List.set_cons_zero, List.set_cons_succ]
          refine twoUp 6 8 rfl rfl (by kernel_rfl) (by rfl) (by rfl) (fun K hK => ?_) (fun K hK => ?_)
          · go_simp
            generalize hG2 : World.alloc _ _ = Y2
            have Q2 : Hid (HOwn Y2 (w.heap.size + 2) (.slice (some ⟨g, 0, none⟩) hs.length cap) hs hs.length cs ∧ DSt w Y2 S wr.heap.size (some ⟨g, 0, none⟩) cap hs) := by
              rw [← hG2]
              exact ⟨Q1.out.1.under ((Below.refl _ _).alloc (Nat.le_refl _) _), Q1.out.2.under ((Below.refl _ _).alloc (Nat.le_refl _) _)⟩
            have G2 : Hid (Y2.heap[Y1.heap.size]? = some (.cells #[.int .i64 (-2), .int .i64 kk, .int .i64 ((kk : Int) + 1)] 2 (0, 0))) := by
              rw [← hG2]
              exact heap_alloc_new _ _
            have L2 : S < Y1.heap.size := Q1.out.2.src.lt
            clear hG2
            refine hK.out _ _ (HBC.out _ Q2.out.2) (fun hHeld2 => ?_)
            clear hK K
            (try simp only [Act.put, List.setIfInBounds_toArray, List.set_cons_zero, List.set_cons_succ])
            refine oneUp 8 rfl (by kernel_rfl) (by rfl) (fun K hK => ?_)
            go_simp
            refine (N1.out 3 (by omega) (by omega) Y2 Q2.out.2.src).mono ?_
            rintro e Y3 ⟨r3, rfl, hr3, hs3, hk3⟩
            have Q3 : Hid (HOwn Y3 (w.heap.size + 2) (.slice (some ⟨g, 0, none⟩) hs.length cap) hs hs.length cs ∧ DSt w Y3 S wr.heap.size (some ⟨g, 0, none⟩) cap hs) := ⟨Q2.out.1.keepK hk3 (by omega), Q2.out.2.keepK hs3 hk3⟩
            have G3 : Hid (Y3.heap[Y1.heap.size]? = some (.cells #[.int .i64 (-2), .int .i64 kk, .int .i64 ((kk : Int) + 1)] 2 (0, 0))) := (hk3.block _ (Array.getElem?_eq_some_iff.1 G2.out).1 (by omega)).trans G2.out
            clear hs3 hk3
            refine hK.out _ _ (HBC.out _ Q3.out.2) (fun hHeld3 => ?_)
            clear hK K
            (try simp only [Act.put, List.setIfInBounds_toArray, List.set_cons_zero, List.set_cons_succ])
            obtain ⟨x4, hx4⟩ : ∃ x : Int, Y3.cell? ⟨Y1.heap.size, r3, none⟩ = some (.int .i64 x) := ints_at (xs := [-2, (kk : Int), (kk : Int) + 1]) G3.out (by simp; omega)
            have hrr4 : (r3 : Int) < 3 := by omega
            refine takeIn 9 (v := ?vst4x9) rfl (by kernel_rfl) (by kernel_rfl) (by kernel_rfl) (fun _ _ _ h => h) ?wst4x9 (by assumption) ?yst4x9 ?rst4x9
            case wst4x9 => rfl
            case yst4x9 => (intro w hSw; (try dsimp only at hSw); go_simp; first | done | with_reducible rfl)
            simp only [Act.put, List.setIfInBounds_toArray, List.set_cons_zero, List.set_cons_succ]
            refine oneUp 10 rfl (by kernel_rfl) (by rfl) (fun K hK => ?_)
            go_simp
            refine hK.out _ _ (HBC.out _ Q3.out.2) (fun hHeld5 => ?_)
            clear hK K
            (try simp only [Act.put, List.setIfInBounds_toArray, List.set_cons_zero, List.set_cons_succ])
            refine takeIn 11 (v := ?vst4x11) rfl (by kernel_rfl) (by kernel_rfl) (by kernel_rfl) (fun _ _ _ h => h) ?wst4x11 (by assumption) ?yst4x11 ?rst4x11
            case wst4x11 => rfl
            case yst4x11 => (intro w hSw; (try dsimp only at hSw); go_simp; first | done | with_reducible rfl)
            simp only [Act.put, List.setIfInBounds_toArray, List.set_cons_zero, List.set_cons_succ]
            refine takeIn 12 (v := ?vst4x12) rfl (by kernel_rfl) (by kernel_rfl) (by kernel_rfl) (fun _ _ _ h => h) ?wst4x12 (by assumption) ?yst4x12 ?rst4x12
            case wst4x12 => rfl
            case yst4x12 => (intro w hSw; (try dsimp only at hSw); go_simp; first | done | with_reducible rfl)
            simp only [Act.put, List.setIfInBounds_toArray, List.set_cons_zero, List.set_cons_succ]
            obtain ⟨⟨v6, c6⟩, z6, hsp6⟩ := HSP1.out Y3 x4 Q3.out.1 Q3.out.2
            have SPOX : Hid (Spo w (Y3.setCell ⟨g, kk * 3 + 1, none⟩ (.int .i64 x4)) S (some ⟨g, 0, none⟩) cap (hs.set kk { hs[kk] with pro := x4 })) := hsp6
            clear hsp6
            refine oneUp 13 rfl (by kernel_rfl) (by rfl) (fun K hK => ?_)
            (try simp only [Nat.add_zero] at *)
            go_simp
            refine hK.out _ _ (by have := (one_of SPOX.out.box).1; rw [List.length_set] at this; exact this) (fun hHeld6 => ?_)
            clear hK K
            refine wpAnyH_done (by kernel_rfl) ?_ _
            obtain ⟨y0, y1, y2, hfin⟩ := SPOX.out.fin (by rw [List.length_set]; exact ⟨HD4.out.2, HD4.out.1⟩)
            rw [List.length_set] at y0 hfin
            have HF : Hid _ := hfin
            clear hfin
            generalize World.setCell _ _ _ = Z0 at y0 y1 y2 HF ⊢
            go_wp2_with fail
            obtain ⟨z0, f1, f2, f3, cs2, f4⟩ := HF.out
            clear y0 y1 y2
            generalize World.setCell _ _ _ = W9 at z0 f2 f3 f4 ⊢
            exact bodyPost_ret (v := .agg #[.slice (some ⟨g, 0, none⟩) hs.length cap]) (by simp [results, Try.results37, go_sem, z0]) rfl ⟨_, cap, hs.set kk { hs[kk] with pro := x4 }, cs2, by rw [List.length_set], f1, f2, f3, f4⟩
          · go_simp
            refine (N1.out 3 (by omega) (by omega) Y1 Q1.out.2.src).mono ?_
            rintro e Y7 ⟨r7, rfl, hr7, hs7, hk7⟩
            have Q7 : Hid (HOwn Y7 (w.heap.size + 2) (.slice (some ⟨g, 0, none⟩) hs.length cap) hs hs.length cs ∧ DSt w Y7 S wr.heap.size (some ⟨g, 0, none⟩) cap hs) := ⟨Q1.out.1.keepK hk7 (by omega), Q1.out.2.keepK hs7 hk7⟩
            clear hs7 hk7
            refine hK.out _ _ (HBC.out _ Q7.out.2) (fun hHeld7 => ?_)
            clear hK K
            (try simp only [Act.put, List.setIfInBounds_toArray, List.set_cons_zero, List.set_cons_succ])
            refine oneUp 6 rfl (by kernel_rfl) (by rfl) (fun K hK => ?_)
            go_simp
            generalize hG8 : World.alloc _ _ = Y8
            have Q8 : Hid (HOwn Y8 (w.heap.size + 2) (.slice (some ⟨g, 0, none⟩) hs.length cap) hs hs.length cs ∧ DSt w Y8 S wr.heap.size (some ⟨g, 0, none⟩) cap hs) := by
              rw [← hG8]
              exact ⟨Q7.out.1.under ((Below.refl _ _).alloc (Nat.le_refl _) _), Q7.out.2.under ((Below.refl _ _).alloc (Nat.le_refl _) _)⟩
            have G8 : Hid (Y8.heap[Y7.heap.size]? = some (.cells #[.int .i64 (-2), .int .i64 kk, .int .i64 ((kk : Int) + 1)] 2 (0, 0))) := by
              rw [← hG8]
              exact heap_alloc_new _ _
            have L8 : S < Y7.heap.size := Q7.out.2.src.lt
            clear hG8
            refine hK.out _ _ (HBC.out _ Q8.out.2) (fun hHeld8 => ?_)
            clear hK K
            (try simp only [Act.put, List.setIfInBounds_toArray, List.set_cons_zero, List.set_cons_succ])
            obtain ⟨x9, hx9⟩ : ∃ x : Int, Y8.cell? ⟨Y7.heap.size, r7, none⟩ = some (.int .i64 x) := ints_at (xs := [-2, (kk : Int), (kk : Int) + 1]) G8.out (by simp; omega)
            have hrr9 : (r7 : Int) < 3 := by omega
            refine takeIn 9 (v := ?vst9x9) rfl (by kernel_rfl) (by kernel_rfl) (by kernel_rfl) (fun _ _ _ h => h) ?wst9x9 (by assumption) ?yst9x9 ?rst9x9
            case wst9x9 => rfl
            case yst9x9 => (intro w hSw; (try dsimp only at hSw); go_simp; first | done | with_reducible rfl)
            simp only [Act.put, List.setIfInBounds_toArray, List.set_cons_zero, List.set_cons_succ]
            refine oneUp 10 rfl (by kernel_rfl) (by rfl) (fun K hK => ?_)
            go_simp
            refine hK.out _ _ (HBC.out _ Q8.out.2) (fun hHeld10 => ?_)
            clear hK K
            (try simp only [Act.put, List.setIfInBounds_toArray, List.set_cons_zero, List.set_cons_succ])
            refine takeIn 11 (v := ?vst9x11) rfl (by kernel_rfl) (by kernel_rfl) (by kernel_rfl) (fun _ _ _ h => h) ?wst9x11 (by assumption) ?yst9x11 ?rst9x11
            case wst9x11 => rfl
            case yst9x11 => (intro w hSw; (try dsimp only at hSw); go_simp; first | done | with_reducible rfl)
            simp only [Act.put, List.setIfInBounds_toArray, List.set_cons_zero, List.set_cons_succ]
            refine takeIn 12 (v := ?vst9x12) rfl (by kernel_rfl) (by kernel_rfl) (by kernel_rfl) (fun _ _ _ h => h) ?wst9x12 (by assumption) ?yst9x12 ?rst9x12
            case wst9x12 => rfl
            case yst9x12 => (intro w hSw; (try dsimp only at hSw); go_simp; first | done | with_reducible rfl)
            simp only [Act.put, List.setIfInBounds_toArray, List.set_cons_zero, List.set_cons_succ]
            obtain ⟨⟨v11, c11⟩, z11, hsp11⟩ := HSP1.out Y8 x9 Q8.out.1 Q8.out.2
            have SPOX : Hid (Spo w (Y8.setCell ⟨g, kk * 3 + 1, none⟩ (.int .i64 x9)) S (some ⟨g, 0, none⟩) cap (hs.set kk { hs[kk] with pro := x9 })) := hsp11
            clear hsp11
            refine oneUp 13 rfl (by kernel_rfl) (by rfl) (fun K hK => ?_)
            (try simp only [Nat.add_zero] at *)
            go_simp
            refine hK.out _ _ (by have := (one_of SPOX.out.box).1; rw [List.length_set] at this; exact this) (fun hHeld11 => ?_)
            clear hK K
            refine wpAnyH_done (by kernel_rfl) ?_ _
            obtain ⟨y0, y1, y2, hfin⟩ := SPOX.out.fin (by rw [List.length_set]; exact ⟨HD4.out.2, HD4.out.1⟩)
            rw [List.length_set] at y0 hfin
            have HF : Hid _ := hfin
            clear hfin
            generalize World.setCell _ _ _ = Z0 at y0 y1 y2 HF ⊢
            go_wp2_with fail
            obtain ⟨z0, f1, f2, f3, cs2, f4⟩ := HF.out
            clear y0 y1 y2
            generalize World.setCell _ _ _ = W9 at z0 f2 f3 f4 ⊢
            exact bodyPost_ret (v := .agg #[.slice (some ⟨g, 0, none⟩) hs.length cap]) (by simp [results, Try.results37, go_sem, z0]) rfl ⟨_, cap, hs.set kk { hs[kk] with pro := x9 }, cs2, by rw [List.length_set], f1, f2, f3, f4⟩
        · go_wp2_with fail
          have Q12 : Hid (HOwn A3.drew (w.heap.size + 2) (.slice (some ⟨g, 0, none⟩) hs.length cap) hs hs.length cs ∧ DSt w A3.drew S wr.heap.size (some ⟨g, 0, none⟩) cap hs) := ⟨HO.out.1.under (Below.refl A3.heap.size A3).drew, HO.out.2.under (Below.refl A3.heap.size A3).drew⟩
          refine wp_region_held_drew (S := fun W' => W'.cell? ⟨w.heap.size + 1, 0, none⟩ = some (.slice (some ⟨g, 0, none⟩) hs.length cap)) (by kernel_rfl) (HBC.out _ Q12.out.2) (fun hHeld => ?_)
          generalize hD12 : A3.drew = Y12 at Q12 hHeld ⊢
          clear hD12
          refine takeIn 0 (v := ?vu12x0) rfl (by kernel_rfl) (by kernel_rfl) (by kernel_rfl) (fun _ _ _ h => h) ?wu12x0 (by assumption) ?yu12x0 ?ru12x0
          case wu12x0 => rfl
          case yu12x0 => (intro w hSw; (try dsimp only at hSw); go_simp; first | done | with_reducible rfl)
          simp only [Act.put, List.setIfInBounds_toArray, List.set_cons_zero, List.set_cons_succ]
          refine takeIn 1 (v := ?vu12x1) rfl (by kernel_rfl) (by kernel_rfl) (by kernel_rfl) (fun _ _ _ h => h) ?wu12x1 (by assumption) ?yu12x1 ?ru12x1
          case wu12x1 => rfl
          case yu12x1 => (intro w hSw; (try dsimp only at hSw); go_simp; first | done | with_reducible rfl)
          simp only [Act.put, List.setIfInBounds_toArray, List.set_cons_zero, List.set_cons_succ]
          refine takeIn 2 (v := ?vu12x2) rfl (by kernel_rfl) (by kernel_rfl) (by kernel_rfl) (fun _ _ _ h => h) ?wu12x2 (by assumption) ?yu12x2 ?ru12x2
          case wu12x2 => rfl
          case yu12x2 => (intro w hSw; (try dsimp only at hSw); go_simp; first | done | with_reducible rfl)
          simp only [Act.put, List.setIfInBounds_toArray, List.set_cons_zero, List.set_cons_succ]
          refine takeIn 4 (v := ?vu12x4) rfl (by kernel_rfl) (by kernel_rfl) (by kernel_rfl) (fun _ _ _ h => h) ?wu12x4 (by assumption) ?yu12x4 ?ru12x4
          case wu12x4 => rfl
          case yu12x4 => (intro w hSw; (try dsimp only at hSw); go_simp; first | done | with_reducible rfl)
          simp only [Act.put, List.setIfInBounds_toArray, List.set_cons_zero, List.set_cons_succ]
          refine twoUp 3 5 rfl rfl (by kernel_rfl) (by rfl) (by rfl) (fun K hK => ?_) (fun K hK => ?_)
          · go_simp
            generalize hG13 : World.alloc _ _ = Y13
            have Q13 : Hid (HOwn Y13 (w.heap.size + 2) (.slice (some ⟨g, 0, none⟩) hs.length cap) hs hs.length cs ∧ DSt w Y13 S wr.heap.size (some ⟨g, 0, none⟩) cap hs) := by
              rw [← hG13]
              exact ⟨Q12.out.1.under ((Below.refl _ _).alloc (Nat.le_refl _) _), Q12.out.2.under ((Below.refl _ _).alloc (Nat.le_refl _) _)⟩
            have G13 : Hid (Y13.heap[Y12.heap.size]? = some (.cells #[.int .i64 (-1), .int .i64 3] 2 (0, 0))) := by
              rw [← hG13]
              exact heap_alloc_new _ _
            have L13 : S < Y12.heap.size := Q12.out.2.src.lt
            clear hG13
            refine hK.out _ _ (HBC.out _ Q13.out.2) (fun hHeld13 => ?_)
            clear hK K
            (try simp only [Act.put, List.setIfInBounds_toArray, List.set_cons_zero, List.set_cons_succ])
            refine oneUp 5 rfl (by kernel_rfl) (by rfl) (fun K hK => ?_)
            go_simp
            refine (N1.out 2 (by omega) (by omega) Y13 Q13.out.2.src).mono ?_
            rintro e Y14 ⟨r14, rfl, hr14, hs14, hk14⟩
            have Q14 : Hid (HOwn Y14 (w.heap.size + 2) (.slice (some ⟨g, 0, none⟩) hs.length cap) hs hs.length cs ∧ DSt w Y14 S wr.heap.size (some ⟨g, 0, none⟩) cap hs) := ⟨Q13.out.1.keepK hk14 (by omega), Q13.out.2.keepK hs14 hk14⟩
            have G14 : Hid (Y14.heap[Y12.heap.size]? = some (.cells #[.int .i64 (-1), .int .i64 3] 2 (0, 0))) := (hk14.block _ (Array.getElem?_eq_some_iff.1 G13.out).1 (by omega)).trans G13.out
            clear hs14 hk14
            refine hK.out _ _ (HBC.out _ Q14.out.2) (fun hHeld14 => ?_)
            clear hK K
            (try simp only [Act.put, List.setIfInBounds_toArray, List.set_cons_zero, List.set_cons_succ])
            obtain ⟨x15, hx15⟩ : ∃ x : Int, Y14.cell? ⟨Y12.heap.size, r14, none⟩ = some (.int .i64 x) := ints_at (xs := [-1, 3]) G14.out (by simp; omega)
            have hrr15 : (r14 : Int) < 2 := by omega
            refine takeIn 6 (v := ?vut15x6) rfl (by kernel_rfl) (by kernel_rfl) (by kernel_rfl) (fun _ _ _ h => h) ?wut15x6 (by assumption) ?yut15x6 ?rut15x6
            case wut15x6 => rfl
            case yut15x6 => (intro w hSw; (try dsimp only at hSw); go_simp; first | done | with_reducible rfl)
            simp only [Act.put, List.setIfInBounds_toArray, List.set_cons_zero, List.set_cons_succ]
            refine oneUp 7 rfl (by kernel_rfl) (by rfl) (fun K hK => ?_)
            go_simp
            refine hK.out _ _ (HBC.out _ Q14.out.2) (fun hHeld16 => ?_)
            clear hK K
            (try simp only [Act.put, List.setIfInBounds_toArray, List.set_cons_zero, List.set_cons_succ])
            refine takeIn 8 (v := ?vut15x8) rfl (by kernel_rfl) (by kernel_rfl) (by kernel_rfl) (fun _ _ _ h => h) ?wut15x8 (by assumption) ?yut15x8 ?rut15x8
            case wut15x8 => rfl
            case yut15x8 => (intro w hSw; (try dsimp only at hSw); go_simp; first | done | with_reducible rfl)
            simp only [Act.put, List.setIfInBounds_toArray, List.set_cons_zero, List.set_cons_succ]
            refine takeIn 9 (v := ?vut15x9) rfl (by kernel_rfl) (by kernel_rfl) (by kernel_rfl) (fun _ _ _ h => h) ?wut15x9 (by assumption) ?yut15x9 ?rut15x9
            case wut15x9 => rfl
            case yut15x9 => (intro w hSw; (try dsimp only at hSw); go_simp; first | done | with_reducible rfl)
            simp only [Act.put, List.setIfInBounds_toArray, List.set_cons_zero, List.set_cons_succ]
            obtain ⟨⟨v17, c17⟩, z17, hsp17⟩ := HSP0.out Y14 x15 Q14.out.1 Q14.out.2
            have SPOX : Hid (Spo w (Y14.setCell ⟨g, kk * 3 + 0, none⟩ (.int .i64 x15)) S (some ⟨g, 0, none⟩) cap (hs.set kk { hs[kk] with cls := x15 })) := hsp17
            clear hsp17
            refine oneUp 10 rfl (by kernel_rfl) (by rfl) (fun K hK => ?_)
            (try simp only [Nat.add_zero] at *)
            go_simp
            refine hK.out _ _ (by have := (one_of SPOX.out.box).1; rw [List.length_set] at this; exact this) (fun hHeld17 => ?_)
            clear hK K
            refine wpAnyH_done (by kernel_rfl) ?_ _
            obtain ⟨y0, y1, y2, hfin⟩ := SPOX.out.fin (by rw [List.length_set]; exact ⟨HD4.out.2, HD4.out.1⟩)
            rw [List.length_set] at y0 hfin
            have HF : Hid _ := hfin
            clear hfin
            generalize World.setCell _ _ _ = Z0 at y0 y1 y2 HF ⊢
            go_wp2_with fail
            obtain ⟨z0, f1, f2, f3, cs2, f4⟩ := HF.out
            clear y0 y1 y2
            generalize World.setCell _ _ _ = W9 at z0 f2 f3 f4 ⊢
            exact bodyPost_ret (v := .agg #[.slice (some ⟨g, 0, none⟩) hs.length cap]) (by simp [results, Try.results37, go_sem, z0]) rfl ⟨_, cap, hs.set kk { hs[kk] with cls := x15 }, cs2, by rw [List.length_set], f1, f2, f3, f4⟩
          · go_simp
            refine (N1.out 2 (by omega) (by omega) Y12 Q12.out.2.src).mono ?_
            rintro e Y18 ⟨r18, rfl, hr18, hs18, hk18⟩
            have Q18 : Hid (HOwn Y18 (w.heap.size + 2) (.slice (some ⟨g, 0, none⟩) hs.length cap) hs hs.length cs ∧ DSt w Y18 S wr.heap.size (some ⟨g, 0, none⟩) cap hs) := ⟨Q12.out.1.keepK hk18 (by omega), Q12.out.2.keepK hs18 hk18⟩
            clear hs18 hk18
            refine hK.out _ _ (HBC.out _ Q18.out.2) (fun hHeld18 => ?_)
            clear hK K
            (try simp only [Act.put, List.setIfInBounds_toArray, List.set_cons_zero, List.set_cons_succ])
            refine oneUp 3 rfl (by kernel_rfl) (by rfl) (fun K hK => ?_)
            go_simp
            generalize hG19 : World.alloc _ _ = Y19
            have Q19 : Hid (HOwn Y19 (w.heap.size + 2) (.slice (some ⟨g, 0, none⟩) hs.length cap) hs hs.length cs ∧ DSt w Y19 S wr.heap.size (some ⟨g, 0, none⟩) cap hs) := by
              rw [← hG19]
              exact ⟨Q18.out.1.under ((Below.refl _ _).alloc (Nat.le_refl _) _), Q18.out.2.under ((Below.refl _ _).alloc (Nat.le_refl _) _)⟩
            have G19 : Hid (Y19.heap[Y18.heap.size]? = some (.cells #[.int .i64 (-1), .int .i64 3] 2 (0, 0))) := by
              rw [← hG19]
              exact heap_alloc_new _ _
            have L19 : S < Y18.heap.size := Q18.out.2.src.lt
            clear hG19
            refine hK.out _ _ (HBC.out _ Q19.out.2) (fun hHeld19 => ?_)
            clear hK K
            (try simp only [Act.put, List.setIfInBounds_toArray, List.set_cons_zero, List.set_cons_succ])
            obtain ⟨x20, hx20⟩ : ∃ x : Int, Y19.cell? ⟨Y18.heap.size, r18, none⟩ = some (.int .i64 x) := ints_at (xs := [-1, 3]) G19.out (by simp; omega)
            have hrr20 : (r18 : Int) < 2 := by omega
            refine takeIn 6 (v := ?vut20x6) rfl (by kernel_rfl) (by kernel_rfl) (by kernel_rfl) (fun _ _ _ h => h) ?wut20x6 (by assumption) ?yut20x6 ?rut20x6
            case wut20x6 => rfl
            case yut20x6 => (intro w hSw; (try dsimp only at hSw); go_simp; first | done | with_reducible rfl)
            simp only [Act.put, List.setIfInBounds_toArray, List.set_cons_zero, List.set_cons_succ]
            refine oneUp 7 rfl (by kernel_rfl) (by rfl) (fun K hK => ?_)
            go_simp
            refine hK.out _ _ (HBC.out _ Q19.out.2) (fun hHeld21 => ?_)
            clear hK K
            (try simp only [Act.put, List.setIfInBounds_toArray, List.set_cons_zero, List.set_cons_succ])
            refine takeIn 8 (v := ?vut20x8) rfl (by kernel_rfl) (by kernel_rfl) (by kernel_rfl) (fun _ _ _ h => h) ?wut20x8 (by assumption) ?yut20x8 ?rut20x8
            case wut20x8 => rfl
            case yut20x8 => (intro w hSw; (try dsimp only at hSw); go_simp; first | done | with_reducible rfl)
            simp only [Act.put, List.setIfInBounds_toArray, List.set_cons_zero, List.set_cons_succ]
            refine takeIn 9 (v := ?vut20x9) rfl (by kernel_rfl) (by kernel_rfl) (by kernel_rfl) (fun _ _ _ h => h) ?wut20x9 (by assumption) ?yut20x9 ?rut20x9
            case wut20x9 => rfl
            case yut20x9 => (intro w hSw; (try dsimp only at hSw); go_simp; first | done | with_reducible rfl)
            simp only [Act.put, List.setIfInBounds_toArray, List.set_cons_zero, List.set_cons_succ]
            obtain ⟨⟨v22, c22⟩, z22, hsp22⟩ := HSP0.out Y19 x20 Q19.out.1 Q19.out.2
            have SPOX : Hid (Spo w (Y19.setCell ⟨g, kk * 3 + 0, none⟩ (.int .i64 x20)) S (some ⟨g, 0, none⟩) cap (hs.set kk { hs[kk] with cls := x20 })) := hsp22
            clear hsp22
            refine oneUp 10 rfl (by kernel_rfl) (by rfl) (fun K hK => ?_)
            (try simp only [Nat.add_zero] at *)
            go_simp
            refine hK.out _ _ (by have := (one_of SPOX.out.box).1; rw [List.length_set] at this; exact this) (fun hHeld22 => ?_)
            clear hK K
            refine wpAnyH_done (by kernel_rfl) ?_ _
            obtain ⟨y0, y1, y2, hfin⟩ := SPOX.out.fin (by rw [List.length_set]; exact ⟨HD4.out.2, HD4.out.1⟩)
            rw [List.length_set] at y0 hfin
            have HF : Hid _ := hfin
            clear hfin
            generalize World.setCell _ _ _ = Z0 at y0 y1 y2 HF ⊢
            go_wp2_with fail
            obtain ⟨z0, f1, f2, f3, cs2, f4⟩ := HF.out
            clear y0 y1 y2
            generalize World.setCell _ _ _ = W9 at z0 f2 f3 f4 ⊢
            exact bodyPost_ret (v := .agg #[.slice (some ⟨g, 0, none⟩) hs.length cap]) (by simp [results, Try.results37, go_sem, z0]) rfl ⟨_, cap, hs.set kk { hs[kk] with cls := x20 }, cs2, by rw [List.length_set], f1, f2, f3, f4⟩
        · have HSP2 : Hid (∀ (W W1 : World) (a4 : Option Addr) (cap4 n4 : Nat) (qs : List PP), HOwn W (w.heap.size + 2) (.slice (some ⟨g, 0, none⟩) hs.length cap) hs hs.length cs → DSt w W S wr.heap.size (some ⟨g, 0, none⟩) cap hs → W.grownBy W1 (Value.slice (cs kk).pa hs[kk].ps.length (cs kk).pc).ownBlock → POwn W1 (w.heap.size + 2) (.slice a4 n4 cap4) qs → qs.length = n4 → qs.length ≤ 8 → (∀ p ∈ qs, SmallP p) → (∃ v, W1.cell? ⟨g, kk * 3 + 2, none⟩ = some v) ∧ W1.frozen? ⟨g, kk * 3 + 2, none⟩ = false ∧ Spo w (W1.setCell ⟨g, kk * 3 + 2, none⟩ (.slice a4 n4 cap4)) S (some ⟨g, 0, none⟩) cap (hs.set kk { hs[kk] with ps := qs })) := fun W W1 a4 cap4 n4 qs k d hg hp hn h8 hsm => by
            subst hn
            have hgW := (World.ownsRow.lt k.1 g rfl).2
            obtain ⟨_, c2, h2⟩ := own_apart k.1 (k := g) rfl
            have hg1 : W1.heap[g]? = W.heap[g]? := hg.block g hgW (fun e => by
              obtain ⟨_, c1, h1⟩ := own_apart (k.2.1 kk hkk hkk) (k := g) e.symm
              rw [h2] at h1
              injection h1 with h1
              injection h1 with _ h1 _
              exact absurd h1 (by decide))
            refine d.spoil hkk k hg { hs[kk] with ps := qs } ⟨a4, cap4⟩ ⟨h8, hsm⟩ hp.psIn (POwn.capS hp _ rfl) (fun b o e _ e2 => ?_) 2 (by omega) _ rfl (fun t ht hne => by
              rcases (by omega : t = 0 ∨ t = 1) with rfl | rfl <;> rfl)
            have e' : a4 = some ⟨b, o, none⟩ := e
            obtain ⟨_, c1, h1⟩ := own_apart hp (k := b) (by rw [e']; rfl)
            rw [e2, hg1, h2] at h1
            injection h1 with h1
            injection h1 with _ h1 _
            exact absurd h1 (by decide)
          have hpl := (HO.out.2.small _ (List.getElem_mem hkk)).2
          have HSMK : Hid (∀ p ∈ hs[kk].ps, SmallP p) := (HO.out.2.small _ (List.getElem_mem hkk)).1.2
          have hcc : ∀ t, t < 3 → A3.cell? ⟨g, kk * 3 + t, none⟩ = (objL hs[kk] (cs kk))[t]? := fun t ht => by
            rw [World.ownsRow.cellAt HO.out.1.1 (kk * 3 + t) (by omega), rowO_at hs cs hs.length kk hkk hkk t ht]
          have c2 : A3.cell? ⟨g, kk * 3 + 2, none⟩ = some (.slice (cs kk).pa hs[kk].ps.length (cs kk).pc) := hcc 2 (by omega)
          clear hcc
          have x0 := HBC.out A3 HO.out.2
          have hgl := World.block_lt_of_cell? A3 _ c2
          have hxl : w.heap.size + 1 < A3.heap.size := World.block_lt_of_cell? A3 _ x0
          have HE : Hid (HOwn ((A3.alloc (.cells #[.string ⟨#[97]⟩, .int .i64 6, .int .i64 hs.length, .string ⟨#[]⟩, .bool false, .bool false] 78)).drew) (w.heap.size + 2) (.slice (some ⟨g, 0, none⟩) hs.length cap) hs hs.length cs ∧ DSt w ((A3.alloc (.cells #[.string ⟨#[97]⟩, .int .i64 6, .int .i64 hs.length, .string ⟨#[]⟩, .bool false, .bool false] 78)).drew) S wr.heap.size (some ⟨g, 0, none⟩) cap hs ∧ w.heap.size + 2 ≤ ((A3.alloc (.cells #[.string ⟨#[97]⟩, .int .i64 6, .int .i64 hs.length, .string ⟨#[]⟩, .bool false, .bool false] 78)).drew).heap.size ∧ ∀ j u, ([(⟨⟨#[97]⟩, ⟨6, hs.length, ⟨#[]⟩⟩, false, false⟩ : PP)].flatMap propL)[j]? = some u → ((A3.alloc (.cells #[.string ⟨#[97]⟩, .int .i64 6, .int .i64 hs.length, .string ⟨#[]⟩, .bool false, .bool false] 78)).drew).cell? ((⟨A3.heap.size, 0, none⟩ : Addr).add j) = some u) :=
            ⟨HO.out.1.under ((Below.refl _ _).alloc (Nat.le_refl _) _).drew, HO.out.2.under ((Below.refl _ _).alloc (Nat.le_refl _) _).drew, by show w.heap.size + 2 ≤ (A3.alloc _).heap.size; simp; omega, fun j u hu => new_cells A3 #[.string ⟨#[97]⟩, .int .i64 6, .int .i64 hs.length, .string ⟨#[]⟩, .bool false, .bool false] 78 j u (by simpa [propL, propC] using hu)⟩
          generalize hpe : hs[kk].ps = ps at *
          generalize hpa : (cs kk).pa = pa at *
          generalize hpc : (cs kk).pc = pc at *
          have HS97 : Hid (SmallP ⟨⟨#[97]⟩, ⟨6, hs.length, ⟨#[]⟩⟩, false, false⟩) := ⟨(by decide : (⟨#[97]⟩ : ByteArray).size ≤ 6), (by decide : (⟨#[]⟩ : ByteArray).size ≤ 2000)⟩
          have HRP : Hid (POwn ((A3.alloc (.cells #[.string ⟨#[97]⟩, .int .i64 6, .int .i64 hs.length, .string ⟨#[]⟩, .bool false, .bool false] 78)).drew) (w.heap.size + 2) (.slice pa ps.length pc) ps) := by
            have := HE.out.1.2.1 kk hkk hkk
            unfold pV at this
            rw [hpe, hpa, hpc] at this
            exact this
          go_wp2_with fail
          go_region_law (refine app_props rfl (.tmp 130) (.tmp 134) rfl (w.heap.size + 2) (.slice pa ps.length pc) ps.length ps rfl (by rfl) HRP.out ⟨A3.heap.size, 0, none⟩ 1 1 [(⟨⟨#[97]⟩, ⟨6, hs.length, ⟨#[]⟩⟩, false, false⟩ : PP)] rfl (by rfl) HE.out.2.2.2 (ps.length + 1) rfl (by omega) HE.out.2.2.1 ?_; intro a4 cap4 w4 hown4 hgrow4; have y9 := HB9.out _ w4 _ HE.out.1 HE.out.2.1 hgrow4 (by unfold pV; rw [hpe, hpa, hpc]); have hsp := HSP2.out _ w4 a4 cap4 (ps.length + 1) _ HE.out.1 HE.out.2.1 hgrow4 hown4 (by simp) (by simp; omega) (fun p hp => by rcases List.mem_append.1 hp with hp | hp; exact HSMK.out p hp; rw [List.mem_singleton] at hp; subst hp; exact HS97.out); obtain ⟨⟨v5, c5⟩, z5, hspo⟩ := hsp; have HSPO : Hid (Spo w _ S _ cap _) := hspo; clear hspo hown4 hgrow4)
          all_goals
            obtain ⟨y0, y1, y2, hfin⟩ := HSPO.out.fin (by rw [List.length_set]; exact ⟨HD4.out.2, HD4.out.1⟩)
            rw [List.length_set] at y0 hfin
            have HF : Hid _ := hfin
            clear hfin
            generalize World.setCell _ _ _ = Z0 at y0 y1 y2 HF ⊢
            go_wp2_with fail
            obtain ⟨z0, f1, f2, f3, cs2, f4⟩ := HF.out
            clear y0 y1 y2
            generalize World.setCell _ _ _ = W9 at z0 f2 f3 f4 ⊢
            exact bodyPost_ret (v := .agg #[.slice (some ⟨g, 0, none⟩) hs.length cap]) (by simp [results, Try.results37, go_sem, z0]) rfl ⟨_, cap, _, cs2, by rw [List.length_set], f1, f2, f3, f4⟩
        · have HSP2 : Hid (∀ (W W1 : World) (a4 : Option Addr) (cap4 n4 : Nat) (qs : List PP), HOwn W (w.heap.size + 2) (.slice (some ⟨g, 0, none⟩) hs.length cap) hs hs.length cs → DSt w W S wr.heap.size (some ⟨g, 0, none⟩) cap hs → W.grownBy W1 (Value.slice (cs kk).pa hs[kk].ps.length (cs kk).pc).ownBlock → POwn W1 (w.heap.size + 2) (.slice a4 n4 cap4) qs → qs.length = n4 → qs.length ≤ 8 → (∀ p ∈ qs, SmallP p) → (∃ v, W1.cell? ⟨g, kk * 3 + 2, none⟩ = some v) ∧ W1.frozen? ⟨g, kk * 3 + 2, none⟩ = false ∧ Spo w (W1.setCell ⟨g, kk * 3 + 2, none⟩ (.slice a4 n4 cap4)) S (some ⟨g, 0, none⟩) cap (hs.set kk { hs[kk] with ps := qs })) := fun W W1 a4 cap4 n4 qs k d hg hp hn h8 hsm => by
            subst hn
            have hgW := (World.ownsRow.lt k.1 g rfl).2
            obtain ⟨_, c2, h2⟩ := own_apart k.1 (k := g) rfl
            have hg1 : W1.heap[g]? = W.heap[g]? := hg.block g hgW (fun e => by
              obtain ⟨_, c1, h1⟩ := own_apart (k.2.1 kk hkk hkk) (k := g) e.symm
              rw [h2] at h1
              injection h1 with h1
              injection h1 with _ h1 _
              exact absurd h1 (by decide))
            refine d.spoil hkk k hg { hs[kk] with ps := qs } ⟨a4, cap4⟩ ⟨h8, hsm⟩ hp.psIn (POwn.capS hp _ rfl) (fun b o e _ e2 => ?_) 2 (by omega) _ rfl (fun t ht hne => by
              rcases (by omega : t = 0 ∨ t = 1) with rfl | rfl <;> rfl)
            have e' : a4 = some ⟨b, o, none⟩ := e
            obtain ⟨_, c1, h1⟩ := own_apart hp (k := b) (by rw [e']; rfl)
            rw [e2, hg1, h2] at h1
            injection h1 with h1
            injection h1 with _ h1 _
            exact absurd h1 (by decide)
          have hpl := (HO.out.2.small _ (List.getElem_mem hkk)).2
          have HSMK : Hid (∀ p ∈ hs[kk].ps, SmallP p) := (HO.out.2.small _ (List.getElem_mem hkk)).1.2
          have hcc : ∀ t, t < 3 → A3.cell? ⟨g, kk * 3 + t, none⟩ = (objL hs[kk] (cs kk))[t]? := fun t ht => by
            rw [World.ownsRow.cellAt HO.out.1.1 (kk * 3 + t) (by omega), rowO_at hs cs hs.length kk hkk hkk t ht]
          have c2 : A3.cell? ⟨g, kk * 3 + 2, none⟩ = some (.slice (cs kk).pa hs[kk].ps.length (cs kk).pc) := hcc 2 (by omega)
          clear hcc
          have x0 := HBC.out A3 HO.out.2
          have hgl := World.block_lt_of_cell? A3 _ c2
          have hxl : w.heap.size + 1 < A3.heap.size := World.block_lt_of_cell? A3 _ x0
          generalize hpe : hs[kk].ps = ps at *
          generalize hpa : (cs kk).pa = pa at *
          generalize hpc : (cs kk).pc = pc at *
          have HE : Hid (HOwn A3.drew (w.heap.size + 2) (.slice (some ⟨g, 0, none⟩) hs.length cap) hs hs.length cs ∧ DSt w A3.drew S wr.heap.size (some ⟨g, 0, none⟩) cap hs) := ⟨HO.out.1.under (Below.refl _ _).drew, HO.out.2.under (Below.refl _ _).drew⟩
          have HRP : Hid (POwn A3.drew (w.heap.size + 2) (.slice pa ps.length pc) ps) := by
            have := HE.out.1.2.1 kk hkk hkk
            unfold pV at this
            rw [hpe, hpa, hpc] at this
            exact this
          rcases HRP.out.2 with ⟨e, e0⟩ | ⟨q, cap', cur, e, -⟩
          · have e0' : ps = [] := List.length_eq_zero_iff.1 e0
            subst e0'
            injection e with e1 _ e3
            subst e1 e3
            have hsp := HSP2.out A3 A3 none 0 0 [] HO.out.1 HO.out.2 ⟨rfl, rfl, rfl, Nat.le_refl _, fun _ _ _ => rfl⟩ HRP.out rfl (by simp) (fun p hp => absurd hp (by simp))
            obtain ⟨-, z5, hspo⟩ := hsp
            have HSPO : Hid (Spo w ((A3.setCell ⟨g, kk * 3 + 2, none⟩ (.slice none 0 0)).drew) S _ cap _) := hspo.drew
            clear hspo
            simp only [List.length_nil] at c2
            go_wp2_with fail
            go_region
            all_goals
              obtain ⟨y0, y1, y2, hfin⟩ := HSPO.out.fin (by rw [List.length_set]; exact ⟨HD4.out.2, HD4.out.1⟩)
              rw [List.length_set] at y0 hfin
              have HF : Hid _ := hfin
              clear hfin
              generalize World.drew _ = Z0 at y0 y1 y2 HF ⊢
              go_wp2_with fail
              obtain ⟨z0, f1, f2, f3, cs2, f4⟩ := HF.out
              clear y0 y1 y2
              generalize World.setCell _ _ _ = W9 at z0 f2 f3 f4 ⊢
              exact bodyPost_ret (v := .agg #[.slice (some ⟨g, 0, none⟩) hs.length cap]) (by simp [results, Try.results37, go_sem, z0]) rfl ⟨_, cap, _, cs2, by rw [List.length_set], f1, f2, f3, f4⟩
          · injection e with e1 _ e3
            subst e1 e3
            have HNS : Hid (∀ j u, (ps.flatMap propL)[j]? = some u → A3.drew.cell? ((⟨q, 0, none⟩ : Addr).add j) = some u) := news_prop HRP.out.psIn
            go_wp2_with fail
            go_region_law (refine app_props rfl (.tmp 83) (.tmp 89) rfl (w.heap.size + 2) (.slice (some ⟨q, 0, none⟩) ps.length pc) ps.length ps rfl (by rfl) HRP.out ⟨q, 0, none⟩ ps.length pc ps rfl (by rfl) HNS.out (ps.length + ps.length) rfl (by omega) (by show w.heap.size + 2 ≤ A3.heap.size; omega) ?_; intro a4 cap4 w4 hown4 hgrow4; have y9 := HB9.out _ w4 _ HE.out.1 HE.out.2 hgrow4 (by unfold pV; rw [hpe, hpa, hpc]); have hsp := HSP2.out _ w4 a4 cap4 (ps.length + ps.length) _ HE.out.1 HE.out.2 hgrow4 hown4 (by simp) (by simp; omega) (fun p hp => by rcases List.mem_append.1 hp with hp | hp <;> exact HSMK.out p hp); obtain ⟨⟨v5, c5⟩, z5, hspo⟩ := hsp; have HSPO : Hid (Spo w _ S _ cap _) := hspo; clear hspo hown4 hgrow4)
            all_goals
              obtain ⟨y0, y1, y2, hfin⟩ := HSPO.out.fin (by rw [List.length_set]; exact ⟨HD4.out.2, HD4.out.1⟩)
              rw [List.length_set] at y0 hfin
              have HF : Hid _ := hfin
              clear hfin
              generalize World.setCell _ _ _ = Z0 at y0 y1 y2 HF ⊢
              go_wp2_with fail
              obtain ⟨z0, f1, f2, f3, cs2, f4⟩ := HF.out
              clear y0 y1 y2
              generalize World.setCell _ _ _ = W9 at z0 f2 f3 f4 ⊢
              exact bodyPost_ret (v := .agg #[.slice (some ⟨g, 0, none⟩) hs.length cap]) (by simp [results, Try.results37, go_sem, z0]) rfl ⟨_, cap, _, cs2, by rw [List.length_set], f1, f2, f3, f4⟩
    have hlt' : (hs.length : Int) < (NN : Int) := by omega
    have hwi : IntKind.i64.wrap ((hs.length : Int) + 1) = ((hs.length + 1 : Nat) : Int) := by rw [IntKind.wrap_i64]; omega
    go_wp2_with fail
    refine (N1.out 3 (by omega) (by omega) wr HD.out.src).mono ?_
    rintro e A1 ⟨r1, rfl, hr1, hs1, hk1⟩
    have HA1 : Hid (DSt w A1 S wr.heap.size a cap hs) := HD.out.keepK hs1 hk1
    have hz1 : wr.heap.size ≤ A1.heap.size := hk1.size
    clear hs1 hk1
    go_wp2_with fail
    refine (N1.out (hs.length + 1) (by omega) (by omega) A1 HA1.out.src).mono ?_
    rintro e A2 ⟨r2, rfl, hr2, hs2, hk2⟩
    have HA2 : Hid (DSt w A2 S wr.heap.size a cap hs) := HA1.out.keepK hs2 hk2
    have hz2 : A1.heap.size ≤ A2.heap.size := hk2.size
    clear hs2 hk2 HA1
    go_wp2_with fail
    generalize ((r2 : Int) - 1) = pro
    generalize hG : A2.alloc _ = A3
    have HO3 : Hid (OSt w A3 S A2.heap.size a cap hs r1 pro none 0 []) := by
      rw [← hG]
      have k := HA2.out.under ((Below.refl A2.heap.size A2).alloc (Nat.le_refl _) (.cells #[.int .i64 r1, .int .i64 pro, .slice none 0 0] 76))
      obtain ⟨cs, ho, q1, q2⟩ := k.own
      refine ⟨⟨k.src, k.keep, k.low, k.res, k.box, ⟨cs, ho, fun j hj q hq => by have := q1 j hj q hq; omega, fun q hq => by have := q2 q hq; omega⟩, k.small⟩, heap_alloc_new _ _, World.ownsRow_nil _ _ _ _, ?_⟩
      have := (Array.getElem?_eq_some_iff.1 HA2.out.box).1
      omega
    clear hG HA2 hz1 hz2
    generalize A2.heap.size = P at *
    refine (N1.out 4 (by omega) (by omega) A3 HO3.out.1.src).mono ?_
    rintro e A4 ⟨r3, rfl, hr3, hs4, hk4⟩
    have HO4 : Hid (OSt w A4 S P a cap hs r1 pro none 0 []) := HO3.out.keepK hs4 hk4
    clear hs4 hk4 HO3
    generalize (r1 : Int) = cls at *
    go_wp2_with fail
    go_loopw [7] (fun vk wx => ∃ (k : Nat) (pa : Option Addr) (pc : Nat) (ps : List PP), vk = .int .i64 k ∧ ps.length + k ≤ 3 ∧ Hid ((∀ p ∈ ps, SmallP p) ∧ OSt w wx S P a cap hs cls pro pa pc ps)) (fun vk _ => (intOf vk).toNat)
    case atStart => exact ⟨r3, none, 0, [], rfl, by simp; omega, fun p hp => absurd hp (by simp), HO4.out⟩
    case round =>
      obtain ⟨k, pa, pc, ps, rfl, hk3, HK⟩ := hrel
      by_cases hk0 : k = 0
      · subst hk0
        obtain ⟨cs, ho, q1, -⟩ := HK.out.2.1.own
        obtain ⟨⟨o0, o1, o2⟩, -⟩ := three_all HK.out.2.2.1
        obtain ⟨x0, -⟩ := one_of HK.out.2.1.box
        have hPl := HK.out.2.lt
        have hwl : w.heap.size + 1 < wr.heap.size := World.block_lt_of_cell? wr _ x0
        have HSO : Hid (SmallO ⟨cls, pro, ps⟩ ∧ ps.length ≤ 3) := ⟨⟨by show ps.length ≤ 8; omega, HK.out.1⟩, by omega⟩
        have HOO : Hid (HOwn (wr.alloc (.cells #[.int .i64 cls, .int .i64 pro, .slice pa ps.length pc] 76)) (w.heap.size + 2) (.slice a hs.length cap) hs hs.length cs ∧ (∀ j (hj : j < hs.length) q, (pV hs[j] (cs j)).ownBlock = some q → q < P) ∧ OSt w (wr.alloc (.cells #[.int .i64 cls, .int .i64 pro, .slice pa ps.length pc] 76)) S P a cap hs cls pro pa pc ps) := ⟨ho.under ((Below.refl _ _).alloc (Nat.le_refl _) _), q1, HK.out.2.under ((Below.refl _ _).alloc (Nat.le_refl _) _)⟩
        have hi8 : hs.length ≤ 8 := by omega
        clear ho q1
        go_wp2_with (refine app_obj rfl (.tmp 63) (.tmp 65) rfl (w.heap.size + 2) _ _ _ (by rfl) HOO.out.1.1 ⟨wr.heap.size, 0, none⟩ ⟨cls, pro, ps⟩ ⟨pa, pc⟩ (by rfl) (fun j u hu => new_cells wr #[.int .i64 cls, .int .i64 pro, .slice pa ps.length pc] 76 j u hu) (by omega) (by simp; omega) ?_; intro v' w' hown' hgrow'; have hsh := own_shape hown'; obtain ⟨a2, cap2, rfl⟩ := hsh; have hap := HOO.out.2.2.appended HSO.out HOO.out.1 HOO.out.2.1 hown' hgrow'; obtain ⟨z0, u0, hD⟩ := hap; have HDN : Hid (DSt w (w'.setCell ⟨w.heap.size + 1, 0, none⟩ (.slice a2 (hs.length + 1) cap2)) S (w'.setCell ⟨w.heap.size + 1, 0, none⟩ (.slice a2 (hs.length + 1) cap2)).heap.size a2 cap2 (hs ++ [⟨cls, pro, ps⟩])) := hD; clear hD hown' hgrow')
        exact ⟨⟨hs.length + 1, a2, cap2, hs ++ [(⟨cls, pro, ps⟩ : OO)], by omega, by go_num, by simp, HDN.out⟩, by simp [intOf]; omega⟩
      have hk0' : (0 : Int) < (k : Int) := by omega
      have hwk : IntKind.i64.wrap ((k : Int) - 1) = ((k - 1 : Nat) : Int) := by rw [IntKind.wrap_i64]; omega
      go_wp2_with fail
      refine (HKEY.out wr HK.out.2.1.src).mono ?_
      rintro e B1 ⟨key, hkey, rfl, hs1, hk1⟩
      have HB1 : Hid (OSt w B1 S P a cap hs cls pro pa pc ps) := HK.out.2.keepK hs1 hk1
      clear hs1 hk1
      obtain ⟨⟨o0, o1, o2⟩, -⟩ := three_all HB1.out.2.1
      go_wp2_with fail
      refine (HOWN.out B1 cls pro pa pc (P + 1) ps key (by omega) HB1.out.2.2.1.psIn).mono ?_
      rintro e B2 ⟨rfl, hb2⟩
      have HB2 : Hid (OSt w B2 S P a cap hs cls pro pa pc ps) := HB1.out.under hb2
      clear hb2 HB1 o0 o1 o2
      by_cases hf : Hp.fi ps key < ps.length
      · have hown : Hp.ownI ps key = (Hp.fi ps key : Int) := by unfold Hp.ownI; rw [if_pos hf]
        rw [hown]
        have hf0 : ¬ (Hp.fi ps key : Int) < 0 := by omega
        go_wp2_with fail
        exact ⟨⟨k - 1, pa, pc, ps, rfl, by omega, HK.out.1, HB2.out⟩, by simp [intOf]; omega⟩
      have hown : Hp.ownI ps key = -1 := by unfold Hp.ownI; rw [if_neg hf]
      rw [hown]
      go_wp2_with fail
      refine (HVAL.out B2 HB2.out.1.src).mono ?_
      rintro e B3 ⟨v, hvt, rfl, hs3, hk3'⟩
      have HB3 : Hid (OSt w B3 S P a cap hs cls pro pa pc ps) := HB2.out.keepK hs3 hk3'
      clear hs3 hk3' HB2
      obtain ⟨vk, vn, vt⟩ := v
      unfold vC
      dsimp only at hvt ⊢
      have HSM0 : Hid (∀ p ∈ ps, SmallP p) := HK.out.1
      by_cases hv6 : vk = 6
      · subst hv6
        go_wp2_with fail
        generalize vn.tmod (NN : Int) = vn2
        have HR : Hid (RSt w (B3.alloc (.cells #[.int .i64 6, .int .i64 vn2, .string vt] 27)) S P B3.heap.size a cap hs cls pro pa pc ps ⟨6, vn2, vt⟩) := HB3.out.rst ⟨6, vn2, vt⟩
        have HSM : Hid (∀ b1 b2, ∀ q ∈ ps ++ [(⟨key, ⟨6, vn2, vt⟩, b1, b2⟩ : PP)], SmallP q) := fun b1 b2 q hq => by
          rcases List.mem_append.1 hq with hq | hq
          · exact HSM0.out q hq
          · rw [List.mem_singleton] at hq
            subst hq
            exact ⟨hkey, hvt⟩
        generalize World.alloc _ _ = B4 at HR ⊢
        generalize B3.heap.size = V at HR ⊢
        clear HB3 HK
        have R23 : Hid (RSt w B4.drew S P V a cap hs cls pro pa pc ps ⟨6, vn2, vt⟩) := HR.out.under (Below.refl B4.heap.size B4).drew
        refine wp_region_held_drew (S := fun W' => W'.cell? ⟨V, 0, none⟩ = some (.int .i64 6) ∧ W'.cell? ⟨V, 1, none⟩ = some (.int .i64 vn2) ∧ W'.cell? ⟨V, 2, none⟩ = some (.string vt)) (by kernel_rfl) R23.out.vcells (fun hHeld => ?_)
        generalize hD23 : B4.drew = Y23 at R23 hHeld ⊢
        clear hD23
        refine takeIn 0 (v := ?vp23x0) rfl (by kernel_rfl) (by kernel_rfl) (by kernel_rfl) (fun _ _ _ h => h) ?wp23x0 (by assumption) ?yp23x0 ?rp23x0
        case wp23x0 => rfl
        case yp23x0 => (intro w hSw; (try dsimp only at hSw); go_simp; first | done | with_reducible rfl)
        simp only [Act.put, List.setIfInBounds_toArray, List.set_cons_zero, List.set_cons_succ]
        refine takeIn 2 (v := ?vp23x2) rfl (by kernel_rfl) (by kernel_rfl) (by kernel_rfl) (fun _ _ _ h => h) ?wp23x2 (by assumption) ?yp23x2 ?rp23x2
        case wp23x2 => rfl
        case yp23x2 => (intro w hSw; (try dsimp only at hSw); go_simp; first | done | with_reducible rfl)
        simp only [Act.put, List.setIfInBounds_toArray, List.set_cons_zero, List.set_cons_succ]
        refine takeIn 3 (v := ?vp23x3) rfl (by kernel_rfl) (by kernel_rfl) (by kernel_rfl) (fun _ _ _ h => h) ?wp23x3 (by assumption) ?yp23x3 ?rp23x3
        case wp23x3 => rfl
        case yp23x3 => (intro w hSw; (try dsimp only at hSw); go_simp; first | done | with_reducible rfl)
        simp only [Act.put, List.setIfInBounds_toArray, List.set_cons_zero, List.set_cons_succ]
        refine takeIn 4 (v := ?vp23x4) rfl (by kernel_rfl) (by kernel_rfl) (by kernel_rfl) (fun _ _ _ h => h) ?wp23x4 (by assumption) ?yp23x4 ?rp23x4
        case wp23x4 => rfl
        case yp23x4 => (intro w hSw; (try dsimp only at hSw); go_simp; first | done | with_reducible rfl)
        simp only [Act.put, List.setIfInBounds_toArray, List.set_cons_zero, List.set_cons_succ]
        refine takeIn 6 (v := ?vp23x6) rfl (by kernel_rfl) (by kernel_rfl) (by kernel_rfl) (fun _ _ _ h => h) ?wp23x6 (by assumption) ?yp23x6 ?rp23x6
        case wp23x6 => rfl
        case yp23x6 => (intro w hSw; (try dsimp only at hSw); go_simp; first | done | with_reducible rfl)
        simp only [Act.put, List.setIfInBounds_toArray, List.set_cons_zero, List.set_cons_succ]
        refine twoUp 1 5 rfl rfl (by kernel_rfl) (by rfl) (by rfl) (fun K hK => ?_) (fun K hK => ?_)
        · have c24 := (three_all R23.out.2.1).1.2.2
          go_simp
          refine hK.out _ _ (R23.out.vcells) (fun hHeld24 => ?_)
          clear hK K
          (try simp only [Act.put, List.setIfInBounds_toArray, List.set_cons_zero, List.set_cons_succ])
          refine oneUp 5 rfl (by kernel_rfl) (by rfl) (fun K hK => ?_)
          go_simp
          refine (H1.out Y23 R23.out.1.src).mono ?_
          rintro e Y25 ⟨b25, rfl, hs25, hk25⟩
          have R25 : Hid (RSt w Y25 S P V a cap hs cls pro pa pc ps ⟨6, vn2, vt⟩) := R23.out.keepK hs25 hk25
          clear hs25 hk25
          refine hK.out _ _ (R25.out.vcells) (fun hHeld25 => ?_)
          clear hK K
          (try simp only [Act.put, List.setIfInBounds_toArray, List.set_cons_zero, List.set_cons_succ])
          refine oneUp 7 rfl (by kernel_rfl) (by rfl) (fun K hK => ?_)
          go_simp
          refine (H1.out Y25 R25.out.1.src).mono ?_
          rintro e Y26 ⟨b26, rfl, hs26, hk26⟩
          have R26 : Hid (RSt w Y26 S P V a cap hs cls pro pa pc ps ⟨6, vn2, vt⟩) := R25.out.keepK hs26 hk26
          clear hs26 hk26
          refine hK.out _ _ (R26.out.vcells) (fun hHeld26 => ?_)
          clear hK K
          (try simp only [Act.put, List.setIfInBounds_toArray, List.set_cons_zero, List.set_cons_succ])
          refine takeIn 8 (v := ?vd26x8) rfl (by kernel_rfl) (by kernel_rfl) (by kernel_rfl) (fun _ _ _ h => h) ?wd26x8 (by assumption) ?yd26x8 ?rd26x8
          case wd26x8 => rfl
          case yd26x8 => (intro w hSw; (try dsimp only at hSw); go_simp; first | done | with_reducible rfl)
          simp only [Act.put, List.setIfInBounds_toArray, List.set_cons_zero, List.set_cons_succ]
          refine oneUp 9 rfl (by kernel_rfl) (by rfl) (fun K hK => ?_)
          go_simp
          have R27 : Hid (RSt w (Y26.alloc (.cells #[.string key, .int .i64 6, .int .i64 vn2, .string vt, .bool b25, .bool b26] 78)) S P V a cap hs cls pro pa pc ps ⟨6, vn2, vt⟩) := R26.out.under ((Below.refl _ _).alloc (Nat.le_refl _) _)
          have N27 : Hid (∀ j u, (propL ⟨key, ⟨6, vn2, vt⟩, b25, b26⟩)[j]? = some u → (Y26.alloc (.cells #[.string key, .int .i64 6, .int .i64 vn2, .string vt, .bool b25, .bool b26] 78)).cell? ((⟨Y26.heap.size, 0, none⟩ : Addr).add j) = some u) := fun j u h => new_cells Y26 #[.string key, .int .i64 6, .int .i64 vn2, .string vt, .bool b25, .bool b26] 78 j u h
          refine hK.out _ _ (R27.out.vcells) (fun hHeld27 => ?_)
          clear hK K
          (try simp only [Act.put, List.setIfInBounds_toArray, List.set_cons_zero, List.set_cons_succ])
          refine oneUp 10 rfl (by kernel_rfl) (by rfl) (fun K hK => ?_)
          refine step1_prop rfl (.tmp 51) (.tmp 59) rfl (P + 1) (.slice pa ps.length pc) ps (by rfl) R27.out.2.2.1 ⟨Y26.heap.size, 0, none⟩ ⟨key, ⟨6, vn2, vt⟩, b25, b26⟩ (by rfl) N27.out (by omega) R27.out.base ?_
          intro v' Z28 hown28 hgrow28
          obtain ⟨pa28, pc28, rfl⟩ := own_shape hown28
          have E28 : Hid (REnd w Z28 S P V a cap hs cls pro pa pc ps pa28 pc28 ⟨key, ⟨6, vn2, vt⟩, b25, b26⟩) := R27.out.grown hown28 hgrow28
          clear hown28 hgrow28
          refine hK.out _ _ (E28.out.vcells) (fun hHeld28 => ?_)
          clear hK K
          (try simp only [Act.put, List.setIfInBounds_toArray, List.set_cons_zero, List.set_cons_succ])
          rw [show (ps ++ [(⟨key, ⟨6, vn2, vt⟩, b25, b26⟩ : PP)]).length = ps.length + 1 by simp]
          refine takeIn 11 (v := ?ve28x11) rfl (by kernel_rfl) (by kernel_rfl) (by kernel_rfl) (fun _ _ _ h => h) ?we28x11 (by assumption) ?ye28x11 ?re28x11
          case we28x11 => rfl
          case ye28x11 => (intro w hSw; (try dsimp only at hSw); go_simp; first | done | with_reducible rfl)
          simp only [Act.put, List.setIfInBounds_toArray, List.set_cons_zero, List.set_cons_succ]
          obtain ⟨z28, u28⟩ := E28.out.slot
          refine oneUp 12 rfl (by kernel_rfl) (by rfl) (fun K hK => ?_)
          go_simp
          have F28 : Hid (RSt w (Z28.setCell ⟨P, 2, none⟩ (.slice pa28 (ps.length + 1) pc28)) S P V a cap hs cls pro pa28 pc28 (ps ++ [⟨key, ⟨6, vn2, vt⟩, b25, b26⟩]) ⟨6, vn2, vt⟩) := E28.out.stored
          refine hK.out _ _ (F28.out.vcells) (fun hHeldB28 => ?_)
          clear hK K
          refine wpAnyH_done (by kernel_rfl) ?_ _
          go_wp2_with fail
          exact ⟨⟨k - 1, pa28, pc28, ps ++ [⟨key, ⟨6, vn2, vt⟩, b25, b26⟩], rfl, by simp; omega, HSM.out _ _, F28.out.ost⟩, by simp [intOf]; omega⟩
        · go_simp
          refine (H1.out Y23 R23.out.1.src).mono ?_
          rintro e Y29 ⟨b29, rfl, hs29, hk29⟩
          have R29 : Hid (RSt w Y29 S P V a cap hs cls pro pa pc ps ⟨6, vn2, vt⟩) := R23.out.keepK hs29 hk29
          clear hs29 hk29
          refine hK.out _ _ (R29.out.vcells) (fun hHeld29 => ?_)
          clear hK K
          (try simp only [Act.put, List.setIfInBounds_toArray, List.set_cons_zero, List.set_cons_succ])
          refine twoUp 1 7 rfl rfl (by kernel_rfl) (by rfl) (by rfl) (fun K hK => ?_) (fun K hK => ?_)
          · have c30 := (three_all R29.out.2.1).1.2.2
            go_simp
            refine hK.out _ _ (R29.out.vcells) (fun hHeld30 => ?_)
            clear hK K
            (try simp only [Act.put, List.setIfInBounds_toArray, List.set_cons_zero, List.set_cons_succ])
            refine oneUp 7 rfl (by kernel_rfl) (by rfl) (fun K hK => ?_)
            go_simp
            refine (H1.out Y29 R29.out.1.src).mono ?_
            rintro e Y31 ⟨b31, rfl, hs31, hk31⟩
            have R31 : Hid (RSt w Y31 S P V a cap hs cls pro pa pc ps ⟨6, vn2, vt⟩) := R29.out.keepK hs31 hk31
            clear hs31 hk31
            refine hK.out _ _ (R31.out.vcells) (fun hHeld31 => ?_)
            clear hK K
            (try simp only [Act.put, List.setIfInBounds_toArray, List.set_cons_zero, List.set_cons_succ])
            refine takeIn 8 (v := ?vd31x8) rfl (by kernel_rfl) (by kernel_rfl) (by kernel_rfl) (fun _ _ _ h => h) ?wd31x8 (by assumption) ?yd31x8 ?rd31x8
            case wd31x8 => rfl
            case yd31x8 => (intro w hSw; (try dsimp only at hSw); go_simp; first | done | with_reducible rfl)
            simp only [Act.put, List.setIfInBounds_toArray, List.set_cons_zero, List.set_cons_succ]
            refine oneUp 9 rfl (by kernel_rfl) (by rfl) (fun K hK => ?_)
            go_simp
            have R32 : Hid (RSt w (Y31.alloc (.cells #[.string key, .int .i64 6, .int .i64 vn2, .string vt, .bool b29, .bool b31] 78)) S P V a cap hs cls pro pa pc ps ⟨6, vn2, vt⟩) := R31.out.under ((Below.refl _ _).alloc (Nat.le_refl _) _)
            have N32 : Hid (∀ j u, (propL ⟨key, ⟨6, vn2, vt⟩, b29, b31⟩)[j]? = some u → (Y31.alloc (.cells #[.string key, .int .i64 6, .int .i64 vn2, .string vt, .bool b29, .bool b31] 78)).cell? ((⟨Y31.heap.size, 0, none⟩ : Addr).add j) = some u) := fun j u h => new_cells Y31 #[.string key, .int .i64 6, .int .i64 vn2, .string vt, .bool b29, .bool b31] 78 j u h
            refine hK.out _ _ (R32.out.vcells) (fun hHeld32 => ?_)
            clear hK K
            (try simp only [Act.put, List.setIfInBounds_toArray, List.set_cons_zero, List.set_cons_succ])
            refine oneUp 10 rfl (by kernel_rfl) (by rfl) (fun K hK => ?_)
            refine step1_prop rfl (.tmp 51) (.tmp 59) rfl (P + 1) (.slice pa ps.length pc) ps (by rfl) R32.out.2.2.1 ⟨Y31.heap.size, 0, none⟩ ⟨key, ⟨6, vn2, vt⟩, b29, b31⟩ (by rfl) N32.out (by omega) R32.out.base ?_
            intro v' Z33 hown33 hgrow33
            obtain ⟨pa33, pc33, rfl⟩ := own_shape hown33
            have E33 : Hid (REnd w Z33 S P V a cap hs cls pro pa pc ps pa33 pc33 ⟨key, ⟨6, vn2, vt⟩, b29, b31⟩) := R32.out.grown hown33 hgrow33
            clear hown33 hgrow33
            refine hK.out _ _ (E33.out.vcells) (fun hHeld33 => ?_)
            clear hK K
            (try simp only [Act.put, List.setIfInBounds_toArray, List.set_cons_zero, List.set_cons_succ])
            rw [show (ps ++ [(⟨key, ⟨6, vn2, vt⟩, b29, b31⟩ : PP)]).length = ps.length + 1 by simp]
            refine takeIn 11 (v := ?ve33x11) rfl (by kernel_rfl) (by kernel_rfl) (by kernel_rfl) (fun _ _ _ h => h) ?we33x11 (by assumption) ?ye33x11 ?re33x11
            case we33x11 => rfl
            case ye33x11 => (intro w hSw; (try dsimp only at hSw); go_simp; first | done | with_reducible rfl)
            simp only [Act.put, List.setIfInBounds_toArray, List.set_cons_zero, List.set_cons_succ]
            obtain ⟨z33, u33⟩ := E33.out.slot
            refine oneUp 12 rfl (by kernel_rfl) (by rfl) (fun K hK => ?_)
            go_simp
            have F33 : Hid (RSt w (Z33.setCell ⟨P, 2, none⟩ (.slice pa33 (ps.length + 1) pc33)) S P V a cap hs cls pro pa33 pc33 (ps ++ [⟨key, ⟨6, vn2, vt⟩, b29, b31⟩]) ⟨6, vn2, vt⟩) := E33.out.stored
            refine hK.out _ _ (F33.out.vcells) (fun hHeldB33 => ?_)
            clear hK K
            refine wpAnyH_done (by kernel_rfl) ?_ _
            go_wp2_with fail
            exact ⟨⟨k - 1, pa33, pc33, ps ++ [⟨key, ⟨6, vn2, vt⟩, b29, b31⟩], rfl, by simp; omega, HSM.out _ _, F33.out.ost⟩, by simp [intOf]; omega⟩
          · go_simp
            refine (H1.out Y29 R29.out.1.src).mono ?_
            rintro e Y34 ⟨b34, rfl, hs34, hk34⟩
            have R34 : Hid (RSt w Y34 S P V a cap hs cls pro pa pc ps ⟨6, vn2, vt⟩) := R29.out.keepK hs34 hk34
            clear hs34 hk34
            refine hK.out _ _ (R34.out.vcells) (fun hHeld34 => ?_)
            clear hK K
            (try simp only [Act.put, List.setIfInBounds_toArray, List.set_cons_zero, List.set_cons_succ])
            refine takeIn 8 (v := ?vd34x8) rfl (by kernel_rfl) (by kernel_rfl) (by kernel_rfl) (fun _ _ _ h => h) ?wd34x8 (by assumption) ?yd34x8 ?rd34x8
            case wd34x8 => rfl
            case yd34x8 => (intro w hSw; (try dsimp only at hSw); go_simp; first | done | with_reducible rfl)
            simp only [Act.put, List.setIfInBounds_toArray, List.set_cons_zero, List.set_cons_succ]
            refine twoUp 1 9 rfl rfl (by kernel_rfl) (by rfl) (by rfl) (fun K hK => ?_) (fun K hK => ?_)
            · have c35 := (three_all R34.out.2.1).1.2.2
              go_simp
              refine hK.out _ _ (R34.out.vcells) (fun hHeld35 => ?_)
              clear hK K
              (try simp only [Act.put, List.setIfInBounds_toArray, List.set_cons_zero, List.set_cons_succ])
              refine oneUp 9 rfl (by kernel_rfl) (by rfl) (fun K hK => ?_)
              go_simp
              have R36 : Hid (RSt w (Y34.alloc (.cells #[.string key, .int .i64 6, .int .i64 vn2, .string vt, .bool b29, .bool b34] 78)) S P V a cap hs cls pro pa pc ps ⟨6, vn2, vt⟩) := R34.out.under ((Below.refl _ _).alloc (Nat.le_refl _) _)
              have N36 : Hid (∀ j u, (propL ⟨key, ⟨6, vn2, vt⟩, b29, b34⟩)[j]? = some u → (Y34.alloc (.cells #[.string key, .int .i64 6, .int .i64 vn2, .string vt, .bool b29, .bool b34] 78)).cell? ((⟨Y34.heap.size, 0, none⟩ : Addr).add j) = some u) := fun j u h => new_cells Y34 #[.string key, .int .i64 6, .int .i64 vn2, .string vt, .bool b29, .bool b34] 78 j u h
              refine hK.out _ _ (R36.out.vcells) (fun hHeld36 => ?_)
              clear hK K
              (try simp only [Act.put, List.setIfInBounds_toArray, List.set_cons_zero, List.set_cons_succ])
              refine oneUp 10 rfl (by kernel_rfl) (by rfl) (fun K hK => ?_)
              refine step1_prop rfl (.tmp 51) (.tmp 59) rfl (P + 1) (.slice pa ps.length pc) ps (by rfl) R36.out.2.2.1 ⟨Y34.heap.size, 0, none⟩ ⟨key, ⟨6, vn2, vt⟩, b29, b34⟩ (by rfl) N36.out (by omega) R36.out.base ?_
              intro v' Z37 hown37 hgrow37
              obtain ⟨pa37, pc37, rfl⟩ := own_shape hown37
              have E37 : Hid (REnd w Z37 S P V a cap hs cls pro pa pc ps pa37 pc37 ⟨key, ⟨6, vn2, vt⟩, b29, b34⟩) := R36.out.grown hown37 hgrow37
              clear hown37 hgrow37
              refine hK.out _ _ (E37.out.vcells) (fun hHeld37 => ?_)
              clear hK K
              (try simp only [Act.put, List.setIfInBounds_toArray, List.set_cons_zero, List.set_cons_succ])
              rw [show (ps ++ [(⟨key, ⟨6, vn2, vt⟩, b29, b34⟩ : PP)]).length = ps.length + 1 by simp]
              refine takeIn 11 (v := ?ve37x11) rfl (by kernel_rfl) (by kernel_rfl) (by kernel_rfl) (fun _ _ _ h => h) ?we37x11 (by assumption) ?ye37x11 ?re37x11
              case we37x11 => rfl
              case ye37x11 => (intro w hSw; (try dsimp only at hSw); go_simp; first | done | with_reducible rfl)
              simp only [Act.put, List.setIfInBounds_toArray, List.set_cons_zero, List.set_cons_succ]
              obtain ⟨z37, u37⟩ := E37.out.slot
              refine oneUp 12 rfl (by kernel_rfl) (by rfl) (fun K hK => ?_)
              go_simp
              have F37 : Hid (RSt w (Z37.setCell ⟨P, 2, none⟩ (.slice pa37 (ps.length + 1) pc37)) S P V a cap hs cls pro pa37 pc37 (ps ++ [⟨key, ⟨6, vn2, vt⟩, b29, b34⟩]) ⟨6, vn2, vt⟩) := E37.out.stored
              refine hK.out _ _ (F37.out.vcells) (fun hHeldB37 => ?_)
              clear hK K
              refine wpAnyH_done (by kernel_rfl) ?_ _
              go_wp2_with fail
              exact ⟨⟨k - 1, pa37, pc37, ps ++ [⟨key, ⟨6, vn2, vt⟩, b29, b34⟩], rfl, by simp; omega, HSM.out _ _, F37.out.ost⟩, by simp [intOf]; omega⟩
            · go_simp
              have R38 : Hid (RSt w (Y34.alloc (.cells #[.string key, .int .i64 6, .int .i64 vn2, .string vt, .bool b29, .bool b34] 78)) S P V a cap hs cls pro pa pc ps ⟨6, vn2, vt⟩) := R34.out.under ((Below.refl _ _).alloc (Nat.le_refl _) _)
              have N38 : Hid (∀ j u, (propL ⟨key, ⟨6, vn2, vt⟩, b29, b34⟩)[j]? = some u → (Y34.alloc (.cells #[.string key, .int .i64 6, .int .i64 vn2, .string vt, .bool b29, .bool b34] 78)).cell? ((⟨Y34.heap.size, 0, none⟩ : Addr).add j) = some u) := fun j u h => new_cells Y34 #[.string key, .int .i64 6, .int .i64 vn2, .string vt, .bool b29, .bool b34] 78 j u h
              refine hK.out _ _ (R38.out.vcells) (fun hHeld38 => ?_)
              clear hK K
              (try simp only [Act.put, List.setIfInBounds_toArray, List.set_cons_zero, List.set_cons_succ])
              refine oneUp 1 rfl (by kernel_rfl) (by rfl) (fun K hK => ?_)
              have c39 := (three_all R38.out.2.1).1.2.2
              go_simp
              refine hK.out _ _ (R38.out.vcells) (fun hHeld39 => ?_)
              clear hK K
              (try simp only [Act.put, List.setIfInBounds_toArray, List.set_cons_zero, List.set_cons_succ])
              refine oneUp 10 rfl (by kernel_rfl) (by rfl) (fun K hK => ?_)
              refine step1_prop rfl (.tmp 51) (.tmp 59) rfl (P + 1) (.slice pa ps.length pc) ps (by rfl) R38.out.2.2.1 ⟨Y34.heap.size, 0, none⟩ ⟨key, ⟨6, vn2, vt⟩, b29, b34⟩ (by rfl) N38.out (by omega) R38.out.base ?_
              intro v' Z40 hown40 hgrow40
              obtain ⟨pa40, pc40, rfl⟩ := own_shape hown40
              have E40 : Hid (REnd w Z40 S P V a cap hs cls pro pa pc ps pa40 pc40 ⟨key, ⟨6, vn2, vt⟩, b29, b34⟩) := R38.out.grown hown40 hgrow40
              clear hown40 hgrow40
              refine hK.out _ _ (E40.out.vcells) (fun hHeld40 => ?_)
              clear hK K
              (try simp only [Act.put, List.setIfInBounds_toArray, List.set_cons_zero, List.set_cons_succ])
              rw [show (ps ++ [(⟨key, ⟨6, vn2, vt⟩, b29, b34⟩ : PP)]).length = ps.length + 1 by simp]
              refine takeIn 11 (v := ?ve40x11) rfl (by kernel_rfl) (by kernel_rfl) (by kernel_rfl) (fun _ _ _ h => h) ?we40x11 (by assumption) ?ye40x11 ?re40x11
              case we40x11 => rfl
              case ye40x11 => (intro w hSw; (try dsimp only at hSw); go_simp; first | done | with_reducible rfl)
              simp only [Act.put, List.setIfInBounds_toArray, List.set_cons_zero, List.set_cons_succ]
              obtain ⟨z40, u40⟩ := E40.out.slot
              refine oneUp 12 rfl (by kernel_rfl) (by rfl) (fun K hK => ?_)
              go_simp
              have F40 : Hid (RSt w (Z40.setCell ⟨P, 2, none⟩ (.slice pa40 (ps.length + 1) pc40)) S P V a cap hs cls pro pa40 pc40 (ps ++ [⟨key, ⟨6, vn2, vt⟩, b29, b34⟩]) ⟨6, vn2, vt⟩) := E40.out.stored
              refine hK.out _ _ (F40.out.vcells) (fun hHeldB40 => ?_)
              clear hK K
              refine wpAnyH_done (by kernel_rfl) ?_ _
              go_wp2_with fail
              exact ⟨⟨k - 1, pa40, pc40, ps ++ [⟨key, ⟨6, vn2, vt⟩, b29, b34⟩], rfl, by simp; omega, HSM.out _ _, F40.out.ost⟩, by simp [intOf]; omega⟩
      · go_wp2_with fail
        have HR : Hid (RSt w (B3.alloc (.cells #[.int .i64 vk, .int .i64 vn, .string vt] 27)) S P B3.heap.size a cap hs cls pro pa pc ps ⟨vk, vn, vt⟩) := HB3.out.rst ⟨vk, vn, vt⟩
        have HSM : Hid (∀ b1 b2, ∀ q ∈ ps ++ [(⟨key, ⟨vk, vn, vt⟩, b1, b2⟩ : PP)], SmallP q) := fun b1 b2 q hq => by
          rcases List.mem_append.1 hq with hq | hq
          · exact HSM0.out q hq
          · rw [List.mem_singleton] at hq
            subst hq
            exact ⟨hkey, hvt⟩
        generalize World.alloc _ _ = B4 at HR ⊢
        generalize B3.heap.size = V at HR ⊢
        clear HB3 HK
        have R41 : Hid (RSt w B4.drew S P V a cap hs cls pro pa pc ps ⟨vk, vn, vt⟩) := HR.out.under (Below.refl B4.heap.size B4).drew
        refine wp_region_held_drew (S := fun W' => W'.cell? ⟨V, 0, none⟩ = some (.int .i64 vk) ∧ W'.cell? ⟨V, 1, none⟩ = some (.int .i64 vn) ∧ W'.cell? ⟨V, 2, none⟩ = some (.string vt)) (by kernel_rfl) R41.out.vcells (fun hHeld => ?_)
        generalize hD41 : B4.drew = Y41 at R41 hHeld ⊢
        clear hD41
        refine takeIn 0 (v := ?vq41x0) rfl (by kernel_rfl) (by kernel_rfl) (by kernel_rfl) (fun _ _ _ h => h) ?wq41x0 (by assumption) ?yq41x0 ?rq41x0
        case wq41x0 => rfl
        case yq41x0 => (intro w hSw; (try dsimp only at hSw); go_simp; first | done | with_reducible rfl)
        simp only [Act.put, List.setIfInBounds_toArray, List.set_cons_zero, List.set_cons_succ]
        refine takeIn 2 (v := ?vq41x2) rfl (by kernel_rfl) (by kernel_rfl) (by kernel_rfl) (fun _ _ _ h => h) ?wq41x2 (by assumption) ?yq41x2 ?rq41x2
        case wq41x2 => rfl
        case yq41x2 => (intro w hSw; (try dsimp only at hSw); go_simp; first | done | with_reducible rfl)
        simp only [Act.put, List.setIfInBounds_toArray, List.set_cons_zero, List.set_cons_succ]
        refine takeIn 3 (v := ?vq41x3) rfl (by kernel_rfl) (by kernel_rfl) (by kernel_rfl) (fun _ _ _ h => h) ?wq41x3 (by assumption) ?yq41x3 ?rq41x3
        case wq41x3 => rfl
        case yq41x3 => (intro w hSw; (try dsimp only at hSw); go_simp; first | done | with_reducible rfl)
        simp only [Act.put, List.setIfInBounds_toArray, List.set_cons_zero, List.set_cons_succ]
        refine takeIn 4 (v := ?vq41x4) rfl (by kernel_rfl) (by kernel_rfl) (by kernel_rfl) (fun _ _ _ h => h) ?wq41x4 (by assumption) ?yq41x4 ?rq41x4
        case wq41x4 => rfl
        case yq41x4 => (intro w hSw; (try dsimp only at hSw); go_simp; first | done | with_reducible rfl)
        simp only [Act.put, List.setIfInBounds_toArray, List.set_cons_zero, List.set_cons_succ]
        refine takeIn 6 (v := ?vq41x6) rfl (by kernel_rfl) (by kernel_rfl) (by kernel_rfl) (fun _ _ _ h => h) ?wq41x6 (by assumption) ?yq41x6 ?rq41x6
        case wq41x6 => rfl
        case yq41x6 => (intro w hSw; (try dsimp only at hSw); go_simp; first | done | with_reducible rfl)
        simp only [Act.put, List.setIfInBounds_toArray, List.set_cons_zero, List.set_cons_succ]
        refine twoUp 1 5 rfl rfl (by kernel_rfl) (by rfl) (by rfl) (fun K hK => ?_) (fun K hK => ?_)
        · have c42 := (three_all R41.out.2.1).1.2.2
          go_simp
          refine hK.out _ _ (R41.out.vcells) (fun hHeld42 => ?_)
          clear hK K
          (try simp only [Act.put, List.setIfInBounds_toArray, List.set_cons_zero, List.set_cons_succ])
          refine oneUp 5 rfl (by kernel_rfl) (by rfl) (fun K hK => ?_)
          go_simp
          refine (H1.out Y41 R41.out.1.src).mono ?_
          rintro e Y43 ⟨b43, rfl, hs43, hk43⟩
          have R43 : Hid (RSt w Y43 S P V a cap hs cls pro pa pc ps ⟨vk, vn, vt⟩) := R41.out.keepK hs43 hk43
          clear hs43 hk43
          refine hK.out _ _ (R43.out.vcells) (fun hHeld43 => ?_)
          clear hK K
          (try simp only [Act.put, List.setIfInBounds_toArray, List.set_cons_zero, List.set_cons_succ])
          refine oneUp 7 rfl (by kernel_rfl) (by rfl) (fun K hK => ?_)
          go_simp
          refine (H1.out Y43 R43.out.1.src).mono ?_
          rintro e Y44 ⟨b44, rfl, hs44, hk44⟩
          have R44 : Hid (RSt w Y44 S P V a cap hs cls pro pa pc ps ⟨vk, vn, vt⟩) := R43.out.keepK hs44 hk44
          clear hs44 hk44
          refine hK.out _ _ (R44.out.vcells) (fun hHeld44 => ?_)
          clear hK K
          (try simp only [Act.put, List.setIfInBounds_toArray, List.set_cons_zero, List.set_cons_succ])
          refine takeIn 8 (v := ?vd44x8) rfl (by kernel_rfl) (by kernel_rfl) (by kernel_rfl) (fun _ _ _ h => h) ?wd44x8 (by assumption) ?yd44x8 ?rd44x8
          case wd44x8 => rfl
          case yd44x8 => (intro w hSw; (try dsimp only at hSw); go_simp; first | done | with_reducible rfl)
          simp only [Act.put, List.setIfInBounds_toArray, List.set_cons_zero, List.set_cons_succ]
          refine oneUp 9 rfl (by kernel_rfl) (by rfl) (fun K hK => ?_)
          go_simp
          have R45 : Hid (RSt w (Y44.alloc (.cells #[.string key, .int .i64 vk, .int .i64 vn, .string vt, .bool b43, .bool b44] 78)) S P V a cap hs cls pro pa pc ps ⟨vk, vn, vt⟩) := R44.out.under ((Below.refl _ _).alloc (Nat.le_refl _) _)
          have N45 : Hid (∀ j u, (propL ⟨key, ⟨vk, vn, vt⟩, b43, b44⟩)[j]? = some u → (Y44.alloc (.cells #[.string key, .int .i64 vk, .int .i64 vn, .string vt, .bool b43, .bool b44] 78)).cell? ((⟨Y44.heap.size, 0, none⟩ : Addr).add j) = some u) := fun j u h => new_cells Y44 #[.string key, .int .i64 vk, .int .i64 vn, .string vt, .bool b43, .bool b44] 78 j u h
          refine hK.out _ _ (R45.out.vcells) (fun hHeld45 => ?_)
          clear hK K
          (try simp only [Act.put, List.setIfInBounds_toArray, List.set_cons_zero, List.set_cons_succ])
          refine oneUp 10 rfl (by kernel_rfl) (by rfl) (fun K hK => ?_)
          refine step1_prop rfl (.tmp 51) (.tmp 59) rfl (P + 1) (.slice pa ps.length pc) ps (by rfl) R45.out.2.2.1 ⟨Y44.heap.size, 0, none⟩ ⟨key, ⟨vk, vn, vt⟩, b43, b44⟩ (by rfl) N45.out (by omega) R45.out.base ?_
          intro v' Z46 hown46 hgrow46
          obtain ⟨pa46, pc46, rfl⟩ := own_shape hown46
          have E46 : Hid (REnd w Z46 S P V a cap hs cls pro pa pc ps pa46 pc46 ⟨key, ⟨vk, vn, vt⟩, b43, b44⟩) := R45.out.grown hown46 hgrow46
          clear hown46 hgrow46
          refine hK.out _ _ (E46.out.vcells) (fun hHeld46 => ?_)
          clear hK K
          (try simp only [Act.put, List.setIfInBounds_toArray, List.set_cons_zero, List.set_cons_succ])
          rw [show (ps ++ [(⟨key, ⟨vk, vn, vt⟩, b43, b44⟩ : PP)]).length = ps.length + 1 by simp]
          refine takeIn 11 (v := ?ve46x11) rfl (by kernel_rfl) (by kernel_rfl) (by kernel_rfl) (fun _ _ _ h => h) ?we46x11 (by assumption) ?ye46x11 ?re46x11
          case we46x11 => rfl
          case ye46x11 => (intro w hSw; (try dsimp only at hSw); go_simp; first | done | with_reducible rfl)
          simp only [Act.put, List.setIfInBounds_toArray, List.set_cons_zero, List.set_cons_succ]
          obtain ⟨z46, u46⟩ := E46.out.slot
          refine oneUp 12 rfl (by kernel_rfl) (by rfl) (fun K hK => ?_)
          go_simp
          have F46 : Hid (RSt w (Z46.setCell ⟨P, 2, none⟩ (.slice pa46 (ps.length + 1) pc46)) S P V a cap hs cls pro pa46 pc46 (ps ++ [⟨key, ⟨vk, vn, vt⟩, b43, b44⟩]) ⟨vk, vn, vt⟩) := E46.out.stored
          refine hK.out _ _ (F46.out.vcells) (fun hHeldB46 => ?_)
          clear hK K
          refine wpAnyH_done (by kernel_rfl) ?_ _
          go_wp2_with fail
          exact ⟨⟨k - 1, pa46, pc46, ps ++ [⟨key, ⟨vk, vn, vt⟩, b43, b44⟩], rfl, by simp; omega, HSM.out _ _, F46.out.ost⟩, by simp [intOf]; omega⟩
        · go_simp
          refine (H1.out Y41 R41.out.1.src).mono ?_
          rintro e Y47 ⟨b47, rfl, hs47, hk47⟩
          have R47 : Hid (RSt w Y47 S P V a cap hs cls pro pa pc ps ⟨vk, vn, vt⟩) := R41.out.keepK hs47 hk47
          clear hs47 hk47
          refine hK.out _ _ (R47.out.vcells) (fun hHeld47 => ?_)
          clear hK K
          (try simp only [Act.put, List.setIfInBounds_toArray, List.set_cons_zero, List.set_cons_succ])
          refine twoUp 1 7 rfl rfl (by kernel_rfl) (by rfl) (by rfl) (fun K hK => ?_) (fun K hK => ?_)
          · have c48 := (three_all R47.out.2.1).1.2.2
            go_simp
            refine hK.out _ _ (R47.out.vcells) (fun hHeld48 => ?_)
            clear hK K
            (try simp only [Act.put, List.setIfInBounds_toArray, List.set_cons_zero, List.set_cons_succ])
            refine oneUp 7 rfl (by kernel_rfl) (by rfl) (fun K hK => ?_)
            go_simp
            refine (H1.out Y47 R47.out.1.src).mono ?_
            rintro e Y49 ⟨b49, rfl, hs49, hk49⟩
            have R49 : Hid (RSt w Y49 S P V a cap hs cls pro pa pc ps ⟨vk, vn, vt⟩) := R47.out.keepK hs49 hk49
            clear hs49 hk49
            refine hK.out _ _ (R49.out.vcells) (fun hHeld49 => ?_)
            clear hK K
            (try simp only [Act.put, List.setIfInBounds_toArray, List.set_cons_zero, List.set_cons_succ])
            refine takeIn 8 (v := ?vd49x8) rfl (by kernel_rfl) (by kernel_rfl) (by kernel_rfl) (fun _ _ _ h => h) ?wd49x8 (by assumption) ?yd49x8 ?rd49x8
            case wd49x8 => rfl
            case yd49x8 => (intro w hSw; (try dsimp only at hSw); go_simp; first | done | with_reducible rfl)
            simp only [Act.put, List.setIfInBounds_toArray, List.set_cons_zero, List.set_cons_succ]
            refine oneUp 9 rfl (by kernel_rfl) (by rfl) (fun K hK => ?_)
            go_simp
            have R50 : Hid (RSt w (Y49.alloc (.cells #[.string key, .int .i64 vk, .int .i64 vn, .string vt, .bool b47, .bool b49] 78)) S P V a cap hs cls pro pa pc ps ⟨vk, vn, vt⟩) := R49.out.under ((Below.refl _ _).alloc (Nat.le_refl _) _)
            have N50 : Hid (∀ j u, (propL ⟨key, ⟨vk, vn, vt⟩, b47, b49⟩)[j]? = some u → (Y49.alloc (.cells #[.string key, .int .i64 vk, .int .i64 vn, .string vt, .bool b47, .bool b49] 78)).cell? ((⟨Y49.heap.size, 0, none⟩ : Addr).add j) = some u) := fun j u h => new_cells Y49 #[.string key, .int .i64 vk, .int .i64 vn, .string vt, .bool b47, .bool b49] 78 j u h
            refine hK.out _ _ (R50.out.vcells) (fun hHeld50 => ?_)
            clear hK K
            (try simp only [Act.put, List.setIfInBounds_toArray, List.set_cons_zero, List.set_cons_succ])
            refine oneUp 10 rfl (by kernel_rfl) (by rfl) (fun K hK => ?_)
            refine step1_prop rfl (.tmp 51) (.tmp 59) rfl (P + 1) (.slice pa ps.length pc) ps (by rfl) R50.out.2.2.1 ⟨Y49.heap.size, 0, none⟩ ⟨key, ⟨vk, vn, vt⟩, b47, b49⟩ (by rfl) N50.out (by omega) R50.out.base ?_
            intro v' Z51 hown51 hgrow51
            obtain ⟨pa51, pc51, rfl⟩ := own_shape hown51
            have E51 : Hid (REnd w Z51 S P V a cap hs cls pro pa pc ps pa51 pc51 ⟨key, ⟨vk, vn, vt⟩, b47, b49⟩) := R50.out.grown hown51 hgrow51
            clear hown51 hgrow51
            refine hK.out _ _ (E51.out.vcells) (fun hHeld51 => ?_)
            clear hK K
            (try simp only [Act.put, List.setIfInBounds_toArray, List.set_cons_zero, List.set_cons_succ])
            rw [show (ps ++ [(⟨key, ⟨vk, vn, vt⟩, b47, b49⟩ : PP)]).length = ps.length + 1 by simp]
            refine takeIn 11 (v := ?ve51x11) rfl (by kernel_rfl) (by kernel_rfl) (by kernel_rfl) (fun _ _ _ h => h) ?we51x11 (by assumption) ?ye51x11 ?re51x11
            case we51x11 => rfl
            case ye51x11 => (intro w hSw; (try dsimp only at hSw); go_simp; first | done | with_reducible rfl)
            simp only [Act.put, List.setIfInBounds_toArray, List.set_cons_zero, List.set_cons_succ]
            obtain ⟨z51, u51⟩ := E51.out.slot
            refine oneUp 12 rfl (by kernel_rfl) (by rfl) (fun K hK => ?_)
            go_simp
            have F51 : Hid (RSt w (Z51.setCell ⟨P, 2, none⟩ (.slice pa51 (ps.length + 1) pc51)) S P V a cap hs cls pro pa51 pc51 (ps ++ [⟨key, ⟨vk, vn, vt⟩, b47, b49⟩]) ⟨vk, vn, vt⟩) := E51.out.stored
            refine hK.out _ _ (F51.out.vcells) (fun hHeldB51 => ?_)
            clear hK K
            refine wpAnyH_done (by kernel_rfl) ?_ _
            go_wp2_with fail
            exact ⟨⟨k - 1, pa51, pc51, ps ++ [⟨key, ⟨vk, vn, vt⟩, b47, b49⟩], rfl, by simp; omega, HSM.out _ _, F51.out.ost⟩, by simp [intOf]; omega⟩
          · go_simp
            refine (H1.out Y47 R47.out.1.src).mono ?_
            rintro e Y52 ⟨b52, rfl, hs52, hk52⟩
            have R52 : Hid (RSt w Y52 S P V a cap hs cls pro pa pc ps ⟨vk, vn, vt⟩) := R47.out.keepK hs52 hk52
            clear hs52 hk52
            refine hK.out _ _ (R52.out.vcells) (fun hHeld52 => ?_)
            clear hK K
            (try simp only [Act.put, List.setIfInBounds_toArray, List.set_cons_zero, List.set_cons_succ])
            refine takeIn 8 (v := ?vd52x8) rfl (by kernel_rfl) (by kernel_rfl) (by kernel_rfl) (fun _ _ _ h => h) ?wd52x8 (by assumption) ?yd52x8 ?rd52x8
            case wd52x8 => rfl
            case yd52x8 => (intro w hSw; (try dsimp only at hSw); go_simp; first | done | with_reducible rfl)
            simp only [Act.put, List.setIfInBounds_toArray, List.set_cons_zero, List.set_cons_succ]
            refine twoUp 1 9 rfl rfl (by kernel_rfl) (by rfl) (by rfl) (fun K hK => ?_) (fun K hK => ?_)
            · have c53 := (three_all R52.out.2.1).1.2.2
              go_simp
              refine hK.out _ _ (R52.out.vcells) (fun hHeld53 => ?_)
              clear hK K
              (try simp only [Act.put, List.setIfInBounds_toArray, List.set_cons_zero, List.set_cons_succ])
              refine oneUp 9 rfl (by kernel_rfl) (by rfl) (fun K hK => ?_)
              go_simp
              have R54 : Hid (RSt w (Y52.alloc (.cells #[.string key, .int .i64 vk, .int .i64 vn, .string vt, .bool b47, .bool b52] 78)) S P V a cap hs cls pro pa pc ps ⟨vk, vn, vt⟩) := R52.out.under ((Below.refl _ _).alloc (Nat.le_refl _) _)
              have N54 : Hid (∀ j u, (propL ⟨key, ⟨vk, vn, vt⟩, b47, b52⟩)[j]? = some u → (Y52.alloc (.cells #[.string key, .int .i64 vk, .int .i64 vn, .string vt, .bool b47, .bool b52] 78)).cell? ((⟨Y52.heap.size, 0, none⟩ : Addr).add j) = some u) := fun j u h => new_cells Y52 #[.string key, .int .i64 vk, .int .i64 vn, .string vt, .bool b47, .bool b52] 78 j u h
              refine hK.out _ _ (R54.out.vcells) (fun hHeld54 => ?_)
              clear hK K
              (try simp only [Act.put, List.setIfInBounds_toArray, List.set_cons_zero, List.set_cons_succ])
              refine oneUp 10 rfl (by kernel_rfl) (by rfl) (fun K hK => ?_)
              refine step1_prop rfl (.tmp 51) (.tmp 59) rfl (P + 1) (.slice pa ps.length pc) ps (by rfl) R54.out.2.2.1 ⟨Y52.heap.size, 0, none⟩ ⟨key, ⟨vk, vn, vt⟩, b47, b52⟩ (by rfl) N54.out (by omega) R54.out.base ?_
              intro v' Z55 hown55 hgrow55
              obtain ⟨pa55, pc55, rfl⟩ := own_shape hown55
              have E55 : Hid (REnd w Z55 S P V a cap hs cls pro pa pc ps pa55 pc55 ⟨key, ⟨vk, vn, vt⟩, b47, b52⟩) := R54.out.grown hown55 hgrow55
              clear hown55 hgrow55
              refine hK.out _ _ (E55.out.vcells) (fun hHeld55 => ?_)
              clear hK K
              (try simp only [Act.put, List.setIfInBounds_toArray, List.set_cons_zero, List.set_cons_succ])
              rw [show (ps ++ [(⟨key, ⟨vk, vn, vt⟩, b47, b52⟩ : PP)]).length = ps.length + 1 by simp]
              refine takeIn 11 (v := ?ve55x11) rfl (by kernel_rfl) (by kernel_rfl) (by kernel_rfl) (fun _ _ _ h => h) ?we55x11 (by assumption) ?ye55x11 ?re55x11
              case we55x11 => rfl
              case ye55x11 => (intro w hSw; (try dsimp only at hSw); go_simp; first | done | with_reducible rfl)
              simp only [Act.put, List.setIfInBounds_toArray, List.set_cons_zero, List.set_cons_succ]
              obtain ⟨z55, u55⟩ := E55.out.slot
              refine oneUp 12 rfl (by kernel_rfl) (by rfl) (fun K hK => ?_)
              go_simp
              have F55 : Hid (RSt w (Z55.setCell ⟨P, 2, none⟩ (.slice pa55 (ps.length + 1) pc55)) S P V a cap hs cls pro pa55 pc55 (ps ++ [⟨key, ⟨vk, vn, vt⟩, b47, b52⟩]) ⟨vk, vn, vt⟩) := E55.out.stored
              refine hK.out _ _ (F55.out.vcells) (fun hHeldB55 => ?_)
              clear hK K
              refine wpAnyH_done (by kernel_rfl) ?_ _
              go_wp2_with fail
              exact ⟨⟨k - 1, pa55, pc55, ps ++ [⟨key, ⟨vk, vn, vt⟩, b47, b52⟩], rfl, by simp; omega, HSM.out _ _, F55.out.ost⟩, by simp [intOf]; omega⟩
            · go_simp
              have R56 : Hid (RSt w (Y52.alloc (.cells #[.string key, .int .i64 vk, .int .i64 vn, .string vt, .bool b47, .bool b52] 78)) S P V a cap hs cls pro pa pc ps ⟨vk, vn, vt⟩) := R52.out.under ((Below.refl _ _).alloc (Nat.le_refl _) _)
              have N56 : Hid (∀ j u, (propL ⟨key, ⟨vk, vn, vt⟩, b47, b52⟩)[j]? = some u → (Y52.alloc (.cells #[.string key, .int .i64 vk, .int .i64 vn, .string vt, .bool b47, .bool b52] 78)).cell? ((⟨Y52.heap.size, 0, none⟩ : Addr).add j) = some u) := fun j u h => new_cells Y52 #[.string key, .int .i64 vk, .int .i64 vn, .string vt, .bool b47, .bool b52] 78 j u h
              refine hK.out _ _ (R56.out.vcells) (fun hHeld56 => ?_)
              clear hK K
              (try simp only [Act.put, List.setIfInBounds_toArray, List.set_cons_zero, List.set_cons_succ])
              refine oneUp 1 rfl (by kernel_rfl) (by rfl) (fun K hK => ?_)
              have c57 := (three_all R56.out.2.1).1.2.2
              go_simp
              refine hK.out _ _ (R56.out.vcells) (fun hHeld57 => ?_)
              clear hK K
              (try simp only [Act.put, List.setIfInBounds_toArray, List.set_cons_zero, List.set_cons_succ])
              refine oneUp 10 rfl (by kernel_rfl) (by rfl) (fun K hK => ?_)
              refine step1_prop rfl (.tmp 51) (.tmp 59) rfl (P + 1) (.slice pa ps.length pc) ps (by rfl) R56.out.2.2.1 ⟨Y52.heap.size, 0, none⟩ ⟨key, ⟨vk, vn, vt⟩, b47, b52⟩ (by rfl) N56.out (by omega) R56.out.base ?_
              intro v' Z58 hown58 hgrow58
              obtain ⟨pa58, pc58, rfl⟩ := own_shape hown58
              have E58 : Hid (REnd w Z58 S P V a cap hs cls pro pa pc ps pa58 pc58 ⟨key, ⟨vk, vn, vt⟩, b47, b52⟩) := R56.out.grown hown58 hgrow58
              clear hown58 hgrow58
              refine hK.out _ _ (E58.out.vcells) (fun hHeld58 => ?_)
              clear hK K
              (try simp only [Act.put, List.setIfInBounds_toArray, List.set_cons_zero, List.set_cons_succ])
              rw [show (ps ++ [(⟨key, ⟨vk, vn, vt⟩, b47, b52⟩ : PP)]).length = ps.length + 1 by simp]
              refine takeIn 11 (v := ?ve58x11) rfl (by kernel_rfl) (by kernel_rfl) (by kernel_rfl) (fun _ _ _ h => h) ?we58x11 (by assumption) ?ye58x11 ?re58x11
              case we58x11 => rfl
              case ye58x11 => (intro w hSw; (try dsimp only at hSw); go_simp; first | done | with_reducible rfl)
              simp only [Act.put, List.setIfInBounds_toArray, List.set_cons_zero, List.set_cons_succ]
              obtain ⟨z58, u58⟩ := E58.out.slot
              refine oneUp 12 rfl (by kernel_rfl) (by rfl) (fun K hK => ?_)
              go_simp
              have F58 : Hid (RSt w (Z58.setCell ⟨P, 2, none⟩ (.slice pa58 (ps.length + 1) pc58)) S P V a cap hs cls pro pa58 pc58 (ps ++ [⟨key, ⟨vk, vn, vt⟩, b47, b52⟩]) ⟨vk, vn, vt⟩) := E58.out.stored
              refine hK.out _ _ (F58.out.vcells) (fun hHeldB58 => ?_)
              clear hK K
              refine wpAnyH_done (by kernel_rfl) ?_ _
              go_wp2_with fail
              exact ⟨⟨k - 1, pa58, pc58, ps ++ [⟨key, ⟨vk, vn, vt⟩, b47, b52⟩], rfl, by simp; omega, HSM.out _ _, F58.out.ost⟩, by simp [intOf]; omega⟩

end Go.Proofs.Ytlmlmdmechhalaa

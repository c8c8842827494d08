/-
  The walk of the law FnHeap.
-/
import Derived.Test.YtlmlmdmechhalaaHpLx
import Derived.Test.YtlmlmdmechhalaaHpDp
import Derived.Test.YtlmlmdmechhalaaHpIW
import Derived.Test.YtlmlmdmechhalaaHpP
import Derived.Test.YtlmlmdmechhalaaHpO
import Derived.Test.YtlmlmdmechhalaaHpQ
import Derived.Test.YtlmlmdmechhalaaHpSR
import Derived.Test.YtlmlmdmechhalaaHpSG
import Derived.Test.YtlmlmdmechhalaaHpSF
import Derived.Test.YtlmlmdmechhalaaHpSK
import Derived.Test.YtlmlmdmechhalaaMkS
import Derived.BigQuiet
import Derived.Deep.CutRange
namespace Go.Proofs.Ytlmlmdmechhalaa
open Go.RowKit
open Hp (PP OO propC)

theorem lx_keys {h : List OO} (hz : szH h ≤ 1048576) (ref : Int) : (Hp.keysV h ref).length ≤ 1048576 := by
  unfold Hp.keysV
  split
  · refine Nat.le_trans (keysPs_le _) ?_
    cases e : h[ref.toNat]? with
    | none => simp
    | some x =>
      obtain ⟨hi, rfl⟩ := List.getElem?_eq_some_iff.1 e
      have h1 : szPs h[ref.toNat].ps ≤ (h.map fun o => szPs o.ps).sum := sum_mem (fun o : OO => szPs o.ps) h _ hi
      have h2 : h[ref.toNat].ps.length ≤ szPs h[ref.toNat].ps := by unfold szPs; omega
      unfold szH at hz
      simp only [Option.map_some, Option.getD_some]
      omega
  · simp
/-- A heap in its box. -/
def XH (W : World) (Q : Nat) (a : Option Addr) (cap : Nat) (h : List OO) (cs : Nat → OC) : Prop := W.heap[Q]? = some (.cells #[.slice a h.length cap] 25 (0, 0)) ∧ HIn W 0 a h cs
theorem XH.under {W W' : World} {Q : Nat} {a : Option Addr} {cap : Nat} {h : List OO} {cs : Nat → OC} (k : XH W Q a cap h cs) (hb : Below W.heap.size W W') : XH W' Q a cap h cs :=
  ⟨(hb.block _ (Array.getElem?_eq_some_iff.1 k.1).1).trans k.1, k.2.under hb⟩
theorem XH.new {W : World} {B : Nat} {a : Option Addr} (cap : Nat) {h : List OO} {cs : Nat → OC} (k : HIn W B a h cs) : XH (W.alloc (.cells #[.slice a h.length cap] 25)) W.heap.size a cap h cs :=
  ⟨heap_alloc_new _ _, (k.low (Nat.zero_le _)).under ((Below.refl _ _).alloc (Nat.le_refl _) _)⟩
theorem XH.cell {W : World} {Q : Nat} {a : Option Addr} {cap : Nat} {h : List OO} {cs : Nat → OC} (k : XH W Q a cap h cs) : W.cell? ⟨Q, 0, none⟩ = some (.slice a h.length cap) := (one_of k.1).1

set_option maxHeartbeats 16000000 in
set_option maxRecDepth 100000 in
theorem fnHeap_walk (a0 a1 : Option Addr) (len0 len1 cap0 cap1 : Nat) (bs0 bs1 : List UInt8) (w : World) (hl0 : bs0.length = len0) (hl1 : bs1.length = len1) (hB0 : BytesIn w a0 bs0) (hB1 : BytesIn w a1 bs1) :
    Calls Try.prog 3 #[.slice a0 len0 cap0, .slice a1 len1 cap1] w fun e w' => e = .returned (.bool true) ∧ Below w.heap.size w w' := by
  have H1 : Hid _ := fun (hlb : len0 ≤ 1048576) => sDrawPut a0 len0 cap0 bs0 w hl0 hlb hB0
  have H2 : Hid _ := fun (hlb : len1 ≤ 1048576) (W : World) (hW : Below w.heap.size w W) => sDrawDel a1 len1 cap1 bs1 W hl1 hlb (bytes_under hB1 hW)
  clear hB0 hB1
  go_enter Try.func3, Try.ntmps3
  by_cases hlb0 : 1048576 < len0
  · have hx : (1048576 : Int) < (len0 : Int) := by omega
    go_wp2_with fail
    go_ret
    exact ⟨rfl, Below.refl _ _⟩
  have hx0 : ¬ (1048576 : Int) < (len0 : Int) := by omega
  by_cases hlb1 : 1048576 < len1
  · have hx : (1048576 : Int) < (len1 : Int) := by omega
    go_wp2_with fail
    go_ret
    exact ⟨rfl, Below.refl _ _⟩
  have hx1 : ¬ (1048576 : Int) < (len1 : Int) := by omega
  go_wp2_with fail
  refine (H1.out (by omega)).mono ?_
  rintro e W1 ⟨a, cap, hs, cs, ref, key, ⟨vk, vn, vt⟩, rfl, hsm, hkey, hvt, hb1, hin, hcp⟩
  unfold vC
  dsimp only at hvt ⊢
  have HW1 : Hid (SmallD hs ∧ Below w.heap.size w W1 ∧ HIn W1 w.heap.size a hs cs ∧ CapH hs cs) := ⟨hsm, hb1, hin, hcp⟩
  clear hsm hb1 hin hcp H1
  have hz := lx_small HW1.out.1
  have HX : Hid (szH (putV hs ref key ⟨vk, vn, vt⟩) ≤ 1048576 ∧ OkH (putV hs ref key ⟨vk, vn, vt⟩) ∧ (rightB hs = true → rightB (putV hs ref key ⟨vk, vn, vt⟩) = true) ∧ ∀ (k : Nat), k < hs.length → ∀ id : ByteArray, id.size ≤ 4000 → rightB hs = true → Hp.getV hs k id ≠ Hp.getV (putV hs ref key ⟨vk, vn, vt⟩) k id → ∀ r : Bool, (r = false → ¬ Ab hs ref k) → r = true) := by
    have h1 := lx_put hs ref key ⟨vk, vn, vt⟩
    dsimp only at h1
    exact ⟨by omega, okH_of_sz (by omega), fun k => lx_rput k _ _ _, fun k hk id hid hr hne r hab => lx_far hr ref key _ k hk id hid (by omega) hne hab⟩
  have HH : Hid (szH hs ≤ 1048576 ∧ OkH hs ∧ key.size ≤ 9223372036854775807) := ⟨by omega, okH_of_sz (by omega), by omega⟩
  have C3 : Hid _ := fun (W : World) (hh : HIn W 0 a hs cs) => iHeapPut a cap 0 hs cs ref key ⟨vk, vn, vt⟩ W HH.out.2.2 HH.out.1 HH.out.2.1 hh
  have C4 : Hid (∀ W, HIn W 0 a hs cs → Calls Try.prog 16 #[.agg #[.slice a hs.length cap], .int .i64 ref, .string key, .agg (vC ⟨vk, vn, vt⟩)] W fun e w' => ∃ a cap, e = .returned (.agg #[.slice a (putV hs ref key ⟨vk, vn, vt⟩).length cap]) ∧ Below W.heap.size W w' ∧ ∃ cs, HOwn w' W.heap.size (.slice a (putV hs ref key ⟨vk, vn, vt⟩).length cap) (putV hs ref key ⟨vk, vn, vt⟩) (putV hs ref key ⟨vk, vn, vt⟩).length cs) := fun W hh => by
    obtain ⟨b, o, rfl⟩ := hh.some HW1.out.1.1.1
    exact sHeapPut b o cap 0 hs cs ref key ⟨vk, vn, vt⟩ W HH.out.2.2 HH.out.1 HH.out.2.1 HW1.out.2.2.2.le HW1.out.2.2.2.some hh
  unfold vC at C3 C4
  dsimp only at C3 C4
  generalize putV hs ref key ⟨vk, vn, vt⟩ = hx at HX C3 C4
  clear hz
  go_wp2_with fail
  generalize hU1 : (W1.alloc _).alloc _ = U1
  have HU1 : Hid (Below w.heap.size w U1 ∧ XH U1 W1.heap.size a cap hs cs ∧ Lies U1 (W1.heap.size + 1) ⟨vk, vn, vt⟩) := by
    rw [← hU1]
    obtain ⟨h1, h2, h3, h4⟩ := HW1.out
    have k1 := XH.new cap h3
    have k2 := lies_new (W1.alloc (.cells #[.slice a hs.length cap] 25)) ⟨vk, vn, vt⟩
    rw [World.size_alloc] at k2
    have hb : Below W1.heap.size W1 ((W1.alloc (.cells #[.slice a hs.length cap] 25)).alloc (.cells (vC ⟨vk, vn, vt⟩) 27)) := ((Below.refl _ _).alloc (Nat.le_refl _) _).alloc (by simp) _
    exact ⟨h2.trans (hb.mono h2.size), k1.under ((Below.refl _ _).alloc (Nat.le_refl _) _), k2⟩
  clear hU1
  generalize W1.heap.size = P at *
  refine (C3.out U1 HU1.out.2.1.2).mono ?_
  rintro e W2 ⟨ax, capx, rfl, hb2, csx, hox⟩
  have HU2 : Hid (Below w.heap.size w (W2.alloc (.cells #[.slice ax hx.length capx] 25)) ∧ XH (W2.alloc (.cells #[.slice ax hx.length capx] 25)) P a cap hs cs ∧ Lies (W2.alloc (.cells #[.slice ax hx.length capx] 25)) (P + 1) ⟨vk, vn, vt⟩ ∧ XH (W2.alloc (.cells #[.slice ax hx.length capx] 25)) W2.heap.size ax capx hx csx) := by
    obtain ⟨h1, h2, h3⟩ := HU1.out
    have hb : Below U1.heap.size U1 (W2.alloc (.cells #[.slice ax hx.length capx] 25)) := hb2.alloc hb2.size _
    exact ⟨h1.trans (hb.mono h1.size), h2.under hb, h3.keep hb, XH.new capx hox.hIn⟩
  clear hb2 hox HU1 C3
  go_wp2_with fail
  generalize W2.alloc _ = U2 at *
  generalize W2.heap.size = Q at *
  refine (H2.out (by omega) U2 HU2.out.1).mono ?_
  rintro e W3 ⟨ag, capg, hg, csg, at', name, rfl, hsg, hname, hb3, hing, hcpg⟩
  have HG : Hid (szH hg ≤ 1048576 ∧ OkH hg ∧ name.size ≤ 9223372036854775807 ∧ CapH hg csg ∧ 1 ≤ hg.length) := by
    have := lx_small hsg
    exact ⟨by omega, okH_of_sz (by omega), by omega, hcpg, hsg.1.1⟩
  have HY : Hid (szH (delV hg at' name) ≤ 1048576 ∧ OkH (delV hg at' name) ∧ (rightB hg = true → rightB (delV hg at' name) = true)) := by
    have h1 := lx_del hg at' name
    have h2 := lx_small hsg
    exact ⟨by omega, okH_of_sz (by omega), fun k => lx_rdel k _ _⟩
  have HU3 : Hid (Below w.heap.size w (W3.alloc (.cells #[.slice ag hg.length capg] 25)) ∧ XH (W3.alloc (.cells #[.slice ag hg.length capg] 25)) P a cap hs cs ∧ Lies (W3.alloc (.cells #[.slice ag hg.length capg] 25)) (P + 1) ⟨vk, vn, vt⟩ ∧ XH (W3.alloc (.cells #[.slice ag hg.length capg] 25)) Q ax capx hx csx ∧ XH (W3.alloc (.cells #[.slice ag hg.length capg] 25)) W3.heap.size ag capg hg csg) := by
    obtain ⟨h1, h2, h3, h4⟩ := HU2.out
    have hb : Below U2.heap.size U2 (W3.alloc (.cells #[.slice ag hg.length capg] 25)) := hb3.alloc hb3.size _
    exact ⟨h1.trans (hb.mono h1.size), h2.under hb, h3.keep hb, h4.under hb, XH.new capg hing⟩
  clear hb3 hing hcpg hsg hname HU2 H2
  have C5 : Hid _ := fun (W : World) (hh : HIn W 0 ag hg csg) => iHeapDelete ag capg 0 hg csg at' name W HG.out.2.2.1 HG.out.1 HG.out.2.1 hh
  have C6 : Hid (∀ W, HIn W 0 ag hg csg → Calls Try.prog 24 #[.agg #[.slice ag hg.length capg], .int .i64 at', .string name] W fun e w' => ∃ a cap, e = .returned (.agg #[.slice a (delV hg at' name).length cap]) ∧ Below W.heap.size W w' ∧ ∃ cs, HOwn w' W.heap.size (.slice a (delV hg at' name).length cap) (delV hg at' name) (delV hg at' name).length cs) := fun W hh => by
    obtain ⟨b, o, rfl⟩ := hh.some HG.out.2.2.2.2
    exact sHeapDelete b o capg 0 hg csg at' name W HG.out.1 HG.out.2.1 HG.out.2.2.2.1.le HG.out.2.2.2.1.some hh
  generalize delV hg at' name = hy at HY C5 C6
  go_wp2_with fail
  generalize W3.alloc _ = U3 at *
  generalize W3.heap.size = R at *
  refine (C5.out U3 HU3.out.2.2.2.2.2).mono ?_
  rintro e W4 ⟨ay, capy, rfl, hb4, csy, hoy⟩
  have HU4 : Hid (Below w.heap.size w (W4.alloc (.cells #[.slice ay hy.length capy] 25)) ∧ XH (W4.alloc (.cells #[.slice ay hy.length capy] 25)) P a cap hs cs ∧ Lies (W4.alloc (.cells #[.slice ay hy.length capy] 25)) (P + 1) ⟨vk, vn, vt⟩ ∧ XH (W4.alloc (.cells #[.slice ay hy.length capy] 25)) Q ax capx hx csx ∧ XH (W4.alloc (.cells #[.slice ay hy.length capy] 25)) R ag capg hg csg ∧ XH (W4.alloc (.cells #[.slice ay hy.length capy] 25)) W4.heap.size ay capy hy csy) := by
    obtain ⟨h1, h2, h3, h4, h5⟩ := HU3.out
    have hb : Below U3.heap.size U3 (W4.alloc (.cells #[.slice ay hy.length capy] 25)) := hb4.alloc hb4.size _
    exact ⟨h1.trans (hb.mono h1.size), h2.under hb, h3.keep hb, h4.under hb, h5.under hb, XH.new capy hoy.hIn⟩
  clear hb4 hoy HU3 C5
  go_wp2_with fail
  generalize W4.alloc _ = U4 at *
  generalize W4.heap.size = T at *
  have HSW : Hid (∀ W' : World, Below U4.heap.size U4 W' → W'.cell? ⟨P, 0, none⟩ = some (.slice a hs.length cap) ∧ W'.cell? ⟨Q, 0, none⟩ = some (.slice ax hx.length capx) ∧ W'.cell? ⟨R, 0, none⟩ = some (.slice ag hg.length capg) ∧ W'.cell? ⟨T, 0, none⟩ = some (.slice ay hy.length capy)) := fun W' hW => by
    obtain ⟨h1, h2, h3, h4, h5, h6⟩ := HU4.out
    exact ⟨(h2.under hW).cell, (h4.under hW).cell, (h5.under hW).cell, (h6.under hW).cell⟩
  obtain ⟨rh, hrh⟩ : ∃ r, rightB hs = r := ⟨_, rfl⟩
  obtain ⟨rg, hrg⟩ : ∃ r, rightB hg = r := ⟨_, rfl⟩
  have D1 : Hid (∀ W, Below U4.heap.size U4 W → Calls Try.prog 14 #[.agg #[.slice a hs.length cap]] W fun e w' => e = .returned (.bool rh) ∧ Below W.heap.size W w') := fun W hW => by
    rw [← hrh]
    exact iHeapRight a cap 0 hs cs W HH.out.1 HH.out.2.1 (HU4.out.2.1.under hW).2
  have D2 : Hid (∀ W, Below U4.heap.size U4 W → Calls Try.prog 15 #[.agg #[.slice a hs.length cap]] W fun e w' => e = .returned (.bool rh) ∧ Below W.heap.size W w') := fun W hW => by
    rw [← hrh]
    exact sHeapRight a cap 0 hs cs W HH.out.2.1 HW1.out.2.2.2.le (HU4.out.2.1.under hW).2
  have D3 : Hid (rh = true → ∀ W, Below U4.heap.size U4 W → Calls Try.prog 14 #[.agg #[.slice ax hx.length capx]] W fun e w' => e = .returned (.bool true) ∧ Below W.heap.size W w') := fun hr W hW => by
    rw [← HX.out.2.2.1 (hrh.trans hr)]
    exact iHeapRight ax capx 0 hx csx W HX.out.1 HX.out.2.1 (HU4.out.2.2.2.1.under hW).2
  have D4 : Hid (∀ W, Below U4.heap.size U4 W → Calls Try.prog 15 #[.agg #[.slice ag hg.length capg]] W fun e w' => e = .returned (.bool rg) ∧ Below W.heap.size W w') := fun W hW => by
    rw [← hrg]
    exact sHeapRight ag capg 0 hg csg W HG.out.2.1 HG.out.2.2.2.1.le (HU4.out.2.2.2.2.1.under hW).2
  have D5 : Hid (rg = true → ∀ W, Below U4.heap.size U4 W → Calls Try.prog 14 #[.agg #[.slice ay hy.length capy]] W fun e w' => e = .returned (.bool true) ∧ Below W.heap.size W w') := fun hr W hW => by
    rw [← HY.out.2.2 (hrg.trans hr)]
    exact iHeapRight ay capy 0 hy csy W HY.out.1 HY.out.2.1 (HU4.out.2.2.2.2.2.under hW).2
  have HRH : Hid (rightB hs = rh) := hrh
  clear hrh hrg HG
  go_cut [73] from 51 to 73 (fun v W => v = .bool false ∧ Below U4.heap.size U4 W)
  case first =>
    cases rh
    · cases rg
      · refine wp_region_held_drew (S := fun W' => W'.cell? ⟨P, 0, none⟩ = some (.slice a hs.length cap) ∧ W'.cell? ⟨Q, 0, none⟩ = some (.slice ax hx.length capx) ∧ W'.cell? ⟨R, 0, none⟩ = some (.slice ag hg.length capg) ∧ W'.cell? ⟨T, 0, none⟩ = some (.slice ay hy.length capy)) (by kernel_rfl) (HSW.out _ (Below.refl U4.heap.size U4).drew) (fun hHeld => ?_)
        have hY0 : Below U4.heap.size U4 U4.drew := (Below.refl U4.heap.size U4).drew
        generalize U4.drew = Y0 at hHeld hY0 ⊢
        refine takeIn 0 (v := ?vc0) rfl (by kernel_rfl) (by kernel_rfl) (by kernel_rfl) (fun _ _ _ h => h) ?wc0 (by assumption) ?yc0 ?rc0
        case wc0 => rfl
        case yc0 => (intro w hSw; (try dsimp only at hSw); go_simp; first | done | with_reducible rfl)
        simp only [Act.put, List.setIfInBounds_toArray, List.set_cons_zero, List.set_cons_succ]
        refine takeIn 2 (v := ?vc2) rfl (by kernel_rfl) (by kernel_rfl) (by kernel_rfl) (fun _ _ _ h => h) ?wc2 (by assumption) ?yc2 ?rc2
        case wc2 => rfl
        case yc2 => (intro w hSw; (try dsimp only at hSw); go_simp; first | done | with_reducible rfl)
        simp only [Act.put, List.setIfInBounds_toArray, List.set_cons_zero, List.set_cons_succ]
        refine oneUp 1 rfl (by kernel_rfl) (by rfl) (fun K hK => ?_)
        go_simp
        refine (D1.out Y0 hY0).mono ?_
        rintro e Y1 ⟨rfl, hbb⟩
        have hY1 : Below U4.heap.size U4 Y1 := hY0.trans (hbb.mono hY0.size)
        clear hbb
        refine hK.out _ _ (HSW.out Y1 hY1) (fun hHeldY1 => ?_)
        clear hK K
        (try simp only [Act.put, List.setIfInBounds_toArray, List.set_cons_zero, List.set_cons_succ])
        refine oneUp 3 rfl (by kernel_rfl) (by rfl) (fun K hK => ?_)
        go_simp
        refine (D2.out Y1 hY1).mono ?_
        rintro e Y2 ⟨rfl, hbb⟩
        have hY2 : Below U4.heap.size U4 Y2 := hY1.trans (hbb.mono hY1.size)
        clear hbb
        refine hK.out _ _ (HSW.out Y2 hY2) (fun hHeldY2 => ?_)
        clear hK K
        (try simp only [Act.put, List.setIfInBounds_toArray, List.set_cons_zero, List.set_cons_succ])
        refine takeIn 4 (v := ?vc4) rfl (by kernel_rfl) (by kernel_rfl) (by kernel_rfl) (fun _ _ _ h => h) ?wc4 (by assumption) ?yc4 ?rc4
        case wc4 => rfl
        case yc4 => (intro w hSw; (try dsimp only at hSw); go_simp; first | done | with_reducible rfl)
        simp only [Act.put, List.setIfInBounds_toArray, List.set_cons_zero, List.set_cons_succ]
        refine takeIn 5 (v := ?vc5) rfl (by kernel_rfl) (by kernel_rfl) (by kernel_rfl) (fun _ _ _ h => h) ?wc5 (by assumption) ?yc5 ?rc5
        case wc5 => rfl
        case yc5 => (intro w hSw; (try dsimp only at hSw); go_simp; first | done | with_reducible rfl)
        simp only [Act.put, List.setIfInBounds_toArray, List.set_cons_zero, List.set_cons_succ]
        refine takeIn 6 (v := ?vc6) rfl (by kernel_rfl) (by kernel_rfl) (by kernel_rfl) (fun _ _ _ h => h) ?wc6 (by assumption) ?yc6 ?rc6
        case wc6 => rfl
        case yc6 => (intro w hSw; (try dsimp only at hSw); go_simp; first | done | with_reducible rfl)
        simp only [Act.put, List.setIfInBounds_toArray, List.set_cons_zero, List.set_cons_succ]
        refine oneUp 7 rfl (by kernel_rfl) (by rfl) (fun K hK => ?_)
        go_simp
        refine (D2.out Y2 hY2).mono ?_
        rintro e Y3 ⟨rfl, hbb⟩
        have hY3 : Below U4.heap.size U4 Y3 := hY2.trans (hbb.mono hY2.size)
        clear hbb
        refine hK.out _ _ (HSW.out Y3 hY3) (fun hHeldY3 => ?_)
        clear hK K
        (try simp only [Act.put, List.setIfInBounds_toArray, List.set_cons_zero, List.set_cons_succ])
        refine takeIn 8 (v := ?vc8) rfl (by kernel_rfl) (by kernel_rfl) (by kernel_rfl) (fun _ _ _ h => h) ?wc8 (by assumption) ?yc8 ?rc8
        case wc8 => rfl
        case yc8 => (intro w hSw; (try dsimp only at hSw); go_simp; first | done | with_reducible rfl)
        simp only [Act.put, List.setIfInBounds_toArray, List.set_cons_zero, List.set_cons_succ]
        refine takeOut 9 rfl (by kernel_rfl) (by kernel_rfl) (by kernel_rfl) (fun _ _ _ h => h) ?wc9 (by assumption) ?rc9
        case wc9 => rfl
        simp only [Act.put, List.setIfInBounds_toArray, List.set_cons_zero, List.set_cons_succ]
        refine takeOut 10 rfl (by kernel_rfl) (by kernel_rfl) (by kernel_rfl) (fun _ _ _ h => h) ?wc10 (by assumption) ?rc10
        case wc10 => rfl
        simp only [Act.put, List.setIfInBounds_toArray, List.set_cons_zero, List.set_cons_succ]
        refine takeOut 11 rfl (by kernel_rfl) (by kernel_rfl) (by kernel_rfl) (fun _ _ _ h => h) ?wc11 (by assumption) ?rc11
        case wc11 => rfl
        simp only [Act.put, List.setIfInBounds_toArray, List.set_cons_zero, List.set_cons_succ]
        refine takeIn 12 (v := ?vc12) rfl (by kernel_rfl) (by kernel_rfl) (by kernel_rfl) (fun _ _ _ h => h) ?wc12 (by assumption) ?yc12 ?rc12
        case wc12 => rfl
        case yc12 => (intro w hSw; (try dsimp only at hSw); go_simp; first | done | with_reducible rfl)
        simp only [Act.put, List.setIfInBounds_toArray, List.set_cons_zero, List.set_cons_succ]
        refine takeIn 13 (v := ?vc13) rfl (by kernel_rfl) (by kernel_rfl) (by kernel_rfl) (fun _ _ _ h => h) ?wc13 (by assumption) ?yc13 ?rc13
        case wc13 => rfl
        case yc13 => (intro w hSw; (try dsimp only at hSw); go_simp; first | done | with_reducible rfl)
        simp only [Act.put, List.setIfInBounds_toArray, List.set_cons_zero, List.set_cons_succ]
        refine takeIn 14 (v := ?vc14) rfl (by kernel_rfl) (by kernel_rfl) (by kernel_rfl) (fun _ _ _ h => h) ?wc14 (by assumption) ?yc14 ?rc14
        case wc14 => rfl
        case yc14 => (intro w hSw; (try dsimp only at hSw); go_simp; first | done | with_reducible rfl)
        simp only [Act.put, List.setIfInBounds_toArray, List.set_cons_zero, List.set_cons_succ]
        refine takeIn 15 (v := ?vc15) rfl (by kernel_rfl) (by kernel_rfl) (by kernel_rfl) (fun _ _ _ h => h) ?wc15 (by assumption) ?yc15 ?rc15
        case wc15 => rfl
        case yc15 => (intro w hSw; (try dsimp only at hSw); go_simp; first | done | with_reducible rfl)
        simp only [Act.put, List.setIfInBounds_toArray, List.set_cons_zero, List.set_cons_succ]
        refine oneUp 16 rfl (by kernel_rfl) (by rfl) (fun K hK => ?_)
        go_simp
        refine (D4.out Y3 hY3).mono ?_
        rintro e Y5 ⟨rfl, hbb⟩
        have hY5 : Below U4.heap.size U4 Y5 := hY3.trans (hbb.mono hY3.size)
        clear hbb
        refine hK.out _ _ (HSW.out Y5 hY5) (fun hHeldY5 => ?_)
        clear hK K
        (try simp only [Act.put, List.setIfInBounds_toArray, List.set_cons_zero, List.set_cons_succ])
        refine takeIn 17 (v := ?vc17) rfl (by kernel_rfl) (by kernel_rfl) (by kernel_rfl) (fun _ _ _ h => h) ?wc17 (by assumption) ?yc17 ?rc17
        case wc17 => rfl
        case yc17 => (intro w hSw; (try dsimp only at hSw); go_simp; first | done | with_reducible rfl)
        simp only [Act.put, List.setIfInBounds_toArray, List.set_cons_zero, List.set_cons_succ]
        refine takeOut 18 rfl (by kernel_rfl) (by kernel_rfl) (by kernel_rfl) (fun _ _ _ h => h) ?wc18 (by assumption) ?rc18
        case wc18 => rfl
        simp only [Act.put, List.setIfInBounds_toArray, List.set_cons_zero, List.set_cons_succ]
        refine takeOut 19 rfl (by kernel_rfl) (by kernel_rfl) (by kernel_rfl) (fun _ _ _ h => h) ?wc19 (by assumption) ?rc19
        case wc19 => rfl
        simp only [Act.put, List.setIfInBounds_toArray, List.set_cons_zero, List.set_cons_succ]
        refine takeOut 20 rfl (by kernel_rfl) (by kernel_rfl) (by kernel_rfl) (fun _ _ _ h => h) ?wc20 (by assumption) ?rc20
        case wc20 => rfl
        simp only [Act.put, List.setIfInBounds_toArray, List.set_cons_zero, List.set_cons_succ]
        refine takeIn 21 (v := ?vc21) rfl (by kernel_rfl) (by kernel_rfl) (by kernel_rfl) (fun _ _ _ h => h) ?wc21 (by assumption) ?yc21 ?rc21
        case wc21 => rfl
        case yc21 => (intro w hSw; (try dsimp only at hSw); go_simp; first | done | with_reducible rfl)
        simp only [Act.put, List.setIfInBounds_toArray, List.set_cons_zero, List.set_cons_succ]
        refine takeIn 22 (v := ?vc22) rfl (by kernel_rfl) (by kernel_rfl) (by kernel_rfl) (fun _ _ _ h => h) ?wc22 (by assumption) ?yc22 ?rc22
        case wc22 => rfl
        case yc22 => (intro w hSw; (try dsimp only at hSw); go_simp; first | done | with_reducible rfl)
        simp only [Act.put, List.setIfInBounds_toArray, List.set_cons_zero, List.set_cons_succ]
        refine wpAnyH_done (by kernel_rfl) ?_ _
        go_wp2_with fail
        go_meet
        exact ⟨rfl, hY5⟩
      · refine wp_region_held_drew (S := fun W' => W'.cell? ⟨P, 0, none⟩ = some (.slice a hs.length cap) ∧ W'.cell? ⟨Q, 0, none⟩ = some (.slice ax hx.length capx) ∧ W'.cell? ⟨R, 0, none⟩ = some (.slice ag hg.length capg) ∧ W'.cell? ⟨T, 0, none⟩ = some (.slice ay hy.length capy)) (by kernel_rfl) (HSW.out _ (Below.refl U4.heap.size U4).drew) (fun hHeld => ?_)
        have hY0 : Below U4.heap.size U4 U4.drew := (Below.refl U4.heap.size U4).drew
        generalize U4.drew = Y0 at hHeld hY0 ⊢
        refine takeIn 0 (v := ?vd0) rfl (by kernel_rfl) (by kernel_rfl) (by kernel_rfl) (fun _ _ _ h => h) ?wd0 (by assumption) ?yd0 ?rd0
        case wd0 => rfl
        case yd0 => (intro w hSw; (try dsimp only at hSw); go_simp; first | done | with_reducible rfl)
        simp only [Act.put, List.setIfInBounds_toArray, List.set_cons_zero, List.set_cons_succ]
        refine takeIn 2 (v := ?vd2) rfl (by kernel_rfl) (by kernel_rfl) (by kernel_rfl) (fun _ _ _ h => h) ?wd2 (by assumption) ?yd2 ?rd2
        case wd2 => rfl
        case yd2 => (intro w hSw; (try dsimp only at hSw); go_simp; first | done | with_reducible rfl)
        simp only [Act.put, List.setIfInBounds_toArray, List.set_cons_zero, List.set_cons_succ]
        refine oneUp 1 rfl (by kernel_rfl) (by rfl) (fun K hK => ?_)
        go_simp
        refine (D1.out Y0 hY0).mono ?_
        rintro e Y1 ⟨rfl, hbb⟩
        have hY1 : Below U4.heap.size U4 Y1 := hY0.trans (hbb.mono hY0.size)
        clear hbb
        refine hK.out _ _ (HSW.out Y1 hY1) (fun hHeldY1 => ?_)
        clear hK K
        (try simp only [Act.put, List.setIfInBounds_toArray, List.set_cons_zero, List.set_cons_succ])
        refine oneUp 3 rfl (by kernel_rfl) (by rfl) (fun K hK => ?_)
        go_simp
        refine (D2.out Y1 hY1).mono ?_
        rintro e Y2 ⟨rfl, hbb⟩
        have hY2 : Below U4.heap.size U4 Y2 := hY1.trans (hbb.mono hY1.size)
        clear hbb
        refine hK.out _ _ (HSW.out Y2 hY2) (fun hHeldY2 => ?_)
        clear hK K
        (try simp only [Act.put, List.setIfInBounds_toArray, List.set_cons_zero, List.set_cons_succ])
        refine takeIn 4 (v := ?vd4) rfl (by kernel_rfl) (by kernel_rfl) (by kernel_rfl) (fun _ _ _ h => h) ?wd4 (by assumption) ?yd4 ?rd4
        case wd4 => rfl
        case yd4 => (intro w hSw; (try dsimp only at hSw); go_simp; first | done | with_reducible rfl)
        simp only [Act.put, List.setIfInBounds_toArray, List.set_cons_zero, List.set_cons_succ]
        refine takeIn 5 (v := ?vd5) rfl (by kernel_rfl) (by kernel_rfl) (by kernel_rfl) (fun _ _ _ h => h) ?wd5 (by assumption) ?yd5 ?rd5
        case wd5 => rfl
        case yd5 => (intro w hSw; (try dsimp only at hSw); go_simp; first | done | with_reducible rfl)
        simp only [Act.put, List.setIfInBounds_toArray, List.set_cons_zero, List.set_cons_succ]
        refine takeIn 6 (v := ?vd6) rfl (by kernel_rfl) (by kernel_rfl) (by kernel_rfl) (fun _ _ _ h => h) ?wd6 (by assumption) ?yd6 ?rd6
        case wd6 => rfl
        case yd6 => (intro w hSw; (try dsimp only at hSw); go_simp; first | done | with_reducible rfl)
        simp only [Act.put, List.setIfInBounds_toArray, List.set_cons_zero, List.set_cons_succ]
        refine oneUp 7 rfl (by kernel_rfl) (by rfl) (fun K hK => ?_)
        go_simp
        refine (D2.out Y2 hY2).mono ?_
        rintro e Y3 ⟨rfl, hbb⟩
        have hY3 : Below U4.heap.size U4 Y3 := hY2.trans (hbb.mono hY2.size)
        clear hbb
        refine hK.out _ _ (HSW.out Y3 hY3) (fun hHeldY3 => ?_)
        clear hK K
        (try simp only [Act.put, List.setIfInBounds_toArray, List.set_cons_zero, List.set_cons_succ])
        refine takeIn 8 (v := ?vd8) rfl (by kernel_rfl) (by kernel_rfl) (by kernel_rfl) (fun _ _ _ h => h) ?wd8 (by assumption) ?yd8 ?rd8
        case wd8 => rfl
        case yd8 => (intro w hSw; (try dsimp only at hSw); go_simp; first | done | with_reducible rfl)
        simp only [Act.put, List.setIfInBounds_toArray, List.set_cons_zero, List.set_cons_succ]
        refine takeOut 9 rfl (by kernel_rfl) (by kernel_rfl) (by kernel_rfl) (fun _ _ _ h => h) ?wd9 (by assumption) ?rd9
        case wd9 => rfl
        simp only [Act.put, List.setIfInBounds_toArray, List.set_cons_zero, List.set_cons_succ]
        refine takeOut 10 rfl (by kernel_rfl) (by kernel_rfl) (by kernel_rfl) (fun _ _ _ h => h) ?wd10 (by assumption) ?rd10
        case wd10 => rfl
        simp only [Act.put, List.setIfInBounds_toArray, List.set_cons_zero, List.set_cons_succ]
        refine takeOut 11 rfl (by kernel_rfl) (by kernel_rfl) (by kernel_rfl) (fun _ _ _ h => h) ?wd11 (by assumption) ?rd11
        case wd11 => rfl
        simp only [Act.put, List.setIfInBounds_toArray, List.set_cons_zero, List.set_cons_succ]
        refine takeIn 12 (v := ?vd12) rfl (by kernel_rfl) (by kernel_rfl) (by kernel_rfl) (fun _ _ _ h => h) ?wd12 (by assumption) ?yd12 ?rd12
        case wd12 => rfl
        case yd12 => (intro w hSw; (try dsimp only at hSw); go_simp; first | done | with_reducible rfl)
        simp only [Act.put, List.setIfInBounds_toArray, List.set_cons_zero, List.set_cons_succ]
        refine takeIn 13 (v := ?vd13) rfl (by kernel_rfl) (by kernel_rfl) (by kernel_rfl) (fun _ _ _ h => h) ?wd13 (by assumption) ?yd13 ?rd13
        case wd13 => rfl
        case yd13 => (intro w hSw; (try dsimp only at hSw); go_simp; first | done | with_reducible rfl)
        simp only [Act.put, List.setIfInBounds_toArray, List.set_cons_zero, List.set_cons_succ]
        refine takeIn 14 (v := ?vd14) rfl (by kernel_rfl) (by kernel_rfl) (by kernel_rfl) (fun _ _ _ h => h) ?wd14 (by assumption) ?yd14 ?rd14
        case wd14 => rfl
        case yd14 => (intro w hSw; (try dsimp only at hSw); go_simp; first | done | with_reducible rfl)
        simp only [Act.put, List.setIfInBounds_toArray, List.set_cons_zero, List.set_cons_succ]
        refine takeIn 15 (v := ?vd15) rfl (by kernel_rfl) (by kernel_rfl) (by kernel_rfl) (fun _ _ _ h => h) ?wd15 (by assumption) ?yd15 ?rd15
        case wd15 => rfl
        case yd15 => (intro w hSw; (try dsimp only at hSw); go_simp; first | done | with_reducible rfl)
        simp only [Act.put, List.setIfInBounds_toArray, List.set_cons_zero, List.set_cons_succ]
        refine oneUp 16 rfl (by kernel_rfl) (by rfl) (fun K hK => ?_)
        go_simp
        refine (D4.out Y3 hY3).mono ?_
        rintro e Y5 ⟨rfl, hbb⟩
        have hY5 : Below U4.heap.size U4 Y5 := hY3.trans (hbb.mono hY3.size)
        clear hbb
        refine hK.out _ _ (HSW.out Y5 hY5) (fun hHeldY5 => ?_)
        clear hK K
        (try simp only [Act.put, List.setIfInBounds_toArray, List.set_cons_zero, List.set_cons_succ])
        refine takeIn 17 (v := ?vd17) rfl (by kernel_rfl) (by kernel_rfl) (by kernel_rfl) (fun _ _ _ h => h) ?wd17 (by assumption) ?yd17 ?rd17
        case wd17 => rfl
        case yd17 => (intro w hSw; (try dsimp only at hSw); go_simp; first | done | with_reducible rfl)
        simp only [Act.put, List.setIfInBounds_toArray, List.set_cons_zero, List.set_cons_succ]
        refine takeIn 18 (v := ?vd18) rfl (by kernel_rfl) (by kernel_rfl) (by kernel_rfl) (fun _ _ _ h => h) ?wd18 (by assumption) ?yd18 ?rd18
        case wd18 => rfl
        case yd18 => (intro w hSw; (try dsimp only at hSw); go_simp; first | done | with_reducible rfl)
        simp only [Act.put, List.setIfInBounds_toArray, List.set_cons_zero, List.set_cons_succ]
        refine oneUp 19 rfl (by kernel_rfl) (by rfl) (fun K hK => ?_)
        go_simp
        refine (D5.out rfl Y5 hY5).mono ?_
        rintro e Y6 ⟨rfl, hbb⟩
        have hY6 : Below U4.heap.size U4 Y6 := hY5.trans (hbb.mono hY5.size)
        clear hbb
        refine hK.out _ _ (HSW.out Y6 hY6) (fun hHeldY6 => ?_)
        clear hK K
        (try simp only [Act.put, List.setIfInBounds_toArray, List.set_cons_zero, List.set_cons_succ])
        refine takeIn 20 (v := ?vd20) rfl (by kernel_rfl) (by kernel_rfl) (by kernel_rfl) (fun _ _ _ h => h) ?wd20 (by assumption) ?yd20 ?rd20
        case wd20 => rfl
        case yd20 => (intro w hSw; (try dsimp only at hSw); go_simp; first | done | with_reducible rfl)
        simp only [Act.put, List.setIfInBounds_toArray, List.set_cons_zero, List.set_cons_succ]
        refine takeIn 21 (v := ?vd21) rfl (by kernel_rfl) (by kernel_rfl) (by kernel_rfl) (fun _ _ _ h => h) ?wd21 (by assumption) ?yd21 ?rd21
        case wd21 => rfl
        case yd21 => (intro w hSw; (try dsimp only at hSw); go_simp; first | done | with_reducible rfl)
        simp only [Act.put, List.setIfInBounds_toArray, List.set_cons_zero, List.set_cons_succ]
        refine takeIn 22 (v := ?vd22) rfl (by kernel_rfl) (by kernel_rfl) (by kernel_rfl) (fun _ _ _ h => h) ?wd22 (by assumption) ?yd22 ?rd22
        case wd22 => rfl
        case yd22 => (intro w hSw; (try dsimp only at hSw); go_simp; first | done | with_reducible rfl)
        simp only [Act.put, List.setIfInBounds_toArray, List.set_cons_zero, List.set_cons_succ]
        refine wpAnyH_done (by kernel_rfl) ?_ _
        go_wp2_with fail
        go_meet
        exact ⟨rfl, hY6⟩
    · cases rg
      · refine wp_region_held_drew (S := fun W' => W'.cell? ⟨P, 0, none⟩ = some (.slice a hs.length cap) ∧ W'.cell? ⟨Q, 0, none⟩ = some (.slice ax hx.length capx) ∧ W'.cell? ⟨R, 0, none⟩ = some (.slice ag hg.length capg) ∧ W'.cell? ⟨T, 0, none⟩ = some (.slice ay hy.length capy)) (by kernel_rfl) (HSW.out _ (Below.refl U4.heap.size U4).drew) (fun hHeld => ?_)
        have hY0 : Below U4.heap.size U4 U4.drew := (Below.refl U4.heap.size U4).drew
        generalize U4.drew = Y0 at hHeld hY0 ⊢
        refine takeIn 0 (v := ?ve0) rfl (by kernel_rfl) (by kernel_rfl) (by kernel_rfl) (fun _ _ _ h => h) ?we0 (by assumption) ?ye0 ?re0
        case we0 => rfl
        case ye0 => (intro w hSw; (try dsimp only at hSw); go_simp; first | done | with_reducible rfl)
        simp only [Act.put, List.setIfInBounds_toArray, List.set_cons_zero, List.set_cons_succ]
        refine takeIn 2 (v := ?ve2) rfl (by kernel_rfl) (by kernel_rfl) (by kernel_rfl) (fun _ _ _ h => h) ?we2 (by assumption) ?ye2 ?re2
        case we2 => rfl
        case ye2 => (intro w hSw; (try dsimp only at hSw); go_simp; first | done | with_reducible rfl)
        simp only [Act.put, List.setIfInBounds_toArray, List.set_cons_zero, List.set_cons_succ]
        refine oneUp 1 rfl (by kernel_rfl) (by rfl) (fun K hK => ?_)
        go_simp
        refine (D1.out Y0 hY0).mono ?_
        rintro e Y1 ⟨rfl, hbb⟩
        have hY1 : Below U4.heap.size U4 Y1 := hY0.trans (hbb.mono hY0.size)
        clear hbb
        refine hK.out _ _ (HSW.out Y1 hY1) (fun hHeldY1 => ?_)
        clear hK K
        (try simp only [Act.put, List.setIfInBounds_toArray, List.set_cons_zero, List.set_cons_succ])
        refine oneUp 3 rfl (by kernel_rfl) (by rfl) (fun K hK => ?_)
        go_simp
        refine (D2.out Y1 hY1).mono ?_
        rintro e Y2 ⟨rfl, hbb⟩
        have hY2 : Below U4.heap.size U4 Y2 := hY1.trans (hbb.mono hY1.size)
        clear hbb
        refine hK.out _ _ (HSW.out Y2 hY2) (fun hHeldY2 => ?_)
        clear hK K
        (try simp only [Act.put, List.setIfInBounds_toArray, List.set_cons_zero, List.set_cons_succ])
        refine takeIn 4 (v := ?ve4) rfl (by kernel_rfl) (by kernel_rfl) (by kernel_rfl) (fun _ _ _ h => h) ?we4 (by assumption) ?ye4 ?re4
        case we4 => rfl
        case ye4 => (intro w hSw; (try dsimp only at hSw); go_simp; first | done | with_reducible rfl)
        simp only [Act.put, List.setIfInBounds_toArray, List.set_cons_zero, List.set_cons_succ]
        refine takeIn 5 (v := ?ve5) rfl (by kernel_rfl) (by kernel_rfl) (by kernel_rfl) (fun _ _ _ h => h) ?we5 (by assumption) ?ye5 ?re5
        case we5 => rfl
        case ye5 => (intro w hSw; (try dsimp only at hSw); go_simp; first | done | with_reducible rfl)
        simp only [Act.put, List.setIfInBounds_toArray, List.set_cons_zero, List.set_cons_succ]
        refine takeIn 6 (v := ?ve6) rfl (by kernel_rfl) (by kernel_rfl) (by kernel_rfl) (fun _ _ _ h => h) ?we6 (by assumption) ?ye6 ?re6
        case we6 => rfl
        case ye6 => (intro w hSw; (try dsimp only at hSw); go_simp; first | done | with_reducible rfl)
        simp only [Act.put, List.setIfInBounds_toArray, List.set_cons_zero, List.set_cons_succ]
        refine oneUp 7 rfl (by kernel_rfl) (by rfl) (fun K hK => ?_)
        go_simp
        refine (D2.out Y2 hY2).mono ?_
        rintro e Y3 ⟨rfl, hbb⟩
        have hY3 : Below U4.heap.size U4 Y3 := hY2.trans (hbb.mono hY2.size)
        clear hbb
        refine hK.out _ _ (HSW.out Y3 hY3) (fun hHeldY3 => ?_)
        clear hK K
        (try simp only [Act.put, List.setIfInBounds_toArray, List.set_cons_zero, List.set_cons_succ])
        refine takeIn 8 (v := ?ve8) rfl (by kernel_rfl) (by kernel_rfl) (by kernel_rfl) (fun _ _ _ h => h) ?we8 (by assumption) ?ye8 ?re8
        case we8 => rfl
        case ye8 => (intro w hSw; (try dsimp only at hSw); go_simp; first | done | with_reducible rfl)
        simp only [Act.put, List.setIfInBounds_toArray, List.set_cons_zero, List.set_cons_succ]
        refine takeIn 9 (v := ?ve9) rfl (by kernel_rfl) (by kernel_rfl) (by kernel_rfl) (fun _ _ _ h => h) ?we9 (by assumption) ?ye9 ?re9
        case we9 => rfl
        case ye9 => (intro w hSw; (try dsimp only at hSw); go_simp; first | done | with_reducible rfl)
        simp only [Act.put, List.setIfInBounds_toArray, List.set_cons_zero, List.set_cons_succ]
        refine oneUp 10 rfl (by kernel_rfl) (by rfl) (fun K hK => ?_)
        go_simp
        refine (D3.out rfl Y3 hY3).mono ?_
        rintro e Y4 ⟨rfl, hbb⟩
        have hY4 : Below U4.heap.size U4 Y4 := hY3.trans (hbb.mono hY3.size)
        clear hbb
        refine hK.out _ _ (HSW.out Y4 hY4) (fun hHeldY4 => ?_)
        clear hK K
        (try simp only [Act.put, List.setIfInBounds_toArray, List.set_cons_zero, List.set_cons_succ])
        refine takeIn 11 (v := ?ve11) rfl (by kernel_rfl) (by kernel_rfl) (by kernel_rfl) (fun _ _ _ h => h) ?we11 (by assumption) ?ye11 ?re11
        case we11 => rfl
        case ye11 => (intro w hSw; (try dsimp only at hSw); go_simp; first | done | with_reducible rfl)
        simp only [Act.put, List.setIfInBounds_toArray, List.set_cons_zero, List.set_cons_succ]
        refine takeIn 12 (v := ?ve12) rfl (by kernel_rfl) (by kernel_rfl) (by kernel_rfl) (fun _ _ _ h => h) ?we12 (by assumption) ?ye12 ?re12
        case we12 => rfl
        case ye12 => (intro w hSw; (try dsimp only at hSw); go_simp; first | done | with_reducible rfl)
        simp only [Act.put, List.setIfInBounds_toArray, List.set_cons_zero, List.set_cons_succ]
        refine takeIn 13 (v := ?ve13) rfl (by kernel_rfl) (by kernel_rfl) (by kernel_rfl) (fun _ _ _ h => h) ?we13 (by assumption) ?ye13 ?re13
        case we13 => rfl
        case ye13 => (intro w hSw; (try dsimp only at hSw); go_simp; first | done | with_reducible rfl)
        simp only [Act.put, List.setIfInBounds_toArray, List.set_cons_zero, List.set_cons_succ]
        refine takeIn 14 (v := ?ve14) rfl (by kernel_rfl) (by kernel_rfl) (by kernel_rfl) (fun _ _ _ h => h) ?we14 (by assumption) ?ye14 ?re14
        case we14 => rfl
        case ye14 => (intro w hSw; (try dsimp only at hSw); go_simp; first | done | with_reducible rfl)
        simp only [Act.put, List.setIfInBounds_toArray, List.set_cons_zero, List.set_cons_succ]
        refine takeIn 15 (v := ?ve15) rfl (by kernel_rfl) (by kernel_rfl) (by kernel_rfl) (fun _ _ _ h => h) ?we15 (by assumption) ?ye15 ?re15
        case we15 => rfl
        case ye15 => (intro w hSw; (try dsimp only at hSw); go_simp; first | done | with_reducible rfl)
        simp only [Act.put, List.setIfInBounds_toArray, List.set_cons_zero, List.set_cons_succ]
        refine oneUp 16 rfl (by kernel_rfl) (by rfl) (fun K hK => ?_)
        go_simp
        refine (D4.out Y4 hY4).mono ?_
        rintro e Y5 ⟨rfl, hbb⟩
        have hY5 : Below U4.heap.size U4 Y5 := hY4.trans (hbb.mono hY4.size)
        clear hbb
        refine hK.out _ _ (HSW.out Y5 hY5) (fun hHeldY5 => ?_)
        clear hK K
        (try simp only [Act.put, List.setIfInBounds_toArray, List.set_cons_zero, List.set_cons_succ])
        refine takeIn 17 (v := ?ve17) rfl (by kernel_rfl) (by kernel_rfl) (by kernel_rfl) (fun _ _ _ h => h) ?we17 (by assumption) ?ye17 ?re17
        case we17 => rfl
        case ye17 => (intro w hSw; (try dsimp only at hSw); go_simp; first | done | with_reducible rfl)
        simp only [Act.put, List.setIfInBounds_toArray, List.set_cons_zero, List.set_cons_succ]
        refine takeOut 18 rfl (by kernel_rfl) (by kernel_rfl) (by kernel_rfl) (fun _ _ _ h => h) ?we18 (by assumption) ?re18
        case we18 => rfl
        simp only [Act.put, List.setIfInBounds_toArray, List.set_cons_zero, List.set_cons_succ]
        refine takeOut 19 rfl (by kernel_rfl) (by kernel_rfl) (by kernel_rfl) (fun _ _ _ h => h) ?we19 (by assumption) ?re19
        case we19 => rfl
        simp only [Act.put, List.setIfInBounds_toArray, List.set_cons_zero, List.set_cons_succ]
        refine takeOut 20 rfl (by kernel_rfl) (by kernel_rfl) (by kernel_rfl) (fun _ _ _ h => h) ?we20 (by assumption) ?re20
        case we20 => rfl
        simp only [Act.put, List.setIfInBounds_toArray, List.set_cons_zero, List.set_cons_succ]
        refine takeIn 21 (v := ?ve21) rfl (by kernel_rfl) (by kernel_rfl) (by kernel_rfl) (fun _ _ _ h => h) ?we21 (by assumption) ?ye21 ?re21
        case we21 => rfl
        case ye21 => (intro w hSw; (try dsimp only at hSw); go_simp; first | done | with_reducible rfl)
        simp only [Act.put, List.setIfInBounds_toArray, List.set_cons_zero, List.set_cons_succ]
        refine takeIn 22 (v := ?ve22) rfl (by kernel_rfl) (by kernel_rfl) (by kernel_rfl) (fun _ _ _ h => h) ?we22 (by assumption) ?ye22 ?re22
        case we22 => rfl
        case ye22 => (intro w hSw; (try dsimp only at hSw); go_simp; first | done | with_reducible rfl)
        simp only [Act.put, List.setIfInBounds_toArray, List.set_cons_zero, List.set_cons_succ]
        refine wpAnyH_done (by kernel_rfl) ?_ _
        go_wp2_with fail
        go_meet
        exact ⟨rfl, hY5⟩
      · refine wp_region_held_drew (S := fun W' => W'.cell? ⟨P, 0, none⟩ = some (.slice a hs.length cap) ∧ W'.cell? ⟨Q, 0, none⟩ = some (.slice ax hx.length capx) ∧ W'.cell? ⟨R, 0, none⟩ = some (.slice ag hg.length capg) ∧ W'.cell? ⟨T, 0, none⟩ = some (.slice ay hy.length capy)) (by kernel_rfl) (HSW.out _ (Below.refl U4.heap.size U4).drew) (fun hHeld => ?_)
        have hY0 : Below U4.heap.size U4 U4.drew := (Below.refl U4.heap.size U4).drew
        generalize U4.drew = Y0 at hHeld hY0 ⊢
        refine takeIn 0 (v := ?vf0) rfl (by kernel_rfl) (by kernel_rfl) (by kernel_rfl) (fun _ _ _ h => h) ?wf0 (by assumption) ?yf0 ?rf0
        case wf0 => rfl
        case yf0 => (intro w hSw; (try dsimp only at hSw); go_simp; first | done | with_reducible rfl)
        simp only [Act.put, List.setIfInBounds_toArray, List.set_cons_zero, List.set_cons_succ]
        refine takeIn 2 (v := ?vf2) rfl (by kernel_rfl) (by kernel_rfl) (by kernel_rfl) (fun _ _ _ h => h) ?wf2 (by assumption) ?yf2 ?rf2
        case wf2 => rfl
        case yf2 => (intro w hSw; (try dsimp only at hSw); go_simp; first | done | with_reducible rfl)
        simp only [Act.put, List.setIfInBounds_toArray, List.set_cons_zero, List.set_cons_succ]
        refine oneUp 1 rfl (by kernel_rfl) (by rfl) (fun K hK => ?_)
        go_simp
        refine (D1.out Y0 hY0).mono ?_
        rintro e Y1 ⟨rfl, hbb⟩
        have hY1 : Below U4.heap.size U4 Y1 := hY0.trans (hbb.mono hY0.size)
        clear hbb
        refine hK.out _ _ (HSW.out Y1 hY1) (fun hHeldY1 => ?_)
        clear hK K
        (try simp only [Act.put, List.setIfInBounds_toArray, List.set_cons_zero, List.set_cons_succ])
        refine oneUp 3 rfl (by kernel_rfl) (by rfl) (fun K hK => ?_)
        go_simp
        refine (D2.out Y1 hY1).mono ?_
        rintro e Y2 ⟨rfl, hbb⟩
        have hY2 : Below U4.heap.size U4 Y2 := hY1.trans (hbb.mono hY1.size)
        clear hbb
        refine hK.out _ _ (HSW.out Y2 hY2) (fun hHeldY2 => ?_)
        clear hK K
        (try simp only [Act.put, List.setIfInBounds_toArray, List.set_cons_zero, List.set_cons_succ])
        refine takeIn 4 (v := ?vf4) rfl (by kernel_rfl) (by kernel_rfl) (by kernel_rfl) (fun _ _ _ h => h) ?wf4 (by assumption) ?yf4 ?rf4
        case wf4 => rfl
        case yf4 => (intro w hSw; (try dsimp only at hSw); go_simp; first | done | with_reducible rfl)
        simp only [Act.put, List.setIfInBounds_toArray, List.set_cons_zero, List.set_cons_succ]
        refine takeIn 5 (v := ?vf5) rfl (by kernel_rfl) (by kernel_rfl) (by kernel_rfl) (fun _ _ _ h => h) ?wf5 (by assumption) ?yf5 ?rf5
        case wf5 => rfl
        case yf5 => (intro w hSw; (try dsimp only at hSw); go_simp; first | done | with_reducible rfl)
        simp only [Act.put, List.setIfInBounds_toArray, List.set_cons_zero, List.set_cons_succ]
        refine takeIn 6 (v := ?vf6) rfl (by kernel_rfl) (by kernel_rfl) (by kernel_rfl) (fun _ _ _ h => h) ?wf6 (by assumption) ?yf6 ?rf6
        case wf6 => rfl
        case yf6 => (intro w hSw; (try dsimp only at hSw); go_simp; first | done | with_reducible rfl)
        simp only [Act.put, List.setIfInBounds_toArray, List.set_cons_zero, List.set_cons_succ]
        refine oneUp 7 rfl (by kernel_rfl) (by rfl) (fun K hK => ?_)
        go_simp
        refine (D2.out Y2 hY2).mono ?_
        rintro e Y3 ⟨rfl, hbb⟩
        have hY3 : Below U4.heap.size U4 Y3 := hY2.trans (hbb.mono hY2.size)
        clear hbb
        refine hK.out _ _ (HSW.out Y3 hY3) (fun hHeldY3 => ?_)
        clear hK K
        (try simp only [Act.put, List.setIfInBounds_toArray, List.set_cons_zero, List.set_cons_succ])
        refine takeIn 8 (v := ?vf8) rfl (by kernel_rfl) (by kernel_rfl) (by kernel_rfl) (fun _ _ _ h => h) ?wf8 (by assumption) ?yf8 ?rf8
        case wf8 => rfl
        case yf8 => (intro w hSw; (try dsimp only at hSw); go_simp; first | done | with_reducible rfl)
        simp only [Act.put, List.setIfInBounds_toArray, List.set_cons_zero, List.set_cons_succ]
        refine takeIn 9 (v := ?vf9) rfl (by kernel_rfl) (by kernel_rfl) (by kernel_rfl) (fun _ _ _ h => h) ?wf9 (by assumption) ?yf9 ?rf9
        case wf9 => rfl
        case yf9 => (intro w hSw; (try dsimp only at hSw); go_simp; first | done | with_reducible rfl)
        simp only [Act.put, List.setIfInBounds_toArray, List.set_cons_zero, List.set_cons_succ]
        refine oneUp 10 rfl (by kernel_rfl) (by rfl) (fun K hK => ?_)
        go_simp
        refine (D3.out rfl Y3 hY3).mono ?_
        rintro e Y4 ⟨rfl, hbb⟩
        have hY4 : Below U4.heap.size U4 Y4 := hY3.trans (hbb.mono hY3.size)
        clear hbb
        refine hK.out _ _ (HSW.out Y4 hY4) (fun hHeldY4 => ?_)
        clear hK K
        (try simp only [Act.put, List.setIfInBounds_toArray, List.set_cons_zero, List.set_cons_succ])
        refine takeIn 11 (v := ?vf11) rfl (by kernel_rfl) (by kernel_rfl) (by kernel_rfl) (fun _ _ _ h => h) ?wf11 (by assumption) ?yf11 ?rf11
        case wf11 => rfl
        case yf11 => (intro w hSw; (try dsimp only at hSw); go_simp; first | done | with_reducible rfl)
        simp only [Act.put, List.setIfInBounds_toArray, List.set_cons_zero, List.set_cons_succ]
        refine takeIn 12 (v := ?vf12) rfl (by kernel_rfl) (by kernel_rfl) (by kernel_rfl) (fun _ _ _ h => h) ?wf12 (by assumption) ?yf12 ?rf12
        case wf12 => rfl
        case yf12 => (intro w hSw; (try dsimp only at hSw); go_simp; first | done | with_reducible rfl)
        simp only [Act.put, List.setIfInBounds_toArray, List.set_cons_zero, List.set_cons_succ]
        refine takeIn 13 (v := ?vf13) rfl (by kernel_rfl) (by kernel_rfl) (by kernel_rfl) (fun _ _ _ h => h) ?wf13 (by assumption) ?yf13 ?rf13
        case wf13 => rfl
        case yf13 => (intro w hSw; (try dsimp only at hSw); go_simp; first | done | with_reducible rfl)
        simp only [Act.put, List.setIfInBounds_toArray, List.set_cons_zero, List.set_cons_succ]
        refine takeIn 14 (v := ?vf14) rfl (by kernel_rfl) (by kernel_rfl) (by kernel_rfl) (fun _ _ _ h => h) ?wf14 (by assumption) ?yf14 ?rf14
        case wf14 => rfl
        case yf14 => (intro w hSw; (try dsimp only at hSw); go_simp; first | done | with_reducible rfl)
        simp only [Act.put, List.setIfInBounds_toArray, List.set_cons_zero, List.set_cons_succ]
        refine takeIn 15 (v := ?vf15) rfl (by kernel_rfl) (by kernel_rfl) (by kernel_rfl) (fun _ _ _ h => h) ?wf15 (by assumption) ?yf15 ?rf15
        case wf15 => rfl
        case yf15 => (intro w hSw; (try dsimp only at hSw); go_simp; first | done | with_reducible rfl)
        simp only [Act.put, List.setIfInBounds_toArray, List.set_cons_zero, List.set_cons_succ]
        refine oneUp 16 rfl (by kernel_rfl) (by rfl) (fun K hK => ?_)
        go_simp
        refine (D4.out Y4 hY4).mono ?_
        rintro e Y5 ⟨rfl, hbb⟩
        have hY5 : Below U4.heap.size U4 Y5 := hY4.trans (hbb.mono hY4.size)
        clear hbb
        refine hK.out _ _ (HSW.out Y5 hY5) (fun hHeldY5 => ?_)
        clear hK K
        (try simp only [Act.put, List.setIfInBounds_toArray, List.set_cons_zero, List.set_cons_succ])
        refine takeIn 17 (v := ?vf17) rfl (by kernel_rfl) (by kernel_rfl) (by kernel_rfl) (fun _ _ _ h => h) ?wf17 (by assumption) ?yf17 ?rf17
        case wf17 => rfl
        case yf17 => (intro w hSw; (try dsimp only at hSw); go_simp; first | done | with_reducible rfl)
        simp only [Act.put, List.setIfInBounds_toArray, List.set_cons_zero, List.set_cons_succ]
        refine takeIn 18 (v := ?vf18) rfl (by kernel_rfl) (by kernel_rfl) (by kernel_rfl) (fun _ _ _ h => h) ?wf18 (by assumption) ?yf18 ?rf18
        case wf18 => rfl
        case yf18 => (intro w hSw; (try dsimp only at hSw); go_simp; first | done | with_reducible rfl)
        simp only [Act.put, List.setIfInBounds_toArray, List.set_cons_zero, List.set_cons_succ]
        refine oneUp 19 rfl (by kernel_rfl) (by rfl) (fun K hK => ?_)
        go_simp
        refine (D5.out rfl Y5 hY5).mono ?_
        rintro e Y6 ⟨rfl, hbb⟩
        have hY6 : Below U4.heap.size U4 Y6 := hY5.trans (hbb.mono hY5.size)
        clear hbb
        refine hK.out _ _ (HSW.out Y6 hY6) (fun hHeldY6 => ?_)
        clear hK K
        (try simp only [Act.put, List.setIfInBounds_toArray, List.set_cons_zero, List.set_cons_succ])
        refine takeIn 20 (v := ?vf20) rfl (by kernel_rfl) (by kernel_rfl) (by kernel_rfl) (fun _ _ _ h => h) ?wf20 (by assumption) ?yf20 ?rf20
        case wf20 => rfl
        case yf20 => (intro w hSw; (try dsimp only at hSw); go_simp; first | done | with_reducible rfl)
        simp only [Act.put, List.setIfInBounds_toArray, List.set_cons_zero, List.set_cons_succ]
        refine takeIn 21 (v := ?vf21) rfl (by kernel_rfl) (by kernel_rfl) (by kernel_rfl) (fun _ _ _ h => h) ?wf21 (by assumption) ?yf21 ?rf21
        case wf21 => rfl
        case yf21 => (intro w hSw; (try dsimp only at hSw); go_simp; first | done | with_reducible rfl)
        simp only [Act.put, List.setIfInBounds_toArray, List.set_cons_zero, List.set_cons_succ]
        refine takeIn 22 (v := ?vf22) rfl (by kernel_rfl) (by kernel_rfl) (by kernel_rfl) (fun _ _ _ h => h) ?wf22 (by assumption) ?yf22 ?rf22
        case wf22 => rfl
        case yf22 => (intro w hSw; (try dsimp only at hSw); go_simp; first | done | with_reducible rfl)
        simp only [Act.put, List.setIfInBounds_toArray, List.set_cons_zero, List.set_cons_succ]
        refine wpAnyH_done (by kernel_rfl) ?_ _
        go_wp2_with fail
        go_meet
        exact ⟨rfl, hY6⟩
  case rest =>
  obtain ⟨rfl, hcut⟩ := hcut
  obtain ⟨U5, rfl⟩ : ∃ x, x = wc := ⟨_, rfl⟩
  clear D1 D3 D4 D5
  have HU5 : Hid (Below w.heap.size w U5 ∧ XH U5 P a cap hs cs ∧ Lies U5 (P + 1) ⟨vk, vn, vt⟩ ∧ XH U5 Q ax capx hx csx ∧ XH U5 R ag capg hg csg ∧ XH U5 T ay capy hy csy) := by
    obtain ⟨h1, h2, h3, h4, h5, h6⟩ := HU4.out
    exact ⟨h1.trans (hcut.mono h1.size), h2.under hcut, h3.keep hcut, h4.under hcut, h5.under hcut, h6.under hcut⟩
  clear hcut HU4 HSW D2
  have c5 := HU5.out.2.1.cell
  obtain ⟨⟨v0, v1, v2⟩, -⟩ := HU5.out.2.2.1.three
  dsimp only at v0 v1 v2
  go_wp2_with fail
  refine (C4.out U5 HU5.out.2.1.2).mono ?_
  rintro e W5 ⟨aw, capw, rfl, hb5, csw, how⟩
  have HU6 : Hid (Below w.heap.size w (W5.alloc (.cells #[.slice aw hx.length capw] 25)) ∧ XH (W5.alloc (.cells #[.slice aw hx.length capw] 25)) P a cap hs cs ∧ XH (W5.alloc (.cells #[.slice aw hx.length capw] 25)) Q ax capx hx csx ∧ XH (W5.alloc (.cells #[.slice aw hx.length capw] 25)) R ag capg hg csg ∧ XH (W5.alloc (.cells #[.slice aw hx.length capw] 25)) T ay capy hy csy ∧ XH (W5.alloc (.cells #[.slice aw hx.length capw] 25)) W5.heap.size aw capw hx csw ∧ CapH hx csw) := by
    obtain ⟨h1, h2, h3, h4, h5, h6⟩ := HU5.out
    have hb : Below U5.heap.size U5 (W5.alloc (.cells #[.slice aw hx.length capw] 25)) := hb5.alloc hb5.size _
    exact ⟨h1.trans (hb.mono h1.size), h2.under hb, h4.under hb, h5.under hb, h6.under hb, XH.new capw how.hIn, how.capH⟩
  clear hb5 how HU5 C4 c5 v0 v1 v2
  go_wp2_with fail
  generalize W5.alloc _ = U6 at *
  generalize W5.heap.size = Z at *
  have HSZ : Hid (∀ W' : World, Below U6.heap.size U6 W' → W'.cell? ⟨Q, 0, none⟩ = some (.slice ax hx.length capx) ∧ W'.cell? ⟨Z, 0, none⟩ = some (.slice aw hx.length capw)) := fun W' hW => ⟨(HU6.out.2.2.1.under hW).cell, (HU6.out.2.2.2.2.2.1.under hW).cell⟩
  obtain ⟨⟨gk, gn, gt⟩, hgv⟩ : ∃ g, Hp.getV hx ref key = g := ⟨_, rfl⟩
  obtain ⟨rb, hrb⟩ : ∃ g, Hp.hasV hx ref key = g := ⟨_, rfl⟩
  have E1 : Hid (∀ W, Below U6.heap.size U6 W → Calls Try.prog 17 #[.agg #[.slice ax hx.length capx], .int .i64 ref, .string key] W fun e w' => e = .returned (.agg #[.int .i64 gk, .int .i64 gn, .string gt]) ∧ Below W.heap.size W w') := fun W hW => by
    have := iHeapGet ax capx 0 hx csx ref key W HH.out.2.2 HX.out.1 HX.out.2.1 (HU6.out.2.2.1.under hW).2
    rw [hgv] at this
    exact this
  have E2 : Hid (∀ W, Below U6.heap.size U6 W → Calls Try.prog 18 #[.agg #[.slice aw hx.length capw], .int .i64 ref, .string key] W fun e w' => e = .returned (.agg #[.int .i64 gk, .int .i64 gn, .string gt]) ∧ Below W.heap.size W w') := fun W hW => by
    have := sHeapGet aw capw 0 hx csw ref key W HX.out.2.1 HU6.out.2.2.2.2.2.2.le (HU6.out.2.2.2.2.2.1.under hW).2 HH.out.2.2
    rw [hgv] at this
    exact this
  have E3 : Hid (∀ W, Below U6.heap.size U6 W → Calls Try.prog 19 #[.agg #[.slice ax hx.length capx], .int .i64 ref, .string key] W fun e w' => e = .returned (.bool rb) ∧ Below W.heap.size W w') := fun W hW => by
    rw [← hrb]
    exact iHeapHas ax capx 0 hx csx ref key W HH.out.2.2 HX.out.1 HX.out.2.1 (HU6.out.2.2.1.under hW).2
  have E4 : Hid (∀ W, Below U6.heap.size U6 W → Calls Try.prog 20 #[.agg #[.slice aw hx.length capw], .int .i64 ref, .string key] W fun e w' => e = .returned (.bool rb) ∧ Below W.heap.size W w') := fun W hW => by
    rw [← hrb]
    exact sHeapHas aw capw 0 hx csw ref key W HX.out.2.1 HU6.out.2.2.2.2.2.2.le (HU6.out.2.2.2.2.2.1.under hW).2 HH.out.2.2
  clear hgv hrb
  go_cut [98] from 79 to 98 (fun v W => v = .bool false ∧ Below U6.heap.size U6 W)
  case first =>
    cases rb
    · refine wp_region_held_drew (S := fun W' => W'.cell? ⟨Q, 0, none⟩ = some (.slice ax hx.length capx) ∧ W'.cell? ⟨Z, 0, none⟩ = some (.slice aw hx.length capw)) (by kernel_rfl) (HSZ.out _ (Below.refl U6.heap.size U6).drew) (fun hHeld => ?_)
      have hY0 : Below U6.heap.size U6 U6.drew := (Below.refl U6.heap.size U6).drew
      generalize U6.drew = Y0 at hHeld hY0 ⊢
      refine takeIn 0 (v := ?vg0) rfl (by kernel_rfl) (by kernel_rfl) (by kernel_rfl) (fun _ _ _ h => h) ?wg0 (by assumption) ?yg0 ?rg0
      case wg0 => rfl
      case yg0 => (intro w hSw; (try dsimp only at hSw); go_simp; first | done | with_reducible rfl)
      simp only [Act.put, List.setIfInBounds_toArray, List.set_cons_zero, List.set_cons_succ]
      refine takeIn 1 (v := ?vg1) rfl (by kernel_rfl) (by kernel_rfl) (by kernel_rfl) (fun _ _ _ h => h) ?wg1 (by assumption) ?yg1 ?rg1
      case wg1 => rfl
      case yg1 => (intro w hSw; (try dsimp only at hSw); go_simp; first | done | with_reducible rfl)
      simp only [Act.put, List.setIfInBounds_toArray, List.set_cons_zero, List.set_cons_succ]
      refine takeIn 2 (v := ?vg2) rfl (by kernel_rfl) (by kernel_rfl) (by kernel_rfl) (fun _ _ _ h => h) ?wg2 (by assumption) ?yg2 ?rg2
      case wg2 => rfl
      case yg2 => (intro w hSw; (try dsimp only at hSw); go_simp; first | done | with_reducible rfl)
      simp only [Act.put, List.setIfInBounds_toArray, List.set_cons_zero, List.set_cons_succ]
      refine takeIn 4 (v := ?vg4) rfl (by kernel_rfl) (by kernel_rfl) (by kernel_rfl) (fun _ _ _ h => h) ?wg4 (by assumption) ?yg4 ?rg4
      case wg4 => rfl
      case yg4 => (intro w hSw; (try dsimp only at hSw); go_simp; first | done | with_reducible rfl)
      simp only [Act.put, List.setIfInBounds_toArray, List.set_cons_zero, List.set_cons_succ]
      refine takeIn 5 (v := ?vg5) rfl (by kernel_rfl) (by kernel_rfl) (by kernel_rfl) (fun _ _ _ h => h) ?wg5 (by assumption) ?yg5 ?rg5
      case wg5 => rfl
      case yg5 => (intro w hSw; (try dsimp only at hSw); go_simp; first | done | with_reducible rfl)
      simp only [Act.put, List.setIfInBounds_toArray, List.set_cons_zero, List.set_cons_succ]
      refine takeIn 6 (v := ?vg6) rfl (by kernel_rfl) (by kernel_rfl) (by kernel_rfl) (fun _ _ _ h => h) ?wg6 (by assumption) ?yg6 ?rg6
      case wg6 => rfl
      case yg6 => (intro w hSw; (try dsimp only at hSw); go_simp; first | done | with_reducible rfl)
      simp only [Act.put, List.setIfInBounds_toArray, List.set_cons_zero, List.set_cons_succ]
      refine oneUp 3 rfl (by kernel_rfl) (by rfl) (fun K hK => ?_)
      go_simp
      refine (E1.out Y0 hY0).mono ?_
      rintro e Y1 ⟨rfl, hbb⟩
      have hY1 : Below U6.heap.size U6 Y1 := hY0.trans (hbb.mono hY0.size)
      clear hbb
      refine hK.out _ _ (HSZ.out Y1 hY1) (fun hHeldY1 => ?_)
      clear hK K
      (try simp only [Act.put, List.setIfInBounds_toArray, List.set_cons_zero, List.set_cons_succ])
      refine oneUp 7 rfl (by kernel_rfl) (by rfl) (fun K hK => ?_)
      go_simp
      refine (E2.out Y1 hY1).mono ?_
      rintro e Y2 ⟨rfl, hbb⟩
      have hY2 : Below U6.heap.size U6 Y2 := hY1.trans (hbb.mono hY1.size)
      clear hbb
      refine hK.out _ _ (HSZ.out Y2 hY2) (fun hHeldY2 => ?_)
      clear hK K
      (try simp only [Act.put, List.setIfInBounds_toArray, List.set_cons_zero, List.set_cons_succ])
      refine takeIn 8 (v := ?vg8) rfl (by kernel_rfl) (by kernel_rfl) (by kernel_rfl) (fun _ _ _ h => h) ?wg8 (by assumption) ?yg8 ?rg8
      case wg8 => rfl
      case yg8 => (intro w hSw; (try dsimp only at hSw); go_simp; first | done | with_reducible rfl)
      simp only [Act.put, List.setIfInBounds_toArray, List.set_cons_zero, List.set_cons_succ]
      refine takeIn 9 (v := ?vg9) rfl (by kernel_rfl) (by kernel_rfl) (by kernel_rfl) (fun _ _ _ h => h) ?wg9 (by assumption) ?yg9 ?rg9
      case wg9 => rfl
      case yg9 => (intro w hSw; (try dsimp only at hSw); go_simp; first | done | with_reducible rfl)
      simp only [Act.put, List.setIfInBounds_toArray, List.set_cons_zero, List.set_cons_succ]
      refine takeIn 10 (v := ?vg10) rfl (by kernel_rfl) (by kernel_rfl) (by kernel_rfl) (fun _ _ _ h => h) ?wg10 (by assumption) ?yg10 ?rg10
      case wg10 => rfl
      case yg10 => (intro w hSw; (try dsimp only at hSw); go_simp; first | done | with_reducible rfl)
      simp only [Act.put, List.setIfInBounds_toArray, List.set_cons_zero, List.set_cons_succ]
      refine takeIn 11 (v := ?vg11) rfl (by kernel_rfl) (by kernel_rfl) (by kernel_rfl) (fun _ _ _ h => h) ?wg11 (by assumption) ?yg11 ?rg11
      case wg11 => rfl
      case yg11 => (intro w hSw; (try dsimp only at hSw); go_simp; first | done | with_reducible rfl)
      simp only [Act.put, List.setIfInBounds_toArray, List.set_cons_zero, List.set_cons_succ]
      refine takeIn 12 (v := ?vg12) rfl (by kernel_rfl) (by kernel_rfl) (by kernel_rfl) (fun _ _ _ h => h) ?wg12 (by assumption) ?yg12 ?rg12
      case wg12 => rfl
      case yg12 => (intro w hSw; (try dsimp only at hSw); go_simp; first | done | with_reducible rfl)
      simp only [Act.put, List.setIfInBounds_toArray, List.set_cons_zero, List.set_cons_succ]
      refine takeIn 14 (v := ?vg14) rfl (by kernel_rfl) (by kernel_rfl) (by kernel_rfl) (fun _ _ _ h => h) ?wg14 (by assumption) ?yg14 ?rg14
      case wg14 => rfl
      case yg14 => (intro w hSw; (try dsimp only at hSw); go_simp; first | done | with_reducible rfl)
      simp only [Act.put, List.setIfInBounds_toArray, List.set_cons_zero, List.set_cons_succ]
      refine takeIn 15 (v := ?vg15) rfl (by kernel_rfl) (by kernel_rfl) (by kernel_rfl) (fun _ _ _ h => h) ?wg15 (by assumption) ?yg15 ?rg15
      case wg15 => rfl
      case yg15 => (intro w hSw; (try dsimp only at hSw); go_simp; first | done | with_reducible rfl)
      simp only [Act.put, List.setIfInBounds_toArray, List.set_cons_zero, List.set_cons_succ]
      refine takeIn 16 (v := ?vg16) rfl (by kernel_rfl) (by kernel_rfl) (by kernel_rfl) (fun _ _ _ h => h) ?wg16 (by assumption) ?yg16 ?rg16
      case wg16 => rfl
      case yg16 => (intro w hSw; (try dsimp only at hSw); go_simp; first | done | with_reducible rfl)
      simp only [Act.put, List.setIfInBounds_toArray, List.set_cons_zero, List.set_cons_succ]
      refine oneUp 13 rfl (by kernel_rfl) (by rfl) (fun K hK => ?_)
      go_simp
      refine (E3.out Y2 hY2).mono ?_
      rintro e Y3 ⟨rfl, hbb⟩
      have hY3 : Below U6.heap.size U6 Y3 := hY2.trans (hbb.mono hY2.size)
      clear hbb
      refine hK.out _ _ (HSZ.out Y3 hY3) (fun hHeldY3 => ?_)
      clear hK K
      (try simp only [Act.put, List.setIfInBounds_toArray, List.set_cons_zero, List.set_cons_succ])
      refine oneUp 17 rfl (by kernel_rfl) (by rfl) (fun K hK => ?_)
      go_simp
      refine (E4.out Y3 hY3).mono ?_
      rintro e Y4 ⟨rfl, hbb⟩
      have hY4 : Below U6.heap.size U6 Y4 := hY3.trans (hbb.mono hY3.size)
      clear hbb
      refine hK.out _ _ (HSZ.out Y4 hY4) (fun hHeldY4 => ?_)
      clear hK K
      (try simp only [Act.put, List.setIfInBounds_toArray, List.set_cons_zero, List.set_cons_succ])
      refine takeIn 18 (v := ?vg18) rfl (by kernel_rfl) (by kernel_rfl) (by kernel_rfl) (fun _ _ _ h => h) ?wg18 (by assumption) ?yg18 ?rg18
      case wg18 => rfl
      case yg18 => (intro w hSw; (try dsimp only at hSw); go_simp; first | done | with_reducible rfl)
      simp only [Act.put, List.setIfInBounds_toArray, List.set_cons_zero, List.set_cons_succ]
      refine takeIn 19 (v := ?vg19) rfl (by kernel_rfl) (by kernel_rfl) (by kernel_rfl) (fun _ _ _ h => h) ?wg19 (by assumption) ?yg19 ?rg19
      case wg19 => rfl
      case yg19 => (intro w hSw; (try dsimp only at hSw); go_simp; first | done | with_reducible rfl)
      simp only [Act.put, List.setIfInBounds_toArray, List.set_cons_zero, List.set_cons_succ]
      refine wpAnyH_done (by kernel_rfl) ?_ _
      go_wp2_with fail
      go_meet
      exact ⟨rfl, hY4⟩
    · refine wp_region_held_drew (S := fun W' => W'.cell? ⟨Q, 0, none⟩ = some (.slice ax hx.length capx) ∧ W'.cell? ⟨Z, 0, none⟩ = some (.slice aw hx.length capw)) (by kernel_rfl) (HSZ.out _ (Below.refl U6.heap.size U6).drew) (fun hHeld => ?_)
      have hY0 : Below U6.heap.size U6 U6.drew := (Below.refl U6.heap.size U6).drew
      generalize U6.drew = Y0 at hHeld hY0 ⊢
      refine takeIn 0 (v := ?vh0) rfl (by kernel_rfl) (by kernel_rfl) (by kernel_rfl) (fun _ _ _ h => h) ?wh0 (by assumption) ?yh0 ?rh0
      case wh0 => rfl
      case yh0 => (intro w hSw; (try dsimp only at hSw); go_simp; first | done | with_reducible rfl)
      simp only [Act.put, List.setIfInBounds_toArray, List.set_cons_zero, List.set_cons_succ]
      refine takeIn 1 (v := ?vh1) rfl (by kernel_rfl) (by kernel_rfl) (by kernel_rfl) (fun _ _ _ h => h) ?wh1 (by assumption) ?yh1 ?rh1
      case wh1 => rfl
      case yh1 => (intro w hSw; (try dsimp only at hSw); go_simp; first | done | with_reducible rfl)
      simp only [Act.put, List.setIfInBounds_toArray, List.set_cons_zero, List.set_cons_succ]
      refine takeIn 2 (v := ?vh2) rfl (by kernel_rfl) (by kernel_rfl) (by kernel_rfl) (fun _ _ _ h => h) ?wh2 (by assumption) ?yh2 ?rh2
      case wh2 => rfl
      case yh2 => (intro w hSw; (try dsimp only at hSw); go_simp; first | done | with_reducible rfl)
      simp only [Act.put, List.setIfInBounds_toArray, List.set_cons_zero, List.set_cons_succ]
      refine takeIn 4 (v := ?vh4) rfl (by kernel_rfl) (by kernel_rfl) (by kernel_rfl) (fun _ _ _ h => h) ?wh4 (by assumption) ?yh4 ?rh4
      case wh4 => rfl
      case yh4 => (intro w hSw; (try dsimp only at hSw); go_simp; first | done | with_reducible rfl)
      simp only [Act.put, List.setIfInBounds_toArray, List.set_cons_zero, List.set_cons_succ]
      refine takeIn 5 (v := ?vh5) rfl (by kernel_rfl) (by kernel_rfl) (by kernel_rfl) (fun _ _ _ h => h) ?wh5 (by assumption) ?yh5 ?rh5
      case wh5 => rfl
      case yh5 => (intro w hSw; (try dsimp only at hSw); go_simp; first | done | with_reducible rfl)
      simp only [Act.put, List.setIfInBounds_toArray, List.set_cons_zero, List.set_cons_succ]
      refine takeIn 6 (v := ?vh6) rfl (by kernel_rfl) (by kernel_rfl) (by kernel_rfl) (fun _ _ _ h => h) ?wh6 (by assumption) ?yh6 ?rh6
      case wh6 => rfl
      case yh6 => (intro w hSw; (try dsimp only at hSw); go_simp; first | done | with_reducible rfl)
      simp only [Act.put, List.setIfInBounds_toArray, List.set_cons_zero, List.set_cons_succ]
      refine oneUp 3 rfl (by kernel_rfl) (by rfl) (fun K hK => ?_)
      go_simp
      refine (E1.out Y0 hY0).mono ?_
      rintro e Y1 ⟨rfl, hbb⟩
      have hY1 : Below U6.heap.size U6 Y1 := hY0.trans (hbb.mono hY0.size)
      clear hbb
      refine hK.out _ _ (HSZ.out Y1 hY1) (fun hHeldY1 => ?_)
      clear hK K
      (try simp only [Act.put, List.setIfInBounds_toArray, List.set_cons_zero, List.set_cons_succ])
      refine oneUp 7 rfl (by kernel_rfl) (by rfl) (fun K hK => ?_)
      go_simp
      refine (E2.out Y1 hY1).mono ?_
      rintro e Y2 ⟨rfl, hbb⟩
      have hY2 : Below U6.heap.size U6 Y2 := hY1.trans (hbb.mono hY1.size)
      clear hbb
      refine hK.out _ _ (HSZ.out Y2 hY2) (fun hHeldY2 => ?_)
      clear hK K
      (try simp only [Act.put, List.setIfInBounds_toArray, List.set_cons_zero, List.set_cons_succ])
      refine takeIn 8 (v := ?vh8) rfl (by kernel_rfl) (by kernel_rfl) (by kernel_rfl) (fun _ _ _ h => h) ?wh8 (by assumption) ?yh8 ?rh8
      case wh8 => rfl
      case yh8 => (intro w hSw; (try dsimp only at hSw); go_simp; first | done | with_reducible rfl)
      simp only [Act.put, List.setIfInBounds_toArray, List.set_cons_zero, List.set_cons_succ]
      refine takeIn 9 (v := ?vh9) rfl (by kernel_rfl) (by kernel_rfl) (by kernel_rfl) (fun _ _ _ h => h) ?wh9 (by assumption) ?yh9 ?rh9
      case wh9 => rfl
      case yh9 => (intro w hSw; (try dsimp only at hSw); go_simp; first | done | with_reducible rfl)
      simp only [Act.put, List.setIfInBounds_toArray, List.set_cons_zero, List.set_cons_succ]
      refine takeIn 10 (v := ?vh10) rfl (by kernel_rfl) (by kernel_rfl) (by kernel_rfl) (fun _ _ _ h => h) ?wh10 (by assumption) ?yh10 ?rh10
      case wh10 => rfl
      case yh10 => (intro w hSw; (try dsimp only at hSw); go_simp; first | done | with_reducible rfl)
      simp only [Act.put, List.setIfInBounds_toArray, List.set_cons_zero, List.set_cons_succ]
      refine takeIn 11 (v := ?vh11) rfl (by kernel_rfl) (by kernel_rfl) (by kernel_rfl) (fun _ _ _ h => h) ?wh11 (by assumption) ?yh11 ?rh11
      case wh11 => rfl
      case yh11 => (intro w hSw; (try dsimp only at hSw); go_simp; first | done | with_reducible rfl)
      simp only [Act.put, List.setIfInBounds_toArray, List.set_cons_zero, List.set_cons_succ]
      refine takeIn 12 (v := ?vh12) rfl (by kernel_rfl) (by kernel_rfl) (by kernel_rfl) (fun _ _ _ h => h) ?wh12 (by assumption) ?yh12 ?rh12
      case wh12 => rfl
      case yh12 => (intro w hSw; (try dsimp only at hSw); go_simp; first | done | with_reducible rfl)
      simp only [Act.put, List.setIfInBounds_toArray, List.set_cons_zero, List.set_cons_succ]
      refine takeIn 14 (v := ?vh14) rfl (by kernel_rfl) (by kernel_rfl) (by kernel_rfl) (fun _ _ _ h => h) ?wh14 (by assumption) ?yh14 ?rh14
      case wh14 => rfl
      case yh14 => (intro w hSw; (try dsimp only at hSw); go_simp; first | done | with_reducible rfl)
      simp only [Act.put, List.setIfInBounds_toArray, List.set_cons_zero, List.set_cons_succ]
      refine takeIn 15 (v := ?vh15) rfl (by kernel_rfl) (by kernel_rfl) (by kernel_rfl) (fun _ _ _ h => h) ?wh15 (by assumption) ?yh15 ?rh15
      case wh15 => rfl
      case yh15 => (intro w hSw; (try dsimp only at hSw); go_simp; first | done | with_reducible rfl)
      simp only [Act.put, List.setIfInBounds_toArray, List.set_cons_zero, List.set_cons_succ]
      refine takeIn 16 (v := ?vh16) rfl (by kernel_rfl) (by kernel_rfl) (by kernel_rfl) (fun _ _ _ h => h) ?wh16 (by assumption) ?yh16 ?rh16
      case wh16 => rfl
      case yh16 => (intro w hSw; (try dsimp only at hSw); go_simp; first | done | with_reducible rfl)
      simp only [Act.put, List.setIfInBounds_toArray, List.set_cons_zero, List.set_cons_succ]
      refine oneUp 13 rfl (by kernel_rfl) (by rfl) (fun K hK => ?_)
      go_simp
      refine (E3.out Y2 hY2).mono ?_
      rintro e Y3 ⟨rfl, hbb⟩
      have hY3 : Below U6.heap.size U6 Y3 := hY2.trans (hbb.mono hY2.size)
      clear hbb
      refine hK.out _ _ (HSZ.out Y3 hY3) (fun hHeldY3 => ?_)
      clear hK K
      (try simp only [Act.put, List.setIfInBounds_toArray, List.set_cons_zero, List.set_cons_succ])
      refine oneUp 17 rfl (by kernel_rfl) (by rfl) (fun K hK => ?_)
      go_simp
      refine (E4.out Y3 hY3).mono ?_
      rintro e Y4 ⟨rfl, hbb⟩
      have hY4 : Below U6.heap.size U6 Y4 := hY3.trans (hbb.mono hY3.size)
      clear hbb
      refine hK.out _ _ (HSZ.out Y4 hY4) (fun hHeldY4 => ?_)
      clear hK K
      (try simp only [Act.put, List.setIfInBounds_toArray, List.set_cons_zero, List.set_cons_succ])
      refine takeIn 18 (v := ?vh18) rfl (by kernel_rfl) (by kernel_rfl) (by kernel_rfl) (fun _ _ _ h => h) ?wh18 (by assumption) ?yh18 ?rh18
      case wh18 => rfl
      case yh18 => (intro w hSw; (try dsimp only at hSw); go_simp; first | done | with_reducible rfl)
      simp only [Act.put, List.setIfInBounds_toArray, List.set_cons_zero, List.set_cons_succ]
      refine takeIn 19 (v := ?vh19) rfl (by kernel_rfl) (by kernel_rfl) (by kernel_rfl) (fun _ _ _ h => h) ?wh19 (by assumption) ?yh19 ?rh19
      case wh19 => rfl
      case yh19 => (intro w hSw; (try dsimp only at hSw); go_simp; first | done | with_reducible rfl)
      simp only [Act.put, List.setIfInBounds_toArray, List.set_cons_zero, List.set_cons_succ]
      refine wpAnyH_done (by kernel_rfl) ?_ _
      go_wp2_with fail
      go_meet
      exact ⟨rfl, hY4⟩
  case rest =>
  obtain ⟨rfl, hcut⟩ := hcut
  obtain ⟨U7, rfl⟩ : ∃ x, x = wc := ⟨_, rfl⟩
  clear E1 E2 E3 E4 HSZ
  have HU7 : Hid (Below w.heap.size w U7 ∧ XH U7 P a cap hs cs ∧ XH U7 Q ax capx hx csx ∧ XH U7 R ag capg hg csg ∧ XH U7 T ay capy hy csy) := by
    obtain ⟨h1, h2, h3, h4, h5, -, -⟩ := HU6.out
    exact ⟨h1.trans (hcut.mono h1.size), h2.under hcut, h3.under hcut, h4.under hcut, h5.under hcut⟩
  clear hcut HU6
  go_wp2_with fail
  generalize hU8 : U7.alloc _ = U8
  have HU8 : Hid (Below w.heap.size w U8 ∧ XH U8 P a cap hs cs ∧ XH U8 Q ax capx hx csx ∧ XH U8 R ag capg hg csg ∧ XH U8 T ay capy hy csy ∧ ∀ i : Nat, i < 5 → ∃ id : ByteArray, id.size ≤ 4000 ∧ U8.cell? ⟨U7.heap.size, i, none⟩ = some (.string id)) := by
    rw [← hU8]
    obtain ⟨h1, h2, h3, h4, h5⟩ := HU7.out
    have hb : ∀ o, Below U7.heap.size U7 (U7.alloc o) := fun o => (Below.refl _ _).alloc (Nat.le_refl _) o
    refine ⟨h1.trans ((hb _).mono h1.size), h2.under (hb _), h3.under (hb _), h4.under (hb _), h5.under (hb _), fun i hi => ?_⟩
    have h9 := heap_alloc_new U7 (.cells #[.string ⟨#[97]⟩, .string ⟨#[98]⟩, .string ⟨#[]⟩, .string ⟨#[120, 32, 121]⟩, .string ⟨#[108, 101, 110, 103, 116, 104]⟩] 9)
    rcases (by omega : i = 0 ∨ i = 1 ∨ i = 2 ∨ i = 3 ∨ i = 4) with rfl | rfl | rfl | rfl | rfl
    · exact ⟨⟨#[97]⟩, by decide, by unfold World.cell?; rw [h9]; rfl⟩
    · exact ⟨⟨#[98]⟩, by decide, by unfold World.cell?; rw [h9]; rfl⟩
    · exact ⟨⟨#[]⟩, by decide, by unfold World.cell?; rw [h9]; rfl⟩
    · exact ⟨⟨#[120, 32, 121]⟩, by decide, by unfold World.cell?; rw [h9]; rfl⟩
    · exact ⟨⟨#[108, 101, 110, 103, 116, 104]⟩, by decide, by unfold World.cell?; rw [h9]; rfl⟩
  clear hU8 HU7
  generalize U7.heap.size = I at *
  go_loopw [16] (fun vi wr => ∃ i : Nat, i ≤ 5 ∧ vi = .int .i64 i ∧ Hid (Below U8.heap.size U8 wr)) (fun vi _ => 5 - (intOf vi).toNat)
  case atStart => exact ⟨0, by omega, rfl, Below.refl _ _⟩
  case round =>
    obtain ⟨i, hi, rfl, HE⟩ := hrel
    by_cases hlt : i < 5
    case neg =>
      have hlt' : ¬ (i : Int) < 5 := by omega
      have c13 := (HU8.out.2.2.2.2.1.under HE.out).cell
      have HVL : Hid ((Hp.keysV hy at').length ≤ 1048576) := lx_keys HY.out.1 at'
      have K1 : Hid _ := fun (_ : Unit) => iHeapKeys ay capy 0 hy csy at' wr HY.out.1 HY.out.2.1 (HU8.out.2.2.2.2.1.under HE.out).2
      have K3 : Hid (∀ (W : World) (B : Nat) (a : Option Addr) (c : Nat) (cs : Nat → OC), HOwn W B (.slice a hy.length c) hy hy.length cs → Calls Try.prog 23 #[.agg #[.slice a hy.length c], .int .i64 at'] W fun e w' => ∃ v, e = .returned v ∧ Below W.heap.size W w' ∧ SRow w' W.heap.size v (Hp.keysV hy at')) := fun W B a c cs k => sHeapKeys a c B hy cs at' W HY.out.1 HY.out.2.1 k.capH.le k.hIn
      generalize Hp.keysV hy at' = V at K1 K3 HVL
      go_wp2_with fail
      refine (K1.out ()).mono ?_
      rintro e W7 ⟨vl, rfl, hb7, hs7⟩
      obtain ⟨al, cl, rfl⟩ := hs7.shape
      have HW7 : Hid (Below U8.heap.size U8 W7 ∧ SRow W7 wr.heap.size (.slice al V.length cl) V) := ⟨HE.out.trans (hb7.mono HE.out.size), hs7⟩
      clear hb7 hs7 c13 K1
      have c10 := (HU8.out.2.2.2.1.under HW7.out.1).cell
      go_wp2_with fail
      refine (C6.out W7 (HU8.out.2.2.2.1.under HW7.out.1).2).mono ?_
      rintro e W8 ⟨a8, cap8, rfl, hb8, cs8, ho8⟩
      have HW8 : Hid (Below U8.heap.size U8 W8 ∧ SRow W8 wr.heap.size (.slice al V.length cl) V ∧ HOwn W8 W7.heap.size (.slice a8 hy.length cap8) hy hy.length cs8) := ⟨HW7.out.1.trans (hb8.mono HW7.out.1.size), HW7.out.2.under hb8, ho8⟩
      clear hb8 ho8 c10
      go_wp2_with fail
      refine (K3.out W8 _ a8 cap8 cs8 HW8.out.2.2).mono ?_
      rintro e W9 ⟨vm, rfl, hb9, hs9⟩
      obtain ⟨am, cm, rfl⟩ := hs9.shape
      have HW9 : Hid (Below w.heap.size w W9 ∧ SRow W9 wr.heap.size (.slice al V.length cl) V ∧ SRow W9 W8.heap.size (.slice am V.length cm) V) := ⟨HU8.out.1.trans ((HW8.out.1.trans (hb9.mono HW8.out.1.size)).mono HU8.out.1.size), HW8.out.2.1.under hb9, hs9⟩
      clear hb9 hs9 HW7 HW8 K3 C6
      have hvl := HVL.out
      go_wp2_with fail
      go_loopw [20] (fun vi wr => ∃ i : Nat, i ≤ V.length ∧ vi = .int .i64 i ∧ Below W9.heap.size W9 wr) (fun vi _ => V.length - (intOf vi).toNat)
      case atStart => exact ⟨0, Nat.zero_le _, rfl, Below.refl _ _⟩
      case round =>
        obtain ⟨j, hj, rfl, hb⟩ := hrel
        by_cases hltj : j < V.length
        · obtain ⟨b1, rfl, hc1⟩ := HW9.out.2.1.cells.resolve_left (fun e => by rw [e] at hltj; simp at hltj)
          obtain ⟨b2, rfl, hc2⟩ := HW9.out.2.2.cells.resolve_left (fun e => by rw [e] at hltj; simp at hltj)
          have c1 := hc1 j hltj
          have c2 := hc2 j hltj
          replace c1 := (hb.cell (World.block_lt_of_cell? W9 _ c1)).trans c1
          replace c2 := (hb.cell (World.block_lt_of_cell? W9 _ c2)).trans c2
          clear hc1 hc2
          have hltj' : (j : Int) < (V.length : Int) := by omega
          go_wp2_with fail
          go_quiet (fail)
          have hb' : Below W9.heap.size W9 (wr.drewN nq) := by exact ⟨hb.os, hb.tape, hb.output, hb.size, hb.block⟩
          generalize wr.drewN nq = W10 at *
          go_wp2_with fail
          exact ⟨⟨j + 1, by omega, by go_num, hb'⟩, by simp [intOf]; omega⟩
        · have hltj' : ¬ (j : Int) < (V.length : Int) := by omega
          have HB : Hid (Below w.heap.size w wr) := HW9.out.1.trans (hb.mono HW9.out.1.size)
          go_wp2_with fail
          go_ret
          exact ⟨rfl, HB.out⟩
    have hlt' : (i : Int) < 5 := by omega
    obtain ⟨id, hid, hidc⟩ := HU8.out.2.2.2.2.2 i hlt
    have HSI : Hid (∀ W' : World, Below U8.heap.size U8 W' → W'.cell? ⟨P, 0, none⟩ = some (.slice a hs.length cap) ∧ W'.cell? ⟨Q, 0, none⟩ = some (.slice ax hx.length capx) ∧ W'.cell? ⟨I, i, none⟩ = some (.string id)) := fun W' hW => ⟨(HU8.out.2.1.under hW).cell, (HU8.out.2.2.1.under hW).cell, (World.cell?_of_block (w := U8) (hW.block _ (World.block_lt_of_cell? U8 _ hidc))).trans hidc⟩
    clear hidc
    go_wp2_with fail
    go_loopw [17] (fun vk wr => ∃ k : Nat, k ≤ hs.length ∧ vk = .int .i64 k ∧ Hid (Below U8.heap.size U8 wr)) (fun vk _ => hs.length - (intOf vk).toNat)
    case atStart => exact ⟨0, by omega, rfl, HE.out⟩
    case round =>
      clear HE
      obtain ⟨k, hk, rfl, HE⟩ := hrel
      have c5 := (HSI.out _ HE.out).1
      by_cases hltk : k < hs.length
      case neg =>
        have hltk' : ¬ (k : Int) < (hs.length : Int) := by omega
        go_wp2_with fail
        exact ⟨⟨i + 1, by omega, by go_num, HE.out⟩, by simp [intOf]; omega⟩
      have hltk' : (k : Int) < (hs.length : Int) := by omega
      go_wp2_with fail
      clear c5
      have hwr : Below U8.heap.size U8 wr := HE.out
      have HL4 : Hid (k < hs.length ∧ hs.length ≤ 4) := ⟨hltk, HW1.out.1.1.2⟩
      have F2 : Hid (∀ W, Below U8.heap.size U8 W → Calls Try.prog 15 #[.agg #[.slice a hs.length cap]] W fun e w' => e = .returned (.bool rh) ∧ Below W.heap.size W w') := fun W hW => by
        rw [← HRH.out]
        exact sHeapRight a cap 0 hs cs W HH.out.2.1 HW1.out.2.2.2.le (HU8.out.2.1.under hW).2
      obtain ⟨⟨gk, gn, gt⟩, hgv⟩ : ∃ g, Hp.getV hs k id = g := ⟨_, rfl⟩
      obtain ⟨⟨yk, yn, yt⟩, hyv⟩ : ∃ g, Hp.getV hx k id = g := ⟨_, rfl⟩
      have F3 : Hid (∀ W, Below U8.heap.size U8 W → Calls Try.prog 18 #[.agg #[.slice a hs.length cap], .int .i64 k, .string id] W fun e w' => e = .returned (.agg #[.int .i64 gk, .int .i64 gn, .string gt]) ∧ Below W.heap.size W w') := fun W hW => by
        have := sHeapGet a cap 0 hs cs k id W HH.out.2.1 HW1.out.2.2.2.le (HU8.out.2.1.under hW).2 (by omega)
        rw [hgv] at this
        exact this
      have F4 : Hid (∀ W, Below U8.heap.size U8 W → Calls Try.prog 17 #[.agg #[.slice ax hx.length capx], .int .i64 k, .string id] W fun e w' => e = .returned (.agg #[.int .i64 yk, .int .i64 yn, .string yt]) ∧ Below W.heap.size W w') := fun W hW => by
        have := iHeapGet ax capx 0 hx csx k id W (by omega) HX.out.1 HX.out.2.1 (HU8.out.2.2.1.under hW).2
        rw [hyv] at this
        exact this
      have F5 : Hid (rh = true → (⟨gk, gn, gt⟩ : Val.VV) ≠ ⟨yk, yn, yt⟩ → ∀ W, Below U8.heap.size U8 W → Calls Try.prog 21 #[.agg #[.slice a hs.length cap], .int .i64 k, .int .i64 ref] W fun e w' => e = .returned (.bool true) ∧ Below W.heap.size W w') := fun hr hne W hW => by
        refine (lAbove a cap 0 hs cs k ref W (lx_right (HRH.out.trans hr)) hltk (HU8.out.2.1.under hW).2).mono ?_
        rintro e w' ⟨r, rfl, hab, hb⟩
        rw [HX.out.2.2.2 k hltk id hid (HRH.out.trans hr) (by rw [hgv, hyv]; exact hne) r hab]
        exact ⟨rfl, hb⟩
      clear hgv hyv hk hid hltk
      go_cut [151] from 113 to 151 (fun v W => v = .bool false ∧ Below U8.heap.size U8 W)
      case first =>
        by_cases hkr : (k : Int) = ref
        · subst hkr
          by_cases hik : id = key
          · subst hik
            refine wp_region_held_drew (S := fun W' => W'.cell? ⟨P, 0, none⟩ = some (.slice a hs.length cap) ∧ W'.cell? ⟨Q, 0, none⟩ = some (.slice ax hx.length capx) ∧ W'.cell? ⟨I, i, none⟩ = some (.string id)) (by kernel_rfl) (HSI.out _ hwr.drew) (fun hHeld => ?_)
            have hY0 : Below U8.heap.size U8 wr.drew := hwr.drew
            generalize wr.drew = Y0 at hHeld hY0 ⊢
            refine takeIn 0 (v := ?vi0) rfl (by kernel_rfl) (by kernel_rfl) (by kernel_rfl) (fun _ _ _ h => h) ?wi0 (by assumption) ?yi0 ?ri0
            case wi0 => rfl
            case yi0 => (intro w hSw; (try dsimp only at hSw); go_simp; first | done | with_reducible rfl)
            simp only [Act.put, List.setIfInBounds_toArray, List.set_cons_zero, List.set_cons_succ]
            refine takeIn 1 (v := ?vi1) rfl (by kernel_rfl) (by kernel_rfl) (by kernel_rfl) (fun _ _ _ h => h) ?wi1 (by assumption) ?yi1 ?ri1
            case wi1 => rfl
            case yi1 => (intro w hSw; (try dsimp only at hSw); go_simp; first | done | with_reducible rfl)
            simp only [Act.put, List.setIfInBounds_toArray, List.set_cons_zero, List.set_cons_succ]
            refine takeIn 2 (v := ?vi2) rfl (by kernel_rfl) (by kernel_rfl) (by kernel_rfl) (fun _ _ _ h => h) ?wi2 (by assumption) ?yi2 ?ri2
            case wi2 => rfl
            case yi2 => (intro w hSw; (try dsimp only at hSw); go_simp; first | done | with_reducible rfl)
            simp only [Act.put, List.setIfInBounds_toArray, List.set_cons_zero, List.set_cons_succ]
            refine takeIn 3 (v := ?vi3) rfl (by kernel_rfl) (by kernel_rfl) (by kernel_rfl) (fun _ _ _ h => h) ?wi3 (by assumption) ?yi3 ?ri3
            case wi3 => rfl
            case yi3 => (intro w hSw; (try dsimp only at hSw); go_simp; first | done | with_reducible rfl)
            simp only [Act.put, List.setIfInBounds_toArray, List.set_cons_zero, List.set_cons_succ]
            refine takeIn 4 (v := ?vi4) rfl (by kernel_rfl) (by kernel_rfl) (by kernel_rfl) (fun _ _ _ h => h) ?wi4 (by assumption) ?yi4 ?ri4
            case wi4 => rfl
            case yi4 => (intro w hSw; (try dsimp only at hSw); go_simp; first | done | with_reducible rfl)
            simp only [Act.put, List.setIfInBounds_toArray, List.set_cons_zero, List.set_cons_succ]
            refine takeIn 5 (v := ?vi5) rfl (by kernel_rfl) (by kernel_rfl) (by kernel_rfl) (fun _ _ _ h => h) ?wi5 (by assumption) ?yi5 ?ri5
            case wi5 => rfl
            case yi5 => (intro w hSw; (try dsimp only at hSw); go_simp; first | done | with_reducible rfl)
            simp only [Act.put, List.setIfInBounds_toArray, List.set_cons_zero, List.set_cons_succ]
            refine takeIn 6 (v := ?vi6) rfl (by kernel_rfl) (by kernel_rfl) (by kernel_rfl) (fun _ _ _ h => h) ?wi6 (by assumption) ?yi6 ?ri6
            case wi6 => rfl
            case yi6 => (intro w hSw; (try dsimp only at hSw); go_simp; first | done | with_reducible rfl)
            simp only [Act.put, List.setIfInBounds_toArray, List.set_cons_zero, List.set_cons_succ]
            refine takeIn 7 (v := ?vi7) rfl (by kernel_rfl) (by kernel_rfl) (by kernel_rfl) (fun _ _ _ h => h) ?wi7 (by assumption) ?yi7 ?ri7
            case wi7 => rfl
            case yi7 => (intro w hSw; (try dsimp only at hSw); go_simp; first | done | with_reducible rfl)
            simp only [Act.put, List.setIfInBounds_toArray, List.set_cons_zero, List.set_cons_succ]
            refine takeIn 8 (v := ?vi8) rfl (by kernel_rfl) (by kernel_rfl) (by kernel_rfl) (fun _ _ _ h => h) ?wi8 (by assumption) ?yi8 ?ri8
            case wi8 => rfl
            case yi8 => (intro w hSw; (try dsimp only at hSw); go_simp; first | done | with_reducible rfl)
            simp only [Act.put, List.setIfInBounds_toArray, List.set_cons_zero, List.set_cons_succ]
            refine takeIn 9 (v := ?vi9) rfl (by kernel_rfl) (by kernel_rfl) (by kernel_rfl) (fun _ _ _ h => h) ?wi9 (by assumption) ?yi9 ?ri9
            case wi9 => rfl
            case yi9 => (intro w hSw; (try dsimp only at hSw); go_simp; first | done | with_reducible rfl)
            simp only [Act.put, List.setIfInBounds_toArray, List.set_cons_zero, List.set_cons_succ]
            refine takeIn 10 (v := ?vi10) rfl (by kernel_rfl) (by kernel_rfl) (by kernel_rfl) (fun _ _ _ h => h) ?wi10 (by assumption) ?yi10 ?ri10
            case wi10 => rfl
            case yi10 => (intro w hSw; (try dsimp only at hSw); go_simp; first | done | with_reducible rfl)
            simp only [Act.put, List.setIfInBounds_toArray, List.set_cons_zero, List.set_cons_succ]
            refine takeIn 11 (v := ?vi11) rfl (by kernel_rfl) (by kernel_rfl) (by kernel_rfl) (fun _ _ _ h => h) ?wi11 (by assumption) ?yi11 ?ri11
            case wi11 => rfl
            case yi11 => (intro w hSw; (try dsimp only at hSw); go_simp; first | done | with_reducible rfl)
            simp only [Act.put, List.setIfInBounds_toArray, List.set_cons_zero, List.set_cons_succ]
            refine takeOut 12 rfl (by kernel_rfl) (by kernel_rfl) (by kernel_rfl) (fun _ _ _ h => h) ?wi12 (by assumption) ?ri12
            case wi12 => rfl
            simp only [Act.put, List.setIfInBounds_toArray, List.set_cons_zero, List.set_cons_succ]
            refine takeOut 13 rfl (by kernel_rfl) (by kernel_rfl) (by kernel_rfl) (fun _ _ _ h => h) ?wi13 (by assumption) ?ri13
            case wi13 => rfl
            simp only [Act.put, List.setIfInBounds_toArray, List.set_cons_zero, List.set_cons_succ]
            refine takeIn 14 (v := ?vi14) rfl (by kernel_rfl) (by kernel_rfl) (by kernel_rfl) (fun _ _ _ h => h) ?wi14 (by assumption) ?yi14 ?ri14
            case wi14 => rfl
            case yi14 => (intro w hSw; (try dsimp only at hSw); go_simp; first | done | with_reducible rfl)
            simp only [Act.put, List.setIfInBounds_toArray, List.set_cons_zero, List.set_cons_succ]
            refine takeIn 15 (v := ?vi15) rfl (by kernel_rfl) (by kernel_rfl) (by kernel_rfl) (fun _ _ _ h => h) ?wi15 (by assumption) ?yi15 ?ri15
            case wi15 => rfl
            case yi15 => (intro w hSw; (try dsimp only at hSw); go_simp; first | done | with_reducible rfl)
            simp only [Act.put, List.setIfInBounds_toArray, List.set_cons_zero, List.set_cons_succ]
            refine takeOut 16 rfl (by kernel_rfl) (by kernel_rfl) (by kernel_rfl) (fun _ _ _ h => h) ?wi16 (by assumption) ?ri16
            case wi16 => rfl
            simp only [Act.put, List.setIfInBounds_toArray, List.set_cons_zero, List.set_cons_succ]
            refine takeOut 17 rfl (by kernel_rfl) (by kernel_rfl) (by kernel_rfl) (fun _ _ _ h => h) ?wi17 (by assumption) ?ri17
            case wi17 => rfl
            simp only [Act.put, List.setIfInBounds_toArray, List.set_cons_zero, List.set_cons_succ]
            refine takeOut 18 rfl (by kernel_rfl) (by kernel_rfl) (by kernel_rfl) (fun _ _ _ h => h) ?wi18 (by assumption) ?ri18
            case wi18 => rfl
            simp only [Act.put, List.setIfInBounds_toArray, List.set_cons_zero, List.set_cons_succ]
            refine takeOut 19 rfl (by kernel_rfl) (by kernel_rfl) (by kernel_rfl) (fun _ _ _ h => h) ?wi19 (by assumption) ?ri19
            case wi19 => rfl
            simp only [Act.put, List.setIfInBounds_toArray, List.set_cons_zero, List.set_cons_succ]
            refine takeOut 20 rfl (by kernel_rfl) (by kernel_rfl) (by kernel_rfl) (fun _ _ _ h => h) ?wi20 (by assumption) ?ri20
            case wi20 => rfl
            simp only [Act.put, List.setIfInBounds_toArray, List.set_cons_zero, List.set_cons_succ]
            refine takeOut 21 rfl (by kernel_rfl) (by kernel_rfl) (by kernel_rfl) (fun _ _ _ h => h) ?wi21 (by assumption) ?ri21
            case wi21 => rfl
            simp only [Act.put, List.setIfInBounds_toArray, List.set_cons_zero, List.set_cons_succ]
            refine takeOut 22 rfl (by kernel_rfl) (by kernel_rfl) (by kernel_rfl) (fun _ _ _ h => h) ?wi22 (by assumption) ?ri22
            case wi22 => rfl
            simp only [Act.put, List.setIfInBounds_toArray, List.set_cons_zero, List.set_cons_succ]
            refine takeOut 23 rfl (by kernel_rfl) (by kernel_rfl) (by kernel_rfl) (fun _ _ _ h => h) ?wi23 (by assumption) ?ri23
            case wi23 => rfl
            simp only [Act.put, List.setIfInBounds_toArray, List.set_cons_zero, List.set_cons_succ]
            refine takeOut 24 rfl (by kernel_rfl) (by kernel_rfl) (by kernel_rfl) (fun _ _ _ h => h) ?wi24 (by assumption) ?ri24
            case wi24 => rfl
            simp only [Act.put, List.setIfInBounds_toArray, List.set_cons_zero, List.set_cons_succ]
            refine takeOut 25 rfl (by kernel_rfl) (by kernel_rfl) (by kernel_rfl) (fun _ _ _ h => h) ?wi25 (by assumption) ?ri25
            case wi25 => rfl
            simp only [Act.put, List.setIfInBounds_toArray, List.set_cons_zero, List.set_cons_succ]
            refine takeOut 26 rfl (by kernel_rfl) (by kernel_rfl) (by kernel_rfl) (fun _ _ _ h => h) ?wi26 (by assumption) ?ri26
            case wi26 => rfl
            simp only [Act.put, List.setIfInBounds_toArray, List.set_cons_zero, List.set_cons_succ]
            refine takeOut 27 rfl (by kernel_rfl) (by kernel_rfl) (by kernel_rfl) (fun _ _ _ h => h) ?wi27 (by assumption) ?ri27
            case wi27 => rfl
            simp only [Act.put, List.setIfInBounds_toArray, List.set_cons_zero, List.set_cons_succ]
            refine takeOut 28 rfl (by kernel_rfl) (by kernel_rfl) (by kernel_rfl) (fun _ _ _ h => h) ?wi28 (by assumption) ?ri28
            case wi28 => rfl
            simp only [Act.put, List.setIfInBounds_toArray, List.set_cons_zero, List.set_cons_succ]
            refine takeOut 29 rfl (by kernel_rfl) (by kernel_rfl) (by kernel_rfl) (fun _ _ _ h => h) ?wi29 (by assumption) ?ri29
            case wi29 => rfl
            simp only [Act.put, List.setIfInBounds_toArray, List.set_cons_zero, List.set_cons_succ]
            refine takeOut 30 rfl (by kernel_rfl) (by kernel_rfl) (by kernel_rfl) (fun _ _ _ h => h) ?wi30 (by assumption) ?ri30
            case wi30 => rfl
            simp only [Act.put, List.setIfInBounds_toArray, List.set_cons_zero, List.set_cons_succ]
            refine takeIn 31 (v := ?vi31) rfl (by kernel_rfl) (by kernel_rfl) (by kernel_rfl) (fun _ _ _ h => h) ?wi31 (by assumption) ?yi31 ?ri31
            case wi31 => rfl
            case yi31 => (intro w hSw; (try dsimp only at hSw); go_simp; first | done | with_reducible rfl)
            simp only [Act.put, List.setIfInBounds_toArray, List.set_cons_zero, List.set_cons_succ]
            refine takeIn 32 (v := ?vi32) rfl (by kernel_rfl) (by kernel_rfl) (by kernel_rfl) (fun _ _ _ h => h) ?wi32 (by assumption) ?yi32 ?ri32
            case wi32 => rfl
            case yi32 => (intro w hSw; (try dsimp only at hSw); go_simp; first | done | with_reducible rfl)
            simp only [Act.put, List.setIfInBounds_toArray, List.set_cons_zero, List.set_cons_succ]
            refine takeOut 33 rfl (by kernel_rfl) (by kernel_rfl) (by kernel_rfl) (fun _ _ _ h => h) ?wi33 (by assumption) ?ri33
            case wi33 => rfl
            simp only [Act.put, List.setIfInBounds_toArray, List.set_cons_zero, List.set_cons_succ]
            refine takeOut 34 rfl (by kernel_rfl) (by kernel_rfl) (by kernel_rfl) (fun _ _ _ h => h) ?wi34 (by assumption) ?ri34
            case wi34 => rfl
            simp only [Act.put, List.setIfInBounds_toArray, List.set_cons_zero, List.set_cons_succ]
            refine takeOut 35 rfl (by kernel_rfl) (by kernel_rfl) (by kernel_rfl) (fun _ _ _ h => h) ?wi35 (by assumption) ?ri35
            case wi35 => rfl
            simp only [Act.put, List.setIfInBounds_toArray, List.set_cons_zero, List.set_cons_succ]
            refine takeOut 36 rfl (by kernel_rfl) (by kernel_rfl) (by kernel_rfl) (fun _ _ _ h => h) ?wi36 (by assumption) ?ri36
            case wi36 => rfl
            simp only [Act.put, List.setIfInBounds_toArray, List.set_cons_zero, List.set_cons_succ]
            refine takeOut 37 rfl (by kernel_rfl) (by kernel_rfl) (by kernel_rfl) (fun _ _ _ h => h) ?wi37 (by assumption) ?ri37
            case wi37 => rfl
            simp only [Act.put, List.setIfInBounds_toArray, List.set_cons_zero, List.set_cons_succ]
            refine takeIn 38 (v := ?vi38) rfl (by kernel_rfl) (by kernel_rfl) (by kernel_rfl) (fun _ _ _ h => h) ?wi38 (by assumption) ?yi38 ?ri38
            case wi38 => rfl
            case yi38 => (intro w hSw; (try dsimp only at hSw); go_simp; first | done | with_reducible rfl)
            simp only [Act.put, List.setIfInBounds_toArray, List.set_cons_zero, List.set_cons_succ]
            refine wpAnyH_done (by kernel_rfl) ?_ _
            go_wp2_with fail
            go_meet
            exact ⟨rfl, hY0⟩
          obtain ⟨hik1, hik2, hik3⟩ := text_ne hik
          cases rh
          · refine wp_region_held_drew (S := fun W' => W'.cell? ⟨P, 0, none⟩ = some (.slice a hs.length cap) ∧ W'.cell? ⟨Q, 0, none⟩ = some (.slice ax hx.length capx) ∧ W'.cell? ⟨I, i, none⟩ = some (.string id)) (by kernel_rfl) (HSI.out _ hwr.drew) (fun hHeld => ?_)
            have hY0 : Below U8.heap.size U8 wr.drew := hwr.drew
            generalize wr.drew = Y0 at hHeld hY0 ⊢
            refine takeIn 0 (v := ?vj0) rfl (by kernel_rfl) (by kernel_rfl) (by kernel_rfl) (fun _ _ _ h => h) ?wj0 (by assumption) ?yj0 ?rj0
            case wj0 => rfl
            case yj0 => (intro w hSw; (try dsimp only at hSw); go_simp; first | done | with_reducible rfl)
            simp only [Act.put, List.setIfInBounds_toArray, List.set_cons_zero, List.set_cons_succ]
            refine takeIn 1 (v := ?vj1) rfl (by kernel_rfl) (by kernel_rfl) (by kernel_rfl) (fun _ _ _ h => h) ?wj1 (by assumption) ?yj1 ?rj1
            case wj1 => rfl
            case yj1 => (intro w hSw; (try dsimp only at hSw); go_simp; first | done | with_reducible rfl)
            simp only [Act.put, List.setIfInBounds_toArray, List.set_cons_zero, List.set_cons_succ]
            refine takeIn 2 (v := ?vj2) rfl (by kernel_rfl) (by kernel_rfl) (by kernel_rfl) (fun _ _ _ h => h) ?wj2 (by assumption) ?yj2 ?rj2
            case wj2 => rfl
            case yj2 => (intro w hSw; (try dsimp only at hSw); go_simp; first | done | with_reducible rfl)
            simp only [Act.put, List.setIfInBounds_toArray, List.set_cons_zero, List.set_cons_succ]
            refine takeIn 3 (v := ?vj3) rfl (by kernel_rfl) (by kernel_rfl) (by kernel_rfl) (fun _ _ _ h => h) ?wj3 (by assumption) ?yj3 ?rj3
            case wj3 => rfl
            case yj3 => (intro w hSw; (try dsimp only at hSw); go_simp; first | done | with_reducible rfl)
            simp only [Act.put, List.setIfInBounds_toArray, List.set_cons_zero, List.set_cons_succ]
            refine takeIn 4 (v := ?vj4) rfl (by kernel_rfl) (by kernel_rfl) (by kernel_rfl) (fun _ _ _ h => h) ?wj4 (by assumption) ?yj4 ?rj4
            case wj4 => rfl
            case yj4 => (intro w hSw; (try dsimp only at hSw); go_simp; first | done | with_reducible rfl)
            simp only [Act.put, List.setIfInBounds_toArray, List.set_cons_zero, List.set_cons_succ]
            refine takeIn 5 (v := ?vj5) rfl (by kernel_rfl) (by kernel_rfl) (by kernel_rfl) (fun _ _ _ h => h) ?wj5 (by assumption) ?yj5 ?rj5
            case wj5 => rfl
            case yj5 => (intro w hSw; (try dsimp only at hSw); go_simp; first | done | with_reducible rfl)
            simp only [Act.put, List.setIfInBounds_toArray, List.set_cons_zero, List.set_cons_succ]
            refine takeIn 6 (v := ?vj6) rfl (by kernel_rfl) (by kernel_rfl) (by kernel_rfl) (fun _ _ _ h => h) ?wj6 (by assumption) ?yj6 ?rj6
            case wj6 => rfl
            case yj6 => (intro w hSw; (try dsimp only at hSw); go_simp; first | done | with_reducible rfl)
            simp only [Act.put, List.setIfInBounds_toArray, List.set_cons_zero, List.set_cons_succ]
            refine takeIn 7 (v := ?vj7) rfl (by kernel_rfl) (by kernel_rfl) (by kernel_rfl) (fun _ _ _ h => h) ?wj7 (by assumption) ?yj7 ?rj7
            case wj7 => rfl
            case yj7 => (intro w hSw; (try dsimp only at hSw); go_simp; first | done | with_reducible rfl)
            simp only [Act.put, List.setIfInBounds_toArray, List.set_cons_zero, List.set_cons_succ]
            refine takeIn 8 (v := ?vj8) rfl (by kernel_rfl) (by kernel_rfl) (by kernel_rfl) (fun _ _ _ h => h) ?wj8 (by assumption) ?yj8 ?rj8
            case wj8 => rfl
            case yj8 => (intro w hSw; (try dsimp only at hSw); go_simp; first | done | with_reducible rfl)
            simp only [Act.put, List.setIfInBounds_toArray, List.set_cons_zero, List.set_cons_succ]
            refine takeIn 9 (v := ?vj9) rfl (by kernel_rfl) (by kernel_rfl) (by kernel_rfl) (fun _ _ _ h => h) ?wj9 (by assumption) ?yj9 ?rj9
            case wj9 => rfl
            case yj9 => (intro w hSw; (try dsimp only at hSw); go_simp; first | done | with_reducible rfl)
            simp only [Act.put, List.setIfInBounds_toArray, List.set_cons_zero, List.set_cons_succ]
            refine takeIn 10 (v := ?vj10) rfl (by kernel_rfl) (by kernel_rfl) (by kernel_rfl) (fun _ _ _ h => h) ?wj10 (by assumption) ?yj10 ?rj10
            case wj10 => rfl
            case yj10 => (intro w hSw; (try dsimp only at hSw); go_simp; first | done | with_reducible rfl)
            simp only [Act.put, List.setIfInBounds_toArray, List.set_cons_zero, List.set_cons_succ]
            refine takeIn 11 (v := ?vj11) rfl (by kernel_rfl) (by kernel_rfl) (by kernel_rfl) (fun _ _ _ h => h) ?wj11 (by assumption) ?yj11 ?rj11
            case wj11 => rfl
            case yj11 => (intro w hSw; (try dsimp only at hSw); go_simp; first | done | with_reducible rfl)
            simp only [Act.put, List.setIfInBounds_toArray, List.set_cons_zero, List.set_cons_succ]
            refine takeIn 12 (v := ?vj12) rfl (by kernel_rfl) (by kernel_rfl) (by kernel_rfl) (fun _ _ _ h => h) ?wj12 (by assumption) ?yj12 ?rj12
            case wj12 => rfl
            case yj12 => (intro w hSw; (try dsimp only at hSw); go_simp; first | done | with_reducible rfl)
            simp only [Act.put, List.setIfInBounds_toArray, List.set_cons_zero, List.set_cons_succ]
            refine oneUp 13 rfl (by kernel_rfl) (by rfl) (fun K hK => ?_)
            go_simp
            refine (F2.out Y0 hY0).mono ?_
            rintro e Y1 ⟨rfl, hbb⟩
            have hY1 : Below U8.heap.size U8 Y1 := hY0.trans (hbb.mono hY0.size)
            clear hbb
            refine hK.out _ _ (HSI.out Y1 hY1) (fun hHeldY1 => ?_)
            clear hK K
            (try simp only [Act.put, List.setIfInBounds_toArray, List.set_cons_zero, List.set_cons_succ])
            refine takeIn 14 (v := ?vj14) rfl (by kernel_rfl) (by kernel_rfl) (by kernel_rfl) (fun _ _ _ h => h) ?wj14 (by assumption) ?yj14 ?rj14
            case wj14 => rfl
            case yj14 => (intro w hSw; (try dsimp only at hSw); go_simp; first | done | with_reducible rfl)
            simp only [Act.put, List.setIfInBounds_toArray, List.set_cons_zero, List.set_cons_succ]
            refine takeIn 15 (v := ?vj15) rfl (by kernel_rfl) (by kernel_rfl) (by kernel_rfl) (fun _ _ _ h => h) ?wj15 (by assumption) ?yj15 ?rj15
            case wj15 => rfl
            case yj15 => (intro w hSw; (try dsimp only at hSw); go_simp; first | done | with_reducible rfl)
            simp only [Act.put, List.setIfInBounds_toArray, List.set_cons_zero, List.set_cons_succ]
            refine takeOut 16 rfl (by kernel_rfl) (by kernel_rfl) (by kernel_rfl) (fun _ _ _ h => h) ?wj16 (by assumption) ?rj16
            case wj16 => rfl
            simp only [Act.put, List.setIfInBounds_toArray, List.set_cons_zero, List.set_cons_succ]
            refine takeOut 17 rfl (by kernel_rfl) (by kernel_rfl) (by kernel_rfl) (fun _ _ _ h => h) ?wj17 (by assumption) ?rj17
            case wj17 => rfl
            simp only [Act.put, List.setIfInBounds_toArray, List.set_cons_zero, List.set_cons_succ]
            refine takeOut 18 rfl (by kernel_rfl) (by kernel_rfl) (by kernel_rfl) (fun _ _ _ h => h) ?wj18 (by assumption) ?rj18
            case wj18 => rfl
            simp only [Act.put, List.setIfInBounds_toArray, List.set_cons_zero, List.set_cons_succ]
            refine takeOut 19 rfl (by kernel_rfl) (by kernel_rfl) (by kernel_rfl) (fun _ _ _ h => h) ?wj19 (by assumption) ?rj19
            case wj19 => rfl
            simp only [Act.put, List.setIfInBounds_toArray, List.set_cons_zero, List.set_cons_succ]
            refine takeOut 20 rfl (by kernel_rfl) (by kernel_rfl) (by kernel_rfl) (fun _ _ _ h => h) ?wj20 (by assumption) ?rj20
            case wj20 => rfl
            simp only [Act.put, List.setIfInBounds_toArray, List.set_cons_zero, List.set_cons_succ]
            refine takeOut 21 rfl (by kernel_rfl) (by kernel_rfl) (by kernel_rfl) (fun _ _ _ h => h) ?wj21 (by assumption) ?rj21
            case wj21 => rfl
            simp only [Act.put, List.setIfInBounds_toArray, List.set_cons_zero, List.set_cons_succ]
            refine takeOut 22 rfl (by kernel_rfl) (by kernel_rfl) (by kernel_rfl) (fun _ _ _ h => h) ?wj22 (by assumption) ?rj22
            case wj22 => rfl
            simp only [Act.put, List.setIfInBounds_toArray, List.set_cons_zero, List.set_cons_succ]
            refine takeOut 23 rfl (by kernel_rfl) (by kernel_rfl) (by kernel_rfl) (fun _ _ _ h => h) ?wj23 (by assumption) ?rj23
            case wj23 => rfl
            simp only [Act.put, List.setIfInBounds_toArray, List.set_cons_zero, List.set_cons_succ]
            refine takeOut 24 rfl (by kernel_rfl) (by kernel_rfl) (by kernel_rfl) (fun _ _ _ h => h) ?wj24 (by assumption) ?rj24
            case wj24 => rfl
            simp only [Act.put, List.setIfInBounds_toArray, List.set_cons_zero, List.set_cons_succ]
            refine takeOut 25 rfl (by kernel_rfl) (by kernel_rfl) (by kernel_rfl) (fun _ _ _ h => h) ?wj25 (by assumption) ?rj25
            case wj25 => rfl
            simp only [Act.put, List.setIfInBounds_toArray, List.set_cons_zero, List.set_cons_succ]
            refine takeOut 26 rfl (by kernel_rfl) (by kernel_rfl) (by kernel_rfl) (fun _ _ _ h => h) ?wj26 (by assumption) ?rj26
            case wj26 => rfl
            simp only [Act.put, List.setIfInBounds_toArray, List.set_cons_zero, List.set_cons_succ]
            refine takeOut 27 rfl (by kernel_rfl) (by kernel_rfl) (by kernel_rfl) (fun _ _ _ h => h) ?wj27 (by assumption) ?rj27
            case wj27 => rfl
            simp only [Act.put, List.setIfInBounds_toArray, List.set_cons_zero, List.set_cons_succ]
            refine takeOut 28 rfl (by kernel_rfl) (by kernel_rfl) (by kernel_rfl) (fun _ _ _ h => h) ?wj28 (by assumption) ?rj28
            case wj28 => rfl
            simp only [Act.put, List.setIfInBounds_toArray, List.set_cons_zero, List.set_cons_succ]
            refine takeOut 29 rfl (by kernel_rfl) (by kernel_rfl) (by kernel_rfl) (fun _ _ _ h => h) ?wj29 (by assumption) ?rj29
            case wj29 => rfl
            simp only [Act.put, List.setIfInBounds_toArray, List.set_cons_zero, List.set_cons_succ]
            refine takeOut 30 rfl (by kernel_rfl) (by kernel_rfl) (by kernel_rfl) (fun _ _ _ h => h) ?wj30 (by assumption) ?rj30
            case wj30 => rfl
            simp only [Act.put, List.setIfInBounds_toArray, List.set_cons_zero, List.set_cons_succ]
            refine takeIn 31 (v := ?vj31) rfl (by kernel_rfl) (by kernel_rfl) (by kernel_rfl) (fun _ _ _ h => h) ?wj31 (by assumption) ?yj31 ?rj31
            case wj31 => rfl
            case yj31 => (intro w hSw; (try dsimp only at hSw); go_simp; first | done | with_reducible rfl)
            simp only [Act.put, List.setIfInBounds_toArray, List.set_cons_zero, List.set_cons_succ]
            refine takeIn 32 (v := ?vj32) rfl (by kernel_rfl) (by kernel_rfl) (by kernel_rfl) (fun _ _ _ h => h) ?wj32 (by assumption) ?yj32 ?rj32
            case wj32 => rfl
            case yj32 => (intro w hSw; (try dsimp only at hSw); go_simp; first | done | with_reducible rfl)
            simp only [Act.put, List.setIfInBounds_toArray, List.set_cons_zero, List.set_cons_succ]
            refine takeOut 33 rfl (by kernel_rfl) (by kernel_rfl) (by kernel_rfl) (fun _ _ _ h => h) ?wj33 (by assumption) ?rj33
            case wj33 => rfl
            simp only [Act.put, List.setIfInBounds_toArray, List.set_cons_zero, List.set_cons_succ]
            refine takeOut 34 rfl (by kernel_rfl) (by kernel_rfl) (by kernel_rfl) (fun _ _ _ h => h) ?wj34 (by assumption) ?rj34
            case wj34 => rfl
            simp only [Act.put, List.setIfInBounds_toArray, List.set_cons_zero, List.set_cons_succ]
            refine takeOut 35 rfl (by kernel_rfl) (by kernel_rfl) (by kernel_rfl) (fun _ _ _ h => h) ?wj35 (by assumption) ?rj35
            case wj35 => rfl
            simp only [Act.put, List.setIfInBounds_toArray, List.set_cons_zero, List.set_cons_succ]
            refine takeOut 36 rfl (by kernel_rfl) (by kernel_rfl) (by kernel_rfl) (fun _ _ _ h => h) ?wj36 (by assumption) ?rj36
            case wj36 => rfl
            simp only [Act.put, List.setIfInBounds_toArray, List.set_cons_zero, List.set_cons_succ]
            refine takeOut 37 rfl (by kernel_rfl) (by kernel_rfl) (by kernel_rfl) (fun _ _ _ h => h) ?wj37 (by assumption) ?rj37
            case wj37 => rfl
            simp only [Act.put, List.setIfInBounds_toArray, List.set_cons_zero, List.set_cons_succ]
            refine takeIn 38 (v := ?vj38) rfl (by kernel_rfl) (by kernel_rfl) (by kernel_rfl) (fun _ _ _ h => h) ?wj38 (by assumption) ?yj38 ?rj38
            case wj38 => rfl
            case yj38 => (intro w hSw; (try dsimp only at hSw); go_simp; first | done | with_reducible rfl)
            simp only [Act.put, List.setIfInBounds_toArray, List.set_cons_zero, List.set_cons_succ]
            refine wpAnyH_done (by kernel_rfl) ?_ _
            go_wp2_with fail
            go_meet
            exact ⟨rfl, hY1⟩
          by_cases heq : (⟨gk, gn, gt⟩ : Val.VV) = ⟨yk, yn, yt⟩
          · injection heq with e1 e2 e3
            subst e1 e2 e3
            refine wp_region_held_drew (S := fun W' => W'.cell? ⟨P, 0, none⟩ = some (.slice a hs.length cap) ∧ W'.cell? ⟨Q, 0, none⟩ = some (.slice ax hx.length capx) ∧ W'.cell? ⟨I, i, none⟩ = some (.string id)) (by kernel_rfl) (HSI.out _ hwr.drew) (fun hHeld => ?_)
            have hY0 : Below U8.heap.size U8 wr.drew := hwr.drew
            generalize wr.drew = Y0 at hHeld hY0 ⊢
            refine takeIn 0 (v := ?vk0) rfl (by kernel_rfl) (by kernel_rfl) (by kernel_rfl) (fun _ _ _ h => h) ?wk0 (by assumption) ?yk0 ?rk0
            case wk0 => rfl
            case yk0 => (intro w hSw; (try dsimp only at hSw); go_simp; first | done | with_reducible rfl)
            simp only [Act.put, List.setIfInBounds_toArray, List.set_cons_zero, List.set_cons_succ]
            refine takeIn 1 (v := ?vk1) rfl (by kernel_rfl) (by kernel_rfl) (by kernel_rfl) (fun _ _ _ h => h) ?wk1 (by assumption) ?yk1 ?rk1
            case wk1 => rfl
            case yk1 => (intro w hSw; (try dsimp only at hSw); go_simp; first | done | with_reducible rfl)
            simp only [Act.put, List.setIfInBounds_toArray, List.set_cons_zero, List.set_cons_succ]
            refine takeIn 2 (v := ?vk2) rfl (by kernel_rfl) (by kernel_rfl) (by kernel_rfl) (fun _ _ _ h => h) ?wk2 (by assumption) ?yk2 ?rk2
            case wk2 => rfl
            case yk2 => (intro w hSw; (try dsimp only at hSw); go_simp; first | done | with_reducible rfl)
            simp only [Act.put, List.setIfInBounds_toArray, List.set_cons_zero, List.set_cons_succ]
            refine takeIn 3 (v := ?vk3) rfl (by kernel_rfl) (by kernel_rfl) (by kernel_rfl) (fun _ _ _ h => h) ?wk3 (by assumption) ?yk3 ?rk3
            case wk3 => rfl
            case yk3 => (intro w hSw; (try dsimp only at hSw); go_simp; first | done | with_reducible rfl)
            simp only [Act.put, List.setIfInBounds_toArray, List.set_cons_zero, List.set_cons_succ]
            refine takeIn 4 (v := ?vk4) rfl (by kernel_rfl) (by kernel_rfl) (by kernel_rfl) (fun _ _ _ h => h) ?wk4 (by assumption) ?yk4 ?rk4
            case wk4 => rfl
            case yk4 => (intro w hSw; (try dsimp only at hSw); go_simp; first | done | with_reducible rfl)
            simp only [Act.put, List.setIfInBounds_toArray, List.set_cons_zero, List.set_cons_succ]
            refine takeIn 5 (v := ?vk5) rfl (by kernel_rfl) (by kernel_rfl) (by kernel_rfl) (fun _ _ _ h => h) ?wk5 (by assumption) ?yk5 ?rk5
            case wk5 => rfl
            case yk5 => (intro w hSw; (try dsimp only at hSw); go_simp; first | done | with_reducible rfl)
            simp only [Act.put, List.setIfInBounds_toArray, List.set_cons_zero, List.set_cons_succ]
            refine takeIn 6 (v := ?vk6) rfl (by kernel_rfl) (by kernel_rfl) (by kernel_rfl) (fun _ _ _ h => h) ?wk6 (by assumption) ?yk6 ?rk6
            case wk6 => rfl
            case yk6 => (intro w hSw; (try dsimp only at hSw); go_simp; first | done | with_reducible rfl)
            simp only [Act.put, List.setIfInBounds_toArray, List.set_cons_zero, List.set_cons_succ]
            refine takeIn 7 (v := ?vk7) rfl (by kernel_rfl) (by kernel_rfl) (by kernel_rfl) (fun _ _ _ h => h) ?wk7 (by assumption) ?yk7 ?rk7
            case wk7 => rfl
            case yk7 => (intro w hSw; (try dsimp only at hSw); go_simp; first | done | with_reducible rfl)
            simp only [Act.put, List.setIfInBounds_toArray, List.set_cons_zero, List.set_cons_succ]
            refine takeIn 8 (v := ?vk8) rfl (by kernel_rfl) (by kernel_rfl) (by kernel_rfl) (fun _ _ _ h => h) ?wk8 (by assumption) ?yk8 ?rk8
            case wk8 => rfl
            case yk8 => (intro w hSw; (try dsimp only at hSw); go_simp; first | done | with_reducible rfl)
            simp only [Act.put, List.setIfInBounds_toArray, List.set_cons_zero, List.set_cons_succ]
            refine takeIn 9 (v := ?vk9) rfl (by kernel_rfl) (by kernel_rfl) (by kernel_rfl) (fun _ _ _ h => h) ?wk9 (by assumption) ?yk9 ?rk9
            case wk9 => rfl
            case yk9 => (intro w hSw; (try dsimp only at hSw); go_simp; first | done | with_reducible rfl)
            simp only [Act.put, List.setIfInBounds_toArray, List.set_cons_zero, List.set_cons_succ]
            refine takeIn 10 (v := ?vk10) rfl (by kernel_rfl) (by kernel_rfl) (by kernel_rfl) (fun _ _ _ h => h) ?wk10 (by assumption) ?yk10 ?rk10
            case wk10 => rfl
            case yk10 => (intro w hSw; (try dsimp only at hSw); go_simp; first | done | with_reducible rfl)
            simp only [Act.put, List.setIfInBounds_toArray, List.set_cons_zero, List.set_cons_succ]
            refine takeIn 11 (v := ?vk11) rfl (by kernel_rfl) (by kernel_rfl) (by kernel_rfl) (fun _ _ _ h => h) ?wk11 (by assumption) ?yk11 ?rk11
            case wk11 => rfl
            case yk11 => (intro w hSw; (try dsimp only at hSw); go_simp; first | done | with_reducible rfl)
            simp only [Act.put, List.setIfInBounds_toArray, List.set_cons_zero, List.set_cons_succ]
            refine takeIn 12 (v := ?vk12) rfl (by kernel_rfl) (by kernel_rfl) (by kernel_rfl) (fun _ _ _ h => h) ?wk12 (by assumption) ?yk12 ?rk12
            case wk12 => rfl
            case yk12 => (intro w hSw; (try dsimp only at hSw); go_simp; first | done | with_reducible rfl)
            simp only [Act.put, List.setIfInBounds_toArray, List.set_cons_zero, List.set_cons_succ]
            refine oneUp 13 rfl (by kernel_rfl) (by rfl) (fun K hK => ?_)
            go_simp
            refine (F2.out Y0 hY0).mono ?_
            rintro e Y1 ⟨rfl, hbb⟩
            have hY1 : Below U8.heap.size U8 Y1 := hY0.trans (hbb.mono hY0.size)
            clear hbb
            refine hK.out _ _ (HSI.out Y1 hY1) (fun hHeldY1 => ?_)
            clear hK K
            (try simp only [Act.put, List.setIfInBounds_toArray, List.set_cons_zero, List.set_cons_succ])
            refine takeIn 14 (v := ?vk14) rfl (by kernel_rfl) (by kernel_rfl) (by kernel_rfl) (fun _ _ _ h => h) ?wk14 (by assumption) ?yk14 ?rk14
            case wk14 => rfl
            case yk14 => (intro w hSw; (try dsimp only at hSw); go_simp; first | done | with_reducible rfl)
            simp only [Act.put, List.setIfInBounds_toArray, List.set_cons_zero, List.set_cons_succ]
            refine takeIn 15 (v := ?vk15) rfl (by kernel_rfl) (by kernel_rfl) (by kernel_rfl) (fun _ _ _ h => h) ?wk15 (by assumption) ?yk15 ?rk15
            case wk15 => rfl
            case yk15 => (intro w hSw; (try dsimp only at hSw); go_simp; first | done | with_reducible rfl)
            simp only [Act.put, List.setIfInBounds_toArray, List.set_cons_zero, List.set_cons_succ]
            refine takeIn 16 (v := ?vk16) rfl (by kernel_rfl) (by kernel_rfl) (by kernel_rfl) (fun _ _ _ h => h) ?wk16 (by assumption) ?yk16 ?rk16
            case wk16 => rfl
            case yk16 => (intro w hSw; (try dsimp only at hSw); go_simp; first | done | with_reducible rfl)
            simp only [Act.put, List.setIfInBounds_toArray, List.set_cons_zero, List.set_cons_succ]
            refine takeIn 17 (v := ?vk17) rfl (by kernel_rfl) (by kernel_rfl) (by kernel_rfl) (fun _ _ _ h => h) ?wk17 (by assumption) ?yk17 ?rk17
            case wk17 => rfl
            case yk17 => (intro w hSw; (try dsimp only at hSw); go_simp; first | done | with_reducible rfl)
            simp only [Act.put, List.setIfInBounds_toArray, List.set_cons_zero, List.set_cons_succ]
            refine takeIn 18 (v := ?vk18) rfl (by kernel_rfl) (by kernel_rfl) (by kernel_rfl) (fun _ _ _ h => h) ?wk18 (by assumption) ?yk18 ?rk18
            case wk18 => rfl
            case yk18 => (intro w hSw; (try dsimp only at hSw); go_simp; first | done | with_reducible rfl)
            simp only [Act.put, List.setIfInBounds_toArray, List.set_cons_zero, List.set_cons_succ]
            refine takeIn 19 (v := ?vk19) rfl (by kernel_rfl) (by kernel_rfl) (by kernel_rfl) (fun _ _ _ h => h) ?wk19 (by assumption) ?yk19 ?rk19
            case wk19 => rfl
            case yk19 => (intro w hSw; (try dsimp only at hSw); go_simp; first | done | with_reducible rfl)
            simp only [Act.put, List.setIfInBounds_toArray, List.set_cons_zero, List.set_cons_succ]
            refine takeIn 20 (v := ?vk20) rfl (by kernel_rfl) (by kernel_rfl) (by kernel_rfl) (fun _ _ _ h => h) ?wk20 (by assumption) ?yk20 ?rk20
            case wk20 => rfl
            case yk20 => (intro w hSw; (try dsimp only at hSw); go_simp; first | done | with_reducible rfl)
            simp only [Act.put, List.setIfInBounds_toArray, List.set_cons_zero, List.set_cons_succ]
            refine takeIn 21 (v := ?vk21) rfl (by kernel_rfl) (by kernel_rfl) (by kernel_rfl) (fun _ _ _ h => h) ?wk21 (by assumption) ?yk21 ?rk21
            case wk21 => rfl
            case yk21 => (intro w hSw; (try dsimp only at hSw); go_simp; first | done | with_reducible rfl)
            simp only [Act.put, List.setIfInBounds_toArray, List.set_cons_zero, List.set_cons_succ]
            refine takeIn 23 (v := ?vk23) rfl (by kernel_rfl) (by kernel_rfl) (by kernel_rfl) (fun _ _ _ h => h) ?wk23 (by assumption) ?yk23 ?rk23
            case wk23 => rfl
            case yk23 => (intro w hSw; (try dsimp only at hSw); go_simp; first | done | with_reducible rfl)
            simp only [Act.put, List.setIfInBounds_toArray, List.set_cons_zero, List.set_cons_succ]
            refine takeIn 24 (v := ?vk24) rfl (by kernel_rfl) (by kernel_rfl) (by kernel_rfl) (fun _ _ _ h => h) ?wk24 (by assumption) ?yk24 ?rk24
            case wk24 => rfl
            case yk24 => (intro w hSw; (try dsimp only at hSw); go_simp; first | done | with_reducible rfl)
            simp only [Act.put, List.setIfInBounds_toArray, List.set_cons_zero, List.set_cons_succ]
            refine takeIn 25 (v := ?vk25) rfl (by kernel_rfl) (by kernel_rfl) (by kernel_rfl) (fun _ _ _ h => h) ?wk25 (by assumption) ?yk25 ?rk25
            case wk25 => rfl
            case yk25 => (intro w hSw; (try dsimp only at hSw); go_simp; first | done | with_reducible rfl)
            simp only [Act.put, List.setIfInBounds_toArray, List.set_cons_zero, List.set_cons_succ]
            refine takeIn 26 (v := ?vk26) rfl (by kernel_rfl) (by kernel_rfl) (by kernel_rfl) (fun _ _ _ h => h) ?wk26 (by assumption) ?yk26 ?rk26
            case wk26 => rfl
            case yk26 => (intro w hSw; (try dsimp only at hSw); go_simp; first | done | with_reducible rfl)
            simp only [Act.put, List.setIfInBounds_toArray, List.set_cons_zero, List.set_cons_succ]
            refine takeIn 27 (v := ?vk27) rfl (by kernel_rfl) (by kernel_rfl) (by kernel_rfl) (fun _ _ _ h => h) ?wk27 (by assumption) ?yk27 ?rk27
            case wk27 => rfl
            case yk27 => (intro w hSw; (try dsimp only at hSw); go_simp; first | done | with_reducible rfl)
            simp only [Act.put, List.setIfInBounds_toArray, List.set_cons_zero, List.set_cons_succ]
            refine takeIn 28 (v := ?vk28) rfl (by kernel_rfl) (by kernel_rfl) (by kernel_rfl) (fun _ _ _ h => h) ?wk28 (by assumption) ?yk28 ?rk28
            case wk28 => rfl
            case yk28 => (intro w hSw; (try dsimp only at hSw); go_simp; first | done | with_reducible rfl)
            simp only [Act.put, List.setIfInBounds_toArray, List.set_cons_zero, List.set_cons_succ]
            refine oneUp 22 rfl (by kernel_rfl) (by rfl) (fun K hK => ?_)
            go_simp
            refine (F3.out Y1 hY1).mono ?_
            rintro e Y2 ⟨rfl, hbb⟩
            have hY2 : Below U8.heap.size U8 Y2 := hY1.trans (hbb.mono hY1.size)
            clear hbb
            refine hK.out _ _ (HSI.out Y2 hY2) (fun hHeldY2 => ?_)
            clear hK K
            (try simp only [Act.put, List.setIfInBounds_toArray, List.set_cons_zero, List.set_cons_succ])
            refine oneUp 29 rfl (by kernel_rfl) (by rfl) (fun K hK => ?_)
            go_simp
            refine (F4.out Y2 hY2).mono ?_
            rintro e Y3 ⟨rfl, hbb⟩
            have hY3 : Below U8.heap.size U8 Y3 := hY2.trans (hbb.mono hY2.size)
            clear hbb
            refine hK.out _ _ (HSI.out Y3 hY3) (fun hHeldY3 => ?_)
            clear hK K
            (try simp only [Act.put, List.setIfInBounds_toArray, List.set_cons_zero, List.set_cons_succ])
            refine takeIn 30 (v := ?vk30) rfl (by kernel_rfl) (by kernel_rfl) (by kernel_rfl) (fun _ _ _ h => h) ?wk30 (by assumption) ?yk30 ?rk30
            case wk30 => rfl
            case yk30 => (intro w hSw; (try dsimp only at hSw); go_simp; first | done | with_reducible rfl)
            simp only [Act.put, List.setIfInBounds_toArray, List.set_cons_zero, List.set_cons_succ]
            refine takeIn 31 (v := ?vk31) rfl (by kernel_rfl) (by kernel_rfl) (by kernel_rfl) (fun _ _ _ h => h) ?wk31 (by assumption) ?yk31 ?rk31
            case wk31 => rfl
            case yk31 => (intro w hSw; (try dsimp only at hSw); go_simp; first | done | with_reducible rfl)
            simp only [Act.put, List.setIfInBounds_toArray, List.set_cons_zero, List.set_cons_succ]
            refine takeIn 32 (v := ?vk32) rfl (by kernel_rfl) (by kernel_rfl) (by kernel_rfl) (fun _ _ _ h => h) ?wk32 (by assumption) ?yk32 ?rk32
            case wk32 => rfl
            case yk32 => (intro w hSw; (try dsimp only at hSw); go_simp; first | done | with_reducible rfl)
            simp only [Act.put, List.setIfInBounds_toArray, List.set_cons_zero, List.set_cons_succ]
            refine takeOut 33 rfl (by kernel_rfl) (by kernel_rfl) (by kernel_rfl) (fun _ _ _ h => h) ?wk33 (by assumption) ?rk33
            case wk33 => rfl
            simp only [Act.put, List.setIfInBounds_toArray, List.set_cons_zero, List.set_cons_succ]
            refine takeOut 34 rfl (by kernel_rfl) (by kernel_rfl) (by kernel_rfl) (fun _ _ _ h => h) ?wk34 (by assumption) ?rk34
            case wk34 => rfl
            simp only [Act.put, List.setIfInBounds_toArray, List.set_cons_zero, List.set_cons_succ]
            refine takeOut 35 rfl (by kernel_rfl) (by kernel_rfl) (by kernel_rfl) (fun _ _ _ h => h) ?wk35 (by assumption) ?rk35
            case wk35 => rfl
            simp only [Act.put, List.setIfInBounds_toArray, List.set_cons_zero, List.set_cons_succ]
            refine takeOut 36 rfl (by kernel_rfl) (by kernel_rfl) (by kernel_rfl) (fun _ _ _ h => h) ?wk36 (by assumption) ?rk36
            case wk36 => rfl
            simp only [Act.put, List.setIfInBounds_toArray, List.set_cons_zero, List.set_cons_succ]
            refine takeOut 37 rfl (by kernel_rfl) (by kernel_rfl) (by kernel_rfl) (fun _ _ _ h => h) ?wk37 (by assumption) ?rk37
            case wk37 => rfl
            simp only [Act.put, List.setIfInBounds_toArray, List.set_cons_zero, List.set_cons_succ]
            refine takeIn 38 (v := ?vk38) rfl (by kernel_rfl) (by kernel_rfl) (by kernel_rfl) (fun _ _ _ h => h) ?wk38 (by assumption) ?yk38 ?rk38
            case wk38 => rfl
            case yk38 => (intro w hSw; (try dsimp only at hSw); go_simp; first | done | with_reducible rfl)
            simp only [Act.put, List.setIfInBounds_toArray, List.set_cons_zero, List.set_cons_succ]
            refine wpAnyH_done (by kernel_rfl) ?_ _
            go_wp2_with fail
            go_meet
            exact ⟨rfl, hY3⟩
          have HIT : Hid (gk = yk → gn = yn → ¬ gt.toList = yt.toList) := fun e1 e2 e3 => heq (by rw [e1, e2, text_inj e3])
          have F5 : Hid _ := F5.out rfl heq
          refine wp_region_held_drew (S := fun W' => W'.cell? ⟨P, 0, none⟩ = some (.slice a hs.length cap) ∧ W'.cell? ⟨Q, 0, none⟩ = some (.slice ax hx.length capx) ∧ W'.cell? ⟨I, i, none⟩ = some (.string id)) (by kernel_rfl) (HSI.out _ hwr.drew) (fun hHeld => ?_)
          have hY0 : Below U8.heap.size U8 wr.drew := hwr.drew
          generalize wr.drew = Y0 at hHeld hY0 ⊢
          refine takeIn 0 (v := ?vl0) rfl (by kernel_rfl) (by kernel_rfl) (by kernel_rfl) (fun _ _ _ h => h) ?wl0 (by assumption) ?yl0 ?rl0
          case wl0 => rfl
          case yl0 => (intro w hSw; (try dsimp only at hSw); go_simp; first | done | with_reducible rfl)
          simp only [Act.put, List.setIfInBounds_toArray, List.set_cons_zero, List.set_cons_succ]
          refine takeIn 1 (v := ?vl1) rfl (by kernel_rfl) (by kernel_rfl) (by kernel_rfl) (fun _ _ _ h => h) ?wl1 (by assumption) ?yl1 ?rl1
          case wl1 => rfl
          case yl1 => (intro w hSw; (try dsimp only at hSw); go_simp; first | done | with_reducible rfl)
          simp only [Act.put, List.setIfInBounds_toArray, List.set_cons_zero, List.set_cons_succ]
          refine takeIn 2 (v := ?vl2) rfl (by kernel_rfl) (by kernel_rfl) (by kernel_rfl) (fun _ _ _ h => h) ?wl2 (by assumption) ?yl2 ?rl2
          case wl2 => rfl
          case yl2 => (intro w hSw; (try dsimp only at hSw); go_simp; first | done | with_reducible rfl)
          simp only [Act.put, List.setIfInBounds_toArray, List.set_cons_zero, List.set_cons_succ]
          refine takeIn 3 (v := ?vl3) rfl (by kernel_rfl) (by kernel_rfl) (by kernel_rfl) (fun _ _ _ h => h) ?wl3 (by assumption) ?yl3 ?rl3
          case wl3 => rfl
          case yl3 => (intro w hSw; (try dsimp only at hSw); go_simp; first | done | with_reducible rfl)
          simp only [Act.put, List.setIfInBounds_toArray, List.set_cons_zero, List.set_cons_succ]
          refine takeIn 4 (v := ?vl4) rfl (by kernel_rfl) (by kernel_rfl) (by kernel_rfl) (fun _ _ _ h => h) ?wl4 (by assumption) ?yl4 ?rl4
          case wl4 => rfl
          case yl4 => (intro w hSw; (try dsimp only at hSw); go_simp; first | done | with_reducible rfl)
          simp only [Act.put, List.setIfInBounds_toArray, List.set_cons_zero, List.set_cons_succ]
          refine takeIn 5 (v := ?vl5) rfl (by kernel_rfl) (by kernel_rfl) (by kernel_rfl) (fun _ _ _ h => h) ?wl5 (by assumption) ?yl5 ?rl5
          case wl5 => rfl
          case yl5 => (intro w hSw; (try dsimp only at hSw); go_simp; first | done | with_reducible rfl)
          simp only [Act.put, List.setIfInBounds_toArray, List.set_cons_zero, List.set_cons_succ]
          refine takeIn 6 (v := ?vl6) rfl (by kernel_rfl) (by kernel_rfl) (by kernel_rfl) (fun _ _ _ h => h) ?wl6 (by assumption) ?yl6 ?rl6
          case wl6 => rfl
          case yl6 => (intro w hSw; (try dsimp only at hSw); go_simp; first | done | with_reducible rfl)
          simp only [Act.put, List.setIfInBounds_toArray, List.set_cons_zero, List.set_cons_succ]
          refine takeIn 7 (v := ?vl7) rfl (by kernel_rfl) (by kernel_rfl) (by kernel_rfl) (fun _ _ _ h => h) ?wl7 (by assumption) ?yl7 ?rl7
          case wl7 => rfl
          case yl7 => (intro w hSw; (try dsimp only at hSw); go_simp; first | done | with_reducible rfl)
          simp only [Act.put, List.setIfInBounds_toArray, List.set_cons_zero, List.set_cons_succ]
          refine takeIn 8 (v := ?vl8) rfl (by kernel_rfl) (by kernel_rfl) (by kernel_rfl) (fun _ _ _ h => h) ?wl8 (by assumption) ?yl8 ?rl8
          case wl8 => rfl
          case yl8 => (intro w hSw; (try dsimp only at hSw); go_simp; first | done | with_reducible rfl)
          simp only [Act.put, List.setIfInBounds_toArray, List.set_cons_zero, List.set_cons_succ]
          refine takeIn 9 (v := ?vl9) rfl (by kernel_rfl) (by kernel_rfl) (by kernel_rfl) (fun _ _ _ h => h) ?wl9 (by assumption) ?yl9 ?rl9
          case wl9 => rfl
          case yl9 => (intro w hSw; (try dsimp only at hSw); go_simp; first | done | with_reducible rfl)
          simp only [Act.put, List.setIfInBounds_toArray, List.set_cons_zero, List.set_cons_succ]
          refine takeIn 10 (v := ?vl10) rfl (by kernel_rfl) (by kernel_rfl) (by kernel_rfl) (fun _ _ _ h => h) ?wl10 (by assumption) ?yl10 ?rl10
          case wl10 => rfl
          case yl10 => (intro w hSw; (try dsimp only at hSw); go_simp; first | done | with_reducible rfl)
          simp only [Act.put, List.setIfInBounds_toArray, List.set_cons_zero, List.set_cons_succ]
          refine takeIn 11 (v := ?vl11) rfl (by kernel_rfl) (by kernel_rfl) (by kernel_rfl) (fun _ _ _ h => h) ?wl11 (by assumption) ?yl11 ?rl11
          case wl11 => rfl
          case yl11 => (intro w hSw; (try dsimp only at hSw); go_simp; first | done | with_reducible rfl)
          simp only [Act.put, List.setIfInBounds_toArray, List.set_cons_zero, List.set_cons_succ]
          refine takeIn 12 (v := ?vl12) rfl (by kernel_rfl) (by kernel_rfl) (by kernel_rfl) (fun _ _ _ h => h) ?wl12 (by assumption) ?yl12 ?rl12
          case wl12 => rfl
          case yl12 => (intro w hSw; (try dsimp only at hSw); go_simp; first | done | with_reducible rfl)
          simp only [Act.put, List.setIfInBounds_toArray, List.set_cons_zero, List.set_cons_succ]
          refine oneUp 13 rfl (by kernel_rfl) (by rfl) (fun K hK => ?_)
          go_simp
          refine (F2.out Y0 hY0).mono ?_
          rintro e Y1 ⟨rfl, hbb⟩
          have hY1 : Below U8.heap.size U8 Y1 := hY0.trans (hbb.mono hY0.size)
          clear hbb
          refine hK.out _ _ (HSI.out Y1 hY1) (fun hHeldY1 => ?_)
          clear hK K
          (try simp only [Act.put, List.setIfInBounds_toArray, List.set_cons_zero, List.set_cons_succ])
          refine takeIn 14 (v := ?vl14) rfl (by kernel_rfl) (by kernel_rfl) (by kernel_rfl) (fun _ _ _ h => h) ?wl14 (by assumption) ?yl14 ?rl14
          case wl14 => rfl
          case yl14 => (intro w hSw; (try dsimp only at hSw); go_simp; first | done | with_reducible rfl)
          simp only [Act.put, List.setIfInBounds_toArray, List.set_cons_zero, List.set_cons_succ]
          refine takeIn 15 (v := ?vl15) rfl (by kernel_rfl) (by kernel_rfl) (by kernel_rfl) (fun _ _ _ h => h) ?wl15 (by assumption) ?yl15 ?rl15
          case wl15 => rfl
          case yl15 => (intro w hSw; (try dsimp only at hSw); go_simp; first | done | with_reducible rfl)
          simp only [Act.put, List.setIfInBounds_toArray, List.set_cons_zero, List.set_cons_succ]
          refine takeIn 16 (v := ?vl16) rfl (by kernel_rfl) (by kernel_rfl) (by kernel_rfl) (fun _ _ _ h => h) ?wl16 (by assumption) ?yl16 ?rl16
          case wl16 => rfl
          case yl16 => (intro w hSw; (try dsimp only at hSw); go_simp; first | done | with_reducible rfl)
          simp only [Act.put, List.setIfInBounds_toArray, List.set_cons_zero, List.set_cons_succ]
          refine takeIn 17 (v := ?vl17) rfl (by kernel_rfl) (by kernel_rfl) (by kernel_rfl) (fun _ _ _ h => h) ?wl17 (by assumption) ?yl17 ?rl17
          case wl17 => rfl
          case yl17 => (intro w hSw; (try dsimp only at hSw); go_simp; first | done | with_reducible rfl)
          simp only [Act.put, List.setIfInBounds_toArray, List.set_cons_zero, List.set_cons_succ]
          refine takeIn 18 (v := ?vl18) rfl (by kernel_rfl) (by kernel_rfl) (by kernel_rfl) (fun _ _ _ h => h) ?wl18 (by assumption) ?yl18 ?rl18
          case wl18 => rfl
          case yl18 => (intro w hSw; (try dsimp only at hSw); go_simp; first | done | with_reducible rfl)
          simp only [Act.put, List.setIfInBounds_toArray, List.set_cons_zero, List.set_cons_succ]
          refine takeIn 19 (v := ?vl19) rfl (by kernel_rfl) (by kernel_rfl) (by kernel_rfl) (fun _ _ _ h => h) ?wl19 (by assumption) ?yl19 ?rl19
          case wl19 => rfl
          case yl19 => (intro w hSw; (try dsimp only at hSw); go_simp; first | done | with_reducible rfl)
          simp only [Act.put, List.setIfInBounds_toArray, List.set_cons_zero, List.set_cons_succ]
          refine takeIn 20 (v := ?vl20) rfl (by kernel_rfl) (by kernel_rfl) (by kernel_rfl) (fun _ _ _ h => h) ?wl20 (by assumption) ?yl20 ?rl20
          case wl20 => rfl
          case yl20 => (intro w hSw; (try dsimp only at hSw); go_simp; first | done | with_reducible rfl)
          simp only [Act.put, List.setIfInBounds_toArray, List.set_cons_zero, List.set_cons_succ]
          refine takeIn 21 (v := ?vl21) rfl (by kernel_rfl) (by kernel_rfl) (by kernel_rfl) (fun _ _ _ h => h) ?wl21 (by assumption) ?yl21 ?rl21
          case wl21 => rfl
          case yl21 => (intro w hSw; (try dsimp only at hSw); go_simp; first | done | with_reducible rfl)
          simp only [Act.put, List.setIfInBounds_toArray, List.set_cons_zero, List.set_cons_succ]
          refine takeIn 23 (v := ?vl23) rfl (by kernel_rfl) (by kernel_rfl) (by kernel_rfl) (fun _ _ _ h => h) ?wl23 (by assumption) ?yl23 ?rl23
          case wl23 => rfl
          case yl23 => (intro w hSw; (try dsimp only at hSw); go_simp; first | done | with_reducible rfl)
          simp only [Act.put, List.setIfInBounds_toArray, List.set_cons_zero, List.set_cons_succ]
          refine takeIn 24 (v := ?vl24) rfl (by kernel_rfl) (by kernel_rfl) (by kernel_rfl) (fun _ _ _ h => h) ?wl24 (by assumption) ?yl24 ?rl24
          case wl24 => rfl
          case yl24 => (intro w hSw; (try dsimp only at hSw); go_simp; first | done | with_reducible rfl)
          simp only [Act.put, List.setIfInBounds_toArray, List.set_cons_zero, List.set_cons_succ]
          refine takeIn 25 (v := ?vl25) rfl (by kernel_rfl) (by kernel_rfl) (by kernel_rfl) (fun _ _ _ h => h) ?wl25 (by assumption) ?yl25 ?rl25
          case wl25 => rfl
          case yl25 => (intro w hSw; (try dsimp only at hSw); go_simp; first | done | with_reducible rfl)
          simp only [Act.put, List.setIfInBounds_toArray, List.set_cons_zero, List.set_cons_succ]
          refine takeIn 26 (v := ?vl26) rfl (by kernel_rfl) (by kernel_rfl) (by kernel_rfl) (fun _ _ _ h => h) ?wl26 (by assumption) ?yl26 ?rl26
          case wl26 => rfl
          case yl26 => (intro w hSw; (try dsimp only at hSw); go_simp; first | done | with_reducible rfl)
          simp only [Act.put, List.setIfInBounds_toArray, List.set_cons_zero, List.set_cons_succ]
          refine takeIn 27 (v := ?vl27) rfl (by kernel_rfl) (by kernel_rfl) (by kernel_rfl) (fun _ _ _ h => h) ?wl27 (by assumption) ?yl27 ?rl27
          case wl27 => rfl
          case yl27 => (intro w hSw; (try dsimp only at hSw); go_simp; first | done | with_reducible rfl)
          simp only [Act.put, List.setIfInBounds_toArray, List.set_cons_zero, List.set_cons_succ]
          refine takeIn 28 (v := ?vl28) rfl (by kernel_rfl) (by kernel_rfl) (by kernel_rfl) (fun _ _ _ h => h) ?wl28 (by assumption) ?yl28 ?rl28
          case wl28 => rfl
          case yl28 => (intro w hSw; (try dsimp only at hSw); go_simp; first | done | with_reducible rfl)
          simp only [Act.put, List.setIfInBounds_toArray, List.set_cons_zero, List.set_cons_succ]
          refine oneUp 22 rfl (by kernel_rfl) (by rfl) (fun K hK => ?_)
          go_simp
          refine (F3.out Y1 hY1).mono ?_
          rintro e Y2 ⟨rfl, hbb⟩
          have hY2 : Below U8.heap.size U8 Y2 := hY1.trans (hbb.mono hY1.size)
          clear hbb
          refine hK.out _ _ (HSI.out Y2 hY2) (fun hHeldY2 => ?_)
          clear hK K
          (try simp only [Act.put, List.setIfInBounds_toArray, List.set_cons_zero, List.set_cons_succ])
          refine oneUp 29 rfl (by kernel_rfl) (by rfl) (fun K hK => ?_)
          go_simp
          refine (F4.out Y2 hY2).mono ?_
          rintro e Y3 ⟨rfl, hbb⟩
          have hY3 : Below U8.heap.size U8 Y3 := hY2.trans (hbb.mono hY2.size)
          clear hbb
          refine hK.out _ _ (HSI.out Y3 hY3) (fun hHeldY3 => ?_)
          clear hK K
          (try simp only [Act.put, List.setIfInBounds_toArray, List.set_cons_zero, List.set_cons_succ])
          refine takeIn 30 (v := .bool true) rfl (by kernel_rfl) (by kernel_rfl) (by kernel_rfl) (fun _ _ _ h => h) ?wl30 (by assumption) ?yl30 ?rl30
          case wl30 => rfl
          case yl30 => (intro w hSw; (try dsimp only at hSw); go_simp; exact HIT.out)
          simp only [Act.put, List.setIfInBounds_toArray, List.set_cons_zero, List.set_cons_succ]
          refine takeIn 31 (v := ?vl31) rfl (by kernel_rfl) (by kernel_rfl) (by kernel_rfl) (fun _ _ _ h => h) ?wl31 (by assumption) ?yl31 ?rl31
          case wl31 => rfl
          case yl31 => (intro w hSw; (try dsimp only at hSw); go_simp; first | done | with_reducible rfl)
          simp only [Act.put, List.setIfInBounds_toArray, List.set_cons_zero, List.set_cons_succ]
          refine takeIn 32 (v := ?vl32) rfl (by kernel_rfl) (by kernel_rfl) (by kernel_rfl) (fun _ _ _ h => h) ?wl32 (by assumption) ?yl32 ?rl32
          case wl32 => rfl
          case yl32 => (intro w hSw; (try dsimp only at hSw); go_simp; first | done | with_reducible rfl)
          simp only [Act.put, List.setIfInBounds_toArray, List.set_cons_zero, List.set_cons_succ]
          refine takeIn 33 (v := ?vl33) rfl (by kernel_rfl) (by kernel_rfl) (by kernel_rfl) (fun _ _ _ h => h) ?wl33 (by assumption) ?yl33 ?rl33
          case wl33 => rfl
          case yl33 => (intro w hSw; (try dsimp only at hSw); go_simp; first | done | with_reducible rfl)
          simp only [Act.put, List.setIfInBounds_toArray, List.set_cons_zero, List.set_cons_succ]
          refine takeIn 34 (v := ?vl34) rfl (by kernel_rfl) (by kernel_rfl) (by kernel_rfl) (fun _ _ _ h => h) ?wl34 (by assumption) ?yl34 ?rl34
          case wl34 => rfl
          case yl34 => (intro w hSw; (try dsimp only at hSw); go_simp; first | done | with_reducible rfl)
          simp only [Act.put, List.setIfInBounds_toArray, List.set_cons_zero, List.set_cons_succ]
          refine takeIn 35 (v := ?vl35) rfl (by kernel_rfl) (by kernel_rfl) (by kernel_rfl) (fun _ _ _ h => h) ?wl35 (by assumption) ?yl35 ?rl35
          case wl35 => rfl
          case yl35 => (intro w hSw; (try dsimp only at hSw); go_simp; first | done | with_reducible rfl)
          simp only [Act.put, List.setIfInBounds_toArray, List.set_cons_zero, List.set_cons_succ]
          refine oneUp 36 rfl (by kernel_rfl) (by rfl) (fun K hK => ?_)
          go_simp
          refine (F5.out Y3 hY3).mono ?_
          rintro e Y4 ⟨rfl, hbb⟩
          have hY4 : Below U8.heap.size U8 Y4 := hY3.trans (hbb.mono hY3.size)
          clear hbb
          refine hK.out _ _ (HSI.out Y4 hY4) (fun hHeldY4 => ?_)
          clear hK K
          (try simp only [Act.put, List.setIfInBounds_toArray, List.set_cons_zero, List.set_cons_succ])
          refine takeIn 37 (v := ?vl37) rfl (by kernel_rfl) (by kernel_rfl) (by kernel_rfl) (fun _ _ _ h => h) ?wl37 (by assumption) ?yl37 ?rl37
          case wl37 => rfl
          case yl37 => (intro w hSw; (try dsimp only at hSw); go_simp; first | done | with_reducible rfl)
          simp only [Act.put, List.setIfInBounds_toArray, List.set_cons_zero, List.set_cons_succ]
          refine takeIn 38 (v := ?vl38) rfl (by kernel_rfl) (by kernel_rfl) (by kernel_rfl) (fun _ _ _ h => h) ?wl38 (by assumption) ?yl38 ?rl38
          case wl38 => rfl
          case yl38 => (intro w hSw; (try dsimp only at hSw); go_simp; first | done | with_reducible rfl)
          simp only [Act.put, List.setIfInBounds_toArray, List.set_cons_zero, List.set_cons_succ]
          refine wpAnyH_done (by kernel_rfl) ?_ _
          go_wp2_with fail
          go_meet
          exact ⟨rfl, hY4⟩
        have hkr' : ((k : Int) != ref) = true := by simpa using hkr
        cases rh
        · refine wp_region_held_drew (S := fun W' => W'.cell? ⟨P, 0, none⟩ = some (.slice a hs.length cap) ∧ W'.cell? ⟨Q, 0, none⟩ = some (.slice ax hx.length capx) ∧ W'.cell? ⟨I, i, none⟩ = some (.string id)) (by kernel_rfl) (HSI.out _ hwr.drew) (fun hHeld => ?_)
          have hY0 : Below U8.heap.size U8 wr.drew := hwr.drew
          generalize wr.drew = Y0 at hHeld hY0 ⊢
          refine takeIn 0 (v := ?vm0) rfl (by kernel_rfl) (by kernel_rfl) (by kernel_rfl) (fun _ _ _ h => h) ?wm0 (by assumption) ?ym0 ?rm0
          case wm0 => rfl
          case ym0 => (intro w hSw; (try dsimp only at hSw); go_simp; first | done | with_reducible rfl)
          simp only [Act.put, List.setIfInBounds_toArray, List.set_cons_zero, List.set_cons_succ]
          refine takeIn 1 (v := ?vm1) rfl (by kernel_rfl) (by kernel_rfl) (by kernel_rfl) (fun _ _ _ h => h) ?wm1 (by assumption) ?ym1 ?rm1
          case wm1 => rfl
          case ym1 => (intro w hSw; (try dsimp only at hSw); go_simp; first | done | with_reducible rfl)
          simp only [Act.put, List.setIfInBounds_toArray, List.set_cons_zero, List.set_cons_succ]
          refine takeIn 2 (v := ?vm2) rfl (by kernel_rfl) (by kernel_rfl) (by kernel_rfl) (fun _ _ _ h => h) ?wm2 (by assumption) ?ym2 ?rm2
          case wm2 => rfl
          case ym2 => (intro w hSw; (try dsimp only at hSw); go_simp; first | done | with_reducible rfl)
          simp only [Act.put, List.setIfInBounds_toArray, List.set_cons_zero, List.set_cons_succ]
          refine takeIn 3 (v := ?vm3) rfl (by kernel_rfl) (by kernel_rfl) (by kernel_rfl) (fun _ _ _ h => h) ?wm3 (by assumption) ?ym3 ?rm3
          case wm3 => rfl
          case ym3 => (intro w hSw; (try dsimp only at hSw); go_simp; first | done | with_reducible rfl)
          simp only [Act.put, List.setIfInBounds_toArray, List.set_cons_zero, List.set_cons_succ]
          refine takeOut 4 rfl (by kernel_rfl) (by kernel_rfl) (by kernel_rfl) (fun _ _ _ h => h) ?wm4 (by assumption) ?rm4
          case wm4 => rfl
          simp only [Act.put, List.setIfInBounds_toArray, List.set_cons_zero, List.set_cons_succ]
          refine takeOut 5 rfl (by kernel_rfl) (by kernel_rfl) (by kernel_rfl) (fun _ _ _ h => h) ?wm5 (by assumption) ?rm5
          case wm5 => rfl
          simp only [Act.put, List.setIfInBounds_toArray, List.set_cons_zero, List.set_cons_succ]
          refine takeOut 6 rfl (by kernel_rfl) (by kernel_rfl) (by kernel_rfl) (fun _ _ _ h => h) ?wm6 (by assumption) ?rm6
          case wm6 => rfl
          simp only [Act.put, List.setIfInBounds_toArray, List.set_cons_zero, List.set_cons_succ]
          refine takeOut 7 rfl (by kernel_rfl) (by kernel_rfl) (by kernel_rfl) (fun _ _ _ h => h) ?wm7 (by assumption) ?rm7
          case wm7 => rfl
          simp only [Act.put, List.setIfInBounds_toArray, List.set_cons_zero, List.set_cons_succ]
          refine takeOut 8 rfl (by kernel_rfl) (by kernel_rfl) (by kernel_rfl) (fun _ _ _ h => h) ?wm8 (by assumption) ?rm8
          case wm8 => rfl
          simp only [Act.put, List.setIfInBounds_toArray, List.set_cons_zero, List.set_cons_succ]
          refine takeOut 9 rfl (by kernel_rfl) (by kernel_rfl) (by kernel_rfl) (fun _ _ _ h => h) ?wm9 (by assumption) ?rm9
          case wm9 => rfl
          simp only [Act.put, List.setIfInBounds_toArray, List.set_cons_zero, List.set_cons_succ]
          refine takeIn 10 (v := ?vm10) rfl (by kernel_rfl) (by kernel_rfl) (by kernel_rfl) (fun _ _ _ h => h) ?wm10 (by assumption) ?ym10 ?rm10
          case wm10 => rfl
          case ym10 => (intro w hSw; (try dsimp only at hSw); go_simp; first | done | with_reducible rfl)
          simp only [Act.put, List.setIfInBounds_toArray, List.set_cons_zero, List.set_cons_succ]
          refine takeIn 11 (v := ?vm11) rfl (by kernel_rfl) (by kernel_rfl) (by kernel_rfl) (fun _ _ _ h => h) ?wm11 (by assumption) ?ym11 ?rm11
          case wm11 => rfl
          case ym11 => (intro w hSw; (try dsimp only at hSw); go_simp; first | done | with_reducible rfl)
          simp only [Act.put, List.setIfInBounds_toArray, List.set_cons_zero, List.set_cons_succ]
          refine takeIn 12 (v := ?vm12) rfl (by kernel_rfl) (by kernel_rfl) (by kernel_rfl) (fun _ _ _ h => h) ?wm12 (by assumption) ?ym12 ?rm12
          case wm12 => rfl
          case ym12 => (intro w hSw; (try dsimp only at hSw); go_simp; first | done | with_reducible rfl)
          simp only [Act.put, List.setIfInBounds_toArray, List.set_cons_zero, List.set_cons_succ]
          refine oneUp 13 rfl (by kernel_rfl) (by rfl) (fun K hK => ?_)
          go_simp
          refine (F2.out Y0 hY0).mono ?_
          rintro e Y1 ⟨rfl, hbb⟩
          have hY1 : Below U8.heap.size U8 Y1 := hY0.trans (hbb.mono hY0.size)
          clear hbb
          refine hK.out _ _ (HSI.out Y1 hY1) (fun hHeldY1 => ?_)
          clear hK K
          (try simp only [Act.put, List.setIfInBounds_toArray, List.set_cons_zero, List.set_cons_succ])
          refine takeIn 14 (v := ?vm14) rfl (by kernel_rfl) (by kernel_rfl) (by kernel_rfl) (fun _ _ _ h => h) ?wm14 (by assumption) ?ym14 ?rm14
          case wm14 => rfl
          case ym14 => (intro w hSw; (try dsimp only at hSw); go_simp; first | done | with_reducible rfl)
          simp only [Act.put, List.setIfInBounds_toArray, List.set_cons_zero, List.set_cons_succ]
          refine takeIn 15 (v := ?vm15) rfl (by kernel_rfl) (by kernel_rfl) (by kernel_rfl) (fun _ _ _ h => h) ?wm15 (by assumption) ?ym15 ?rm15
          case wm15 => rfl
          case ym15 => (intro w hSw; (try dsimp only at hSw); go_simp; first | done | with_reducible rfl)
          simp only [Act.put, List.setIfInBounds_toArray, List.set_cons_zero, List.set_cons_succ]
          refine takeOut 16 rfl (by kernel_rfl) (by kernel_rfl) (by kernel_rfl) (fun _ _ _ h => h) ?wm16 (by assumption) ?rm16
          case wm16 => rfl
          simp only [Act.put, List.setIfInBounds_toArray, List.set_cons_zero, List.set_cons_succ]
          refine takeOut 17 rfl (by kernel_rfl) (by kernel_rfl) (by kernel_rfl) (fun _ _ _ h => h) ?wm17 (by assumption) ?rm17
          case wm17 => rfl
          simp only [Act.put, List.setIfInBounds_toArray, List.set_cons_zero, List.set_cons_succ]
          refine takeOut 18 rfl (by kernel_rfl) (by kernel_rfl) (by kernel_rfl) (fun _ _ _ h => h) ?wm18 (by assumption) ?rm18
          case wm18 => rfl
          simp only [Act.put, List.setIfInBounds_toArray, List.set_cons_zero, List.set_cons_succ]
          refine takeOut 19 rfl (by kernel_rfl) (by kernel_rfl) (by kernel_rfl) (fun _ _ _ h => h) ?wm19 (by assumption) ?rm19
          case wm19 => rfl
          simp only [Act.put, List.setIfInBounds_toArray, List.set_cons_zero, List.set_cons_succ]
          refine takeOut 20 rfl (by kernel_rfl) (by kernel_rfl) (by kernel_rfl) (fun _ _ _ h => h) ?wm20 (by assumption) ?rm20
          case wm20 => rfl
          simp only [Act.put, List.setIfInBounds_toArray, List.set_cons_zero, List.set_cons_succ]
          refine takeOut 21 rfl (by kernel_rfl) (by kernel_rfl) (by kernel_rfl) (fun _ _ _ h => h) ?wm21 (by assumption) ?rm21
          case wm21 => rfl
          simp only [Act.put, List.setIfInBounds_toArray, List.set_cons_zero, List.set_cons_succ]
          refine takeOut 22 rfl (by kernel_rfl) (by kernel_rfl) (by kernel_rfl) (fun _ _ _ h => h) ?wm22 (by assumption) ?rm22
          case wm22 => rfl
          simp only [Act.put, List.setIfInBounds_toArray, List.set_cons_zero, List.set_cons_succ]
          refine takeOut 23 rfl (by kernel_rfl) (by kernel_rfl) (by kernel_rfl) (fun _ _ _ h => h) ?wm23 (by assumption) ?rm23
          case wm23 => rfl
          simp only [Act.put, List.setIfInBounds_toArray, List.set_cons_zero, List.set_cons_succ]
          refine takeOut 24 rfl (by kernel_rfl) (by kernel_rfl) (by kernel_rfl) (fun _ _ _ h => h) ?wm24 (by assumption) ?rm24
          case wm24 => rfl
          simp only [Act.put, List.setIfInBounds_toArray, List.set_cons_zero, List.set_cons_succ]
          refine takeOut 25 rfl (by kernel_rfl) (by kernel_rfl) (by kernel_rfl) (fun _ _ _ h => h) ?wm25 (by assumption) ?rm25
          case wm25 => rfl
          simp only [Act.put, List.setIfInBounds_toArray, List.set_cons_zero, List.set_cons_succ]
          refine takeOut 26 rfl (by kernel_rfl) (by kernel_rfl) (by kernel_rfl) (fun _ _ _ h => h) ?wm26 (by assumption) ?rm26
          case wm26 => rfl
          simp only [Act.put, List.setIfInBounds_toArray, List.set_cons_zero, List.set_cons_succ]
          refine takeOut 27 rfl (by kernel_rfl) (by kernel_rfl) (by kernel_rfl) (fun _ _ _ h => h) ?wm27 (by assumption) ?rm27
          case wm27 => rfl
          simp only [Act.put, List.setIfInBounds_toArray, List.set_cons_zero, List.set_cons_succ]
          refine takeOut 28 rfl (by kernel_rfl) (by kernel_rfl) (by kernel_rfl) (fun _ _ _ h => h) ?wm28 (by assumption) ?rm28
          case wm28 => rfl
          simp only [Act.put, List.setIfInBounds_toArray, List.set_cons_zero, List.set_cons_succ]
          refine takeOut 29 rfl (by kernel_rfl) (by kernel_rfl) (by kernel_rfl) (fun _ _ _ h => h) ?wm29 (by assumption) ?rm29
          case wm29 => rfl
          simp only [Act.put, List.setIfInBounds_toArray, List.set_cons_zero, List.set_cons_succ]
          refine takeOut 30 rfl (by kernel_rfl) (by kernel_rfl) (by kernel_rfl) (fun _ _ _ h => h) ?wm30 (by assumption) ?rm30
          case wm30 => rfl
          simp only [Act.put, List.setIfInBounds_toArray, List.set_cons_zero, List.set_cons_succ]
          refine takeIn 31 (v := ?vm31) rfl (by kernel_rfl) (by kernel_rfl) (by kernel_rfl) (fun _ _ _ h => h) ?wm31 (by assumption) ?ym31 ?rm31
          case wm31 => rfl
          case ym31 => (intro w hSw; (try dsimp only at hSw); go_simp; first | done | with_reducible rfl)
          simp only [Act.put, List.setIfInBounds_toArray, List.set_cons_zero, List.set_cons_succ]
          refine takeIn 32 (v := ?vm32) rfl (by kernel_rfl) (by kernel_rfl) (by kernel_rfl) (fun _ _ _ h => h) ?wm32 (by assumption) ?ym32 ?rm32
          case wm32 => rfl
          case ym32 => (intro w hSw; (try dsimp only at hSw); go_simp; first | done | with_reducible rfl)
          simp only [Act.put, List.setIfInBounds_toArray, List.set_cons_zero, List.set_cons_succ]
          refine takeOut 33 rfl (by kernel_rfl) (by kernel_rfl) (by kernel_rfl) (fun _ _ _ h => h) ?wm33 (by assumption) ?rm33
          case wm33 => rfl
          simp only [Act.put, List.setIfInBounds_toArray, List.set_cons_zero, List.set_cons_succ]
          refine takeOut 34 rfl (by kernel_rfl) (by kernel_rfl) (by kernel_rfl) (fun _ _ _ h => h) ?wm34 (by assumption) ?rm34
          case wm34 => rfl
          simp only [Act.put, List.setIfInBounds_toArray, List.set_cons_zero, List.set_cons_succ]
          refine takeOut 35 rfl (by kernel_rfl) (by kernel_rfl) (by kernel_rfl) (fun _ _ _ h => h) ?wm35 (by assumption) ?rm35
          case wm35 => rfl
          simp only [Act.put, List.setIfInBounds_toArray, List.set_cons_zero, List.set_cons_succ]
          refine takeOut 36 rfl (by kernel_rfl) (by kernel_rfl) (by kernel_rfl) (fun _ _ _ h => h) ?wm36 (by assumption) ?rm36
          case wm36 => rfl
          simp only [Act.put, List.setIfInBounds_toArray, List.set_cons_zero, List.set_cons_succ]
          refine takeOut 37 rfl (by kernel_rfl) (by kernel_rfl) (by kernel_rfl) (fun _ _ _ h => h) ?wm37 (by assumption) ?rm37
          case wm37 => rfl
          simp only [Act.put, List.setIfInBounds_toArray, List.set_cons_zero, List.set_cons_succ]
          refine takeIn 38 (v := ?vm38) rfl (by kernel_rfl) (by kernel_rfl) (by kernel_rfl) (fun _ _ _ h => h) ?wm38 (by assumption) ?ym38 ?rm38
          case wm38 => rfl
          case ym38 => (intro w hSw; (try dsimp only at hSw); go_simp; first | done | with_reducible rfl)
          simp only [Act.put, List.setIfInBounds_toArray, List.set_cons_zero, List.set_cons_succ]
          refine wpAnyH_done (by kernel_rfl) ?_ _
          go_wp2_with fail
          go_meet
          exact ⟨rfl, hY1⟩
        by_cases heq : (⟨gk, gn, gt⟩ : Val.VV) = ⟨yk, yn, yt⟩
        · injection heq with e1 e2 e3
          subst e1 e2 e3
          refine wp_region_held_drew (S := fun W' => W'.cell? ⟨P, 0, none⟩ = some (.slice a hs.length cap) ∧ W'.cell? ⟨Q, 0, none⟩ = some (.slice ax hx.length capx) ∧ W'.cell? ⟨I, i, none⟩ = some (.string id)) (by kernel_rfl) (HSI.out _ hwr.drew) (fun hHeld => ?_)
          have hY0 : Below U8.heap.size U8 wr.drew := hwr.drew
          generalize wr.drew = Y0 at hHeld hY0 ⊢
          refine takeIn 0 (v := ?vn0) rfl (by kernel_rfl) (by kernel_rfl) (by kernel_rfl) (fun _ _ _ h => h) ?wn0 (by assumption) ?yn0 ?rn0
          case wn0 => rfl
          case yn0 => (intro w hSw; (try dsimp only at hSw); go_simp; first | done | with_reducible rfl)
          simp only [Act.put, List.setIfInBounds_toArray, List.set_cons_zero, List.set_cons_succ]
          refine takeIn 1 (v := ?vn1) rfl (by kernel_rfl) (by kernel_rfl) (by kernel_rfl) (fun _ _ _ h => h) ?wn1 (by assumption) ?yn1 ?rn1
          case wn1 => rfl
          case yn1 => (intro w hSw; (try dsimp only at hSw); go_simp; first | done | with_reducible rfl)
          simp only [Act.put, List.setIfInBounds_toArray, List.set_cons_zero, List.set_cons_succ]
          refine takeIn 2 (v := ?vn2) rfl (by kernel_rfl) (by kernel_rfl) (by kernel_rfl) (fun _ _ _ h => h) ?wn2 (by assumption) ?yn2 ?rn2
          case wn2 => rfl
          case yn2 => (intro w hSw; (try dsimp only at hSw); go_simp; first | done | with_reducible rfl)
          simp only [Act.put, List.setIfInBounds_toArray, List.set_cons_zero, List.set_cons_succ]
          refine takeIn 3 (v := ?vn3) rfl (by kernel_rfl) (by kernel_rfl) (by kernel_rfl) (fun _ _ _ h => h) ?wn3 (by assumption) ?yn3 ?rn3
          case wn3 => rfl
          case yn3 => (intro w hSw; (try dsimp only at hSw); go_simp; first | done | with_reducible rfl)
          simp only [Act.put, List.setIfInBounds_toArray, List.set_cons_zero, List.set_cons_succ]
          refine takeOut 4 rfl (by kernel_rfl) (by kernel_rfl) (by kernel_rfl) (fun _ _ _ h => h) ?wn4 (by assumption) ?rn4
          case wn4 => rfl
          simp only [Act.put, List.setIfInBounds_toArray, List.set_cons_zero, List.set_cons_succ]
          refine takeOut 5 rfl (by kernel_rfl) (by kernel_rfl) (by kernel_rfl) (fun _ _ _ h => h) ?wn5 (by assumption) ?rn5
          case wn5 => rfl
          simp only [Act.put, List.setIfInBounds_toArray, List.set_cons_zero, List.set_cons_succ]
          refine takeOut 6 rfl (by kernel_rfl) (by kernel_rfl) (by kernel_rfl) (fun _ _ _ h => h) ?wn6 (by assumption) ?rn6
          case wn6 => rfl
          simp only [Act.put, List.setIfInBounds_toArray, List.set_cons_zero, List.set_cons_succ]
          refine takeOut 7 rfl (by kernel_rfl) (by kernel_rfl) (by kernel_rfl) (fun _ _ _ h => h) ?wn7 (by assumption) ?rn7
          case wn7 => rfl
          simp only [Act.put, List.setIfInBounds_toArray, List.set_cons_zero, List.set_cons_succ]
          refine takeOut 8 rfl (by kernel_rfl) (by kernel_rfl) (by kernel_rfl) (fun _ _ _ h => h) ?wn8 (by assumption) ?rn8
          case wn8 => rfl
          simp only [Act.put, List.setIfInBounds_toArray, List.set_cons_zero, List.set_cons_succ]
          refine takeOut 9 rfl (by kernel_rfl) (by kernel_rfl) (by kernel_rfl) (fun _ _ _ h => h) ?wn9 (by assumption) ?rn9
          case wn9 => rfl
          simp only [Act.put, List.setIfInBounds_toArray, List.set_cons_zero, List.set_cons_succ]
          refine takeIn 10 (v := ?vn10) rfl (by kernel_rfl) (by kernel_rfl) (by kernel_rfl) (fun _ _ _ h => h) ?wn10 (by assumption) ?yn10 ?rn10
          case wn10 => rfl
          case yn10 => (intro w hSw; (try dsimp only at hSw); go_simp; first | done | with_reducible rfl)
          simp only [Act.put, List.setIfInBounds_toArray, List.set_cons_zero, List.set_cons_succ]
          refine takeIn 11 (v := ?vn11) rfl (by kernel_rfl) (by kernel_rfl) (by kernel_rfl) (fun _ _ _ h => h) ?wn11 (by assumption) ?yn11 ?rn11
          case wn11 => rfl
          case yn11 => (intro w hSw; (try dsimp only at hSw); go_simp; first | done | with_reducible rfl)
          simp only [Act.put, List.setIfInBounds_toArray, List.set_cons_zero, List.set_cons_succ]
          refine takeIn 12 (v := ?vn12) rfl (by kernel_rfl) (by kernel_rfl) (by kernel_rfl) (fun _ _ _ h => h) ?wn12 (by assumption) ?yn12 ?rn12
          case wn12 => rfl
          case yn12 => (intro w hSw; (try dsimp only at hSw); go_simp; first | done | with_reducible rfl)
          simp only [Act.put, List.setIfInBounds_toArray, List.set_cons_zero, List.set_cons_succ]
          refine oneUp 13 rfl (by kernel_rfl) (by rfl) (fun K hK => ?_)
          go_simp
          refine (F2.out Y0 hY0).mono ?_
          rintro e Y1 ⟨rfl, hbb⟩
          have hY1 : Below U8.heap.size U8 Y1 := hY0.trans (hbb.mono hY0.size)
          clear hbb
          refine hK.out _ _ (HSI.out Y1 hY1) (fun hHeldY1 => ?_)
          clear hK K
          (try simp only [Act.put, List.setIfInBounds_toArray, List.set_cons_zero, List.set_cons_succ])
          refine takeIn 14 (v := ?vn14) rfl (by kernel_rfl) (by kernel_rfl) (by kernel_rfl) (fun _ _ _ h => h) ?wn14 (by assumption) ?yn14 ?rn14
          case wn14 => rfl
          case yn14 => (intro w hSw; (try dsimp only at hSw); go_simp; first | done | with_reducible rfl)
          simp only [Act.put, List.setIfInBounds_toArray, List.set_cons_zero, List.set_cons_succ]
          refine takeIn 15 (v := ?vn15) rfl (by kernel_rfl) (by kernel_rfl) (by kernel_rfl) (fun _ _ _ h => h) ?wn15 (by assumption) ?yn15 ?rn15
          case wn15 => rfl
          case yn15 => (intro w hSw; (try dsimp only at hSw); go_simp; first | done | with_reducible rfl)
          simp only [Act.put, List.setIfInBounds_toArray, List.set_cons_zero, List.set_cons_succ]
          refine takeIn 16 (v := ?vn16) rfl (by kernel_rfl) (by kernel_rfl) (by kernel_rfl) (fun _ _ _ h => h) ?wn16 (by assumption) ?yn16 ?rn16
          case wn16 => rfl
          case yn16 => (intro w hSw; (try dsimp only at hSw); go_simp; first | done | with_reducible rfl)
          simp only [Act.put, List.setIfInBounds_toArray, List.set_cons_zero, List.set_cons_succ]
          refine takeIn 17 (v := ?vn17) rfl (by kernel_rfl) (by kernel_rfl) (by kernel_rfl) (fun _ _ _ h => h) ?wn17 (by assumption) ?yn17 ?rn17
          case wn17 => rfl
          case yn17 => (intro w hSw; (try dsimp only at hSw); go_simp; first | done | with_reducible rfl)
          simp only [Act.put, List.setIfInBounds_toArray, List.set_cons_zero, List.set_cons_succ]
          refine takeIn 18 (v := ?vn18) rfl (by kernel_rfl) (by kernel_rfl) (by kernel_rfl) (fun _ _ _ h => h) ?wn18 (by assumption) ?yn18 ?rn18
          case wn18 => rfl
          case yn18 => (intro w hSw; (try dsimp only at hSw); go_simp; first | done | with_reducible rfl)
          simp only [Act.put, List.setIfInBounds_toArray, List.set_cons_zero, List.set_cons_succ]
          refine takeIn 19 (v := ?vn19) rfl (by kernel_rfl) (by kernel_rfl) (by kernel_rfl) (fun _ _ _ h => h) ?wn19 (by assumption) ?yn19 ?rn19
          case wn19 => rfl
          case yn19 => (intro w hSw; (try dsimp only at hSw); go_simp; first | done | with_reducible rfl)
          simp only [Act.put, List.setIfInBounds_toArray, List.set_cons_zero, List.set_cons_succ]
          refine takeIn 20 (v := ?vn20) rfl (by kernel_rfl) (by kernel_rfl) (by kernel_rfl) (fun _ _ _ h => h) ?wn20 (by assumption) ?yn20 ?rn20
          case wn20 => rfl
          case yn20 => (intro w hSw; (try dsimp only at hSw); go_simp; first | done | with_reducible rfl)
          simp only [Act.put, List.setIfInBounds_toArray, List.set_cons_zero, List.set_cons_succ]
          refine takeIn 21 (v := ?vn21) rfl (by kernel_rfl) (by kernel_rfl) (by kernel_rfl) (fun _ _ _ h => h) ?wn21 (by assumption) ?yn21 ?rn21
          case wn21 => rfl
          case yn21 => (intro w hSw; (try dsimp only at hSw); go_simp; first | done | with_reducible rfl)
          simp only [Act.put, List.setIfInBounds_toArray, List.set_cons_zero, List.set_cons_succ]
          refine takeIn 23 (v := ?vn23) rfl (by kernel_rfl) (by kernel_rfl) (by kernel_rfl) (fun _ _ _ h => h) ?wn23 (by assumption) ?yn23 ?rn23
          case wn23 => rfl
          case yn23 => (intro w hSw; (try dsimp only at hSw); go_simp; first | done | with_reducible rfl)
          simp only [Act.put, List.setIfInBounds_toArray, List.set_cons_zero, List.set_cons_succ]
          refine takeIn 24 (v := ?vn24) rfl (by kernel_rfl) (by kernel_rfl) (by kernel_rfl) (fun _ _ _ h => h) ?wn24 (by assumption) ?yn24 ?rn24
          case wn24 => rfl
          case yn24 => (intro w hSw; (try dsimp only at hSw); go_simp; first | done | with_reducible rfl)
          simp only [Act.put, List.setIfInBounds_toArray, List.set_cons_zero, List.set_cons_succ]
          refine takeIn 25 (v := ?vn25) rfl (by kernel_rfl) (by kernel_rfl) (by kernel_rfl) (fun _ _ _ h => h) ?wn25 (by assumption) ?yn25 ?rn25
          case wn25 => rfl
          case yn25 => (intro w hSw; (try dsimp only at hSw); go_simp; first | done | with_reducible rfl)
          simp only [Act.put, List.setIfInBounds_toArray, List.set_cons_zero, List.set_cons_succ]
          refine takeIn 26 (v := ?vn26) rfl (by kernel_rfl) (by kernel_rfl) (by kernel_rfl) (fun _ _ _ h => h) ?wn26 (by assumption) ?yn26 ?rn26
          case wn26 => rfl
          case yn26 => (intro w hSw; (try dsimp only at hSw); go_simp; first | done | with_reducible rfl)
          simp only [Act.put, List.setIfInBounds_toArray, List.set_cons_zero, List.set_cons_succ]
          refine takeIn 27 (v := ?vn27) rfl (by kernel_rfl) (by kernel_rfl) (by kernel_rfl) (fun _ _ _ h => h) ?wn27 (by assumption) ?yn27 ?rn27
          case wn27 => rfl
          case yn27 => (intro w hSw; (try dsimp only at hSw); go_simp; first | done | with_reducible rfl)
          simp only [Act.put, List.setIfInBounds_toArray, List.set_cons_zero, List.set_cons_succ]
          refine takeIn 28 (v := ?vn28) rfl (by kernel_rfl) (by kernel_rfl) (by kernel_rfl) (fun _ _ _ h => h) ?wn28 (by assumption) ?yn28 ?rn28
          case wn28 => rfl
          case yn28 => (intro w hSw; (try dsimp only at hSw); go_simp; first | done | with_reducible rfl)
          simp only [Act.put, List.setIfInBounds_toArray, List.set_cons_zero, List.set_cons_succ]
          refine oneUp 22 rfl (by kernel_rfl) (by rfl) (fun K hK => ?_)
          go_simp
          refine (F3.out Y1 hY1).mono ?_
          rintro e Y2 ⟨rfl, hbb⟩
          have hY2 : Below U8.heap.size U8 Y2 := hY1.trans (hbb.mono hY1.size)
          clear hbb
          refine hK.out _ _ (HSI.out Y2 hY2) (fun hHeldY2 => ?_)
          clear hK K
          (try simp only [Act.put, List.setIfInBounds_toArray, List.set_cons_zero, List.set_cons_succ])
          refine oneUp 29 rfl (by kernel_rfl) (by rfl) (fun K hK => ?_)
          go_simp
          refine (F4.out Y2 hY2).mono ?_
          rintro e Y3 ⟨rfl, hbb⟩
          have hY3 : Below U8.heap.size U8 Y3 := hY2.trans (hbb.mono hY2.size)
          clear hbb
          refine hK.out _ _ (HSI.out Y3 hY3) (fun hHeldY3 => ?_)
          clear hK K
          (try simp only [Act.put, List.setIfInBounds_toArray, List.set_cons_zero, List.set_cons_succ])
          refine takeIn 30 (v := ?vn30) rfl (by kernel_rfl) (by kernel_rfl) (by kernel_rfl) (fun _ _ _ h => h) ?wn30 (by assumption) ?yn30 ?rn30
          case wn30 => rfl
          case yn30 => (intro w hSw; (try dsimp only at hSw); go_simp; first | done | with_reducible rfl)
          simp only [Act.put, List.setIfInBounds_toArray, List.set_cons_zero, List.set_cons_succ]
          refine takeIn 31 (v := ?vn31) rfl (by kernel_rfl) (by kernel_rfl) (by kernel_rfl) (fun _ _ _ h => h) ?wn31 (by assumption) ?yn31 ?rn31
          case wn31 => rfl
          case yn31 => (intro w hSw; (try dsimp only at hSw); go_simp; first | done | with_reducible rfl)
          simp only [Act.put, List.setIfInBounds_toArray, List.set_cons_zero, List.set_cons_succ]
          refine takeIn 32 (v := ?vn32) rfl (by kernel_rfl) (by kernel_rfl) (by kernel_rfl) (fun _ _ _ h => h) ?wn32 (by assumption) ?yn32 ?rn32
          case wn32 => rfl
          case yn32 => (intro w hSw; (try dsimp only at hSw); go_simp; first | done | with_reducible rfl)
          simp only [Act.put, List.setIfInBounds_toArray, List.set_cons_zero, List.set_cons_succ]
          refine takeOut 33 rfl (by kernel_rfl) (by kernel_rfl) (by kernel_rfl) (fun _ _ _ h => h) ?wn33 (by assumption) ?rn33
          case wn33 => rfl
          simp only [Act.put, List.setIfInBounds_toArray, List.set_cons_zero, List.set_cons_succ]
          refine takeOut 34 rfl (by kernel_rfl) (by kernel_rfl) (by kernel_rfl) (fun _ _ _ h => h) ?wn34 (by assumption) ?rn34
          case wn34 => rfl
          simp only [Act.put, List.setIfInBounds_toArray, List.set_cons_zero, List.set_cons_succ]
          refine takeOut 35 rfl (by kernel_rfl) (by kernel_rfl) (by kernel_rfl) (fun _ _ _ h => h) ?wn35 (by assumption) ?rn35
          case wn35 => rfl
          simp only [Act.put, List.setIfInBounds_toArray, List.set_cons_zero, List.set_cons_succ]
          refine takeOut 36 rfl (by kernel_rfl) (by kernel_rfl) (by kernel_rfl) (fun _ _ _ h => h) ?wn36 (by assumption) ?rn36
          case wn36 => rfl
          simp only [Act.put, List.setIfInBounds_toArray, List.set_cons_zero, List.set_cons_succ]
          refine takeOut 37 rfl (by kernel_rfl) (by kernel_rfl) (by kernel_rfl) (fun _ _ _ h => h) ?wn37 (by assumption) ?rn37
          case wn37 => rfl
          simp only [Act.put, List.setIfInBounds_toArray, List.set_cons_zero, List.set_cons_succ]
          refine takeIn 38 (v := ?vn38) rfl (by kernel_rfl) (by kernel_rfl) (by kernel_rfl) (fun _ _ _ h => h) ?wn38 (by assumption) ?yn38 ?rn38
          case wn38 => rfl
          case yn38 => (intro w hSw; (try dsimp only at hSw); go_simp; first | done | with_reducible rfl)
          simp only [Act.put, List.setIfInBounds_toArray, List.set_cons_zero, List.set_cons_succ]
          refine wpAnyH_done (by kernel_rfl) ?_ _
          go_wp2_with fail
          go_meet
          exact ⟨rfl, hY3⟩
        have HIT : Hid (gk = yk → gn = yn → ¬ gt.toList = yt.toList) := fun e1 e2 e3 => heq (by rw [e1, e2, text_inj e3])
        have F5 : Hid _ := F5.out rfl heq
        refine wp_region_held_drew (S := fun W' => W'.cell? ⟨P, 0, none⟩ = some (.slice a hs.length cap) ∧ W'.cell? ⟨Q, 0, none⟩ = some (.slice ax hx.length capx) ∧ W'.cell? ⟨I, i, none⟩ = some (.string id)) (by kernel_rfl) (HSI.out _ hwr.drew) (fun hHeld => ?_)
        have hY0 : Below U8.heap.size U8 wr.drew := hwr.drew
        generalize wr.drew = Y0 at hHeld hY0 ⊢
        refine takeIn 0 (v := ?vo0) rfl (by kernel_rfl) (by kernel_rfl) (by kernel_rfl) (fun _ _ _ h => h) ?wo0 (by assumption) ?yo0 ?ro0
        case wo0 => rfl
        case yo0 => (intro w hSw; (try dsimp only at hSw); go_simp; first | done | with_reducible rfl)
        simp only [Act.put, List.setIfInBounds_toArray, List.set_cons_zero, List.set_cons_succ]
        refine takeIn 1 (v := ?vo1) rfl (by kernel_rfl) (by kernel_rfl) (by kernel_rfl) (fun _ _ _ h => h) ?wo1 (by assumption) ?yo1 ?ro1
        case wo1 => rfl
        case yo1 => (intro w hSw; (try dsimp only at hSw); go_simp; first | done | with_reducible rfl)
        simp only [Act.put, List.setIfInBounds_toArray, List.set_cons_zero, List.set_cons_succ]
        refine takeIn 2 (v := ?vo2) rfl (by kernel_rfl) (by kernel_rfl) (by kernel_rfl) (fun _ _ _ h => h) ?wo2 (by assumption) ?yo2 ?ro2
        case wo2 => rfl
        case yo2 => (intro w hSw; (try dsimp only at hSw); go_simp; first | done | with_reducible rfl)
        simp only [Act.put, List.setIfInBounds_toArray, List.set_cons_zero, List.set_cons_succ]
        refine takeIn 3 (v := ?vo3) rfl (by kernel_rfl) (by kernel_rfl) (by kernel_rfl) (fun _ _ _ h => h) ?wo3 (by assumption) ?yo3 ?ro3
        case wo3 => rfl
        case yo3 => (intro w hSw; (try dsimp only at hSw); go_simp; first | done | with_reducible rfl)
        simp only [Act.put, List.setIfInBounds_toArray, List.set_cons_zero, List.set_cons_succ]
        refine takeOut 4 rfl (by kernel_rfl) (by kernel_rfl) (by kernel_rfl) (fun _ _ _ h => h) ?wo4 (by assumption) ?ro4
        case wo4 => rfl
        simp only [Act.put, List.setIfInBounds_toArray, List.set_cons_zero, List.set_cons_succ]
        refine takeOut 5 rfl (by kernel_rfl) (by kernel_rfl) (by kernel_rfl) (fun _ _ _ h => h) ?wo5 (by assumption) ?ro5
        case wo5 => rfl
        simp only [Act.put, List.setIfInBounds_toArray, List.set_cons_zero, List.set_cons_succ]
        refine takeOut 6 rfl (by kernel_rfl) (by kernel_rfl) (by kernel_rfl) (fun _ _ _ h => h) ?wo6 (by assumption) ?ro6
        case wo6 => rfl
        simp only [Act.put, List.setIfInBounds_toArray, List.set_cons_zero, List.set_cons_succ]
        refine takeOut 7 rfl (by kernel_rfl) (by kernel_rfl) (by kernel_rfl) (fun _ _ _ h => h) ?wo7 (by assumption) ?ro7
        case wo7 => rfl
        simp only [Act.put, List.setIfInBounds_toArray, List.set_cons_zero, List.set_cons_succ]
        refine takeOut 8 rfl (by kernel_rfl) (by kernel_rfl) (by kernel_rfl) (fun _ _ _ h => h) ?wo8 (by assumption) ?ro8
        case wo8 => rfl
        simp only [Act.put, List.setIfInBounds_toArray, List.set_cons_zero, List.set_cons_succ]
        refine takeOut 9 rfl (by kernel_rfl) (by kernel_rfl) (by kernel_rfl) (fun _ _ _ h => h) ?wo9 (by assumption) ?ro9
        case wo9 => rfl
        simp only [Act.put, List.setIfInBounds_toArray, List.set_cons_zero, List.set_cons_succ]
        refine takeIn 10 (v := ?vo10) rfl (by kernel_rfl) (by kernel_rfl) (by kernel_rfl) (fun _ _ _ h => h) ?wo10 (by assumption) ?yo10 ?ro10
        case wo10 => rfl
        case yo10 => (intro w hSw; (try dsimp only at hSw); go_simp; first | done | with_reducible rfl)
        simp only [Act.put, List.setIfInBounds_toArray, List.set_cons_zero, List.set_cons_succ]
        refine takeIn 11 (v := ?vo11) rfl (by kernel_rfl) (by kernel_rfl) (by kernel_rfl) (fun _ _ _ h => h) ?wo11 (by assumption) ?yo11 ?ro11
        case wo11 => rfl
        case yo11 => (intro w hSw; (try dsimp only at hSw); go_simp; first | done | with_reducible rfl)
        simp only [Act.put, List.setIfInBounds_toArray, List.set_cons_zero, List.set_cons_succ]
        refine takeIn 12 (v := ?vo12) rfl (by kernel_rfl) (by kernel_rfl) (by kernel_rfl) (fun _ _ _ h => h) ?wo12 (by assumption) ?yo12 ?ro12
        case wo12 => rfl
        case yo12 => (intro w hSw; (try dsimp only at hSw); go_simp; first | done | with_reducible rfl)
        simp only [Act.put, List.setIfInBounds_toArray, List.set_cons_zero, List.set_cons_succ]
        refine oneUp 13 rfl (by kernel_rfl) (by rfl) (fun K hK => ?_)
        go_simp
        refine (F2.out Y0 hY0).mono ?_
        rintro e Y1 ⟨rfl, hbb⟩
        have hY1 : Below U8.heap.size U8 Y1 := hY0.trans (hbb.mono hY0.size)
        clear hbb
        refine hK.out _ _ (HSI.out Y1 hY1) (fun hHeldY1 => ?_)
        clear hK K
        (try simp only [Act.put, List.setIfInBounds_toArray, List.set_cons_zero, List.set_cons_succ])
        refine takeIn 14 (v := ?vo14) rfl (by kernel_rfl) (by kernel_rfl) (by kernel_rfl) (fun _ _ _ h => h) ?wo14 (by assumption) ?yo14 ?ro14
        case wo14 => rfl
        case yo14 => (intro w hSw; (try dsimp only at hSw); go_simp; first | done | with_reducible rfl)
        simp only [Act.put, List.setIfInBounds_toArray, List.set_cons_zero, List.set_cons_succ]
        refine takeIn 15 (v := ?vo15) rfl (by kernel_rfl) (by kernel_rfl) (by kernel_rfl) (fun _ _ _ h => h) ?wo15 (by assumption) ?yo15 ?ro15
        case wo15 => rfl
        case yo15 => (intro w hSw; (try dsimp only at hSw); go_simp; first | done | with_reducible rfl)
        simp only [Act.put, List.setIfInBounds_toArray, List.set_cons_zero, List.set_cons_succ]
        refine takeIn 16 (v := ?vo16) rfl (by kernel_rfl) (by kernel_rfl) (by kernel_rfl) (fun _ _ _ h => h) ?wo16 (by assumption) ?yo16 ?ro16
        case wo16 => rfl
        case yo16 => (intro w hSw; (try dsimp only at hSw); go_simp; first | done | with_reducible rfl)
        simp only [Act.put, List.setIfInBounds_toArray, List.set_cons_zero, List.set_cons_succ]
        refine takeIn 17 (v := ?vo17) rfl (by kernel_rfl) (by kernel_rfl) (by kernel_rfl) (fun _ _ _ h => h) ?wo17 (by assumption) ?yo17 ?ro17
        case wo17 => rfl
        case yo17 => (intro w hSw; (try dsimp only at hSw); go_simp; first | done | with_reducible rfl)
        simp only [Act.put, List.setIfInBounds_toArray, List.set_cons_zero, List.set_cons_succ]
        refine takeIn 18 (v := ?vo18) rfl (by kernel_rfl) (by kernel_rfl) (by kernel_rfl) (fun _ _ _ h => h) ?wo18 (by assumption) ?yo18 ?ro18
        case wo18 => rfl
        case yo18 => (intro w hSw; (try dsimp only at hSw); go_simp; first | done | with_reducible rfl)
        simp only [Act.put, List.setIfInBounds_toArray, List.set_cons_zero, List.set_cons_succ]
        refine takeIn 19 (v := ?vo19) rfl (by kernel_rfl) (by kernel_rfl) (by kernel_rfl) (fun _ _ _ h => h) ?wo19 (by assumption) ?yo19 ?ro19
        case wo19 => rfl
        case yo19 => (intro w hSw; (try dsimp only at hSw); go_simp; first | done | with_reducible rfl)
        simp only [Act.put, List.setIfInBounds_toArray, List.set_cons_zero, List.set_cons_succ]
        refine takeIn 20 (v := ?vo20) rfl (by kernel_rfl) (by kernel_rfl) (by kernel_rfl) (fun _ _ _ h => h) ?wo20 (by assumption) ?yo20 ?ro20
        case wo20 => rfl
        case yo20 => (intro w hSw; (try dsimp only at hSw); go_simp; first | done | with_reducible rfl)
        simp only [Act.put, List.setIfInBounds_toArray, List.set_cons_zero, List.set_cons_succ]
        refine takeIn 21 (v := ?vo21) rfl (by kernel_rfl) (by kernel_rfl) (by kernel_rfl) (fun _ _ _ h => h) ?wo21 (by assumption) ?yo21 ?ro21
        case wo21 => rfl
        case yo21 => (intro w hSw; (try dsimp only at hSw); go_simp; first | done | with_reducible rfl)
        simp only [Act.put, List.setIfInBounds_toArray, List.set_cons_zero, List.set_cons_succ]
        refine takeIn 23 (v := ?vo23) rfl (by kernel_rfl) (by kernel_rfl) (by kernel_rfl) (fun _ _ _ h => h) ?wo23 (by assumption) ?yo23 ?ro23
        case wo23 => rfl
        case yo23 => (intro w hSw; (try dsimp only at hSw); go_simp; first | done | with_reducible rfl)
        simp only [Act.put, List.setIfInBounds_toArray, List.set_cons_zero, List.set_cons_succ]
        refine takeIn 24 (v := ?vo24) rfl (by kernel_rfl) (by kernel_rfl) (by kernel_rfl) (fun _ _ _ h => h) ?wo24 (by assumption) ?yo24 ?ro24
        case wo24 => rfl
        case yo24 => (intro w hSw; (try dsimp only at hSw); go_simp; first | done | with_reducible rfl)
        simp only [Act.put, List.setIfInBounds_toArray, List.set_cons_zero, List.set_cons_succ]
        refine takeIn 25 (v := ?vo25) rfl (by kernel_rfl) (by kernel_rfl) (by kernel_rfl) (fun _ _ _ h => h) ?wo25 (by assumption) ?yo25 ?ro25
        case wo25 => rfl
        case yo25 => (intro w hSw; (try dsimp only at hSw); go_simp; first | done | with_reducible rfl)
        simp only [Act.put, List.setIfInBounds_toArray, List.set_cons_zero, List.set_cons_succ]
        refine takeIn 26 (v := ?vo26) rfl (by kernel_rfl) (by kernel_rfl) (by kernel_rfl) (fun _ _ _ h => h) ?wo26 (by assumption) ?yo26 ?ro26
        case wo26 => rfl
        case yo26 => (intro w hSw; (try dsimp only at hSw); go_simp; first | done | with_reducible rfl)
        simp only [Act.put, List.setIfInBounds_toArray, List.set_cons_zero, List.set_cons_succ]
        refine takeIn 27 (v := ?vo27) rfl (by kernel_rfl) (by kernel_rfl) (by kernel_rfl) (fun _ _ _ h => h) ?wo27 (by assumption) ?yo27 ?ro27
        case wo27 => rfl
        case yo27 => (intro w hSw; (try dsimp only at hSw); go_simp; first | done | with_reducible rfl)
        simp only [Act.put, List.setIfInBounds_toArray, List.set_cons_zero, List.set_cons_succ]
        refine takeIn 28 (v := ?vo28) rfl (by kernel_rfl) (by kernel_rfl) (by kernel_rfl) (fun _ _ _ h => h) ?wo28 (by assumption) ?yo28 ?ro28
        case wo28 => rfl
        case yo28 => (intro w hSw; (try dsimp only at hSw); go_simp; first | done | with_reducible rfl)
        simp only [Act.put, List.setIfInBounds_toArray, List.set_cons_zero, List.set_cons_succ]
        refine oneUp 22 rfl (by kernel_rfl) (by rfl) (fun K hK => ?_)
        go_simp
        refine (F3.out Y1 hY1).mono ?_
        rintro e Y2 ⟨rfl, hbb⟩
        have hY2 : Below U8.heap.size U8 Y2 := hY1.trans (hbb.mono hY1.size)
        clear hbb
        refine hK.out _ _ (HSI.out Y2 hY2) (fun hHeldY2 => ?_)
        clear hK K
        (try simp only [Act.put, List.setIfInBounds_toArray, List.set_cons_zero, List.set_cons_succ])
        refine oneUp 29 rfl (by kernel_rfl) (by rfl) (fun K hK => ?_)
        go_simp
        refine (F4.out Y2 hY2).mono ?_
        rintro e Y3 ⟨rfl, hbb⟩
        have hY3 : Below U8.heap.size U8 Y3 := hY2.trans (hbb.mono hY2.size)
        clear hbb
        refine hK.out _ _ (HSI.out Y3 hY3) (fun hHeldY3 => ?_)
        clear hK K
        (try simp only [Act.put, List.setIfInBounds_toArray, List.set_cons_zero, List.set_cons_succ])
        refine takeIn 30 (v := .bool true) rfl (by kernel_rfl) (by kernel_rfl) (by kernel_rfl) (fun _ _ _ h => h) ?wo30 (by assumption) ?yo30 ?ro30
        case wo30 => rfl
        case yo30 => (intro w hSw; (try dsimp only at hSw); go_simp; exact HIT.out)
        simp only [Act.put, List.setIfInBounds_toArray, List.set_cons_zero, List.set_cons_succ]
        refine takeIn 31 (v := ?vo31) rfl (by kernel_rfl) (by kernel_rfl) (by kernel_rfl) (fun _ _ _ h => h) ?wo31 (by assumption) ?yo31 ?ro31
        case wo31 => rfl
        case yo31 => (intro w hSw; (try dsimp only at hSw); go_simp; first | done | with_reducible rfl)
        simp only [Act.put, List.setIfInBounds_toArray, List.set_cons_zero, List.set_cons_succ]
        refine takeIn 32 (v := ?vo32) rfl (by kernel_rfl) (by kernel_rfl) (by kernel_rfl) (fun _ _ _ h => h) ?wo32 (by assumption) ?yo32 ?ro32
        case wo32 => rfl
        case yo32 => (intro w hSw; (try dsimp only at hSw); go_simp; first | done | with_reducible rfl)
        simp only [Act.put, List.setIfInBounds_toArray, List.set_cons_zero, List.set_cons_succ]
        refine takeIn 33 (v := ?vo33) rfl (by kernel_rfl) (by kernel_rfl) (by kernel_rfl) (fun _ _ _ h => h) ?wo33 (by assumption) ?yo33 ?ro33
        case wo33 => rfl
        case yo33 => (intro w hSw; (try dsimp only at hSw); go_simp; first | done | with_reducible rfl)
        simp only [Act.put, List.setIfInBounds_toArray, List.set_cons_zero, List.set_cons_succ]
        refine takeIn 34 (v := ?vo34) rfl (by kernel_rfl) (by kernel_rfl) (by kernel_rfl) (fun _ _ _ h => h) ?wo34 (by assumption) ?yo34 ?ro34
        case wo34 => rfl
        case yo34 => (intro w hSw; (try dsimp only at hSw); go_simp; first | done | with_reducible rfl)
        simp only [Act.put, List.setIfInBounds_toArray, List.set_cons_zero, List.set_cons_succ]
        refine takeIn 35 (v := ?vo35) rfl (by kernel_rfl) (by kernel_rfl) (by kernel_rfl) (fun _ _ _ h => h) ?wo35 (by assumption) ?yo35 ?ro35
        case wo35 => rfl
        case yo35 => (intro w hSw; (try dsimp only at hSw); go_simp; first | done | with_reducible rfl)
        simp only [Act.put, List.setIfInBounds_toArray, List.set_cons_zero, List.set_cons_succ]
        refine oneUp 36 rfl (by kernel_rfl) (by rfl) (fun K hK => ?_)
        go_simp
        refine (F5.out Y3 hY3).mono ?_
        rintro e Y4 ⟨rfl, hbb⟩
        have hY4 : Below U8.heap.size U8 Y4 := hY3.trans (hbb.mono hY3.size)
        clear hbb
        refine hK.out _ _ (HSI.out Y4 hY4) (fun hHeldY4 => ?_)
        clear hK K
        (try simp only [Act.put, List.setIfInBounds_toArray, List.set_cons_zero, List.set_cons_succ])
        refine takeIn 37 (v := ?vo37) rfl (by kernel_rfl) (by kernel_rfl) (by kernel_rfl) (fun _ _ _ h => h) ?wo37 (by assumption) ?yo37 ?ro37
        case wo37 => rfl
        case yo37 => (intro w hSw; (try dsimp only at hSw); go_simp; first | done | with_reducible rfl)
        simp only [Act.put, List.setIfInBounds_toArray, List.set_cons_zero, List.set_cons_succ]
        refine takeIn 38 (v := ?vo38) rfl (by kernel_rfl) (by kernel_rfl) (by kernel_rfl) (fun _ _ _ h => h) ?wo38 (by assumption) ?yo38 ?ro38
        case wo38 => rfl
        case yo38 => (intro w hSw; (try dsimp only at hSw); go_simp; first | done | with_reducible rfl)
        simp only [Act.put, List.setIfInBounds_toArray, List.set_cons_zero, List.set_cons_succ]
        refine wpAnyH_done (by kernel_rfl) ?_ _
        go_wp2_with fail
        go_meet
        exact ⟨rfl, hY4⟩
      case rest =>
      obtain ⟨rfl, hcut⟩ := hcut
      obtain ⟨U9, rfl⟩ : ∃ x, x = wc := ⟨_, rfl⟩
      obtain ⟨l1, l2⟩ := HL4.out
      go_wp2_with fail
      exact ⟨⟨k + 1, by omega, by go_num, hcut⟩, by simp [intOf]; omega⟩
end Go.Proofs.Ytlmlmdmechhalaa

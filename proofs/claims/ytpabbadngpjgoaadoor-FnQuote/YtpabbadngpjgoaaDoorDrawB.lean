/-
  The walks of the specification's draws of texts: l01Piece, DrawQuote, DrawTokens.
-/
import Derived.Test.YtpabbadngpjgoaaDoorDrawA
import Derived.Deep.OwnRows
namespace Go.Proofs.YtpabbadngpjgoaaDoor
open Go.RowKit

def piecesL : List ByteArray := [⟨#[97]⟩, ⟨#[98, 49]⟩, ⟨#[95, 120]⟩, ⟨#[36]⟩, ⟨#[118, 97, 114]⟩, ⟨#[119, 105, 116, 104]⟩, ⟨#[48]⟩, ⟨#[49, 50]⟩, ⟨#[49, 50, 51, 52, 53, 54, 55, 56, 57, 48, 49, 50, 51, 52, 53]⟩, ⟨#[34, 116, 34]⟩, ⟨#[34, 92, 110, 92, 34, 34]⟩, ⟨#[61, 61, 61]⟩, ⟨#[61]⟩, ⟨#[61, 61]⟩, ⟨#[33]⟩, ⟨#[33, 61, 61]⟩, ⟨#[60]⟩, ⟨#[60, 61]⟩, ⟨#[38, 38]⟩, ⟨#[40]⟩, ⟨#[41]⟩, ⟨#[123]⟩, ⟨#[125]⟩, ⟨#[59]⟩, ⟨#[44]⟩, ⟨#[46]⟩, ⟨#[47, 47, 99, 10]⟩, ⟨#[10]⟩, ⟨#[9]⟩, ⟨#[47]⟩, ⟨#[37]⟩, ⟨#[63]⟩, ⟨#[58]⟩, ⟨#[105, 110]⟩, ⟨#[97, 98, 99, 100, 101, 102, 103, 104, 105, 106, 107, 108, 109, 110, 111, 112, 113, 114, 115, 116, 117]⟩]
def quotesL : List ByteArray := [⟨#[]⟩, ⟨#[97]⟩, ⟨#[34]⟩, ⟨#[92]⟩, ⟨#[10]⟩, ⟨#[97, 32, 98, 126]⟩, ⟨#[127]⟩, ⟨#[117, 115, 101, 32, 115, 116, 114, 105, 99, 116]⟩]
def brokenL : List ByteArray := [⟨#[48, 49]⟩, ⟨#[49, 97]⟩, ⟨#[49, 50, 51, 52, 53, 54, 55, 56, 57, 48, 49, 50, 51, 52, 53, 54]⟩, ⟨#[34]⟩, ⟨#[34, 92]⟩, ⟨#[34, 92, 113, 34]⟩, ⟨#[38]⟩, ⟨#[124]⟩, ⟨#[64]⟩, ⟨#[127]⟩, ⟨#[34, 10, 34]⟩]

theorem pick_of (S g n : Nat) (l : List ByteArray) (w : World) (hn : l.length = n) (hm : 2 ≤ n) (hm2 : n ≤ 1000000) (h : Src w S) (hg : RowS w g l) (hne : g ≠ S) :
    Calls Tryd.prog 17 #[.pointer (some ⟨S, 0, none⟩), .slice (some ⟨g, 0, none⟩) n n] w fun e w' => ∃ t : ByteArray, t ∈ l ∧ e = .returned (.string t) ∧ Src w' S ∧ Keep S w w' := by
  subst hn
  exact sPick S g l w hm hm2 h hg hne

set_option maxHeartbeats 1000000 in
theorem sPiece (S : Nat) (w : World) (h : Src w S) :
    Calls Tryd.prog 18 #[.pointer (some ⟨S, 0, none⟩)] w fun e w' => ∃ t : ByteArray, t.size ≤ 21 ∧ e = .returned (.string t) ∧ Src w' S ∧ Keep S w w' := by
  have hlt := h.lt
  have hs : ∀ o, Src (w.alloc o) S := fun o => h.below ((Below.refl _ _).alloc (Nat.le_refl _) o)
  have HS : Hid (∀ o, Src (w.alloc o) S) := hs
  clear h hs
  go_enter Tryd.func18, Tryd.ntmps18
  go_wp2_with fail
  refine (pick_of S w.heap.size 35 piecesL _ rfl (by omega) (by omega) (HS.out _) (heap_alloc_new _ _) (by omega)).mono ?_
  rintro e w1 ⟨t, ht, rfl, hs, hk⟩
  have hsz : t.size ≤ 21 := by
    have : ∀ x ∈ piecesL, x.size ≤ 21 := by decide
    exact this t ht
  go_wp2_with fail
  go_ret
  exact ⟨t, hsz, rfl, hs, ((Keep.refl S w).alloc _).trans hk⟩

theorem draw_new {w wr : World} {o : Obj} (h : Keep w.heap.size (w.alloc o) wr) : Below w.heap.size w wr :=
  ⟨h.os, h.tape, h.output, by have := h.size; rw [World.size_alloc] at this; omega, fun k hk => (h.block k (by rw [World.size_alloc]; omega) (by omega)).trans (Below.heap_alloc w o k hk)⟩

set_option maxHeartbeats 2000000 in
theorem sSource (a : Option Addr) (len cap : Nat) (cs : List UInt8) (w : World) (hl : cs.length = len) (hlb : len ≤ 1048576) (hB : BytesIn w a cs) :
    Calls Tryd.prog 15 #[.slice a len cap] w fun e w' => e = .returned (.pointer (some ⟨w.heap.size, 0, none⟩)) ∧ Src w' w.heap.size ∧ Below w.heap.size w w' := by
  have hfin : ∀ (wr : World) (o : Obj) (mix sz : Int), SrcAt wr w.heap.size a len cap 0 mix sz → Keep w.heap.size (w.alloc o) wr → Src wr w.heap.size ∧ Below w.heap.size w wr := by
    intro wr o mix sz h1 h2
    have hbel := draw_new h2
    refine ⟨⟨a, len, cap, 0, mix, sz, cs, h1, Nat.zero_le _, hl, hlb, ?_, ?_⟩, hbel⟩
    · rcases hB with h | ⟨b, o', e, hc⟩
      · exact .inl h
      · exact .inr ⟨b, o', e, fun i hi => by rw [hbel.cell (World.block_lt_of_cell? w _ (hc i hi))]; exact hc i hi⟩
    · intro ad e h0
      rcases hB with h | ⟨b, o', e', hc⟩
      · rw [h] at hl; simp at hl; omega
      · rw [e] at e'
        obtain rfl := Option.some.inj e'
        exact World.block_lt_of_cell? w _ (hc 0 (by omega))
  have HF : Hid (∀ (wr : World) (o : Obj) (mix sz : Int), SrcAt wr w.heap.size a len cap 0 mix sz → Keep w.heap.size (w.alloc o) wr → Src wr w.heap.size ∧ Below w.heap.size w wr) := hfin
  have HB : Hid (BytesIn w a cs) := hB
  clear hfin hB
  go_enter Tryd.func15, Tryd.ntmps15
  go_wp2_with fail
  generalize hO : Obj.cells #[Value.slice a len cap, .int .i64 0, .int .u64 88172645463325252, .int .i64 0] 60 = O
  have hS0 : SrcAt (w.alloc O) w.heap.size a len cap 0 88172645463325252 0 := by rw [← hO]; exact heap_alloc_new _ _
  clear hO
  go_loopw [4] (fun vi wr => ∃ (i : Nat) (mix : Int), i ≤ len ∧ i ≤ 64 ∧ vi = .int .i64 i ∧ SrcAt wr w.heap.size a len cap 0 mix 0 ∧ Keep w.heap.size (w.alloc O) wr) (fun vi _ => len - (intOf vi).toNat)
  case atStart => exact ⟨0, _, Nat.zero_le _, by omega, rfl, hS0, Keep.refl _ _⟩
  case round =>
    obtain ⟨i, mix, hi, hi2, rfl, hS, hK⟩ := hrel
    obtain ⟨⟨c0, c1, c2, c3⟩, f0, f1, f2, f3⟩ := hS.cells
    by_cases hlt : i < len ∧ i < 64
    · obtain ⟨l1, l2⟩ := hlt
      have l1' : (i : Int) < (len : Int) := by omega
      have l2' : (i : Int) < 64 := by omega
      obtain ⟨b, o, rfl, hc⟩ := HB.out.resolve_left (fun e => by simp [e] at hl; omega)
      have hb0 := hc i (by omega)
      have hbl := World.block_lt_of_cell? w _ hb0
      have hb1 : wr.cell? ⟨b, o + i, none⟩ = some (.int .u8 (cs[i].toNat : Int)) := by
        rw [(draw_new hK).cell hbl]; exact hb0
      clear hb0 hc
      generalize cs[i].toNat = ch at *
      go_wp2_with fail
      go_region
      have hS2 := fun m => hS.setMix m
      have hK2 := fun m => (hK.set 2 (.int .u64 m)).drew
      go_wp2_with fail
      exact ⟨⟨i + 1, _, by omega, by omega, by go_num, hS2 _, hK2 _⟩, by simp [intOf]; omega⟩
    · have hd : (decide ((i : Int) < (len : Int)) && decide ((i : Int) < 64)) = false := by simp; omega
      by_cases l1 : i < len
      · have l1' : (i : Int) < (len : Int) := by omega
        have l2' : ¬ (i : Int) < 64 := by omega
        go_wp2_with fail
        all_goals
          go_ret
          first
            | exact ⟨rfl, HF.out _ O _ _ ((hS.setSz _).setSz _) ((hK.set _ _).set _ _)⟩
            | exact ⟨rfl, HF.out _ O _ _ (hS.setSz _) (hK.set _ _)⟩
      · have l1' : ¬ (i : Int) < (len : Int) := by omega
        go_wp2_with fail
        all_goals
          go_ret
          first
            | exact ⟨rfl, HF.out _ O _ _ ((hS.setSz _).setSz _) ((hK.set _ _).set _ _)⟩
            | exact ⟨rfl, HF.out _ O _ _ (hS.setSz _) (hK.set _ _)⟩

theorem Tryd.infoByte : (Tryd.prog.info? 5).map (fun i => (i.zero, i.size, i.bytes)) = some (some (.int .u8 0), 1, 1) := by kernel_rfl

set_option maxHeartbeats 2000000 in
theorem sDrawQuote (a : Option Addr) (len cap : Nat) (cs : List UInt8) (w : World) (hl : cs.length = len) (hlb : len ≤ 1048576) (hB : BytesIn w a cs) :
    Calls Tryd.prog 5 #[.slice a len cap] w fun e w' => ∃ t : ByteArray, t.size ≤ 100 ∧ e = .returned (.string t) ∧ Below w.heap.size w w' := by
  have H : Hid _ := fun (_ : Unit) => sSource a len cap cs w hl hlb hB
  clear hB
  go_enter Tryd.func5, Tryd.ntmps5
  go_wp2_with fail
  refine (H.out ()).mono ?_
  rintro e w1 ⟨rfl, hs1, hb1⟩
  generalize hS : w.heap.size = S at *
  have H2 : Hid _ := fun (_ : Unit) => sOne S 15 w1 (by omega) (by omega) hs1
  have hb1' : Below w.heap.size w w1 := by rw [hS]; exact hb1
  clear hs1
  go_wp2_with fail
  refine (H2.out ()).mono ?_
  rintro e w2 ⟨bb, rfl, hs2, hk2⟩
  have hb2 : Below S w w2 := ⟨hk2.os.trans hb1.os, hk2.tape.trans hb1.tape, hk2.output.trans hb1.output, Nat.le_trans hb1.size hk2.size, fun k hk => (hk2.block k (by have := hb1.size; omega) (by omega)).trans (hb1.block k hk)⟩
  cases bb with
  | true =>
    have hmk : ∀ w : World, (Instr.makeSlice 22 (.int .i64 1) (.int .i64 1)).run Tryd.prog w = .ok (.slice (some ⟨w.heap.size, 0, none⟩) 1 1) (w.alloc (.cells (madeCells #[.int .u8 0] 1) 5)) := run_make_row' (P := Tryd.prog) 22 5 (.int .u8 0) 1 Tryd.underlying22 Tryd.infoByte rfl .i64 .i64 1 (by omega) (by omega)
    have hcv := conv_own (OwnB.new w2 w2.heap.size (Nat.le_refl _) [0] (by simp) (madeCells #[.int .u8 0] 1) (by simp [madeCells, BV]) 1 rfl)
    go_wp2_with fail
    go_ret
    exact ⟨_, by simp; decide, rfl, by rw [hS]; exact hb2.alloc (by have := hb2.size; omega) _⟩
  | false =>
    have hs3 := fun o => hs2.below ((Below.refl w2.heap.size w2).alloc (Nat.le_refl _) o)
    have HS3 : Hid _ := hs3
    have hlt := hs2.lt
    clear hs2 hs3
    go_wp2_with fail
    refine (pick_of S w2.heap.size 8 quotesL _ rfl (by omega) (by omega) (HS3.out _) (heap_alloc_new _ _) (by omega)).mono ?_
    rintro e w3 ⟨t, ht, rfl, hs4, hk4⟩
    have hsz : t.size ≤ 10 := by
      have : ∀ x ∈ quotesL, x.size ≤ 10 := by decide
      exact this t ht
    have hb3 : Below S w w3 := by
      have hk5 := ((Keep.refl S w2).alloc _).trans hk4
      exact ⟨hk5.os.trans hb2.os, hk5.tape.trans hb2.tape, hk5.output.trans hb2.output, Nat.le_trans hb2.size hk5.size, fun k hk => (hk5.block k (by have := hb2.size; omega) (by omega)).trans (hb2.block k hk)⟩
    have H4 : Hid _ := fun (_ : Unit) => sPiece S w3 hs4
    clear hs4 hk4
    go_wp2_with fail
    refine (H4.out ()).mono ?_
    rintro e w4 ⟨t2, hsz2, rfl, hs5, hk5⟩
    have hb4 : Below S w w4 := ⟨hk5.os.trans hb3.os, hk5.tape.trans hb3.tape, hk5.output.trans hb3.output, Nat.le_trans hb3.size hk5.size, fun k hk => (hk5.block k (by have := hb3.size; omega) (by omega)).trans (hb3.block k hk)⟩
    go_wp2_with fail
    go_ret
    exact ⟨t ++ t2, by simp; omega, rfl, by rw [hS]; exact hb4⟩

def strOf : Value → ByteArray
  | .string s => s
  | _ => ⟨#[]⟩
theorem keep_below {S : Nat} {w w1 w2 : World} (hb : Below S w w1) (hw : w.heap.size = S) (hk : Keep S w1 w2) : Below S w w2 :=
  ⟨hk.os.trans hb.os, hk.tape.trans hb.tape, hk.output.trans hb.output, Nat.le_trans hb.size hk.size, fun k hk' => (hk.block k (by have := hb.size; omega) (by omega)).trans (hb.block k hk')⟩

set_option maxHeartbeats 4000000 in
theorem sDrawTokens (a : Option Addr) (len cap : Nat) (cs : List UInt8) (w : World) (hl : cs.length = len) (hlb : len ≤ 1048576) (hB : BytesIn w a cs) :
    Calls Tryd.prog 9 #[.slice a len cap] w fun e w' => ∃ t : ByteArray, t.size ≤ 3000 ∧ e = .returned (.string t) ∧ Below w.heap.size w w' := by
  have H : Hid _ := fun (_ : Unit) => sSource a len cap cs w hl hlb hB
  clear hB
  go_enter Tryd.func9, Tryd.ntmps9
  go_wp2_with fail
  refine (H.out ()).mono ?_
  rintro e w1 ⟨rfl, hs1, hb1⟩
  have HF : Hid (∀ W, Below w.heap.size w W → Below w.heap.size w W) := fun _ h => h
  generalize hS : w.heap.size = S at *
  have H2 : Hid _ := fun (_ : Unit) => sNs S 12 w1 (by omega) (by omega) hs1
  clear hs1
  go_wp2_with fail
  refine (H2.out ()).mono ?_
  rintro e w2 ⟨k0, rfl, hk0, hs2, hk2⟩
  have hb2 := keep_below hb1 hS hk2
  clear hk2 hb1 H H2
  go_wp2_with fail
  go_loopw [4, 5] (fun vt vk wr => ∃ (k : Nat) (t : ByteArray), vk = .int .i64 k ∧ vt = .string t ∧ k ≤ 11 ∧ t.size + 22 * k ≤ 242 ∧ Src wr S ∧ Below S w wr) (fun _ vk _ => (intOf vk).toNat)
  case atStart => exact ⟨k0, ⟨#[]⟩, rfl, rfl, by omega, by show 0 + _ ≤ _; omega, hs2, hb2⟩
  case round =>
    clear hs2 hb2 hk0
    obtain ⟨k, t, rfl, rfl, hk, hts, hs, hb⟩ := hrel
    by_cases hpos : 0 < k
    · have hpos' : (0 : Int) < (k : Int) := by omega
      have H3 : Hid _ := fun (_ : Unit) => sPiece S wr hs
      clear hs
      go_wp2_with fail
      refine (H3.out ()).mono ?_
      rintro e w3 ⟨t2, hsz2, rfl, hs3, hk3⟩
      have hb3 := keep_below hb hS hk3
      have H4 : Hid _ := fun (_ : Unit) => sOne S 3 w3 (by omega) (by omega) hs3
      clear hs3 hk3
      go_wp2_with fail
      refine (H4.out ()).mono ?_
      rintro e w4 ⟨bb, rfl, hs4, hk4⟩
      have hb4 := keep_below hb3 hS hk4
      clear hk4
      cases bb with
      | true =>
        go_wp2_with fail
        exact ⟨⟨k - 1, t ++ t2, by congr 1; omega, rfl, by omega, by simp; omega, hs4, hb4⟩, by simp [intOf]; omega⟩
      | false =>
        go_wp2_with fail
        exact ⟨⟨k - 1, (t ++ t2) ++ ⟨#[32]⟩, by congr 1; omega, rfl, by omega, by have e1 : (⟨#[32]⟩ : ByteArray).size = 1 := rfl; simp only [ByteArray.size_append]; omega, hs4, hb4⟩, by simp [intOf]; omega⟩
    · have hk00 : k = 0 := by omega
      subst hk00
      have H3 : Hid _ := fun (_ : Unit) => sOne S 10 wr (by omega) (by omega) hs
      clear hs
      go_wp2_with fail
      refine (H3.out ()).mono ?_
      rintro e w3 ⟨bb, rfl, hs3, hk3⟩
      have hb3 := keep_below hb hS hk3
      clear hk3 hb
      cases bb with
      | false =>
        have H5 : Hid _ := fun (_ : Unit) => sOne S 40 w3 (by omega) (by omega) hs3
        clear hs3
        go_wp2_with fail
        refine (H5.out ()).mono ?_
        rintro e w6 ⟨cc, rfl, hs6, hk6⟩
        have hb6 := keep_below hb3 hS hk6
        clear hk6 hs6
        cases cc with
        | false =>
          go_wp2_with fail
          go_ret
          exact ⟨_, by omega, rfl, by rw [hS]; exact hb6⟩
        | true =>
          have htz : (t).size ≤ 1000 := by omega
          go_wp2_with fail
          go_loopw [4] (fun vt wr => ∃ t : ByteArray, vt = .string t ∧ t.size ≤ 1807 ∧ Below S w wr) (fun vt _ => 1807 - (strOf vt).size)
          case atStart => exact ⟨_, rfl, by omega, hb6⟩
          case round =>
            clear hb6 htz
            obtain ⟨t3, rfl, ht3, hb7⟩ := hrel
            by_cases hlt : t3.size < 1800
            · have hlt' : (t3.size : Int) < 1800 := by omega
              go_wp2_with fail
              exact ⟨⟨t3 ++ ⟨#[59, 32, 59, 32, 59, 59, 59]⟩, rfl, by have e1 : (⟨#[59, 32, 59, 32, 59, 59, 59]⟩ : ByteArray).size = 7 := rfl; simp only [ByteArray.size_append]; omega, hb7⟩, by have e1 : (⟨#[59, 32, 59, 32, 59, 59, 59]⟩ : ByteArray).size = 7 := rfl; simp only [strOf, ByteArray.size_append]; omega⟩
            · have hlt' : ¬ (t3.size : Int) < 1800 := by omega
              go_wp2_with fail
              go_ret
              exact ⟨t3, by omega, rfl, hb7⟩
      | true =>
        have hs4 := fun o => hs3.below ((Below.refl w3.heap.size w3).alloc (Nat.le_refl _) o)
        have HS4 : Hid _ := hs4
        have hlt := hs3.lt
        clear hs3 hs4
        go_wp2_with fail
        refine (pick_of S w3.heap.size 11 brokenL _ rfl (by omega) (by omega) (HS4.out _) (heap_alloc_new _ _) (by omega)).mono ?_
        rintro e w5 ⟨t2, ht2, rfl, hs5, hk5⟩
        have hsz : t2.size ≤ 16 := by
          have : ∀ x ∈ brokenL, x.size ≤ 16 := by decide
          exact this t2 ht2
        have hb5 := keep_below hb3 hS (((Keep.refl S w3).alloc _).trans hk5)
        clear hk5 hlt
        have H5 : Hid _ := fun (_ : Unit) => sOne S 40 w5 (by omega) (by omega) hs5
        clear hs5
        go_wp2_with fail
        refine (H5.out ()).mono ?_
        rintro e w6 ⟨cc, rfl, hs6, hk6⟩
        have hb6 := keep_below hb5 hS hk6
        clear hk6 hs6
        cases cc with
        | false =>
          go_wp2_with fail
          go_ret
          exact ⟨_, by simp only [ByteArray.size_append]; omega, rfl, by rw [hS]; exact hb6⟩
        | true =>
          have htz : (t ++ t2).size ≤ 1000 := by simp only [ByteArray.size_append]; omega
          go_wp2_with fail
          go_loopw [4] (fun vt wr => ∃ t : ByteArray, vt = .string t ∧ t.size ≤ 1807 ∧ Below S w wr) (fun vt _ => 1807 - (strOf vt).size)
          case atStart => exact ⟨_, rfl, by omega, hb6⟩
          case round =>
            clear hb6 htz
            obtain ⟨t3, rfl, ht3, hb7⟩ := hrel
            by_cases hlt : t3.size < 1800
            · have hlt' : (t3.size : Int) < 1800 := by omega
              go_wp2_with fail
              exact ⟨⟨t3 ++ ⟨#[59, 32, 59, 32, 59, 59, 59]⟩, rfl, by have e1 : (⟨#[59, 32, 59, 32, 59, 59, 59]⟩ : ByteArray).size = 7 := rfl; simp only [ByteArray.size_append]; omega, hb7⟩, by have e1 : (⟨#[59, 32, 59, 32, 59, 59, 59]⟩ : ByteArray).size = 7 := rfl; simp only [strOf, ByteArray.size_append]; omega⟩
            · have hlt' : ¬ (t3.size : Int) < 1800 := by omega
              go_wp2_with fail
              go_ret
              exact ⟨t3, by omega, rfl, hb7⟩

end Go.Proofs.YtpabbadngpjgoaaDoor

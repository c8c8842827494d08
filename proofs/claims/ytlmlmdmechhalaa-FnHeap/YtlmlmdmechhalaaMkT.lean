/-
  The walk of the law's markText.
-/
import Derived.Test.YtlmlmdmechhalaaHpToO
import Derived.Laws.AppendOwn
import Derived.Maps.AppendAt
import Derived.Laws.BytesString
import Derived.Deep.OwnRows
namespace Go.Proofs.Ytlmlmdmechhalaa
open Go.RowKit

def BV (b : UInt8) : Value := .int .u8 (b.toNat : Int)
theorem BV_eq (b : UInt8) : BV b = .int .u8 (b.toNat : Int) := rfl

/-- The slice value v owns, among the blocks from B on, the bytes l. -/
def OwnB (w : World) (B : Nat) (v : Value) (l : List UInt8) : Prop := w.ownsRow B 5 1 v l.length (l.map BV)

theorem Try.info8 : (Try.prog.info? 5).map (fun i => (i.zero, i.size, i.bytes)) = some (some (.int .u8 0), 1, 1) := by kernel_rfl

theorem OwnB.alloc {w : World} {B : Nat} {v : Value} {l : List UInt8} (h : OwnB w B v l) (o : Obj) : OwnB (w.alloc o) B v l := World.ownsRow.alloc h o

theorem OwnB.nil (w : World) (B : Nat) : OwnB w B (.slice none 0 0) [] := World.ownsRow_nil _ _ _ _

theorem add_none (g j : Nat) : (⟨g, 0, none⟩ : Addr).add j = ⟨g, j, none⟩ := by unfold Addr.add; split <;> simp_all

/-- A new block owns its cells. -/
theorem OwnB.new (w : World) (B : Nat) (hB : B ≤ w.heap.size) (l : List UInt8) (hl : l.length ≤ 1000) (c : Array Value) (hc : c.toList = l.map BV) (n : Nat) (hn : n = l.length) :
    OwnB (w.alloc (.cells c 5)) B (.slice (some ⟨w.heap.size, 0, none⟩) n n) l := by
  subst hn
  have hs : c.size = l.length := by rw [← Array.length_toList, hc, List.length_map]
  refine ⟨by simp, .inr ⟨w.heap.size, l.length, c, rfl, hB, heap_alloc_new w _, Nat.le_refl _, by unfold maxLen; omega, by omega, ?_⟩⟩
  rw [hc, List.take_of_length_le (by simp)]

theorem new_cells (w : World) (c : Array Value) (t : TypeId) (j : Nat) (u : Value) (h : c.toList[j]? = some u) : (w.alloc (.cells c t)).cell? ((⟨w.heap.size, 0, none⟩ : Addr).add j) = some u := by
  rw [add_none, World.cell?_alloc_new]; simpa using h

/-- 'out = append(out, ..)', out a slice of bytes of the call's own. -/
theorem app_own {w : World} {ops : Array Oper} {rest : List Oper} {o : Oper} {a : Act} {Q : Exit → Act → World → Prop} (hgd : o.guard = none) (s x : Operand)
    (ho : o.op = .call { callee := .builtin .append, args := #[s, x], argTypes := #[22, 22] })
    (B : Nat) (v : Value) (l : List UInt8) (hs : a.eval s = v) (hown : OwnB w B v l)
    (ad : Addr) (m : Nat) (news : List UInt8) (hx : a.eval x = .slice (some ad) m m) (hm : news.length = m)
    (hnews : ∀ j u, (news.map BV)[j]? = some u → w.cell? (ad.add j) = some u)
    (hlen : l.length + m ≤ 100000000) (hB : B ≤ w.heap.size)
    (h : ∀ v' w', OwnB w' B v' (l ++ news) → Below B w w' → wpList Try.prog ops Q rest (a.put o.dst v') w') : wpList Try.prog ops Q (o :: rest) a w := by
  obtain ⟨i0, hi, hz0, hz1, hz2⟩ := info_parts Try.info8
  refine wpList_append_own w hgd s x 22 ho B 5 i0 (.int .u8 0) 1 1 Try.underlying22 hi hz0 hz1 hz2 rfl (by decide) v l.length (l.map BV) hs hown ad m m (news.map BV) hx (by simp [hm]) hnews
    (fun u hu => by obtain ⟨b, _, rfl⟩ := List.mem_map.1 hu; rfl) (by unfold maxLen; omega) (by omega) hB (fun v' w' h1 h2 _ => h v' w' ?_ ?_)
  · unfold OwnB; rw [List.length_append, hm, List.map_append]; exact h1
  · exact (Below.refl B w).grown h2 hB (fun k hk => (World.ownsRow.lt hown k hk).1)

/-- 'string(out)'. -/
theorem conv_own {w : World} {B : Nat} {v : Value} {l : List UInt8} (h : OwnB w B v l) :
    (convert 22 9 v).run Try.prog w = .ok (.string ⟨l.toArray⟩) w := by
  rcases h.2 with ⟨rfl, h0⟩ | ⟨g, cap, cur, rfl, hb, hg, _, _, hcur, htake⟩
  · rw [run_convert_bytes_nil w 22 5 Try.underlying22 Try.underlying5 0 0 9 Try.underlying9]
    obtain rfl := List.length_eq_zero_iff.1 h0
    rfl
  · refine run_convert_bytes_back w 22 9 5 ⟨g, 0, none⟩ cap l Try.underlying22 Try.underlying5 Try.underlying9 fun j hj => ?_
    refine World.ownsRow.cells h (g := g) rfl j _ ?_
    simp [BV, hj]


def digU (m : Nat) : UInt8 := UInt8.ofNat (48 + m % 10)
/-- The digits of k ahead of what is there. -/
def mtL (k : Nat) (out : List UInt8) : List UInt8 := if _h : k = 0 then out else mtL (k / 10) (digU k :: out)
termination_by k
decreasing_by omega
theorem mtL_zero (out : List UInt8) : mtL 0 out = out := by rw [mtL, dif_pos rfl]
theorem mtL_pos (k : Nat) (out : List UInt8) (h : k ≠ 0) : mtL k out = mtL (k / 10) (digU k :: out) := by rw [mtL, dif_neg h]
theorem ba_cons (b : UInt8) (out : List UInt8) : (⟨#[b]⟩ : ByteArray) ++ ⟨out.toArray⟩ = ⟨(b :: out).toArray⟩ := by
  apply ByteArray.ext
  simp
theorem dig_val (m : Nat) : (#[Value.int .u8 (48 + (m : Int) % 10)]).toList = [digU m].map BV := by
  have e : (48 + (m : Int) % 10) = ((digU m).toNat : Int) := by unfold digU; rw [UInt8.toNat_ofNat']; omega
  rw [e]; rfl
def mT (k : Nat) : ByteArray := ⟨(109 :: mtL k []).toArray⟩

set_option maxHeartbeats 2000000 in
set_option maxRecDepth 100000 in
theorem lMarkText (k : Nat) (w : World) (hk : 1 ≤ k) (hk2 : k ≤ 100000000) :
    Calls Try.prog 63 #[.int .i64 k] w fun e w' => e = .returned (.string (mT k)) ∧ Below w.heap.size w w' := by
  have hk' : ¬ (k : Int) ≤ 0 := by omega
  have hkd : decide ((k : Int) ≤ 0) = false := by simp; omega
  obtain ⟨K, hK⟩ : ∃ K, K = mtL k [] := ⟨_, rfl⟩
  have HK : Hid (K = mtL k []) := hK
  clear hK
  go_enter Try.func63, Try.ntmps63
  go_wp2
  go_loopw [0, 3] (fun vk vo wr => ∃ (m : Nat) (out : List UInt8), m + out.length ≤ k ∧ vk = .int .i64 m ∧ vo = .string ⟨out.toArray⟩ ∧ Below w.heap.size w wr ∧ Hid (mtL m out = K)) (fun vk _ _ => (intOf vk).toNat)
  case atStart => exact ⟨k, [], by simp, rfl, rfl, Below.refl _ _, HK.out.symm⟩
  case round =>
    obtain ⟨m, out, hm, rfl, rfl, hb, HM⟩ := hrel
    by_cases h0 : m = 0
    · subst h0
      have HV : Hid (out = K) := by show _ = _; rw [← HM.out, mtL_zero]
      go_wp2
      go_ret
      refine ⟨?_, hb⟩
      have e : (⟨#[109]⟩ : ByteArray) ++ ⟨out.toArray⟩ = mT k := by
        unfold mT; rw [← HK.out, ← HV.out]; exact ba_cons 109 out
      exact congrArg (fun x => Ending.returned (.string x)) e
    · have h0' : (0 : Int) < (m : Int) := by omega
      have hcv := conv_own (OwnB.new wr wr.heap.size (Nat.le_refl _) [digU m] (by simp) #[.int .u8 (48 + (m : Int) % 10)] (dig_val m) 1 rfl)
      have HN : Hid (mtL (m / 10) (digU m :: out) = K) := by show _ = _; rw [← mtL_pos m out h0]; exact HM.out
      have hsz := hb.size
      go_wp2_with fail
      refine ⟨⟨m / 10, digU m :: out, by simp; omega, congrArg (Value.int .i64) (by omega), ?_, hb.alloc hsz _, HN⟩, by simp [intOf]; omega⟩
      exact congrArg Value.string (ba_cons _ out)

end Go.Proofs.Ytlmlmdmechhalaa

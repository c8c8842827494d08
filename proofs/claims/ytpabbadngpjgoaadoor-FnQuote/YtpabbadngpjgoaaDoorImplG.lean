/-
  impl's tokenOf at the token that tokenEnd tells; rows of tokens that a call itself makes.
-/
import Derived.Test.YtpabbadngpjgoaaDoorImplF
namespace Go.Proofs.YtpabbadngpjgoaaDoor
open Go.RowKit

theorem iTokenOf (s : ByteArray) (i : Nat) (w : World) (hs : s.size ≤ 4000) (hi : i < s.size) (hk : Lex.teK s i ≠ 0) :
    Calls Tryd.prog 23 #[.int .i64 (Lex.teK s i), .string (s.extract i (Lex.teE s i))] w fun e w' =>
      e = .returned (.agg (tokC (Lex.tokOf s i).kind (Lex.tokOf s i).text (Lex.tokOf s i).num false 0)) ∧ Below w.heap.size w w' := by
  obtain ⟨_, h1, h2, hkk⟩ := Lex.tok_some s i hi hk
  have hsz : (s.extract i (Lex.teE s i)).size ≤ 5000 := by rw [Lex.ext_size s i _ h2]; omega
  rcases hkk with k | k | k | k
  · have e : Lex.tokOf s i = ⟨if Lex.wordB (s.extract i (Lex.teE s i)) = true then 2 else 1, s.extract i (Lex.teE s i), 0⟩ := by unfold Lex.tokOf; rw [if_pos k]
    rw [e, k]
    exact iTokName _ w hsz
  · have e : Lex.tokOf s i = ⟨3, ⟨#[]⟩, Lex.numL (Lex.cutL s i (Lex.teE s i))⟩ := by unfold Lex.tokOf; rw [if_neg (by omega), if_pos k]
    rw [e, k, ← Lex.ext_data]
    have hd : Lex.digB (Lex.bAt s i) = true := by
      by_cases g : Lex.digB (Lex.bAt s i) = true
      · exact g
      · exfalso
        unfold Lex.teK at k
        rw [if_neg (by omega), if_neg g] at k
        split at k
        · split at k <;> omega
        · split at k
          · split at k <;> omega
          · split at k <;> omega
    have he := Lex.te_num s i (by omega) hd
    have hK := Lex.te_numK s i (by omega) hd
    rw [k] at hK
    have hok : Lex.numOk (s.extract i (Lex.digEnd s i)) = true := by
      split at hK
      · rename_i g; exact g.1
      · omega
    refine iTokNum _ w ?_ ?_
    · rw [he]; exact (of_decide_eq_true hok).1
    · intro c hc
      rw [List.mem_iff_getElem] at hc
      obtain ⟨n, hn, rfl⟩ := hc
      have hn' : n < (s.extract i (Lex.teE s i)).size := hn
      have := Lex.ext_get s i (Lex.teE s i) h2 n hn'
      have hb : n < Lex.teE s i - i := by rw [Lex.ext_size s i _ h2] at hn'; exact hn'
      have := Lex.digEnd_all s i (i + n) (by omega) (by rw [← he]; omega)
      rw [← Lex.ext_get s i (Lex.teE s i) h2 n hn'] at this
      exact this
  · have e : Lex.tokOf s i = ⟨4, ⟨(Lex.txtVal s (i + 1)).toArray⟩, 0⟩ := by unfold Lex.tokOf; rw [if_neg (by omega), if_neg (by omega), if_pos k]
    have h34 : Lex.bAt s i = 34 ∧ Lex.bAt s (Lex.txtEnd s (i + 1)) = 34 := by
      unfold Lex.teK at k
      rw [if_neg (by omega)] at k
      split at k
      · split at k <;> omega
      · split at k
        · split at k <;> omega
        · split at k
          · rename_i g
            split at k
            · rename_i g2; exact ⟨g, g2⟩
            · omega
          · split at k <;> omega
    have he := (Lex.te_text s i (by omega) h34.1 h34.2).2
    have hE := Lex.txtEnd_bd s (i + 1) (by omega)
    have hlt := Lex.bAt_lt s (Lex.txtEnd s (i + 1)) (by omega)
    rw [e, k]
    exact iTokText s i (Lex.txtEnd s (i + 1)) _ w (by omega) rfl (by omega) hlt (by rw [Lex.ext_size s i _ h2, he]) (fun n hn => Lex.ext_get s i _ h2 n hn)
  · have e : Lex.tokOf s i = ⟨5, s.extract i (Lex.teE s i), 0⟩ := by unfold Lex.tokOf; rw [if_neg (by omega), if_neg (by omega), if_neg (by omega)]
    rw [e, k]
    exact iTokMark _ w hsz

def tfC (t : Lex.TokF) : List Value := [.int .i64 t.kind, .string t.text, .int .i64 t.num, .bool t.line, .int .i64 t.at']
/-- The slice value v owns, among the blocks from B on, the tokens l. -/
def OwnT (w : World) (B : Nat) (v : Value) (l : List Lex.TokF) : Prop := w.ownsRow B 30 5 v l.length (l.flatMap tfC)
def zTok : Value := .agg #[.int .i64 0, .string ⟨#[]⟩, .int .i64 0, .bool false, .int .i64 0]
theorem Tryd.infoTok : (Tryd.prog.info? 30).map (fun i => (i.zero, i.size, i.bytes)) = some (some zTok, 5, 48) := by kernel_rfl

theorem OwnT.alloc {w : World} {B : Nat} {v : Value} {l : List Lex.TokF} (h : OwnT w B v l) (o : Obj) : OwnT (w.alloc o) B v l := World.ownsRow.alloc h o
theorem OwnT.nil (w : World) (B : Nat) : OwnT w B (.slice none 0 0) [] := World.ownsRow_nil _ _ _ _
theorem OwnT.shape {w : World} {B : Nat} {v : Value} {l : List Lex.TokF} (h : OwnT w B v l) : ∃ a cap, v = .slice a l.length cap := by
  rcases h.2 with ⟨rfl, h0⟩ | ⟨g, cap, cur, rfl, _⟩
  · exact ⟨none, 0, by rw [h0]⟩
  · exact ⟨_, cap, rfl⟩
/-- What is owned stays so where its blocks stay. -/
theorem OwnT.keep {w w' : World} {B : Nat} {v : Value} {l : List Lex.TokF} (h : OwnT w B v l) (hk : Below w.heap.size w w') : OwnT w' B v l := by
  refine ⟨h.1, ?_⟩
  rcases h.2 with hn | ⟨g, cap, cur, rfl, hb, hg, rest⟩
  · exact .inl hn
  · exact .inr ⟨g, cap, cur, rfl, hb, (hk.block g (Array.getElem?_eq_some_iff.1 hg).1).trans hg, rest⟩

/-- 'out = append(out, t)', out a slice of tokens of the call's own. -/
theorem app_tok {w : World} {ops : Array Oper} {rest : List Oper} {o : Oper} {a : Act} {Q : Exit → Act → World → Prop} (hgd : o.guard = none) (s x : Operand)
    (ho : o.op = .call { callee := .builtin .append, args := #[s, x], argTypes := #[25, 25] })
    (B : Nat) (v : Value) (l : List Lex.TokF) (hs : a.eval s = v) (hown : OwnT w B v l)
    (ad : Addr) (t : Lex.TokF) (hx : a.eval x = .slice (some ad) 1 1)
    (hnews : ∀ j u, (tfC t)[j]? = some u → w.cell? (ad.add j) = some u)
    (hlen : l.length ≤ 1000000) (hB : B ≤ w.heap.size)
    (h : ∀ v' w', OwnT w' B v' (l ++ [t]) → Below B w w' → wpList Tryd.prog ops Q rest (a.put o.dst v') w') : wpList Tryd.prog ops Q (o :: rest) a w := by
  obtain ⟨i0, hi, hz0, hz1, hz2⟩ := info_parts Tryd.infoTok
  refine wpList_append_own w hgd s x 25 ho B 30 i0 zTok 5 48 Tryd.underlying25 hi hz0 hz1 hz2 rfl (by decide) v l.length (l.flatMap tfC) hs hown ad 1 1 (tfC t) hx rfl hnews
    (fun u hu => by simp only [tfC, List.mem_cons, List.not_mem_nil, or_false] at hu; rcases hu with rfl | rfl | rfl | rfl | rfl <;> rfl) (by unfold maxLen; omega) (by omega) hB (fun v' w' h1 h2 _ => h v' w' ?_ ?_)
  · unfold OwnT; rw [List.length_append, List.flatMap_append]; simpa using h1
  · exact (Below.refl B w).grown h2 hB (fun k hk => (World.ownsRow.lt hown k hk).1)

end Go.Proofs.YtpabbadngpjgoaaDoor

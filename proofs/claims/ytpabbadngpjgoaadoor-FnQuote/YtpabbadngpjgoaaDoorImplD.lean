/-
  The walk of impl's tokenEnd: a machine of gotos over five labels.
-/
import Derived.Test.YtpabbadngpjgoaaDoorImplC
namespace Go.Proofs.YtpabbadngpjgoaaDoor
open Go.RowKit

/-- As Q; by a goto to label l: J l. -/
def Exit.jumps (J : Nat → Act → World → Prop) (Q : Exit → Act → World → Prop) : Exit → Act → World → Prop
  | .goto l, a, w => J l a w
  | e, a, w => Q e a w

/-- A scope in which the run jumps to labels: what holds at each jump, and a measure that each pass lowers. -/
theorem wp_scope_many {P : Program} {a : Act} {w : World} {Q : Exit → Act → World → Prop} {c : Code} (J : Nat → Act → World → Prop) (μ : Nat → Act → World → Nat)
    (first : c.wp P (Exit.jumps J Q) a w)
    (pass : ∀ l a w, J l a w → ∃ rest, findLabel c l = some rest ∧ rest.wp P (Exit.jumps (fun l' a' w' => J l' a' w' ∧ μ l' a' w' < μ l a w) Q) a w) : (Code.scope c).wp P Q a w := by
  intro b k cs
  have key : ∀ n l a w rest, findLabel c l = some rest → μ l a w = n → J l a w → ∃ e a' w', Q e a' w' ∧ Arrives P (lone (b.at a (.code rest :: .inScope c :: k)) cs w) b k cs e a' w' := by
    intro n
    induction n using Nat.strongRecOn with
    | _ n ih =>
      intro l a w rest hrest hn hJ
      obtain ⟨rest', hr', hp⟩ := pass l a w hJ
      obtain rfl : rest' = rest := Option.some.inj (hr'.symm.trans hrest)
      obtain ⟨e, a₁, w₁, hq, harr⟩ := hp b (.inScope c :: k) cs
      cases e with
      | normal => exact ⟨.normal, a₁, w₁, hq, Steps.trans harr (.one step_inScope)⟩
      | exit id => exact ⟨.exit id, a₁, w₁, hq, fun k' hk => harr k' (by simp [exitTo, hk])⟩
      | goto l' =>
        obtain ⟨hJ', hlt⟩ := hq
        obtain ⟨rest2, hr2, _⟩ := pass l' a₁ w₁ hJ'
        obtain ⟨e₂, a₂, w₂, hq₂, harr₂⟩ := ih _ (by omega) l' a₁ w₁ rest2 hr2 rfl hJ'
        exact ⟨e₂, a₂, w₂, hq₂, .of_steps (harr _ (by simp [gotoIn, hr2])) harr₂⟩
      | ret => exact ⟨_, a₁, w₁, hq, harr⟩
      | panic ch => exact ⟨_, a₁, w₁, hq, harr⟩
      | outgrown => exact ⟨_, a₁, w₁, hq, harr⟩
  obtain ⟨e, a₁, w₁, hq, harr⟩ := first b (.inScope c :: k) cs
  cases e with
  | normal => exact ⟨.normal, a₁, w₁, hq, .head step_scope (Steps.trans harr (.one step_inScope))⟩
  | exit id => exact ⟨.exit id, a₁, w₁, hq, fun k' hk => .head step_scope (harr k' (by simp [exitTo, hk]))⟩
  | goto l' =>
    have hJ' : J l' a₁ w₁ := hq
    obtain ⟨rest2, hr2, _⟩ := pass l' a₁ w₁ hJ'
    obtain ⟨e₂, a₂, w₂, hq₂, harr₂⟩ := key _ l' a₁ w₁ rest2 hr2 rfl hJ'
    exact ⟨e₂, a₂, w₂, hq₂, .of_steps (.head step_scope (harr _ (by simp [gotoIn, hr2]))) harr₂⟩
  | ret => exact ⟨_, a₁, w₁, hq, .of_steps (.one step_scope) harr⟩
  | panic ch => exact ⟨_, a₁, w₁, hq, .of_steps (.one step_scope) harr⟩
  | outgrown => exact ⟨_, a₁, w₁, hq, .of_steps (.one step_scope) harr⟩

/-- The frame of tokenEnd: the text, the place, the kind, the end; all else is whatever. -/
def FrTE (a : Act) (s : ByteArray) (i : Nat) (k e : Int) : Prop := ∃ u6 u7 u8 u9 u10 u11 u12 u13 u14 u15 u16 u17 u18 u19 u20 u21 u22 u23 u24 u25 u26 u27 u28 u29 u30 u31 u32 u33 u34 u35 u36 u37 u38 u39 u40 u41 u42 u43 u44 u45 u46 u47 u48 u49 u50 u51 u52 u53 u54 u55 u56 u57 u58 u59 u60 u61 u62 u63 u64 u65 u66 u67 u68 u69 u70 u71 u72 u73 u74 u75 u76 u77 u78 u79 u80 u81 : Value, a = { tmps := #[.string s, .int .i64 i, undef, undef, .int .i64 k, .int .i64 e, u6, u7, u8, u9, u10, u11, u12, u13, u14, u15, u16, u17, u18, u19, u20, u21, u22, u23, u24, u25, u26, u27, u28, u29, u30, u31, u32, u33, u34, u35, u36, u37, u38, u39, u40, u41, u42, u43, u44, u45, u46, u47, u48, u49, u50, u51, u52, u53, u54, u55, u56, u57, u58, u59, u60, u61, u62, u63, u64, u65, u66, u67, u68, u69, u70, u71, u72, u73, u74, u75, u76, u77, u78, u79, u80, u81], defers := [] }
theorem frTE {s : ByteArray} {i : Nat} {k e k' e' : Int} {u6 u7 u8 u9 u10 u11 u12 u13 u14 u15 u16 u17 u18 u19 u20 u21 u22 u23 u24 u25 u26 u27 u28 u29 u30 u31 u32 u33 u34 u35 u36 u37 u38 u39 u40 u41 u42 u43 u44 u45 u46 u47 u48 u49 u50 u51 u52 u53 u54 u55 u56 u57 u58 u59 u60 u61 u62 u63 u64 u65 u66 u67 u68 u69 u70 u71 u72 u73 u74 u75 u76 u77 u78 u79 u80 u81 : Value} (hk : k = k') (he : e = e') : FrTE { tmps := #[.string s, .int .i64 i, undef, undef, .int .i64 k, .int .i64 e, u6, u7, u8, u9, u10, u11, u12, u13, u14, u15, u16, u17, u18, u19, u20, u21, u22, u23, u24, u25, u26, u27, u28, u29, u30, u31, u32, u33, u34, u35, u36, u37, u38, u39, u40, u41, u42, u43, u44, u45, u46, u47, u48, u49, u50, u51, u52, u53, u54, u55, u56, u57, u58, u59, u60, u61, u62, u63, u64, u65, u66, u67, u68, u69, u70, u71, u72, u73, u74, u75, u76, u77, u78, u79, u80, u81], defers := [] } s i k' e' := by
  subst hk he; exact ⟨u6, u7, u8, u9, u10, u11, u12, u13, u14, u15, u16, u17, u18, u19, u20, u21, u22, u23, u24, u25, u26, u27, u28, u29, u30, u31, u32, u33, u34, u35, u36, u37, u38, u39, u40, u41, u42, u43, u44, u45, u46, u47, u48, u49, u50, u51, u52, u53, u54, u55, u56, u57, u58, u59, u60, u61, u62, u63, u64, u65, u66, u67, u68, u69, u70, u71, u72, u73, u74, u75, u76, u77, u78, u79, u80, u81, rfl⟩

/-- What holds at the label l. -/
def JTE (s : ByteArray) (i : Nat) (w0 : World) (l : Nat) (a : Act) (w : World) : Prop := w = w0 ∧
  ((l = 0 ∧ FrTE a s i (Lex.teK s i) (Lex.teE s i)) ∨
   (l = 1 ∧ Lex.digB (Lex.bAt s i) = true ∧ ∃ j : Nat, i ≤ j ∧ j < s.size ∧ Lex.digEnd s (j + 1) = Lex.digEnd s i ∧ FrTE a s i 0 j) ∨
   (l = 2 ∧ Lex.digB (Lex.bAt s i) = false ∧ Lex.letB (Lex.bAt s i) = true ∧ ∃ j : Nat, i ≤ j ∧ j < s.size ∧ Lex.letEnd s (j + 1) = Lex.letEnd s i ∧ FrTE a s i 0 j) ∨
   (l = 3 ∧ Lex.bAt s i = 34 ∧ ∃ j : Nat, i + 1 ≤ j ∧ j ≤ s.size ∧ Lex.txtEnd s j = Lex.txtEnd s (i + 1) ∧ FrTE a s i 0 j) ∨
   (l = 4 ∧ i < s.size ∧ Lex.digB (Lex.bAt s i) = false ∧ Lex.letB (Lex.bAt s i) = false ∧ Lex.bAt s i ≠ 34 ∧ FrTE a s i 0 i))

def muTE (s : ByteArray) (l : Nat) (a : Act) (_ : World) : Nat := if l = 0 then 0 else if l = 4 then 1 else 2 + (s.size - (intOf (a.tmps.getD 5 undef)).toNat)

theorem mu0 (s : ByteArray) {l : Nat} {a a' : Act} {w w' : World} (h : l ≠ 0) : muTE s 0 a' w' < muTE s l a w := by
  unfold muTE; rw [if_pos rfl, if_neg h]; split <;> omega

theorem ret_ii {a b c d : Int} (h : a = c) (h2 : b = d) : Ending.returned (.tuple #[.int .i64 a, .int .i64 b]) = .returned (.tuple #[.int .i64 c, .int .i64 d]) := by rw [h, h2]

set_option maxHeartbeats 4000000 in
set_option maxRecDepth 100000 in
theorem iTokenEnd (s : ByteArray) (i : Nat) (w : World) (hs : s.size ≤ 4000) (hi : i ≤ s.size) (hM : MarksIn w) :
    Calls Tryd.prog 22 #[.string s, .int .i64 i] w fun e w' => e = .returned (.tuple #[.int .i64 (Lex.teK s i), .int .i64 (Lex.teE s i)]) ∧ w = w' := by
  have HM : Hid (MarksIn w) := hM
  clear hM
  go_enter Tryd.func22, Tryd.ntmps22
  go_wp2_with fail
  refine wp_scope_many (JTE s i w) (muTE s) ?_ ?_
  · -- the first pass: the switch
    go_wp2_with fail
    refine (iByteAt s i _ (by omega)).mono ?_; rintro e w' ⟨rfl, rfl⟩
    by_cases c0 : s.size ≤ i
    · have b0 : ((i : Int) == (s.size : Int)) = true := beq_iff_eq.2 (by omega)
      obtain ⟨K, E⟩ := Lex.te_end s i c0
      have HK : Hid (Lex.teK s i = 6) := K
      have HE : Hid (Lex.teE s i = i) := E
      clear K E
      go_wp2_with fail
      go_step3
      exact ⟨rfl, .inl ⟨rfl, frTE HK.out.symm (by have h := HE.out; omega)⟩⟩
    have b0 : ((i : Int) == (s.size : Int)) = false := beq_eq_false_iff_ne.2 (by omega)
    by_cases c1 : Lex.digB (Lex.bAt s i) = true
    · go_wp2_with fail
      refine (iDigit _ _).mono ?_; rintro e w' ⟨rfl, rfl⟩
      go_wp2_with fail
      go_step3
      exact ⟨rfl, .inr (.inl ⟨rfl, c1, i, by omega, by omega, (Lex.digEnd_yes s i c1).symm, frTE rfl rfl⟩)⟩
    rw [Bool.not_eq_true] at c1
    by_cases c2 : Lex.letB (Lex.bAt s i) = true
    · go_wp2_with fail
      refine (iDigit _ _).mono ?_; rintro e w' ⟨rfl, rfl⟩
      go_wp2_with fail
      refine (iLetter _ _).mono ?_; rintro e w' ⟨rfl, rfl⟩
      go_wp2_with fail
      go_step3
      exact ⟨rfl, .inr (.inr (.inl ⟨rfl, c1, c2, i, by omega, by omega, (Lex.letEnd_yes s i c2).symm, frTE rfl rfl⟩))⟩
    rw [Bool.not_eq_true] at c2
    by_cases c3 : Lex.bAt s i = 34
    · have b3 : (Lex.bAt s i == 34) = true := beq_iff_eq.2 c3
      have C3 : Hid (Lex.bAt s i = 34) := c3
      clear c3
      go_wp2_with fail
      refine (iDigit _ _).mono ?_; rintro e w' ⟨rfl, rfl⟩
      go_wp2_with fail
      refine (iLetter _ _).mono ?_; rintro e w' ⟨rfl, rfl⟩
      go_wp2_with fail
      go_step3
      exact ⟨rfl, .inr (.inr (.inr (.inl ⟨rfl, C3.out, i + 1, by omega, by omega, rfl, frTE rfl (by omega)⟩)))⟩
    · have b3 : (Lex.bAt s i == 34) = false := beq_eq_false_iff_ne.2 c3
      have C3 : Hid (Lex.bAt s i ≠ 34) := c3
      clear c3
      go_wp2_with fail
      refine (iDigit _ _).mono ?_; rintro e w' ⟨rfl, rfl⟩
      go_wp2_with fail
      refine (iLetter _ _).mono ?_; rintro e w' ⟨rfl, rfl⟩
      go_wp2_with fail
      go_step3
      exact ⟨rfl, .inr (.inr (.inr (.inr ⟨rfl, by omega, c1, c2, C3.out, frTE rfl rfl⟩)))⟩
  · rintro l a w' ⟨rfl, h⟩
    rcases h with ⟨rfl, u6, u7, u8, u9, u10, u11, u12, u13, u14, u15, u16, u17, u18, u19, u20, u21, u22, u23, u24, u25, u26, u27, u28, u29, u30, u31, u32, u33, u34, u35, u36, u37, u38, u39, u40, u41, u42, u43, u44, u45, u46, u47, u48, u49, u50, u51, u52, u53, u54, u55, u56, u57, u58, u59, u60, u61, u62, u63, u64, u65, u66, u67, u68, u69, u70, u71, u72, u73, u74, u75, u76, u77, u78, u79, u80, u81, rfl⟩ | ⟨rfl, d1, j, hj1, hj2, hj3, u6, u7, u8, u9, u10, u11, u12, u13, u14, u15, u16, u17, u18, u19, u20, u21, u22, u23, u24, u25, u26, u27, u28, u29, u30, u31, u32, u33, u34, u35, u36, u37, u38, u39, u40, u41, u42, u43, u44, u45, u46, u47, u48, u49, u50, u51, u52, u53, u54, u55, u56, u57, u58, u59, u60, u61, u62, u63, u64, u65, u66, u67, u68, u69, u70, u71, u72, u73, u74, u75, u76, u77, u78, u79, u80, u81, rfl⟩ | ⟨rfl, d1, d2, j, hj1, hj2, hj3, u6, u7, u8, u9, u10, u11, u12, u13, u14, u15, u16, u17, u18, u19, u20, u21, u22, u23, u24, u25, u26, u27, u28, u29, u30, u31, u32, u33, u34, u35, u36, u37, u38, u39, u40, u41, u42, u43, u44, u45, u46, u47, u48, u49, u50, u51, u52, u53, u54, u55, u56, u57, u58, u59, u60, u61, u62, u63, u64, u65, u66, u67, u68, u69, u70, u71, u72, u73, u74, u75, u76, u77, u78, u79, u80, u81, rfl⟩ | ⟨rfl, d3, j, hj1, hj2, hj3, u6, u7, u8, u9, u10, u11, u12, u13, u14, u15, u16, u17, u18, u19, u20, u21, u22, u23, u24, u25, u26, u27, u28, u29, u30, u31, u32, u33, u34, u35, u36, u37, u38, u39, u40, u41, u42, u43, u44, u45, u46, u47, u48, u49, u50, u51, u52, u53, u54, u55, u56, u57, u58, u59, u60, u61, u62, u63, u64, u65, u66, u67, u68, u69, u70, u71, u72, u73, u74, u75, u76, u77, u78, u79, u80, u81, rfl⟩ | ⟨rfl, hil, d1, d2, d3, u6, u7, u8, u9, u10, u11, u12, u13, u14, u15, u16, u17, u18, u19, u20, u21, u22, u23, u24, u25, u26, u27, u28, u29, u30, u31, u32, u33, u34, u35, u36, u37, u38, u39, u40, u41, u42, u43, u44, u45, u46, u47, u48, u49, u50, u51, u52, u53, u54, u55, u56, u57, u58, u59, u60, u61, u62, u63, u64, u65, u66, u67, u68, u69, u70, u71, u72, u73, u74, u75, u76, u77, u78, u79, u80, u81, rfl⟩
    · -- done
      refine ⟨_, rfl, ?_⟩
      go_wp2_with fail
      simp only [Exit.jumps]
      go_ret2
      exact ⟨rfl, rfl⟩
    · -- number
      refine ⟨_, rfl, ?_⟩
      have HJ : Hid (Lex.digEnd s (j + 1) = Lex.digEnd s i) := hj3
      clear hj3
      go_wp2_with fail
      rw [show ((j : Int) + 1) = ((j + 1 : Nat) : Int) from by omega]
      refine (iByteAt s (j + 1) _ (by omega)).mono ?_; rintro e w' ⟨rfl, rfl⟩
      go_wp2_with fail
      refine (iDigit _ _).mono ?_; rintro e w' ⟨rfl, rfl⟩
      by_cases c1 : Lex.digB (Lex.bAt s (j + 1)) = true
      · have hlt := Lex.digB_lt s (j + 1) c1
        have HJ2 : Hid (Lex.digEnd s (j + 1 + 1) = Lex.digEnd s i) := by show _ = _; rw [← Lex.digEnd_yes s (j + 1) c1]; exact HJ.out
        go_wp2_with fail
        go_step3
        exact ⟨⟨rfl, .inr (.inl ⟨rfl, d1, j + 1, by omega, by omega, HJ2.out, frTE rfl (by omega)⟩)⟩, by simp [muTE, intOf]; omega⟩
      · rw [Bool.not_eq_true] at c1
        have E : Lex.digEnd s i = j + 1 := by rw [← HJ.out]; exact Lex.digEnd_no s (j + 1) c1
        have K := Lex.te_numK s i (by omega) d1
        have HE : Hid (Lex.teE s i = j + 1) := by show _ = _; rw [Lex.te_num s i (by omega) d1]; exact E
        rw [E] at K
        clear E
        have hsl : (s.extract i (j + 1)).size = j + 1 - i := Lex.ext_size s i (j + 1) (by omega)
        have hsl0 : 0 < (s.extract i (j + 1)).size := by omega
        have hsl1 : (s.extract i (j + 1)).size ≤ 100000 := by omega
        clear hsl
        by_cases c2 : Lex.numOk (s.extract i (j + 1)) = true
        · by_cases c3 : Lex.letB (Lex.bAt s (j + 1)) = true
          · have HK : Hid (Lex.teK s i = 0) := by show _ = _; rw [K, if_neg (by simp [c3])]
            clear K
            go_wp2_with fail
            refine (iNumRight _ _ hsl0 hsl1).mono ?_; rintro e w' ⟨rfl, rfl⟩
            go_wp2_with fail
            refine (iByteAt s (j + 1) _ (by omega)).mono ?_; rintro e w' ⟨rfl, rfl⟩
            go_wp2_with fail
            refine (iLetter _ _).mono ?_; rintro e w' ⟨rfl, rfl⟩
            go_wp2_with fail
            go_step3
            exact ⟨⟨rfl, .inl ⟨rfl, frTE HK.out.symm (by have h := HE.out; omega)⟩⟩, mu0 s (by decide)⟩
          · rw [Bool.not_eq_true] at c3
            have HK : Hid (Lex.teK s i = 3) := by show _ = _; rw [K, if_pos ⟨c2, c3⟩]
            clear K
            go_wp2_with fail
            refine (iNumRight _ _ hsl0 hsl1).mono ?_; rintro e w' ⟨rfl, rfl⟩
            go_wp2_with fail
            refine (iByteAt s (j + 1) _ (by omega)).mono ?_; rintro e w' ⟨rfl, rfl⟩
            go_wp2_with fail
            refine (iLetter _ _).mono ?_; rintro e w' ⟨rfl, rfl⟩
            go_wp2_with fail
            go_step3
            exact ⟨⟨rfl, .inl ⟨rfl, frTE HK.out.symm (by have h := HE.out; omega)⟩⟩, mu0 s (by decide)⟩
        · have HK : Hid (Lex.teK s i = 0) := by show _ = _; rw [K, if_neg (by simp [c2])]
          rw [Bool.not_eq_true] at c2
          clear K
          go_wp2_with fail
          refine (iNumRight _ _ hsl0 hsl1).mono ?_; rintro e w' ⟨rfl, rfl⟩
          go_wp2_with fail
          go_step3
          exact ⟨⟨rfl, .inl ⟨rfl, frTE HK.out.symm (by have h := HE.out; omega)⟩⟩, mu0 s (by decide)⟩
    · -- name
      refine ⟨_, rfl, ?_⟩
      have HJ : Hid (Lex.letEnd s (j + 1) = Lex.letEnd s i) := hj3
      clear hj3
      go_wp2_with fail
      rw [show ((j : Int) + 1) = ((j + 1 : Nat) : Int) from by omega]
      refine (iByteAt s (j + 1) _ (by omega)).mono ?_; rintro e w' ⟨rfl, rfl⟩
      go_wp2_with fail
      refine (iLetter _ _).mono ?_; rintro e w' ⟨rfl, rfl⟩
      by_cases c1 : Lex.letB (Lex.bAt s (j + 1)) = true
      · have hlt := Lex.letB_lt s (j + 1) c1
        have HJ2 : Hid (Lex.letEnd s (j + 1 + 1) = Lex.letEnd s i) := by show _ = _; rw [← Lex.letEnd_yes s (j + 1) c1]; exact HJ.out
        go_wp2_with fail
        go_step3
        exact ⟨⟨rfl, .inr (.inr (.inl ⟨rfl, d1, d2, j + 1, by omega, by omega, HJ2.out, frTE rfl (by omega)⟩))⟩, by simp [muTE, intOf]; omega⟩
      · rw [Bool.not_eq_true] at c1
        have E : Lex.letEnd s i = j + 1 := by rw [← HJ.out]; exact Lex.letEnd_no s (j + 1) c1
        have K := Lex.te_nameK s i (by omega) d1 d2
        have HE : Hid (Lex.teE s i = j + 1) := by show _ = _; rw [Lex.te_name s i (by omega) d1 d2]; exact E
        rw [E] at K
        clear E
        by_cases c2 : j + 1 - i ≤ 20
        · have HK : Hid (Lex.teK s i = 1) := by show _ = _; rw [K, if_pos c2]
          have c2' : ((j + 1 : Nat) : Int) - (i : Int) ≤ 20 := by omega
          clear K
          go_wp2_with fail
          go_step3
          exact ⟨⟨rfl, .inl ⟨rfl, frTE HK.out.symm (by have h := HE.out; omega)⟩⟩, mu0 s (by decide)⟩
        · have HK : Hid (Lex.teK s i = 0) := by show _ = _; rw [K, if_neg c2]
          have c2' : ¬ ((j + 1 : Nat) : Int) - (i : Int) ≤ 20 := by omega
          clear K
          go_wp2_with fail
          go_step3
          exact ⟨⟨rfl, .inl ⟨rfl, frTE HK.out.symm (by have h := HE.out; omega)⟩⟩, mu0 s (by decide)⟩
    · -- quoted
      refine ⟨_, rfl, ?_⟩
      have HJ : Hid (Lex.txtEnd s j = Lex.txtEnd s (i + 1)) := hj3
      have D3 : Hid (Lex.bAt s i = 34) := d3
      have hil := Lex.bAt_lt s i (by omega)
      clear hj3 d3
      go_wp2_with fail
      refine (iStep s j _ (by omega)).mono ?_; rintro e w' ⟨rfl, rfl⟩
      have hle := Lex.stepT_le s j
      by_cases c1 : 0 < Lex.stepT s j
      · have hin := Lex.stepT_in s j c1
        have HJ2 : Hid (Lex.txtEnd s (j + Lex.stepT s j) = Lex.txtEnd s (i + 1)) := by show _ = _; rw [← Lex.txtEnd_yes s j c1]; exact HJ.out
        generalize Lex.stepT s j = n at *
        go_wp2_with fail
        go_step3
        exact ⟨⟨rfl, .inr (.inr (.inr (.inl ⟨rfl, D3.out, j + n, by omega, by omega, HJ2.out, frTE rfl (by omega)⟩)))⟩, by simp [muTE, intOf]; omega⟩
      · have E : Lex.txtEnd s (i + 1) = j := by rw [← HJ.out]; exact Lex.txtEnd_no s j (by omega)
        have hn : Lex.stepT s j = 0 := by omega
        rw [hn]
        clear hn c1 hle
        by_cases c2 : Lex.bAt s j = 34
        · have h2 := Lex.te_text s i (by omega) D3.out (by rw [E]; exact c2)
          rw [E] at h2
          have HK : Hid (Lex.teK s i = 4) := h2.1
          have HE : Hid (Lex.teE s i = j + 1) := h2.2
          have b2 : (Lex.bAt s j == 34) = true := beq_iff_eq.2 c2
          clear h2 E c2
          go_wp2_with fail
          refine (iByteAt s j _ (by omega)).mono ?_; rintro e w' ⟨rfl, rfl⟩
          go_wp2_with fail
          go_step3
          exact ⟨⟨rfl, .inl ⟨rfl, frTE HK.out.symm (by have h := HE.out; omega)⟩⟩, mu0 s (by decide)⟩
        · have h2 := Lex.te_textNo s i (by omega) D3.out (by rw [E]; exact c2)
          rw [E] at h2
          have HK : Hid (Lex.teK s i = 0) := h2.1
          have HE : Hid (Lex.teE s i = j) := h2.2
          have b2 : (Lex.bAt s j == 34) = false := beq_eq_false_iff_ne.2 c2
          clear h2 E c2
          go_wp2_with fail
          refine (iByteAt s j _ (by omega)).mono ?_; rintro e w' ⟨rfl, rfl⟩
          go_wp2_with fail
          go_step3
          exact ⟨⟨rfl, .inl ⟨rfl, frTE HK.out.symm (by have h := HE.out; omega)⟩⟩, mu0 s (by decide)⟩
    · -- mark
      refine ⟨_, rfl, ?_⟩
      have D3 : Hid (Lex.bAt s i ≠ 34) := d3
      clear d3
      have c0 : ¬ s.size ≤ i := by omega
      have h2 := Lex.te_mark s i c0 d1 d2 D3.out
      have hx : (s.extract i s.size).data.toList = s.data.toList.drop i := Lex.ext_to_end s i
      have hl := Lex.markLen_bd (s.data.toList.drop i) Lex.marks
      have hl2 : (s.data.toList.drop i).length ≤ s.size := by rw [List.length_drop]; simp
      go_wp2_with fail
      refine (iMarkLen _ _ HM.out).mono ?_; rintro e w' ⟨he, rfl⟩
      rw [hx] at he
      subst he
      clear hx
      generalize Lex.markLen (s.data.toList.drop i) Lex.marks = n at *
      obtain ⟨h3, h4⟩ := h2
      have HE : Hid (Lex.teE s i = i + n) := h3
      clear h3
      by_cases c1 : 0 < n
      · rw [if_pos c1] at h4
        have HK : Hid (Lex.teK s i = 5) := h4
        clear h4
        go_wp2_with fail
        go_step3
        go_wp2_with fail
        simp only [Exit.jumps]
        go_ret2
        exact ⟨ret_ii HK.out.symm (by have h := HE.out; omega), rfl⟩
      · rw [if_neg c1] at h4
        have HK : Hid (Lex.teK s i = 0) := h4
        clear h4
        go_wp2_with fail
        go_step3
        go_wp2_with fail
        simp only [Exit.jumps]
        go_ret2
        exact ⟨ret_ii HK.out.symm (by have h := HE.out; omega), rfl⟩

end Go.Proofs.YtpabbadngpjgoaaDoor

/-
  FnNest: the closed facts of its row, each by itself (in one go they pass the memory's lid). (Written by wip/tools/rf/mkRmP.py.)
-/
import Derived.Test.YtednkkcmboahgaaGreatDoorRows
import Derived.JoinedCond
import Derived.KernelRfl
namespace Go.Proofs.YtednkkcmboahgaaGreatDoor

section
variable (P : Program) (f : FuncId) (fn : Func) (s : ChangeSpec) (c : OpenClaim)
def jf0 : Bool := c.wf (OpenSpec.ofChange s)
def jf1 : Bool := laidOutB P
def jf2 : Bool := mapsRowed P
def jf3 : Bool := fn.params.all (P.readableRec ·)
def jf4 : Bool := namedTie P c.named s.vars
def jf5 : Bool := (c.stops == [])
def jf6 : Bool := (P.stops == [])
def jf7 : Bool := (c.knobs == [])
def jf8 : Bool := (P.stopKnobs == [])
def jf9 : Bool := (c.inPlace == P.inPlace f)
def jf10 : Bool := (c.unfollowed == P.unfollowed f)
def jf11 : Bool := (c.recurses == P.recurses f)
def jf12 : Bool := (c.named == P.varsNamed f)
def jf13 : Bool := (c.maps == (fn.params.toList ++ s.plain.varTypes P).any (P.mapsRec ·))
def jf14 : Bool := (c.ifaces == (fn.params.toList ++ s.plain.varTypes P).any (P.ifacesRec ·))
def jf15 : Bool := (c.mapsOut == P.mapsAmong fn.resultTypes.toList)
def jf16 : Bool := (c.loops == (fn.params.toList ++ s.plain.varTypes P).any (P.loopsFrom ·))
def jf17 : Bool := (c.wideKeys == (fn.params.toList ++ s.plain.varTypes P ++ fn.resultTypes.toList).any (P.wideKeysFrom ·))
def jf18 : Bool := s.vars.all (P.varReadable ·)
def jf19 : Bool := fn.resultTypes.all (fun t => P.readableRec t && decide (t < P.types.size))
def jf20 : Bool := (c.ifacesOut == fn.resultTypes.toList.any (P.ifacesRec ·))
def jf21 : Bool := (c.loopsOut == fn.resultTypes.toList.any (P.loopsFrom ·))
def jf22 : Bool := (c.plainKeys == P.plainKeys)
def jf23 : Bool := c.shortTexts.isNone
def jf24 : Bool := P.stopsHeard
def jf25 : Bool := P.mayEnter
def jf26 : Bool := (c.lifted == P.liftsFinal)
def jf27 : Bool := (P.make == some c.make)
def jf28 : Bool := (c.kinds == (if c.domain.isEmpty then [] else fn.params.toList.map fun t => match P.underlying t with | some (.int k) => some k | _ => none))
def jf29 : Bool := (c.pinned == c.pinnedBy)
def jf30 : Bool := (c.veiled == (fn.params.toList ++ s.plain.varTypes P ++ fn.resultTypes.toList).any (P.veiledRec ·))
def jf31 : Bool := c.veiledFits P fn.params.toList (fn.params.toList ++ s.plain.varTypes P ++ fn.resultTypes.toList)
theorem and_mk {a b : Bool} (h1 : a = true) (h2 : b = true) : (a && b) = true := by rw [h1, h2]; rfl
theorem joined_of (h0 : jf0 s c = true) (h1 : jf1 P = true) (h2 : jf2 P = true) (h3 : jf3 P fn = true) (h4 : jf4 P s c = true) (h5 : jf5 c = true) (h6 : jf6 P = true) (h7 : jf7 c = true) (h8 : jf8 P = true) (h9 : jf9 P f c = true) (h10 : jf10 P f c = true) (h11 : jf11 P f c = true) (h12 : jf12 P f c = true) (h13 : jf13 P fn s c = true) (h14 : jf14 P fn s c = true) (h15 : jf15 P fn c = true) (h16 : jf16 P fn s c = true) (h17 : jf17 P fn s c = true) (h18 : jf18 P s = true) (h19 : jf19 P fn = true) (h20 : jf20 P fn c = true) (h21 : jf21 P fn c = true) (h22 : jf22 P c = true) (h23 : jf23 c = true) (h24 : jf24 P = true) (h25 : jf25 P = true) (h26 : jf26 P c = true) (h27 : jf27 P c = true) (h28 : jf28 P fn c = true) (h29 : jf29 c = true) (h30 : jf30 P fn s c = true) (h31 : jf31 P fn s c = true) : joinedFacts P f fn s c = true := (and_mk (and_mk (and_mk (and_mk (and_mk (and_mk (and_mk (and_mk (and_mk (and_mk (and_mk (and_mk (and_mk (and_mk (and_mk (and_mk (and_mk (and_mk (and_mk (and_mk (and_mk (and_mk (and_mk (and_mk (and_mk (and_mk (and_mk (and_mk (and_mk (and_mk (and_mk h0 h1) h2) h3) h4) h5) h6) h7) h8) h9) h10) h11) h12) h13) h14) h15) h16) h17) h18) h19) h20) h21) h22) h23) h24) h25) h26) h27) h28) h29) h30) h31)
end
theorem fact0 : jf0 (OpenSpec.ofChange Rows.fnNestSpec).bare Rows.fnNestRow = true := by kernel_rfl
theorem fact1 : jf1 Tryz.pinned.checked.prog = true := by kernel_rfl
theorem fact2 : jf2 Tryz.pinned.checked.prog = true := by kernel_rfl
theorem fact3 : jf3 Tryz.pinned.checked.prog Tryz.f3 = true := by kernel_rfl
theorem fact4 : jf4 Tryz.pinned.checked.prog (OpenSpec.ofChange Rows.fnNestSpec).bare Rows.fnNestRow = true := by kernel_rfl
theorem fact5 : jf5 Rows.fnNestRow = true := by kernel_rfl
theorem fact6 : jf6 Tryz.pinned.checked.prog = true := by kernel_rfl
theorem fact7 : jf7 Rows.fnNestRow = true := by kernel_rfl
theorem fact8 : jf8 Tryz.pinned.checked.prog = true := by kernel_rfl
theorem fact9 : jf9 Tryz.pinned.checked.prog 3 Rows.fnNestRow = true := by kernel_rfl
theorem fact10 : jf10 Tryz.pinned.checked.prog 3 Rows.fnNestRow = true := by kernel_rfl
theorem fact11 : jf11 Tryz.pinned.checked.prog 3 Rows.fnNestRow = true := by kernel_rfl
theorem fact12 : jf12 Tryz.pinned.checked.prog 3 Rows.fnNestRow = true := by kernel_rfl
theorem fact13 : jf13 Tryz.pinned.checked.prog Tryz.f3 (OpenSpec.ofChange Rows.fnNestSpec).bare Rows.fnNestRow = true := by kernel_rfl
theorem fact14 : jf14 Tryz.pinned.checked.prog Tryz.f3 (OpenSpec.ofChange Rows.fnNestSpec).bare Rows.fnNestRow = true := by kernel_rfl
theorem fact15 : jf15 Tryz.pinned.checked.prog Tryz.f3 Rows.fnNestRow = true := by kernel_rfl
theorem fact16 : jf16 Tryz.pinned.checked.prog Tryz.f3 (OpenSpec.ofChange Rows.fnNestSpec).bare Rows.fnNestRow = true := by kernel_rfl
theorem fact17 : jf17 Tryz.pinned.checked.prog Tryz.f3 (OpenSpec.ofChange Rows.fnNestSpec).bare Rows.fnNestRow = true := by kernel_rfl
theorem fact18 : jf18 Tryz.pinned.checked.prog (OpenSpec.ofChange Rows.fnNestSpec).bare = true := by kernel_rfl
theorem fact19 : jf19 Tryz.pinned.checked.prog Tryz.f3 = true := by kernel_rfl
theorem fact20 : jf20 Tryz.pinned.checked.prog Tryz.f3 Rows.fnNestRow = true := by kernel_rfl
theorem fact21 : jf21 Tryz.pinned.checked.prog Tryz.f3 Rows.fnNestRow = true := by kernel_rfl
theorem fact22 : jf22 Tryz.pinned.checked.prog Rows.fnNestRow = true := by kernel_rfl
theorem fact23 : jf23 Rows.fnNestRow = true := by kernel_rfl
theorem fact24 : jf24 Tryz.pinned.checked.prog = true := by kernel_rfl
theorem fact25 : jf25 Tryz.pinned.checked.prog = true := by kernel_rfl
theorem fact26 : jf26 Tryz.pinned.checked.prog Rows.fnNestRow = true := by kernel_rfl
theorem fact27 : jf27 Tryz.pinned.checked.prog Rows.fnNestRow = true := by kernel_rfl
theorem fact28 : jf28 Tryz.pinned.checked.prog Tryz.f3 Rows.fnNestRow = true := by kernel_rfl
theorem fact29 : jf29 Rows.fnNestRow = true := by kernel_rfl
theorem fact30 : jf30 Tryz.pinned.checked.prog Tryz.f3 (OpenSpec.ofChange Rows.fnNestSpec).bare Rows.fnNestRow = true := by kernel_rfl
theorem fact31 : jf31 Tryz.pinned.checked.prog Tryz.f3 (OpenSpec.ofChange Rows.fnNestSpec).bare Rows.fnNestRow = true := by kernel_rfl
theorem facts : joinedFacts Tryz.pinned.checked.prog 3 Tryz.f3 (OpenSpec.ofChange Rows.fnNestSpec).bare Rows.fnNestRow = true := joined_of _ _ _ _ _ fact0 fact1 fact2 fact3 fact4 fact5 fact6 fact7 fact8 fact9 fact10 fact11 fact12 fact13 fact14 fact15 fact16 fact17 fact18 fact19 fact20 fact21 fact22 fact23 fact24 fact25 fact26 fact27 fact28 fact29 fact30 fact31
theorem fact_named : Tryz.pinned.checked.prog.funcNamed Rows.fnNestRow.func = some 3 := by kernel_rfl

end Go.Proofs.YtednkkcmboahgaaGreatDoor

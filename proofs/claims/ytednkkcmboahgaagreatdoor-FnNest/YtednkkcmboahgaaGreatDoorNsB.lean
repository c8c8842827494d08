/-
  A checked run: the tables are the program's. (Written by wip/tools/rf/mktab2.py.)
-/
import Derived.Test.YtednkkcmboahgaaGreatDoorRtI
import Derived.Test.YtednkkcmboahgaaGreatDoorNsTab
import Derived.KernelRfl
namespace Go.Proofs.YtednkkcmboahgaaGreatDoor

theorem ty2 : TyOk Tryz.prog 2 ti2 := tyOk_of (eq := true) (by kernel_rfl) (by kernel_rfl)
theorem ty3 : TyOk Tryz.prog 3 ti3 := tyOk_of (eq := true) (by kernel_rfl) (by kernel_rfl)
theorem ty4 : TyOk Tryz.prog 4 ti4 := tyOk_of (eq := true) (by kernel_rfl) (by kernel_rfl)
theorem ty5 : TyOk Tryz.prog 5 ti5 := tyOk_of (eq := true) (by kernel_rfl) (by kernel_rfl)
theorem ty9 : TyOk Tryz.prog 9 ti9 := tyOk_of (eq := true) (by kernel_rfl) (by kernel_rfl)
theorem ty22 : TyOk Tryz.prog 22 ti22 := tyOk_of (eq := true) (by kernel_rfl) (by kernel_rfl)
theorem ty26 : TyOk Tryz.prog 26 ti26 := tyOk_of (eq := true) (by kernel_rfl) (by kernel_rfl)
theorem ty27 : TyOk Tryz.prog 27 ti27 := tyOk_of (eq := true) (by kernel_rfl) (by kernel_rfl)
theorem ty29 : TyOk Tryz.prog 29 ti29 := tyOk_of (eq := true) (by kernel_rfl) (by kernel_rfl)
theorem ty31 : TyOk Tryz.prog 31 ti31 := tyOk_of (eq := true) (by kernel_rfl) (by kernel_rfl)
theorem ty33 : TyOk Tryz.prog 33 ti33 := tyOk_of (eq := true) (by kernel_rfl) (by kernel_rfl)
theorem ty35 : TyOk Tryz.prog 35 ti35 := tyOk_of (eq := true) (by kernel_rfl) (by kernel_rfl)
theorem ty37 : TyOk Tryz.prog 37 ti37 := tyOk_of (eq := true) (by kernel_rfl) (by kernel_rfl)
theorem ty39 : TyOk Tryz.prog 39 ti39 := tyOk_of (eq := true) (by kernel_rfl) (by kernel_rfl)
theorem ty42 : TyOk Tryz.prog 42 ti42 := tyOk_of (eq := true) (by kernel_rfl) (by kernel_rfl)
theorem ty45 : TyOk Tryz.prog 45 ti45 := tyOk_of (eq := true) (by kernel_rfl) (by kernel_rfl)
theorem ty49 : TyOk Tryz.prog 49 ti49 := tyOk_of (eq := true) (by kernel_rfl) (by kernel_rfl)
theorem ty53 : TyOk Tryz.prog 53 ti53 := tyOk_of (eq := true) (by kernel_rfl) (by kernel_rfl)
theorem ty56 : TyOk Tryz.prog 56 ti56 := tyOk_of (eq := true) (by kernel_rfl) (by kernel_rfl)
theorem ty57 : TyOk Tryz.prog 57 ti57 := tyOk_of (eq := true) (by kernel_rfl) (by kernel_rfl)
theorem ty59 : TyOk Tryz.prog 59 ti59 := tyOk_of (eq := true) (by kernel_rfl) (by kernel_rfl)
theorem ty60 : TyOk Tryz.prog 60 ti60 := tyOk_of (eq := true) (by kernel_rfl) (by kernel_rfl)
theorem ty62 : TyOk Tryz.prog 62 ti62 := tyOk_of (eq := true) (by kernel_rfl) (by kernel_rfl)
theorem ty64 : TyOk Tryz.prog 64 ti64 := tyOk_of (eq := true) (by kernel_rfl) (by kernel_rfl)
theorem ty66 : TyOk Tryz.prog 66 ti66 := tyOk_of (eq := false) (by kernel_rfl) (by kernel_rfl)
theorem ty68 : TyOk Tryz.prog 68 ti68 := tyOk_of (eq := false) (by kernel_rfl) (by kernel_rfl)
theorem ty69 : TyOk Tryz.prog 69 ti69 := tyOk_of (eq := true) (by kernel_rfl) (by kernel_rfl)
theorem ty72 : TyOk Tryz.prog 72 ti72 := tyOk_of (eq := false) (by kernel_rfl) (by kernel_rfl)
theorem ty76 : TyOk Tryz.prog 76 ti76 := tyOk_of (eq := true) (by kernel_rfl) (by kernel_rfl)
theorem ty77 : TyOk Tryz.prog 77 ti77 := tyOk_of (eq := true) (by kernel_rfl) (by kernel_rfl)
theorem ty79 : TyOk Tryz.prog 79 ti79 := tyOk_of (eq := false) (by kernel_rfl) (by kernel_rfl)
theorem ty81 : TyOk Tryz.prog 81 ti81 := tyOk_of (eq := false) (by kernel_rfl) (by kernel_rfl)
theorem ty86 : TyOk Tryz.prog 86 ti86 := tyOk_of (eq := true) (by kernel_rfl) (by kernel_rfl)
theorem ty89 : TyOk Tryz.prog 89 ti89 := tyOk_of (eq := true) (by kernel_rfl) (by kernel_rfl)
theorem ty93 : TyOk Tryz.prog 93 ti93 := tyOk_of (eq := true) (by kernel_rfl) (by kernel_rfl)
theorem ty95 : TyOk Tryz.prog 95 ti95 := tyOk_of (eq := true) (by kernel_rfl) (by kernel_rfl)
theorem ty98 : TyOk Tryz.prog 98 ti98 := tyOk_of (eq := true) (by kernel_rfl) (by kernel_rfl)
theorem ty102 : TyOk Tryz.prog 102 ti102 := tyOk_of (eq := true) (by kernel_rfl) (by kernel_rfl)
theorem ty108 : TyOk Tryz.prog 108 ti108 := tyOk_of (eq := false) (by kernel_rfl) (by kernel_rfl)
theorem ty113 : TyOk Tryz.prog 113 ti113 := tyOk_of (eq := true) (by kernel_rfl) (by kernel_rfl)
theorem ty114 : TyOk Tryz.prog 114 ti114 := tyOk_of (eq := true) (by kernel_rfl) (by kernel_rfl)
theorem ty115 : TyOk Tryz.prog 115 ti115 := tyOk_of (eq := true) (by kernel_rfl) (by kernel_rfl)
theorem ty116 : TyOk Tryz.prog 116 ti116 := tyOk_of (eq := true) (by kernel_rfl) (by kernel_rfl)
theorem ty118 : TyOk Tryz.prog 118 ti118 := tyOk_of (eq := true) (by kernel_rfl) (by kernel_rfl)
theorem ty120 : TyOk Tryz.prog 120 ti120 := tyOk_of (eq := true) (by kernel_rfl) (by kernel_rfl)
theorem ty122 : TyOk Tryz.prog 122 ti122 := tyOk_of (eq := true) (by kernel_rfl) (by kernel_rfl)
theorem ty123 : TyOk Tryz.prog 123 ti123 := tyOk_of (eq := true) (by kernel_rfl) (by kernel_rfl)
theorem ty125 : TyOk Tryz.prog 125 ti125 := tyOk_of (eq := true) (by kernel_rfl) (by kernel_rfl)
theorem ty127 : TyOk Tryz.prog 127 ti127 := tyOk_of (eq := true) (by kernel_rfl) (by kernel_rfl)
theorem ty129 : TyOk Tryz.prog 129 ti129 := tyOk_of (eq := true) (by kernel_rfl) (by kernel_rfl)
theorem ty131 : TyOk Tryz.prog 131 ti131 := tyOk_of (eq := false) (by kernel_rfl) (by kernel_rfl)
theorem ty154 : TyOk Tryz.prog 154 ti154 := tyOk_of (eq := true) (by kernel_rfl) (by kernel_rfl)
theorem ty164 : TyOk Tryz.prog 164 ti164 := tyOk_of (eq := true) (by kernel_rfl) (by kernel_rfl)
theorem ty166 : TyOk Tryz.prog 166 ti166 := tyOk_of (eq := true) (by kernel_rfl) (by kernel_rfl)
theorem ty185 : TyOk Tryz.prog 185 ti185 := tyOk_of (eq := true) (by kernel_rfl) (by kernel_rfl)
theorem ty190 : TyOk Tryz.prog 190 ti190 := tyOk_of (eq := true) (by kernel_rfl) (by kernel_rfl)
theorem ty192 : TyOk Tryz.prog 192 ti192 := tyOk_of (eq := true) (by kernel_rfl) (by kernel_rfl)
theorem ty194 : TyOk Tryz.prog 194 ti194 := tyOk_of (eq := false) (by kernel_rfl) (by kernel_rfl)
theorem ty205 : TyOk Tryz.prog 205 ti205 := tyOk_of (eq := true) (by kernel_rfl) (by kernel_rfl)
theorem ty210 : TyOk Tryz.prog 210 ti210 := tyOk_of (eq := true) (by kernel_rfl) (by kernel_rfl)
theorem ty215 : TyOk Tryz.prog 215 ti215 := tyOk_of (eq := true) (by kernel_rfl) (by kernel_rfl)
theorem ty249 : TyOk Tryz.prog 249 ti249 := tyOk_of (eq := true) (by kernel_rfl) (by kernel_rfl)
theorem ty250 : TyOk Tryz.prog 250 ti250 := tyOk_of (eq := true) (by kernel_rfl) (by kernel_rfl)
theorem ty268 : TyOk Tryz.prog 268 ti268 := tyOk_of (eq := true) (by kernel_rfl) (by kernel_rfl)
theorem ty270 : TyOk Tryz.prog 270 ti270 := tyOk_of (eq := false) (by kernel_rfl) (by kernel_rfl)
theorem ty271 : TyOk Tryz.prog 271 ti271 := tyOk_of (eq := true) (by kernel_rfl) (by kernel_rfl)
theorem ty273 : TyOk Tryz.prog 273 ti273 := tyOk_of (eq := true) (by kernel_rfl) (by kernel_rfl)
theorem ty276 : TyOk Tryz.prog 276 ti276 := tyOk_of (eq := true) (by kernel_rfl) (by kernel_rfl)
theorem ty294 : TyOk Tryz.prog 294 ti294 := tyOk_of (eq := true) (by kernel_rfl) (by kernel_rfl)
theorem ty308 : TyOk Tryz.prog 308 ti308 := tyOk_of (eq := true) (by kernel_rfl) (by kernel_rfl)
theorem ty310 : TyOk Tryz.prog 310 ti310 := tyOk_of (eq := true) (by kernel_rfl) (by kernel_rfl)
theorem ty314 : TyOk Tryz.prog 314 ti314 := tyOk_of (eq := true) (by kernel_rfl) (by kernel_rfl)
theorem ty335 : TyOk Tryz.prog 335 ti335 := tyOk_of (eq := true) (by kernel_rfl) (by kernel_rfl)
theorem ty365 : TyOk Tryz.prog 365 ti365 := tyOk_of (eq := true) (by kernel_rfl) (by kernel_rfl)
theorem ty366 : TyOk Tryz.prog 366 ti366 := tyOk_of (eq := true) (by kernel_rfl) (by kernel_rfl)
theorem meth69_0 (b o : Nat) (w : World) : (method (Tryz.prog.types.size + Made.depth) 69 (.pointer (some ⟨b, o, none⟩)) "loop.example/g00317/impl.add").run Tryz.prog w = .ok (127, .pointer (some ⟨b, o + 0, none⟩)) w := by kernel_rfl
theorem meth69_1 (b o : Nat) (w : World) : (method (Tryz.prog.types.size + Made.depth) 69 (.pointer (some ⟨b, o, none⟩)) "loop.example/g00317/impl.own").run Tryz.prog w = .ok (352, .pointer (some ⟨b, o + 0, none⟩)) w := by kernel_rfl
theorem meth69_2 (b o : Nat) (w : World) : (method (Tryz.prog.types.size + Made.depth) 69 (.pointer (some ⟨b, o, none⟩)) "loop.example/g00317/impl.parent").run Tryz.prog w = .ok (353, .pointer (some ⟨b, o + 0, none⟩)) w := by kernel_rfl
theorem meth69_3 (b o : Nat) (w : World) : (method (Tryz.prog.types.size + Made.depth) 69 (.pointer (some ⟨b, o, none⟩)) "loop.example/g00317/impl.put").run Tryz.prog w = .ok (274, .pointer (some ⟨b, o + 0, none⟩)) w := by kernel_rfl
theorem meOk69 : MeOk Tryz.prog 69 me69 := by
  intro x hx
  simp only [me69, List.mem_cons, List.not_mem_nil, or_false] at hx
  rcases hx with rfl | rfl | rfl | rfl
  · exact meth69_0
  · exact meth69_1
  · exact meth69_2
  · exact meth69_3
theorem meth77_0 (b o : Nat) (w : World) : (method (Tryz.prog.types.size + Made.depth) 77 (.pointer (some ⟨b, o, none⟩)) "loop.example/g00317/impl.declare").run Tryz.prog w = .ok (358, .pointer (some ⟨b, o + 0, none⟩)) w := by kernel_rfl
theorem meth77_1 (b o : Nat) (w : World) : (method (Tryz.prog.types.size + Made.depth) 77 (.pointer (some ⟨b, o, none⟩)) "loop.example/g00317/impl.get").run Tryz.prog w = .ok (359, .pointer (some ⟨b, o + 0, none⟩)) w := by kernel_rfl
theorem meth77_2 (b o : Nat) (w : World) : (method (Tryz.prog.types.size + Made.depth) 77 (.pointer (some ⟨b, o, none⟩)) "loop.example/g00317/impl.has").run Tryz.prog w = .ok (360, .pointer (some ⟨b, o + 0, none⟩)) w := by kernel_rfl
theorem meth77_3 (b o : Nat) (w : World) : (method (Tryz.prog.types.size + Made.depth) 77 (.pointer (some ⟨b, o, none⟩)) "loop.example/g00317/impl.put").run Tryz.prog w = .ok (362, .pointer (some ⟨b, o + 0, none⟩)) w := by kernel_rfl
theorem meth77_4 (b o : Nat) (w : World) : (method (Tryz.prog.types.size + Made.depth) 77 (.pointer (some ⟨b, o, none⟩)) "loop.example/g00317/impl.this").run Tryz.prog w = .ok (364, .pointer (some ⟨b, o + 0, none⟩)) w := by kernel_rfl
theorem meOk77 : MeOk Tryz.prog 77 me77 := by
  intro x hx
  simp only [me77, List.mem_cons, List.not_mem_nil, or_false] at hx
  rcases hx with rfl | rfl | rfl | rfl | rfl
  · exact meth77_0
  · exact meth77_1
  · exact meth77_2
  · exact meth77_3
  · exact meth77_4
theorem meth215_0 (b o : Nat) (w : World) : (method (Tryz.prog.types.size + Made.depth) 215 (.pointer (some ⟨b, o, none⟩)) "loop.example/g00317/impl.get").run Tryz.prog w = .ok (372, .pointer (some ⟨b, o + 0, none⟩)) w := by kernel_rfl
theorem meth215_1 (b o : Nat) (w : World) : (method (Tryz.prog.types.size + Made.depth) 215 (.pointer (some ⟨b, o, none⟩)) "loop.example/g00317/impl.has").run Tryz.prog w = .ok (184, .pointer (some ⟨b, o + 0, none⟩)) w := by kernel_rfl
theorem meth215_2 (b o : Nat) (w : World) : (method (Tryz.prog.types.size + Made.depth) 215 (.pointer (some ⟨b, o, none⟩)) "loop.example/g00317/impl.outer").run Tryz.prog w = .ok (373, .pointer (some ⟨b, o + 0, none⟩)) w := by kernel_rfl
theorem meth215_3 (b o : Nat) (w : World) : (method (Tryz.prog.types.size + Made.depth) 215 (.pointer (some ⟨b, o, none⟩)) "loop.example/g00317/impl.put").run Tryz.prog w = .ok (125, .pointer (some ⟨b, o + 0, none⟩)) w := by kernel_rfl
theorem meth215_4 (b o : Nat) (w : World) : (method (Tryz.prog.types.size + Made.depth) 215 (.pointer (some ⟨b, o, none⟩)) "loop.example/g00317/impl.this").run Tryz.prog w = .ok (375, .pointer (some ⟨b, o + 0, none⟩)) w := by kernel_rfl
theorem meOk215 : MeOk Tryz.prog 215 me215 := by
  intro x hx
  simp only [me215, List.mem_cons, List.not_mem_nil, or_false] at hx
  rcases hx with rfl | rfl | rfl | rfl | rfl
  · exact meth215_0
  · exact meth215_1
  · exact meth215_2
  · exact meth215_3
  · exact meth215_4
theorem allTy : AllT (TyOk Tryz.prog) tyT id := (allN (allN (allS ty3 rfl (allN (allN (allS ty31 rfl (allN (allS ty127 rfl allL allL) allL) (allS ty95 rfl allL allL)) (allN (allS ty79 rfl (allN (allS ty271 rfl allL allL) allL) (allN (allS ty335 rfl allL allL) allL)) allL)) (allN (allS ty39 rfl allL allL) (allN (allN allL (allS ty215 rfl allL allL)) allL))) (allN (allN (allS ty35 rfl (allN (allS ty131 rfl allL allL) allL) allL) (allN allL (allS ty115 rfl allL allL))) (allS ty27 rfl allL (allS ty59 rfl allL (allS ty123 rfl allL allL))))) (allS ty5 rfl (allS ty9 rfl (allN (allS ty33 rfl (allN (allS ty129 rfl allL allL) allL) allL) (allS ty49 rfl (allS ty81 rfl (allN (allS ty273 rfl allL allL) allL) allL) (allS ty113 rfl allL allL))) (allN allL (allS ty57 rfl (allS ty89 rfl allL allL) (allN (allS ty185 rfl allL allL) (allS ty249 rfl allL allL))))) (allN (allN (allS ty37 rfl (allS ty69 rfl allL allL) allL) (allS ty53 rfl allL allL)) (allS ty29 rfl (allS ty45 rfl (allS ty77 rfl allL (allS ty205 rfl allL allL)) (allN allL (allN (allS ty365 rfl allL allL) allL))) (allN (allS ty93 rfl allL allL) (allS ty125 rfl allL allL)))))) (allS ty2 rfl (allS ty4 rfl (allN (allN (allN (allS ty64 rfl allL (allS ty192 rfl allL allL)) allL) allL) (allN (allN (allS ty72 rfl allL allL) allL) (allS ty56 rfl allL (allS ty120 rfl allL allL)))) (allN (allN (allN (allS ty68 rfl allL allL) (allN (allS ty164 rfl allL allL) allL)) (allN (allN (allN (allS ty276 rfl allL allL) allL) allL) (allS ty116 rfl (allN (allS ty308 rfl allL allL) allL) allL))) (allN (allN (allS ty76 rfl (allN (allS ty268 rfl allL allL) allL) allL) (allS ty108 rfl allL allL)) (allS ty60 rfl allL allL)))) (allN (allN (allN (allN (allS ty66 rfl allL (allS ty194 rfl allL allL)) (allS ty98 rfl allL allL)) (allN (allN allL (allS ty210 rfl allL allL)) (allS ty114 rfl allL allL))) (allS ty26 rfl (allS ty42 rfl allL allL) (allN (allN (allS ty154 rfl allL allL) allL) (allS ty122 rfl (allN (allS ty314 rfl allL allL) allL) (allS ty250 rfl allL allL))))) (allN (allS ty22 rfl (allN allL (allS ty102 rfl (allS ty166 rfl (allS ty294 rfl allL allL) allL) allL)) (allN (allS ty86 rfl allL allL) (allS ty118 rfl (allN (allS ty310 rfl allL allL) allL) allL))) (allN (allN (allN (allN (allS ty270 rfl allL allL) allL) allL) (allN allL (allN (allS ty366 rfl allL allL) allL))) (allS ty62 rfl allL (allN (allS ty190 rfl allL allL) allL)))))))
theorem allFn : AllT (FnOk Tryz.prog) fnT id := (allN (allN (allS ⟨Tryz.func3, Tryz.call3, rfl⟩ rfl (allS ⟨Tryz.func7, Tryz.call7, rfl⟩ rfl (allS ⟨Tryz.func15, Tryz.call15, rfl⟩ rfl (allS ⟨Tryz.func31, Tryz.call31, rfl⟩ rfl (allS ⟨Tryz.func63, Tryz.call63, rfl⟩ rfl (allS ⟨Tryz.func127, Tryz.call127, rfl⟩ rfl allL allL) allL) (allS ⟨Tryz.func95, Tryz.call95, rfl⟩ rfl (allS ⟨Tryz.func159, Tryz.call159, rfl⟩ rfl allL allL) allL)) (allN (allS ⟨Tryz.func79, Tryz.call79, rfl⟩ rfl (allS ⟨Tryz.func143, Tryz.call143, rfl⟩ rfl allL allL) (allS ⟨Tryz.func207, Tryz.call207, rfl⟩ rfl allL allL)) (allN allL (allS ⟨Tryz.func239, Tryz.call239, rfl⟩ rfl allL allL)))) (allS ⟨Tryz.func23, Tryz.call23, rfl⟩ rfl (allS ⟨Tryz.func39, Tryz.call39, rfl⟩ rfl (allS ⟨Tryz.func71, Tryz.call71, rfl⟩ rfl (allS ⟨Tryz.func135, Tryz.call135, rfl⟩ rfl (allS ⟨Tryz.func263, Tryz.call263, rfl⟩ rfl allL allL) allL) (allS ⟨Tryz.func199, Tryz.call199, rfl⟩ rfl (allS ⟨Tryz.func327, Tryz.call327, rfl⟩ rfl allL allL) allL)) (allS ⟨Tryz.func103, Tryz.call103, rfl⟩ rfl allL (allN (allS ⟨Tryz.func359, Tryz.call359, rfl⟩ rfl allL allL) allL))) (allN (allS ⟨Tryz.func87, Tryz.call87, rfl⟩ rfl (allN (allS ⟨Tryz.func279, Tryz.call279, rfl⟩ rfl allL allL) allL) allL) (allS ⟨Tryz.func119, Tryz.call119, rfl⟩ rfl allL (allS ⟨Tryz.func247, Tryz.call247, rfl⟩ rfl (allS ⟨Tryz.func375, Tryz.call375, rfl⟩ rfl allL allL) allL))))) (allS ⟨Tryz.func11, Tryz.call11, rfl⟩ rfl (allS ⟨Tryz.func19, Tryz.call19, rfl⟩ rfl (allS ⟨Tryz.func35, Tryz.call35, rfl⟩ rfl (allN (allN (allS ⟨Tryz.func259, Tryz.call259, rfl⟩ rfl allL allL) allL) (allS ⟨Tryz.func195, Tryz.call195, rfl⟩ rfl (allS ⟨Tryz.func323, Tryz.call323, rfl⟩ rfl allL allL) allL)) (allS ⟨Tryz.func99, Tryz.call99, rfl⟩ rfl (allS ⟨Tryz.func163, Tryz.call163, rfl⟩ rfl allL allL) (allS ⟨Tryz.func227, Tryz.call227, rfl⟩ rfl allL allL))) (allS ⟨Tryz.func51, Tryz.call51, rfl⟩ rfl (allS ⟨Tryz.func83, Tryz.call83, rfl⟩ rfl (allS ⟨Tryz.func147, Tryz.call147, rfl⟩ rfl allL allL) (allS ⟨Tryz.func211, Tryz.call211, rfl⟩ rfl allL allL)) (allN allL (allS ⟨Tryz.func243, Tryz.call243, rfl⟩ rfl (allS ⟨Tryz.func371, Tryz.call371, rfl⟩ rfl allL allL) allL)))) (allS ⟨Tryz.func27, Tryz.call27, rfl⟩ rfl (allS ⟨Tryz.func43, Tryz.call43, rfl⟩ rfl (allS ⟨Tryz.func75, Tryz.call75, rfl⟩ rfl (allS ⟨Tryz.func139, Tryz.call139, rfl⟩ rfl (allS ⟨Tryz.func267, Tryz.call267, rfl⟩ rfl allL allL) allL) (allS ⟨Tryz.func203, Tryz.call203, rfl⟩ rfl (allS ⟨Tryz.func331, Tryz.call331, rfl⟩ rfl allL allL) allL)) (allN (allS ⟨Tryz.func171, Tryz.call171, rfl⟩ rfl allL allL) (allS ⟨Tryz.func235, Tryz.call235, rfl⟩ rfl allL allL))) (allN (allS ⟨Tryz.func91, Tryz.call91, rfl⟩ rfl (allS ⟨Tryz.func155, Tryz.call155, rfl⟩ rfl allL allL) allL) (allS ⟨Tryz.func123, Tryz.call123, rfl⟩ rfl (allS ⟨Tryz.func187, Tryz.call187, rfl⟩ rfl (allS ⟨Tryz.func315, Tryz.call315, rfl⟩ rfl allL allL) allL) allL))))) (allS ⟨Tryz.func5, Tryz.call5, rfl⟩ rfl (allS ⟨Tryz.func9, Tryz.call9, rfl⟩ rfl (allS ⟨Tryz.func17, Tryz.call17, rfl⟩ rfl (allS ⟨Tryz.func33, Tryz.call33, rfl⟩ rfl (allN (allS ⟨Tryz.func129, Tryz.call129, rfl⟩ rfl allL allL) (allS ⟨Tryz.func193, Tryz.call193, rfl⟩ rfl allL allL)) (allS ⟨Tryz.func97, Tryz.call97, rfl⟩ rfl (allS ⟨Tryz.func161, Tryz.call161, rfl⟩ rfl allL allL) (allN (allS ⟨Tryz.func353, Tryz.call353, rfl⟩ rfl allL allL) allL))) (allS ⟨Tryz.func49, Tryz.call49, rfl⟩ rfl (allS ⟨Tryz.func81, Tryz.call81, rfl⟩ rfl (allS ⟨Tryz.func145, Tryz.call145, rfl⟩ rfl allL allL) (allS ⟨Tryz.func209, Tryz.call209, rfl⟩ rfl allL allL)) (allN allL (allS ⟨Tryz.func241, Tryz.call241, rfl⟩ rfl allL allL)))) (allS ⟨Tryz.func25, Tryz.call25, rfl⟩ rfl (allS ⟨Tryz.func41, Tryz.call41, rfl⟩ rfl (allS ⟨Tryz.func73, Tryz.call73, rfl⟩ rfl (allS ⟨Tryz.func137, Tryz.call137, rfl⟩ rfl (allS ⟨Tryz.func265, Tryz.call265, rfl⟩ rfl allL allL) allL) (allS ⟨Tryz.func201, Tryz.call201, rfl⟩ rfl (allS ⟨Tryz.func329, Tryz.call329, rfl⟩ rfl allL allL) allL)) allL) (allN (allN (allS ⟨Tryz.func153, Tryz.call153, rfl⟩ rfl (allS ⟨Tryz.func281, Tryz.call281, rfl⟩ rfl allL allL) allL) (allS ⟨Tryz.func217, Tryz.call217, rfl⟩ rfl allL allL)) (allS ⟨Tryz.func121, Tryz.call121, rfl⟩ rfl (allS ⟨Tryz.func185, Tryz.call185, rfl⟩ rfl (allS ⟨Tryz.func313, Tryz.call313, rfl⟩ rfl allL allL) allL) allL)))) (allS ⟨Tryz.func13, Tryz.call13, rfl⟩ rfl (allS ⟨Tryz.func21, Tryz.call21, rfl⟩ rfl (allN (allN (allN (allS ⟨Tryz.func261, Tryz.call261, rfl⟩ rfl allL allL) allL) (allS ⟨Tryz.func197, Tryz.call197, rfl⟩ rfl allL allL)) (allN allL (allS ⟨Tryz.func229, Tryz.call229, rfl⟩ rfl allL allL))) (allN (allS ⟨Tryz.func85, Tryz.call85, rfl⟩ rfl (allS ⟨Tryz.func149, Tryz.call149, rfl⟩ rfl allL allL) allL) (allS ⟨Tryz.func117, Tryz.call117, rfl⟩ rfl allL (allS ⟨Tryz.func245, Tryz.call245, rfl⟩ rfl (allS ⟨Tryz.func373, Tryz.call373, rfl⟩ rfl allL allL) allL)))) (allS ⟨Tryz.func29, Tryz.call29, rfl⟩ rfl (allN (allS ⟨Tryz.func77, Tryz.call77, rfl⟩ rfl (allS ⟨Tryz.func141, Tryz.call141, rfl⟩ rfl (allS ⟨Tryz.func269, Tryz.call269, rfl⟩ rfl allL allL) allL) allL) (allN (allS ⟨Tryz.func173, Tryz.call173, rfl⟩ rfl (allS ⟨Tryz.func301, Tryz.call301, rfl⟩ rfl allL allL) allL) allL)) (allS ⟨Tryz.func61, Tryz.call61, rfl⟩ rfl (allN (allS ⟨Tryz.func157, Tryz.call157, rfl⟩ rfl allL allL) allL) (allS ⟨Tryz.func125, Tryz.call125, rfl⟩ rfl (allN (allS ⟨Tryz.func317, Tryz.call317, rfl⟩ rfl allL allL) allL) allL)))))) (allN (allS ⟨Tryz.func4, Tryz.call4, rfl⟩ rfl (allS ⟨Tryz.func8, Tryz.call8, rfl⟩ rfl (allS ⟨Tryz.func16, Tryz.call16, rfl⟩ rfl (allS ⟨Tryz.func32, Tryz.call32, rfl⟩ rfl (allN (allS ⟨Tryz.func128, Tryz.call128, rfl⟩ rfl allL allL) allL) (allN (allS ⟨Tryz.func160, Tryz.call160, rfl⟩ rfl allL allL) (allN (allS ⟨Tryz.func352, Tryz.call352, rfl⟩ rfl allL allL) allL))) (allN (allS ⟨Tryz.func80, Tryz.call80, rfl⟩ rfl (allS ⟨Tryz.func144, Tryz.call144, rfl⟩ rfl allL allL) (allS ⟨Tryz.func208, Tryz.call208, rfl⟩ rfl allL allL)) (allN (allS ⟨Tryz.func176, Tryz.call176, rfl⟩ rfl allL allL) (allS ⟨Tryz.func240, Tryz.call240, rfl⟩ rfl allL allL)))) (allS ⟨Tryz.func24, Tryz.call24, rfl⟩ rfl (allN (allS ⟨Tryz.func72, Tryz.call72, rfl⟩ rfl (allS ⟨Tryz.func136, Tryz.call136, rfl⟩ rfl (allS ⟨Tryz.func264, Tryz.call264, rfl⟩ rfl allL allL) allL) (allS ⟨Tryz.func200, Tryz.call200, rfl⟩ rfl (allS ⟨Tryz.func328, Tryz.call328, rfl⟩ rfl allL allL) allL)) (allS ⟨Tryz.func104, Tryz.call104, rfl⟩ rfl (allS ⟨Tryz.func168, Tryz.call168, rfl⟩ rfl allL allL) (allN (allS ⟨Tryz.func360, Tryz.call360, rfl⟩ rfl allL allL) allL))) (allN (allS ⟨Tryz.func88, Tryz.call88, rfl⟩ rfl (allS ⟨Tryz.func152, Tryz.call152, rfl⟩ rfl (allS ⟨Tryz.func280, Tryz.call280, rfl⟩ rfl allL allL) allL) allL) (allS ⟨Tryz.func120, Tryz.call120, rfl⟩ rfl (allS ⟨Tryz.func184, Tryz.call184, rfl⟩ rfl (allS ⟨Tryz.func312, Tryz.call312, rfl⟩ rfl allL allL) allL) allL)))) (allS ⟨Tryz.func12, Tryz.call12, rfl⟩ rfl (allS ⟨Tryz.func20, Tryz.call20, rfl⟩ rfl (allS ⟨Tryz.func36, Tryz.call36, rfl⟩ rfl (allN (allN (allS ⟨Tryz.func260, Tryz.call260, rfl⟩ rfl allL allL) allL) (allS ⟨Tryz.func196, Tryz.call196, rfl⟩ rfl (allS ⟨Tryz.func324, Tryz.call324, rfl⟩ rfl allL allL) allL)) (allS ⟨Tryz.func100, Tryz.call100, rfl⟩ rfl allL (allS ⟨Tryz.func228, Tryz.call228, rfl⟩ rfl allL allL))) (allS ⟨Tryz.func52, Tryz.call52, rfl⟩ rfl (allS ⟨Tryz.func84, Tryz.call84, rfl⟩ rfl (allS ⟨Tryz.func148, Tryz.call148, rfl⟩ rfl allL allL) (allS ⟨Tryz.func212, Tryz.call212, rfl⟩ rfl allL allL)) (allN allL (allS ⟨Tryz.func244, Tryz.call244, rfl⟩ rfl (allS ⟨Tryz.func372, Tryz.call372, rfl⟩ rfl allL allL) allL)))) (allS ⟨Tryz.func28, Tryz.call28, rfl⟩ rfl (allN (allN (allS ⟨Tryz.func140, Tryz.call140, rfl⟩ rfl (allS ⟨Tryz.func268, Tryz.call268, rfl⟩ rfl allL allL) allL) allL) (allS ⟨Tryz.func108, Tryz.call108, rfl⟩ rfl (allS ⟨Tryz.func172, Tryz.call172, rfl⟩ rfl allL allL) (allN (allS ⟨Tryz.func364, Tryz.call364, rfl⟩ rfl allL allL) allL))) (allN (allS ⟨Tryz.func92, Tryz.call92, rfl⟩ rfl (allS ⟨Tryz.func156, Tryz.call156, rfl⟩ rfl allL allL) allL) (allS ⟨Tryz.func124, Tryz.call124, rfl⟩ rfl (allS ⟨Tryz.func188, Tryz.call188, rfl⟩ rfl (allS ⟨Tryz.func316, Tryz.call316, rfl⟩ rfl allL allL) allL) allL))))) (allS ⟨Tryz.func6, Tryz.call6, rfl⟩ rfl (allS ⟨Tryz.func10, Tryz.call10, rfl⟩ rfl (allS ⟨Tryz.func18, Tryz.call18, rfl⟩ rfl (allS ⟨Tryz.func34, Tryz.call34, rfl⟩ rfl (allN (allS ⟨Tryz.func130, Tryz.call130, rfl⟩ rfl (allS ⟨Tryz.func258, Tryz.call258, rfl⟩ rfl allL allL) allL) (allS ⟨Tryz.func194, Tryz.call194, rfl⟩ rfl allL allL)) (allS ⟨Tryz.func98, Tryz.call98, rfl⟩ rfl allL (allS ⟨Tryz.func226, Tryz.call226, rfl⟩ rfl allL allL))) (allS ⟨Tryz.func50, Tryz.call50, rfl⟩ rfl (allS ⟨Tryz.func82, Tryz.call82, rfl⟩ rfl (allN (allS ⟨Tryz.func274, Tryz.call274, rfl⟩ rfl allL allL) allL) (allS ⟨Tryz.func210, Tryz.call210, rfl⟩ rfl allL allL)) (allN allL (allN (allS ⟨Tryz.func370, Tryz.call370, rfl⟩ rfl allL allL) allL)))) (allS ⟨Tryz.func26, Tryz.call26, rfl⟩ rfl (allN (allS ⟨Tryz.func74, Tryz.call74, rfl⟩ rfl (allS ⟨Tryz.func138, Tryz.call138, rfl⟩ rfl allL allL) (allN (allS ⟨Tryz.func330, Tryz.call330, rfl⟩ rfl allL allL) allL)) (allS ⟨Tryz.func106, Tryz.call106, rfl⟩ rfl allL (allN (allS ⟨Tryz.func362, Tryz.call362, rfl⟩ rfl allL allL) allL))) (allS ⟨Tryz.func58, Tryz.call58, rfl⟩ rfl (allS ⟨Tryz.func90, Tryz.call90, rfl⟩ rfl (allS ⟨Tryz.func154, Tryz.call154, rfl⟩ rfl allL allL) (allS ⟨Tryz.func218, Tryz.call218, rfl⟩ rfl allL allL)) (allN (allN (allS ⟨Tryz.func314, Tryz.call314, rfl⟩ rfl allL allL) allL) allL)))) (allS ⟨Tryz.func14, Tryz.call14, rfl⟩ rfl (allS ⟨Tryz.func22, Tryz.call22, rfl⟩ rfl (allN (allS ⟨Tryz.func70, Tryz.call70, rfl⟩ rfl (allS ⟨Tryz.func134, Tryz.call134, rfl⟩ rfl (allS ⟨Tryz.func262, Tryz.call262, rfl⟩ rfl allL allL) allL) (allS ⟨Tryz.func198, Tryz.call198, rfl⟩ rfl allL allL)) (allS ⟨Tryz.func102, Tryz.call102, rfl⟩ rfl (allS ⟨Tryz.func166, Tryz.call166, rfl⟩ rfl allL allL) (allS ⟨Tryz.func230, Tryz.call230, rfl⟩ rfl (allS ⟨Tryz.func358, Tryz.call358, rfl⟩ rfl allL allL) allL))) (allN (allS ⟨Tryz.func86, Tryz.call86, rfl⟩ rfl (allS ⟨Tryz.func150, Tryz.call150, rfl⟩ rfl allL allL) (allS ⟨Tryz.func214, Tryz.call214, rfl⟩ rfl allL allL)) (allS ⟨Tryz.func118, Tryz.call118, rfl⟩ rfl allL allL))) (allS ⟨Tryz.func30, Tryz.call30, rfl⟩ rfl (allN (allS ⟨Tryz.func78, Tryz.call78, rfl⟩ rfl (allS ⟨Tryz.func142, Tryz.call142, rfl⟩ rfl allL allL) allL) (allS ⟨Tryz.func110, Tryz.call110, rfl⟩ rfl allL (allS ⟨Tryz.func238, Tryz.call238, rfl⟩ rfl allL allL))) (allS ⟨Tryz.func62, Tryz.call62, rfl⟩ rfl allL (allN (allS ⟨Tryz.func190, Tryz.call190, rfl⟩ rfl (allS ⟨Tryz.func318, Tryz.call318, rfl⟩ rfl allL allL) allL) allL)))))))
theorem allMe : AllT (MeOk Tryz.prog) meT id := (allN (allN (allN (allN allL (allN allL (allN (allN allL (allS meOk215 rfl allL allL)) allL))) allL) (allN allL (allN (allN (allN (allS meOk69 rfl allL allL) allL) allL) (allN (allN (allS meOk77 rfl allL allL) allL) allL)))) allL)
theorem row4 {E : Nat → Int} {ι : Pl} : AllT (fun i a => i < 28 ∧ ∃ v, (rowV strs4)[i]? = some v ∧ V E ι a v) cs4 id := (allS ⟨by decide, _, rfl, strV⟩ rfl (allS ⟨by decide, _, rfl, strV⟩ rfl (allS ⟨by decide, _, rfl, strV⟩ rfl (allS ⟨by decide, _, rfl, strV⟩ rfl (allS ⟨by decide, _, rfl, strV⟩ rfl allL allL) (allS ⟨by decide, _, rfl, strV⟩ rfl allL allL)) (allS ⟨by decide, _, rfl, strV⟩ rfl (allS ⟨by decide, _, rfl, strV⟩ rfl allL allL) (allS ⟨by decide, _, rfl, strV⟩ rfl allL allL))) (allS ⟨by decide, _, rfl, strV⟩ rfl (allS ⟨by decide, _, rfl, strV⟩ rfl (allS ⟨by decide, _, rfl, strV⟩ rfl allL allL) (allS ⟨by decide, _, rfl, strV⟩ rfl allL allL)) (allS ⟨by decide, _, rfl, strV⟩ rfl (allS ⟨by decide, _, rfl, strV⟩ rfl allL allL) allL))) (allS ⟨by decide, _, rfl, strV⟩ rfl (allS ⟨by decide, _, rfl, strV⟩ rfl (allS ⟨by decide, _, rfl, strV⟩ rfl (allS ⟨by decide, _, rfl, strV⟩ rfl allL allL) (allS ⟨by decide, _, rfl, strV⟩ rfl allL allL)) (allS ⟨by decide, _, rfl, strV⟩ rfl (allS ⟨by decide, _, rfl, strV⟩ rfl allL allL) allL)) (allS ⟨by decide, _, rfl, strV⟩ rfl (allS ⟨by decide, _, rfl, strV⟩ rfl (allS ⟨by decide, _, rfl, strV⟩ rfl allL allL) (allS ⟨by decide, _, rfl, strV⟩ rfl allL allL)) (allS ⟨by decide, _, rfl, strV⟩ rfl (allS ⟨by decide, _, rfl, strV⟩ rfl allL allL) allL))))
theorem row5 {E : Nat → Int} {ι : Pl} : AllT (fun i a => i < 7 ∧ ∃ v, (rowV strs5)[i]? = some v ∧ V E ι a v) cs5 id := (allS ⟨by decide, _, rfl, strV⟩ rfl (allS ⟨by decide, _, rfl, strV⟩ rfl (allS ⟨by decide, _, rfl, strV⟩ rfl allL allL) (allS ⟨by decide, _, rfl, strV⟩ rfl allL allL)) (allS ⟨by decide, _, rfl, strV⟩ rfl (allS ⟨by decide, _, rfl, strV⟩ rfl allL allL) (allS ⟨by decide, _, rfl, strV⟩ rfl allL allL)))
theorem mvOk164 : MvOk Tryz.prog 164 mv164 := by
  intro x hx v w
  simp only [mv164, List.mem_cons, List.not_mem_nil, or_false] at hx
  subst hx
  kernel_rfl
theorem mvOk166 : MvOk Tryz.prog 166 mv166 := by
  intro x hx v w
  simp only [mv166, List.mem_cons, List.not_mem_nil, or_false] at hx
  subst hx
  kernel_rfl
theorem allMv : AllT (MvOk Tryz.prog) mvT id := (allN allL (allN (allN allL (allN (allN (allN allL (allN (allS mvOk164 rfl allL allL) allL)) allL) allL)) (allN allL (allN (allN (allN allL (allN (allS mvOk166 rfl allL allL) allL)) allL) allL))))
theorem mixedO : Tryz.prog.follows .mixedOrders = true := by kernel_rfl

end Go.Proofs.YtednkkcmboahgaaGreatDoor

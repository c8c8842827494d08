/-
  A checked run: the tables are the program's. (Written by wip/tools/rf/mktab2.py.)
-/
import Derived.Test.YtjdabnpfinlefaaGreatDoorRtA
import Derived.Test.YtjdabnpfinlefaaGreatDoorRfTab
import Derived.KernelRfl
namespace Go.Proofs.YtjdabnpfinlefaaGreatDoor

theorem ty2 : TyOk Tryz.prog 2 ti2 := tyOk_of (eq := true) (by kernel_rfl) (by kernel_rfl)
theorem ty3 : TyOk Tryz.prog 3 ti3 := tyOk_of (eq := true) (by kernel_rfl) (by kernel_rfl)
theorem ty4 : TyOk Tryz.prog 4 ti4 := tyOk_of (eq := true) (by kernel_rfl) (by kernel_rfl)
theorem ty5 : TyOk Tryz.prog 5 ti5 := tyOk_of (eq := true) (by kernel_rfl) (by kernel_rfl)
theorem ty9 : TyOk Tryz.prog 9 ti9 := tyOk_of (eq := true) (by kernel_rfl) (by kernel_rfl)
theorem ty22 : TyOk Tryz.prog 22 ti22 := tyOk_of (eq := true) (by kernel_rfl) (by kernel_rfl)
theorem ty27 : TyOk Tryz.prog 27 ti27 := tyOk_of (eq := true) (by kernel_rfl) (by kernel_rfl)
theorem ty30 : TyOk Tryz.prog 30 ti30 := tyOk_of (eq := true) (by kernel_rfl) (by kernel_rfl)
theorem ty32 : TyOk Tryz.prog 32 ti32 := tyOk_of (eq := true) (by kernel_rfl) (by kernel_rfl)
theorem ty35 : TyOk Tryz.prog 35 ti35 := tyOk_of (eq := true) (by kernel_rfl) (by kernel_rfl)
theorem ty37 : TyOk Tryz.prog 37 ti37 := tyOk_of (eq := true) (by kernel_rfl) (by kernel_rfl)
theorem ty38 : TyOk Tryz.prog 38 ti38 := tyOk_of (eq := true) (by kernel_rfl) (by kernel_rfl)
theorem ty40 : TyOk Tryz.prog 40 ti40 := tyOk_of (eq := true) (by kernel_rfl) (by kernel_rfl)
theorem ty41 : TyOk Tryz.prog 41 ti41 := tyOk_of (eq := true) (by kernel_rfl) (by kernel_rfl)
theorem ty43 : TyOk Tryz.prog 43 ti43 := tyOk_of (eq := true) (by kernel_rfl) (by kernel_rfl)
theorem ty45 : TyOk Tryz.prog 45 ti45 := tyOk_of (eq := true) (by kernel_rfl) (by kernel_rfl)
theorem ty47 : TyOk Tryz.prog 47 ti47 := tyOk_of (eq := false) (by kernel_rfl) (by kernel_rfl)
theorem ty49 : TyOk Tryz.prog 49 ti49 := tyOk_of (eq := false) (by kernel_rfl) (by kernel_rfl)
theorem ty50 : TyOk Tryz.prog 50 ti50 := tyOk_of (eq := true) (by kernel_rfl) (by kernel_rfl)
theorem ty53 : TyOk Tryz.prog 53 ti53 := tyOk_of (eq := false) (by kernel_rfl) (by kernel_rfl)
theorem ty56 : TyOk Tryz.prog 56 ti56 := tyOk_of (eq := true) (by kernel_rfl) (by kernel_rfl)
theorem ty57 : TyOk Tryz.prog 57 ti57 := tyOk_of (eq := true) (by kernel_rfl) (by kernel_rfl)
theorem ty59 : TyOk Tryz.prog 59 ti59 := tyOk_of (eq := false) (by kernel_rfl) (by kernel_rfl)
theorem ty60 : TyOk Tryz.prog 60 ti60 := tyOk_of (eq := true) (by kernel_rfl) (by kernel_rfl)
theorem ty62 : TyOk Tryz.prog 62 ti62 := tyOk_of (eq := true) (by kernel_rfl) (by kernel_rfl)
theorem ty64 : TyOk Tryz.prog 64 ti64 := tyOk_of (eq := true) (by kernel_rfl) (by kernel_rfl)
theorem ty67 : TyOk Tryz.prog 67 ti67 := tyOk_of (eq := false) (by kernel_rfl) (by kernel_rfl)
theorem ty69 : TyOk Tryz.prog 69 ti69 := tyOk_of (eq := true) (by kernel_rfl) (by kernel_rfl)
theorem ty72 : TyOk Tryz.prog 72 ti72 := tyOk_of (eq := true) (by kernel_rfl) (by kernel_rfl)
theorem ty75 : TyOk Tryz.prog 75 ti75 := tyOk_of (eq := true) (by kernel_rfl) (by kernel_rfl)
theorem ty80 : TyOk Tryz.prog 80 ti80 := tyOk_of (eq := true) (by kernel_rfl) (by kernel_rfl)
theorem ty81 : TyOk Tryz.prog 81 ti81 := tyOk_of (eq := true) (by kernel_rfl) (by kernel_rfl)
theorem ty83 : TyOk Tryz.prog 83 ti83 := tyOk_of (eq := true) (by kernel_rfl) (by kernel_rfl)
theorem ty85 : TyOk Tryz.prog 85 ti85 := tyOk_of (eq := true) (by kernel_rfl) (by kernel_rfl)
theorem ty87 : TyOk Tryz.prog 87 ti87 := tyOk_of (eq := true) (by kernel_rfl) (by kernel_rfl)
theorem ty90 : TyOk Tryz.prog 90 ti90 := tyOk_of (eq := true) (by kernel_rfl) (by kernel_rfl)
theorem ty92 : TyOk Tryz.prog 92 ti92 := tyOk_of (eq := false) (by kernel_rfl) (by kernel_rfl)
theorem ty124 : TyOk Tryz.prog 124 ti124 := tyOk_of (eq := true) (by kernel_rfl) (by kernel_rfl)
theorem ty130 : TyOk Tryz.prog 130 ti130 := tyOk_of (eq := true) (by kernel_rfl) (by kernel_rfl)
theorem ty132 : TyOk Tryz.prog 132 ti132 := tyOk_of (eq := true) (by kernel_rfl) (by kernel_rfl)
theorem ty134 : TyOk Tryz.prog 134 ti134 := tyOk_of (eq := false) (by kernel_rfl) (by kernel_rfl)
theorem ty145 : TyOk Tryz.prog 145 ti145 := tyOk_of (eq := true) (by kernel_rfl) (by kernel_rfl)
theorem ty150 : TyOk Tryz.prog 150 ti150 := tyOk_of (eq := true) (by kernel_rfl) (by kernel_rfl)
theorem ty155 : TyOk Tryz.prog 155 ti155 := tyOk_of (eq := true) (by kernel_rfl) (by kernel_rfl)
theorem ty159 : TyOk Tryz.prog 159 ti159 := tyOk_of (eq := true) (by kernel_rfl) (by kernel_rfl)
theorem ty161 : TyOk Tryz.prog 161 ti161 := tyOk_of (eq := true) (by kernel_rfl) (by kernel_rfl)
theorem ty164 : TyOk Tryz.prog 164 ti164 := tyOk_of (eq := true) (by kernel_rfl) (by kernel_rfl)
theorem ty168 : TyOk Tryz.prog 168 ti168 := tyOk_of (eq := true) (by kernel_rfl) (by kernel_rfl)
theorem ty187 : TyOk Tryz.prog 187 ti187 := tyOk_of (eq := true) (by kernel_rfl) (by kernel_rfl)
theorem ty188 : TyOk Tryz.prog 188 ti188 := tyOk_of (eq := true) (by kernel_rfl) (by kernel_rfl)
theorem ty204 : TyOk Tryz.prog 204 ti204 := tyOk_of (eq := true) (by kernel_rfl) (by kernel_rfl)
theorem ty208 : TyOk Tryz.prog 208 ti208 := tyOk_of (eq := true) (by kernel_rfl) (by kernel_rfl)
theorem ty210 : TyOk Tryz.prog 210 ti210 := tyOk_of (eq := false) (by kernel_rfl) (by kernel_rfl)
theorem ty211 : TyOk Tryz.prog 211 ti211 := tyOk_of (eq := true) (by kernel_rfl) (by kernel_rfl)
theorem ty213 : TyOk Tryz.prog 213 ti213 := tyOk_of (eq := true) (by kernel_rfl) (by kernel_rfl)
theorem ty219 : TyOk Tryz.prog 219 ti219 := tyOk_of (eq := true) (by kernel_rfl) (by kernel_rfl)
theorem ty237 : TyOk Tryz.prog 237 ti237 := tyOk_of (eq := true) (by kernel_rfl) (by kernel_rfl)
theorem ty239 : TyOk Tryz.prog 239 ti239 := tyOk_of (eq := true) (by kernel_rfl) (by kernel_rfl)
theorem ty257 : TyOk Tryz.prog 257 ti257 := tyOk_of (eq := true) (by kernel_rfl) (by kernel_rfl)
theorem ty259 : TyOk Tryz.prog 259 ti259 := tyOk_of (eq := true) (by kernel_rfl) (by kernel_rfl)
theorem ty263 : TyOk Tryz.prog 263 ti263 := tyOk_of (eq := true) (by kernel_rfl) (by kernel_rfl)
theorem ty271 : TyOk Tryz.prog 271 ti271 := tyOk_of (eq := true) (by kernel_rfl) (by kernel_rfl)
theorem ty288 : TyOk Tryz.prog 288 ti288 := tyOk_of (eq := true) (by kernel_rfl) (by kernel_rfl)
theorem ty290 : TyOk Tryz.prog 290 ti290 := tyOk_of (eq := true) (by kernel_rfl) (by kernel_rfl)
theorem ty330 : TyOk Tryz.prog 330 ti330 := tyOk_of (eq := true) (by kernel_rfl) (by kernel_rfl)
theorem ty331 : TyOk Tryz.prog 331 ti331 := tyOk_of (eq := true) (by kernel_rfl) (by kernel_rfl)
theorem meth50_0 (b o : Nat) (w : World) : (method (Tryz.prog.types.size + Made.depth) 50 (.pointer (some ⟨b, o, none⟩)) "loop.example/g00317/impl.add").run Tryz.prog w = .ok (92, .pointer (some ⟨b, o + 0, none⟩)) w := by kernel_rfl
theorem meth50_1 (b o : Nat) (w : World) : (method (Tryz.prog.types.size + Made.depth) 50 (.pointer (some ⟨b, o, none⟩)) "loop.example/g00317/impl.own").run Tryz.prog w = .ok (304, .pointer (some ⟨b, o + 0, none⟩)) w := by kernel_rfl
theorem meth50_2 (b o : Nat) (w : World) : (method (Tryz.prog.types.size + Made.depth) 50 (.pointer (some ⟨b, o, none⟩)) "loop.example/g00317/impl.parent").run Tryz.prog w = .ok (305, .pointer (some ⟨b, o + 0, none⟩)) w := by kernel_rfl
theorem meth50_3 (b o : Nat) (w : World) : (method (Tryz.prog.types.size + Made.depth) 50 (.pointer (some ⟨b, o, none⟩)) "loop.example/g00317/impl.put").run Tryz.prog w = .ok (202, .pointer (some ⟨b, o + 0, none⟩)) w := by kernel_rfl
theorem meOk50 : MeOk Tryz.prog 50 me50 := by
  intro x hx
  simp only [me50, List.mem_cons, List.not_mem_nil, or_false] at hx
  rcases hx with rfl | rfl | rfl | rfl
  · exact meth50_0
  · exact meth50_1
  · exact meth50_2
  · exact meth50_3
theorem meth57_0 (b o : Nat) (w : World) : (method (Tryz.prog.types.size + Made.depth) 57 (.pointer (some ⟨b, o, none⟩)) "loop.example/g00317/impl.declare").run Tryz.prog w = .ok (310, .pointer (some ⟨b, o + 0, none⟩)) w := by kernel_rfl
theorem meth57_1 (b o : Nat) (w : World) : (method (Tryz.prog.types.size + Made.depth) 57 (.pointer (some ⟨b, o, none⟩)) "loop.example/g00317/impl.get").run Tryz.prog w = .ok (311, .pointer (some ⟨b, o + 0, none⟩)) w := by kernel_rfl
theorem meth57_2 (b o : Nat) (w : World) : (method (Tryz.prog.types.size + Made.depth) 57 (.pointer (some ⟨b, o, none⟩)) "loop.example/g00317/impl.has").run Tryz.prog w = .ok (312, .pointer (some ⟨b, o + 0, none⟩)) w := by kernel_rfl
theorem meth57_3 (b o : Nat) (w : World) : (method (Tryz.prog.types.size + Made.depth) 57 (.pointer (some ⟨b, o, none⟩)) "loop.example/g00317/impl.outer").run Tryz.prog w = .ok (313, .pointer (some ⟨b, o + 0, none⟩)) w := by kernel_rfl
theorem meth57_4 (b o : Nat) (w : World) : (method (Tryz.prog.types.size + Made.depth) 57 (.pointer (some ⟨b, o, none⟩)) "loop.example/g00317/impl.put").run Tryz.prog w = .ok (314, .pointer (some ⟨b, o + 0, none⟩)) w := by kernel_rfl
theorem meth57_5 (b o : Nat) (w : World) : (method (Tryz.prog.types.size + Made.depth) 57 (.pointer (some ⟨b, o, none⟩)) "loop.example/g00317/impl.this").run Tryz.prog w = .ok (316, .pointer (some ⟨b, o + 0, none⟩)) w := by kernel_rfl
theorem meOk57 : MeOk Tryz.prog 57 me57 := by
  intro x hx
  simp only [me57, List.mem_cons, List.not_mem_nil, or_false] at hx
  rcases hx with rfl | rfl | rfl | rfl | rfl | rfl
  · exact meth57_0
  · exact meth57_1
  · exact meth57_2
  · exact meth57_3
  · exact meth57_4
  · exact meth57_5
theorem meth155_0 (b o : Nat) (w : World) : (method (Tryz.prog.types.size + Made.depth) 155 (.pointer (some ⟨b, o, none⟩)) "loop.example/g00317/impl.declare").run Tryz.prog w = .ok (89, .pointer (some ⟨b, o + 0, none⟩)) w := by kernel_rfl
theorem meth155_1 (b o : Nat) (w : World) : (method (Tryz.prog.types.size + Made.depth) 155 (.pointer (some ⟨b, o, none⟩)) "loop.example/g00317/impl.get").run Tryz.prog w = .ok (322, .pointer (some ⟨b, o + 0, none⟩)) w := by kernel_rfl
theorem meth155_2 (b o : Nat) (w : World) : (method (Tryz.prog.types.size + Made.depth) 155 (.pointer (some ⟨b, o, none⟩)) "loop.example/g00317/impl.has").run Tryz.prog w = .ok (127, .pointer (some ⟨b, o + 0, none⟩)) w := by kernel_rfl
theorem meth155_3 (b o : Nat) (w : World) : (method (Tryz.prog.types.size + Made.depth) 155 (.pointer (some ⟨b, o, none⟩)) "loop.example/g00317/impl.outer").run Tryz.prog w = .ok (323, .pointer (some ⟨b, o + 0, none⟩)) w := by kernel_rfl
theorem meth155_4 (b o : Nat) (w : World) : (method (Tryz.prog.types.size + Made.depth) 155 (.pointer (some ⟨b, o, none⟩)) "loop.example/g00317/impl.put").run Tryz.prog w = .ok (90, .pointer (some ⟨b, o + 0, none⟩)) w := by kernel_rfl
theorem meOk155 : MeOk Tryz.prog 155 me155 := by
  intro x hx
  simp only [me155, List.mem_cons, List.not_mem_nil, or_false] at hx
  rcases hx with rfl | rfl | rfl | rfl | rfl
  · exact meth155_0
  · exact meth155_1
  · exact meth155_2
  · exact meth155_3
  · exact meth155_4
theorem meth237_0 (b o : Nat) (w : World) : (method (Tryz.prog.types.size + Made.depth) 237 (.pointer (some ⟨b, o, none⟩)) "loop.example/g00317/impl.own").run Tryz.prog w = .ok (339, .pointer (some ⟨b, o + 0, none⟩)) w := by kernel_rfl
theorem meth237_1 (b o : Nat) (w : World) : (method (Tryz.prog.types.size + Made.depth) 237 (.pointer (some ⟨b, o, none⟩)) "loop.example/g00317/impl.put").run Tryz.prog w = .ok (174, .pointer (some ⟨b, o + 0, none⟩)) w := by kernel_rfl
theorem meth237_2 (b o : Nat) (w : World) : (method (Tryz.prog.types.size + Made.depth) 237 (.pointer (some ⟨b, o, none⟩)) "loop.example/g00317/impl.remove").run Tryz.prog w = .ok (340, .pointer (some ⟨b, o + 0, none⟩)) w := by kernel_rfl
theorem meOk237 : MeOk Tryz.prog 237 me237 := by
  intro x hx
  simp only [me237, List.mem_cons, List.not_mem_nil, or_false] at hx
  rcases hx with rfl | rfl | rfl
  · exact meth237_0
  · exact meth237_1
  · exact meth237_2
theorem allTy : AllT (TyOk Tryz.prog) tyT id := (allN (allN (allS ty3 rfl (allN (allN (allN allL (allN (allS ty159 rfl allL allL) allL)) (allS ty47 rfl (allN (allN (allS ty271 rfl allL allL) allL) allL) (allN allL (allS ty239 rfl allL allL)))) (allN (allN (allN (allN (allS ty263 rfl allL allL) allL) allL) allL) (allN (allS ty87 rfl allL allL) allL))) (allN (allN (allS ty35 rfl (allS ty67 rfl (allN (allS ty259 rfl allL allL) allL) allL) allL) (allN (allS ty83 rfl allL (allS ty211 rfl allL allL)) allL)) (allS ty27 rfl (allS ty43 rfl (allS ty75 rfl allL (allN (allS ty331 rfl allL allL) allL)) allL) (allS ty59 rfl (allN (allS ty155 rfl allL allL) (allS ty219 rfl allL allL)) (allN (allS ty187 rfl allL allL) allL))))) (allS ty5 rfl (allS ty9 rfl (allN (allN (allN (allN (allS ty257 rfl allL allL) allL) allL) (allN (allS ty161 rfl allL allL) allL)) (allS ty49 rfl (allS ty81 rfl (allS ty145 rfl allL allL) allL) allL)) (allN (allS ty41 rfl allL allL) (allS ty57 rfl allL allL))) (allN (allN (allS ty37 rfl (allS ty69 rfl allL allL) allL) (allS ty53 rfl (allS ty85 rfl allL (allS ty213 rfl allL allL)) allL)) (allN (allS ty45 rfl allL (allN allL (allS ty237 rfl allL allL))) allL)))) (allS ty2 rfl (allS ty4 rfl (allN (allN (allS ty32 rfl (allS ty64 rfl allL allL) (allN (allN (allS ty288 rfl allL allL) allL) allL)) (allN (allS ty80 rfl allL (allS ty208 rfl allL allL)) allL)) (allN (allS ty40 rfl (allS ty72 rfl allL allL) (allN (allS ty168 rfl allL allL) allL)) (allS ty56 rfl allL allL))) (allN (allN (allN (allN (allS ty132 rfl allL allL) allL) (allN (allS ty164 rfl allL allL) allL)) allL) (allN (allN (allN allL (allS ty204 rfl allL allL)) allL) (allS ty60 rfl (allS ty92 rfl allL allL) (allS ty124 rfl (allS ty188 rfl allL allL) allL))))) (allN (allN (allN (allN (allN (allS ty130 rfl allL allL) allL) (allN (allN (allS ty290 rfl allL allL) allL) allL)) (allS ty50 rfl (allN allL (allS ty210 rfl allL allL)) allL)) (allN (allN (allN allL (allN (allS ty330 rfl allL allL) allL)) allL) (allN (allS ty90 rfl allL allL) allL))) (allN (allS ty22 rfl (allS ty38 rfl (allN (allS ty134 rfl allL allL) allL) allL) (allN (allN (allS ty150 rfl allL allL) allL) allL)) (allS ty30 rfl allL (allS ty62 rfl allL allL))))))
theorem allFn : AllT (FnOk Tryz.prog) fnT id := (allN (allN (allN (allS ⟨Tryz.func7, Tryz.call7, rfl⟩ rfl (allS ⟨Tryz.func15, Tryz.call15, rfl⟩ rfl (allS ⟨Tryz.func31, Tryz.call31, rfl⟩ rfl (allS ⟨Tryz.func63, Tryz.call63, rfl⟩ rfl (allS ⟨Tryz.func127, Tryz.call127, rfl⟩ rfl allL allL) allL) (allS ⟨Tryz.func95, Tryz.call95, rfl⟩ rfl (allS ⟨Tryz.func159, Tryz.call159, rfl⟩ rfl allL allL) allL)) (allS ⟨Tryz.func47, Tryz.call47, rfl⟩ rfl (allN (allS ⟨Tryz.func143, Tryz.call143, rfl⟩ rfl (allS ⟨Tryz.func271, Tryz.call271, rfl⟩ rfl allL allL) allL) allL) (allS ⟨Tryz.func111, Tryz.call111, rfl⟩ rfl (allS ⟨Tryz.func175, Tryz.call175, rfl⟩ rfl allL allL) allL))) (allS ⟨Tryz.func23, Tryz.call23, rfl⟩ rfl (allN (allS ⟨Tryz.func71, Tryz.call71, rfl⟩ rfl (allS ⟨Tryz.func135, Tryz.call135, rfl⟩ rfl allL allL) allL) (allN (allS ⟨Tryz.func167, Tryz.call167, rfl⟩ rfl allL allL) allL)) (allN (allN (allS ⟨Tryz.func151, Tryz.call151, rfl⟩ rfl (allS ⟨Tryz.func279, Tryz.call279, rfl⟩ rfl allL allL) allL) allL) (allS ⟨Tryz.func119, Tryz.call119, rfl⟩ rfl (allS ⟨Tryz.func183, Tryz.call183, rfl⟩ rfl (allS ⟨Tryz.func311, Tryz.call311, rfl⟩ rfl allL allL) allL) allL)))) (allS ⟨Tryz.func11, Tryz.call11, rfl⟩ rfl (allS ⟨Tryz.func19, Tryz.call19, rfl⟩ rfl (allS ⟨Tryz.func35, Tryz.call35, rfl⟩ rfl (allS ⟨Tryz.func67, Tryz.call67, rfl⟩ rfl (allS ⟨Tryz.func131, Tryz.call131, rfl⟩ rfl (allS ⟨Tryz.func259, Tryz.call259, rfl⟩ rfl allL allL) allL) (allS ⟨Tryz.func195, Tryz.call195, rfl⟩ rfl (allS ⟨Tryz.func323, Tryz.call323, rfl⟩ rfl allL allL) allL)) (allS ⟨Tryz.func99, Tryz.call99, rfl⟩ rfl (allS ⟨Tryz.func163, Tryz.call163, rfl⟩ rfl allL allL) allL)) (allN (allS ⟨Tryz.func83, Tryz.call83, rfl⟩ rfl (allN (allS ⟨Tryz.func275, Tryz.call275, rfl⟩ rfl allL allL) allL) (allS ⟨Tryz.func211, Tryz.call211, rfl⟩ rfl (allS ⟨Tryz.func339, Tryz.call339, rfl⟩ rfl allL allL) allL)) (allS ⟨Tryz.func115, Tryz.call115, rfl⟩ rfl allL (allS ⟨Tryz.func243, Tryz.call243, rfl⟩ rfl allL allL)))) (allS ⟨Tryz.func27, Tryz.call27, rfl⟩ rfl (allN (allS ⟨Tryz.func75, Tryz.call75, rfl⟩ rfl (allS ⟨Tryz.func139, Tryz.call139, rfl⟩ rfl allL allL) allL) (allS ⟨Tryz.func107, Tryz.call107, rfl⟩ rfl (allS ⟨Tryz.func171, Tryz.call171, rfl⟩ rfl allL allL) allL)) (allS ⟨Tryz.func59, Tryz.call59, rfl⟩ rfl (allN (allS ⟨Tryz.func155, Tryz.call155, rfl⟩ rfl allL allL) (allS ⟨Tryz.func219, Tryz.call219, rfl⟩ rfl allL allL)) (allN (allS ⟨Tryz.func187, Tryz.call187, rfl⟩ rfl allL allL) allL))))) (allS ⟨Tryz.func5, Tryz.call5, rfl⟩ rfl (allS ⟨Tryz.func9, Tryz.call9, rfl⟩ rfl (allS ⟨Tryz.func17, Tryz.call17, rfl⟩ rfl (allS ⟨Tryz.func33, Tryz.call33, rfl⟩ rfl (allS ⟨Tryz.func65, Tryz.call65, rfl⟩ rfl (allS ⟨Tryz.func129, Tryz.call129, rfl⟩ rfl allL allL) (allS ⟨Tryz.func193, Tryz.call193, rfl⟩ rfl allL allL)) (allS ⟨Tryz.func97, Tryz.call97, rfl⟩ rfl (allS ⟨Tryz.func161, Tryz.call161, rfl⟩ rfl allL allL) allL)) (allS ⟨Tryz.func49, Tryz.call49, rfl⟩ rfl (allS ⟨Tryz.func81, Tryz.call81, rfl⟩ rfl (allS ⟨Tryz.func145, Tryz.call145, rfl⟩ rfl (allS ⟨Tryz.func273, Tryz.call273, rfl⟩ rfl allL allL) allL) (allS ⟨Tryz.func209, Tryz.call209, rfl⟩ rfl allL allL)) (allS ⟨Tryz.func113, Tryz.call113, rfl⟩ rfl (allN (allS ⟨Tryz.func305, Tryz.call305, rfl⟩ rfl allL allL) allL) (allS ⟨Tryz.func241, Tryz.call241, rfl⟩ rfl allL allL)))) (allN (allN (allS ⟨Tryz.func73, Tryz.call73, rfl⟩ rfl (allS ⟨Tryz.func137, Tryz.call137, rfl⟩ rfl (allS ⟨Tryz.func265, Tryz.call265, rfl⟩ rfl allL allL) allL) (allS ⟨Tryz.func201, Tryz.call201, rfl⟩ rfl allL allL)) (allS ⟨Tryz.func105, Tryz.call105, rfl⟩ rfl (allS ⟨Tryz.func169, Tryz.call169, rfl⟩ rfl allL allL) allL)) (allS ⟨Tryz.func57, Tryz.call57, rfl⟩ rfl (allS ⟨Tryz.func89, Tryz.call89, rfl⟩ rfl (allN (allS ⟨Tryz.func281, Tryz.call281, rfl⟩ rfl allL allL) allL) allL) (allS ⟨Tryz.func121, Tryz.call121, rfl⟩ rfl (allS ⟨Tryz.func185, Tryz.call185, rfl⟩ rfl (allS ⟨Tryz.func313, Tryz.call313, rfl⟩ rfl allL allL) allL) allL)))) (allS ⟨Tryz.func13, Tryz.call13, rfl⟩ rfl (allS ⟨Tryz.func21, Tryz.call21, rfl⟩ rfl (allS ⟨Tryz.func37, Tryz.call37, rfl⟩ rfl (allS ⟨Tryz.func69, Tryz.call69, rfl⟩ rfl allL (allS ⟨Tryz.func197, Tryz.call197, rfl⟩ rfl allL allL)) (allN (allS ⟨Tryz.func165, Tryz.call165, rfl⟩ rfl allL allL) allL)) (allN (allS ⟨Tryz.func85, Tryz.call85, rfl⟩ rfl (allN (allS ⟨Tryz.func277, Tryz.call277, rfl⟩ rfl allL allL) allL) allL) (allS ⟨Tryz.func117, Tryz.call117, rfl⟩ rfl (allN (allS ⟨Tryz.func309, Tryz.call309, rfl⟩ rfl allL allL) allL) (allS ⟨Tryz.func245, Tryz.call245, rfl⟩ rfl allL allL)))) (allN (allN (allS ⟨Tryz.func77, Tryz.call77, rfl⟩ rfl (allS ⟨Tryz.func141, Tryz.call141, rfl⟩ rfl (allS ⟨Tryz.func269, Tryz.call269, rfl⟩ rfl allL allL) allL) allL) (allS ⟨Tryz.func109, Tryz.call109, rfl⟩ rfl (allS ⟨Tryz.func173, Tryz.call173, rfl⟩ rfl allL allL) allL)) (allN (allS ⟨Tryz.func93, Tryz.call93, rfl⟩ rfl (allS ⟨Tryz.func157, Tryz.call157, rfl⟩ rfl allL allL) allL) (allN (allS ⟨Tryz.func189, Tryz.call189, rfl⟩ rfl allL allL) allL)))))) (allN (allN (allS ⟨Tryz.func8, Tryz.call8, rfl⟩ rfl (allS ⟨Tryz.func16, Tryz.call16, rfl⟩ rfl (allS ⟨Tryz.func32, Tryz.call32, rfl⟩ rfl (allS ⟨Tryz.func64, Tryz.call64, rfl⟩ rfl (allS ⟨Tryz.func128, Tryz.call128, rfl⟩ rfl allL allL) (allS ⟨Tryz.func192, Tryz.call192, rfl⟩ rfl allL allL)) (allS ⟨Tryz.func96, Tryz.call96, rfl⟩ rfl (allS ⟨Tryz.func160, Tryz.call160, rfl⟩ rfl allL allL) allL)) (allS ⟨Tryz.func48, Tryz.call48, rfl⟩ rfl (allN (allS ⟨Tryz.func144, Tryz.call144, rfl⟩ rfl (allS ⟨Tryz.func272, Tryz.call272, rfl⟩ rfl allL allL) allL) allL) (allS ⟨Tryz.func112, Tryz.call112, rfl⟩ rfl (allN (allS ⟨Tryz.func304, Tryz.call304, rfl⟩ rfl allL allL) allL) (allS ⟨Tryz.func240, Tryz.call240, rfl⟩ rfl allL allL)))) (allS ⟨Tryz.func24, Tryz.call24, rfl⟩ rfl (allN (allS ⟨Tryz.func72, Tryz.call72, rfl⟩ rfl (allS ⟨Tryz.func136, Tryz.call136, rfl⟩ rfl allL allL) allL) (allS ⟨Tryz.func104, Tryz.call104, rfl⟩ rfl (allS ⟨Tryz.func168, Tryz.call168, rfl⟩ rfl allL allL) allL)) (allS ⟨Tryz.func56, Tryz.call56, rfl⟩ rfl (allS ⟨Tryz.func88, Tryz.call88, rfl⟩ rfl (allN (allS ⟨Tryz.func280, Tryz.call280, rfl⟩ rfl allL allL) allL) allL) (allN (allN (allS ⟨Tryz.func312, Tryz.call312, rfl⟩ rfl allL allL) allL) allL)))) (allS ⟨Tryz.func12, Tryz.call12, rfl⟩ rfl (allS ⟨Tryz.func20, Tryz.call20, rfl⟩ rfl (allS ⟨Tryz.func36, Tryz.call36, rfl⟩ rfl (allS ⟨Tryz.func68, Tryz.call68, rfl⟩ rfl (allS ⟨Tryz.func132, Tryz.call132, rfl⟩ rfl (allS ⟨Tryz.func260, Tryz.call260, rfl⟩ rfl allL allL) allL) (allS ⟨Tryz.func196, Tryz.call196, rfl⟩ rfl allL allL)) (allN (allS ⟨Tryz.func164, Tryz.call164, rfl⟩ rfl allL allL) allL)) (allN (allS ⟨Tryz.func84, Tryz.call84, rfl⟩ rfl (allN (allS ⟨Tryz.func276, Tryz.call276, rfl⟩ rfl allL allL) allL) (allN (allS ⟨Tryz.func340, Tryz.call340, rfl⟩ rfl allL allL) allL)) (allS ⟨Tryz.func116, Tryz.call116, rfl⟩ rfl (allN (allS ⟨Tryz.func308, Tryz.call308, rfl⟩ rfl allL allL) allL) (allS ⟨Tryz.func244, Tryz.call244, rfl⟩ rfl allL allL)))) (allS ⟨Tryz.func28, Tryz.call28, rfl⟩ rfl (allN (allS ⟨Tryz.func76, Tryz.call76, rfl⟩ rfl (allS ⟨Tryz.func140, Tryz.call140, rfl⟩ rfl (allS ⟨Tryz.func268, Tryz.call268, rfl⟩ rfl allL allL) allL) allL) (allS ⟨Tryz.func108, Tryz.call108, rfl⟩ rfl (allS ⟨Tryz.func172, Tryz.call172, rfl⟩ rfl allL allL) allL)) (allS ⟨Tryz.func60, Tryz.call60, rfl⟩ rfl (allS ⟨Tryz.func92, Tryz.call92, rfl⟩ rfl (allS ⟨Tryz.func156, Tryz.call156, rfl⟩ rfl allL allL) (allS ⟨Tryz.func220, Tryz.call220, rfl⟩ rfl allL allL)) (allS ⟨Tryz.func124, Tryz.call124, rfl⟩ rfl (allN (allS ⟨Tryz.func316, Tryz.call316, rfl⟩ rfl allL allL) allL) allL))))) (allS ⟨Tryz.func6, Tryz.call6, rfl⟩ rfl (allS ⟨Tryz.func10, Tryz.call10, rfl⟩ rfl (allS ⟨Tryz.func18, Tryz.call18, rfl⟩ rfl (allS ⟨Tryz.func34, Tryz.call34, rfl⟩ rfl (allS ⟨Tryz.func66, Tryz.call66, rfl⟩ rfl (allS ⟨Tryz.func130, Tryz.call130, rfl⟩ rfl allL allL) (allS ⟨Tryz.func194, Tryz.call194, rfl⟩ rfl (allS ⟨Tryz.func322, Tryz.call322, rfl⟩ rfl allL allL) allL)) (allS ⟨Tryz.func98, Tryz.call98, rfl⟩ rfl (allS ⟨Tryz.func162, Tryz.call162, rfl⟩ rfl allL allL) allL)) (allN (allS ⟨Tryz.func82, Tryz.call82, rfl⟩ rfl (allS ⟨Tryz.func146, Tryz.call146, rfl⟩ rfl (allS ⟨Tryz.func274, Tryz.call274, rfl⟩ rfl allL allL) allL) (allS ⟨Tryz.func210, Tryz.call210, rfl⟩ rfl allL allL)) (allS ⟨Tryz.func114, Tryz.call114, rfl⟩ rfl (allN (allS ⟨Tryz.func306, Tryz.call306, rfl⟩ rfl allL allL) allL) (allS ⟨Tryz.func242, Tryz.call242, rfl⟩ rfl allL allL)))) (allN (allN (allN (allS ⟨Tryz.func138, Tryz.call138, rfl⟩ rfl allL allL) (allS ⟨Tryz.func202, Tryz.call202, rfl⟩ rfl allL allL)) (allS ⟨Tryz.func106, Tryz.call106, rfl⟩ rfl (allS ⟨Tryz.func170, Tryz.call170, rfl⟩ rfl allL allL) allL)) (allS ⟨Tryz.func58, Tryz.call58, rfl⟩ rfl (allS ⟨Tryz.func90, Tryz.call90, rfl⟩ rfl (allS ⟨Tryz.func154, Tryz.call154, rfl⟩ rfl allL allL) allL) (allN (allS ⟨Tryz.func186, Tryz.call186, rfl⟩ rfl (allS ⟨Tryz.func314, Tryz.call314, rfl⟩ rfl allL allL) allL) allL)))) (allS ⟨Tryz.func14, Tryz.call14, rfl⟩ rfl (allS ⟨Tryz.func22, Tryz.call22, rfl⟩ rfl (allN (allS ⟨Tryz.func70, Tryz.call70, rfl⟩ rfl (allS ⟨Tryz.func134, Tryz.call134, rfl⟩ rfl allL allL) allL) (allN (allS ⟨Tryz.func166, Tryz.call166, rfl⟩ rfl allL allL) allL)) (allN (allN (allN (allS ⟨Tryz.func278, Tryz.call278, rfl⟩ rfl allL allL) allL) allL) (allS ⟨Tryz.func118, Tryz.call118, rfl⟩ rfl (allN (allS ⟨Tryz.func310, Tryz.call310, rfl⟩ rfl allL allL) allL) allL))) (allS ⟨Tryz.func30, Tryz.call30, rfl⟩ rfl (allN (allS ⟨Tryz.func78, Tryz.call78, rfl⟩ rfl (allN (allS ⟨Tryz.func270, Tryz.call270, rfl⟩ rfl allL allL) allL) allL) (allN (allS ⟨Tryz.func174, Tryz.call174, rfl⟩ rfl allL allL) allL)) (allS ⟨Tryz.func62, Tryz.call62, rfl⟩ rfl (allS ⟨Tryz.func94, Tryz.call94, rfl⟩ rfl (allS ⟨Tryz.func158, Tryz.call158, rfl⟩ rfl allL allL) allL) (allN (allS ⟨Tryz.func190, Tryz.call190, rfl⟩ rfl allL allL) allL)))))))
theorem allMe : AllT (MeOk Tryz.prog) meT id := (allN (allN (allN allL (allN allL (allN allL (allN (allN (allS meOk155 rfl allL allL) allL) allL)))) (allN (allN allL (allN allL (allS meOk57 rfl allL allL))) (allN allL (allN (allN allL (allN allL (allS meOk237 rfl allL allL))) allL)))) (allN allL (allN (allN (allN allL (allS meOk50 rfl allL allL)) allL) allL)))
def strs4 : List (List UInt8) := [[117, 110, 100, 101, 102, 105, 110, 101, 100], [111, 98, 106, 101, 99, 116], [98, 111, 111, 108, 101, 97, 110], [110, 117, 109, 98, 101, 114], [110, 117, 109, 98, 101, 114], [115, 116, 114, 105, 110, 103], [111, 98, 106, 101, 99, 116]]
theorem row4 {E : Nat → Int} {ι : Pl} : AllT (fun i a => i < 7 ∧ ∃ v, (rowV strs4)[i]? = some v ∧ V E ι a v) cs4 id := (allS ⟨by decide, _, rfl, strV⟩ rfl (allS ⟨by decide, _, rfl, strV⟩ rfl (allS ⟨by decide, _, rfl, strV⟩ rfl allL allL) (allS ⟨by decide, _, rfl, strV⟩ rfl allL allL)) (allS ⟨by decide, _, rfl, strV⟩ rfl (allS ⟨by decide, _, rfl, strV⟩ rfl allL allL) (allS ⟨by decide, _, rfl, strV⟩ rfl allL allL)))
def strs5 : List (List UInt8) := [[61, 61, 61], [33, 61, 61], [61, 61], [33, 61], [60, 61], [62, 61], [38, 38], [124, 124], [40], [41], [123], [125], [91], [93], [59], [44], [46], [61], [60], [62], [43], [45], [42], [47], [37], [33], [63], [58]]
theorem row5 {E : Nat → Int} {ι : Pl} : AllT (fun i a => i < 28 ∧ ∃ v, (rowV strs5)[i]? = some v ∧ V E ι a v) cs5 id := (allS ⟨by decide, _, rfl, strV⟩ rfl (allS ⟨by decide, _, rfl, strV⟩ rfl (allS ⟨by decide, _, rfl, strV⟩ rfl (allS ⟨by decide, _, rfl, strV⟩ rfl (allS ⟨by decide, _, rfl, strV⟩ rfl allL allL) (allS ⟨by decide, _, rfl, strV⟩ rfl allL allL)) (allS ⟨by decide, _, rfl, strV⟩ rfl (allS ⟨by decide, _, rfl, strV⟩ rfl allL allL) (allS ⟨by decide, _, rfl, strV⟩ rfl allL allL))) (allS ⟨by decide, _, rfl, strV⟩ rfl (allS ⟨by decide, _, rfl, strV⟩ rfl (allS ⟨by decide, _, rfl, strV⟩ rfl allL allL) (allS ⟨by decide, _, rfl, strV⟩ rfl allL allL)) (allS ⟨by decide, _, rfl, strV⟩ rfl (allS ⟨by decide, _, rfl, strV⟩ rfl allL allL) allL))) (allS ⟨by decide, _, rfl, strV⟩ rfl (allS ⟨by decide, _, rfl, strV⟩ rfl (allS ⟨by decide, _, rfl, strV⟩ rfl (allS ⟨by decide, _, rfl, strV⟩ rfl allL allL) (allS ⟨by decide, _, rfl, strV⟩ rfl allL allL)) (allS ⟨by decide, _, rfl, strV⟩ rfl (allS ⟨by decide, _, rfl, strV⟩ rfl allL allL) allL)) (allS ⟨by decide, _, rfl, strV⟩ rfl (allS ⟨by decide, _, rfl, strV⟩ rfl (allS ⟨by decide, _, rfl, strV⟩ rfl allL allL) (allS ⟨by decide, _, rfl, strV⟩ rfl allL allL)) (allS ⟨by decide, _, rfl, strV⟩ rfl (allS ⟨by decide, _, rfl, strV⟩ rfl allL allL) allL))))
theorem mixedO : Tryz.prog.follows .mixedOrders = true := by kernel_rfl

end Go.Proofs.YtjdabnpfinlefaaGreatDoor

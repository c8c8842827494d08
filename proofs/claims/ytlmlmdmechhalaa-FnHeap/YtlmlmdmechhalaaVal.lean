/-
  Values, plainly: what both sides are held against.
-/
import Derived.Lib.Strings
namespace Go.Proofs.Ytlmlmdmechhalaa.Val

structure VV where
  kind : Int
  num : Int
  text : ByteArray

def e0 : ByteArray := ⟨#[]⟩
def maxN : Int := 9007199254740992
def zeroV : VV := ⟨0, 0, e0⟩
def badV : VV := ⟨4, 0, e0⟩
def noText (v : VV) : Bool := v.text.toList.isEmpty

def right (v : VV) : Bool :=
  if v.kind = 0 ∨ v.kind = 1 ∨ v.kind = 4 then decide (v.num = 0) && noText v
  else if v.kind = 2 then (decide (v.num = 0) || decide (v.num = 1)) && noText v
  else if v.kind = 3 then decide (-9007199254740992 ≤ v.num) && decide (v.num ≤ 9007199254740992) && noText v
  else if v.kind = 5 then decide (v.num = 0) && decide (v.text.size ≤ 1000)
  else if v.kind = 6 then decide (0 ≤ v.num) && decide (v.num < 400) && noText v
  else false

def numV (n : Int) : VV := if n < -9007199254740992 ∨ 9007199254740992 < n then badV else ⟨3, n, e0⟩
def textV (t : ByteArray) : VV := if 1000 < t.size then badV else ⟨5, 0, t⟩
def boolV (b : Bool) : VV := ⟨2, if b then 1 else 0, e0⟩
def truth (v : VV) : Bool := if v.kind = 2 ∨ v.kind = 3 then decide (v.num ≠ 0) else if v.kind = 5 then !noText v else decide (v.kind = 6)

end Go.Proofs.Ytlmlmdmechhalaa.Val

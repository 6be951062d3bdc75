/-
  Layer 1 (ratio): contracts of Add, Sub, Div, Neg, Compare and Floor, and of the reference's. Conditions: the parts of the fractions fit their kinds.
-/
import Derived.Test.YtgkjdaeihjedkaaPrVal
namespace Go.Proofs.Ytgkjdaeihjedkaa
open Go Go.RowKit Go.Lib

/-- What the operations compute. -/
def addT (a b c d : Int) : Int × Int × Int := if vldB a b && vldB c d then newT (a * d + c * b) (b * d) else (0, 0, 1)
def subT (a b c d : Int) : Int × Int × Int := if vldB a b && vldB c d then newT (a * d - c * b) (b * d) else (0, 0, 1)
def divT (a b c d : Int) : Int × Int × Int := if vldB a b && vldB c d then newT (a * d) (b * c) else (0, 0, 1)
def negT (a b : Int) : Int × Int × Int := if vldB a b then (-a, b, 0) else (0, 0, 1)
def cmpT (a b c d : Int) : Int := if vldB a b && vldB c d then (if a * d < c * b then -1 else if c * b < a * d then 1 else 0) else 0
def floorT (a b : Int) : Int := if vldB a b then a / b else 0

theorem two_cases (x y : Bool) : (x = false) ∨ (x = true ∧ y = false) ∨ (x = true ∧ y = true) := by cases x <;> cases y <;> simp
theorem boxed3 (w : World) (a b c : Obj) : Below w.heap.size w (((w.alloc a).alloc b).alloc c) :=
  Below.alloc (Below.alloc (Below.alloc (Below.refl _ _) (by simp) _) (by simp <;> omega) _) (by simp <;> omega) _
theorem boxed2 (w : World) (a b : Obj) : Below w.heap.size w ((w.alloc a).alloc b) :=
  Below.alloc (Below.alloc (Below.refl _ _) (by simp) _) (by simp <;> omega) _
theorem boxed1 (w : World) (a : Obj) : Below w.heap.size w (w.alloc a) := Below.alloc (Below.refl _ _) (by simp) _

theorem den_num {a b c d : Int} (h : vldB a b = true) (k : vldB c d = true) : -1000000000000000000 ≤ b * c ∧ b * c ≤ 1000000000000000000 := by
  have := cross_bd k h
  rw [Int.mul_comm c b] at this; exact this

end Go.Proofs.Ytgkjdaeihjedkaa

/-
  Layer 2 (rounding): contracts of Cents and Carry and of the reference's. Conditions: the parts of the fractions and the mode fit their kinds.
-/
import Derived.Test.YtgkjdaeihjedkaaPrRound
import Derived.Test.YtgkjdaeihjedkaaPrTape3
namespace Go.Proofs.Ytgkjdaeihjedkaa
open Go Go.RowKit Go.Lib
set_option linter.unusedVariables false

theorem cutT_bd (neg : Bool) (x y : Nat) : (-1000000000000 ≤ (cutT neg x y).1 ∧ (cutT neg x y).1 ≤ 1000000000000) ∧ (0 ≤ (cutT neg x y).2.1 ∧ (cutT neg x y).2.1 ≤ 1000000) := by
  unfold cutT
  split
  · simp
  · cases neg <;> simp <;> omega
theorem newT_bd (n d : Int) : (-1000000000000 ≤ (newT n d).1 ∧ (newT n d).1 ≤ 1000000000000) ∧ (0 ≤ (newT n d).2.1 ∧ (newT n d).2.1 ≤ 1000000) := by
  unfold newT
  split
  · simp
  · exact cutT_bd _ _ _
theorem addT_bd (a b c d : Int) : (-1000000000000 ≤ (addT a b c d).1 ∧ (addT a b c d).1 ≤ 1000000000000) ∧ (0 ≤ (addT a b c d).2.1 ∧ (addT a b c d).2.1 ≤ 1000000) := by
  unfold addT
  split
  · exact newT_bd _ _
  · simp
theorem subT_bd (a b c d : Int) : (-1000000000000 ≤ (subT a b c d).1 ∧ (subT a b c d).1 ≤ 1000000000000) ∧ (0 ≤ (subT a b c d).2.1 ∧ (subT a b c d).2.1 ≤ 1000000) := by
  unfold subT
  split
  · exact newT_bd _ _
  · simp
theorem roundT_bd (a b c d m : Int) : (-1000000000000 ≤ (roundT a b c d m).1 ∧ (roundT a b c d m).1 ≤ 1000000000000) ∧ (0 ≤ (roundT a b c d m).2.1 ∧ (roundT a b c d m).2.1 ≤ 1000000) := by
  unfold roundT
  split
  · split
    · exact newT_bd _ _
    · simp
  · simp

def carryT (a b c d e f m : Int) : Int × Int × Int × Int × Int :=
  if (addT a b c d).2.2 = 0 then
    (if (roundT (addT a b c d).1 (addT a b c d).2.1 e f m).2.2 = 0 then
      (if (subT (addT a b c d).1 (addT a b c d).2.1 (roundT (addT a b c d).1 (addT a b c d).2.1 e f m).1 (roundT (addT a b c d).1 (addT a b c d).2.1 e f m).2.1).2.2 = 0 then
        ((roundT (addT a b c d).1 (addT a b c d).2.1 e f m).1, (roundT (addT a b c d).1 (addT a b c d).2.1 e f m).2.1, (subT (addT a b c d).1 (addT a b c d).2.1 (roundT (addT a b c d).1 (addT a b c d).2.1 e f m).1 (roundT (addT a b c d).1 (addT a b c d).2.1 e f m).2.1).1, (subT (addT a b c d).1 (addT a b c d).2.1 (roundT (addT a b c d).1 (addT a b c d).2.1 e f m).1 (roundT (addT a b c d).1 (addT a b c d).2.1 e f m).2.1).2.1, 0)
      else (0, 0, 0, 0, (subT (addT a b c d).1 (addT a b c d).2.1 (roundT (addT a b c d).1 (addT a b c d).2.1 e f m).1 (roundT (addT a b c d).1 (addT a b c d).2.1 e f m).2.1).2.2))
    else (0, 0, 0, 0, (roundT (addT a b c d).1 (addT a b c d).2.1 e f m).2.2))
  else (0, 0, 0, 0, (addT a b c d).2.2)
theorem carry_1 {a b c d e f m s1 s2 s3 : Int} (h : addT a b c d = (s1, s2, s3)) (k : s3 ≠ 0) : carryT a b c d e f m = (0, 0, 0, 0, s3) := by unfold carryT; rw [h]; rw [if_neg k]
theorem carry_2 {a b c d e f m s1 s2 r1 r2 r3 : Int} (h : addT a b c d = (s1, s2, 0)) (h2 : roundT s1 s2 e f m = (r1, r2, r3)) (k : r3 ≠ 0) : carryT a b c d e f m = (0, 0, 0, 0, r3) := by
  unfold carryT; rw [h]; dsimp only; rw [if_pos rfl, h2]; dsimp only; rw [if_neg k]
theorem carry_3 {a b c d e f m s1 s2 r1 r2 l1 l2 l3 : Int} (h : addT a b c d = (s1, s2, 0)) (h2 : roundT s1 s2 e f m = (r1, r2, 0)) (h3 : subT s1 s2 r1 r2 = (l1, l2, l3)) (k : l3 ≠ 0) : carryT a b c d e f m = (0, 0, 0, 0, l3) := by
  unfold carryT; rw [h]; dsimp only; rw [if_pos rfl, h2]; dsimp only; rw [if_pos rfl, h3]; dsimp only; rw [if_neg k]
theorem carry_4 {a b c d e f m s1 s2 r1 r2 l1 l2 : Int} (h : addT a b c d = (s1, s2, 0)) (h2 : roundT s1 s2 e f m = (r1, r2, 0)) (h3 : subT s1 s2 r1 r2 = (l1, l2, 0)) : carryT a b c d e f m = (r1, r2, l1, l2, 0) := by
  unfold carryT; rw [h]; dsimp only; rw [if_pos rfl, h2]; dsimp only; rw [if_pos rfl, h3]; rfl
theorem bd_of {t : Int × Int × Int} {x y z : Int} (h : t = (x, y, z)) (b : (-1000000000000 ≤ t.1 ∧ t.1 ≤ 1000000000000) ∧ (0 ≤ t.2.1 ∧ t.2.1 ≤ 1000000)) : (-1000000000000 ≤ x ∧ x ≤ 1000000000000) ∧ (0 ≤ y ∧ y ≤ 1000000) := by rw [h] at b; exact b
def retC (t : Int × Int × Int × Int × Int) : Value := .tuple #[.agg #[.int .i64 t.1, .int .i64 t.2.1], .agg #[.int .i64 t.2.2.1, .int .i64 t.2.2.2.1], .int .i64 t.2.2.2.2]
theorem boxed5 (w : World) (a b c d e : Obj) : Below w.heap.size w (((((w.alloc a).alloc b).alloc c).alloc d).alloc e) :=
  Below.alloc (Below.alloc (boxed3 w a b c) (by simp <;> omega) _) (by simp <;> omega) _

set_option maxHeartbeats 2000000 in
theorem cents_any (a b m : Int) (ha0 : -9223372036854775808 ≤ a) (ha1 : a ≤ 9223372036854775807) (hb0 : -9223372036854775808 ≤ b) (hb1 : b ≤ 9223372036854775807) (hm0 : -9223372036854775808 ≤ m) (hm1 : m ≤ 9223372036854775807) (w : World) :
    Calls Try.prog 16 #[.agg #[.int .i64 a, .int .i64 b], .int .i64 m] w fun e w' => e = .returned (.tuple #[.int .i64 (roundT a b 1 1 m).1, .int .i64 (roundT a b 1 1 m).2.2]) ∧ Below w.heap.size w w' := by
  obtain ⟨r1, r2, r3, hr⟩ : ∃ x y z, roundT a b 1 1 m = (x, y, z) := ⟨_, _, _, rfl⟩
  have hc := fun w => round_any a b 1 1 m ha0 ha1 hb0 hb1 (by omega) (by omega) (by omega) (by omega) hm0 hm1 w
  rw [hr] at hc ⊢
  have HC := Lib.hid hc
  clear hr hc
  go_enter Try.func16, Try.ntmps16
  go_wp2_with fail
  refine (HC.out _).mono ?_
  rintro e w1 ⟨rfl, hw1⟩
  have hB1 : Below w.heap.size w w1 := (boxed1 _ _).trans (hw1.mono (by simp <;> omega))
  go_wp2_with fail
  go_ret2
  exact ⟨rfl, by repeat (first | exact Below.refl _ _ | assumption | refine below_drewN ?_ _ | refine Below.setCell ?_ (by simp <;> omega) _ | refine Below.alloc ?_ (by have := hB1.size; simp <;> omega) _)⟩

end Go.Proofs.Ytgkjdaeihjedkaa

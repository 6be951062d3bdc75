/-
  Layer 2 (rounding): the statement's comparison of Round, Cents and Carry with the reference answers true. Conditions: the parts of the fractions and the mode fit their kinds.
-/
import Derived.Test.YtnkpbkebbfelfaaPrCarry
namespace Go.Proofs.Ytnkpbkebbfelfaa
open Go Go.RowKit Go.Lib
set_option linter.unusedVariables false

set_option maxRecDepth 100000 in
set_option maxHeartbeats 8000000 in
theorem rounds_any (a b c d e f m : Int) (ha0 : -9223372036854775808 ≤ a) (ha1 : a ≤ 9223372036854775807) (hb0 : -9223372036854775808 ≤ b) (hb1 : b ≤ 9223372036854775807) (hc0 : -9223372036854775808 ≤ c) (hc1 : c ≤ 9223372036854775807) (hd0 : -9223372036854775808 ≤ d) (hd1 : d ≤ 9223372036854775807) (he0 : -9223372036854775808 ≤ e) (he1 : e ≤ 9223372036854775807) (hf0 : -9223372036854775808 ≤ f) (hf1 : f ≤ 9223372036854775807) (hm0 : -9223372036854775808 ≤ m) (hm1 : m ≤ 9223372036854775807) (w : World) :
    Calls Try.prog 20 #[.agg #[.int .i64 a, .int .i64 b], .agg #[.int .i64 c, .int .i64 d], .agg #[.int .i64 e, .int .i64 f], .int .i64 m] w fun e' w' => e' = .returned (.bool true) ∧ Below w.heap.size w w' := by
  obtain ⟨r1, r2, r3, hr⟩ : ∃ x y z, roundT c d e f m = (x, y, z) := ⟨_, _, _, rfl⟩
  obtain ⟨k1, k2, k3, hk⟩ : ∃ x y z, roundT c d 1 1 m = (x, y, z) := ⟨_, _, _, rfl⟩
  obtain ⟨c1, c2, c3, c4, c5, hc⟩ : ∃ x y z u v, carryT a b c d e f m = (x, y, z, u, v) := ⟨_, _, _, _, _, rfl⟩
  have q1 := fun w => round_any c d e f m hc0 hc1 hd0 hd1 he0 he1 hf0 hf1 hm0 hm1 w
  have q2 := fun w => rround_any c d e f m hc0 hc1 hd0 hd1 he0 he1 hf0 hf1 hm0 hm1 w
  have q3 := fun w => cents_any c d m hc0 hc1 hd0 hd1 hm0 hm1 w
  have q4 := fun w => rcents_any c d m hc0 hc1 hd0 hd1 hm0 hm1 w
  have q5 := fun w => carry_any a b c d e f m ha0 ha1 hb0 hb1 hc0 hc1 hd0 hd1 he0 he1 hf0 hf1 hm0 hm1 w
  have q6 := fun w => rcarry_any a b c d e f m ha0 ha1 hb0 hb1 hc0 hc1 hd0 hd1 he0 he1 hf0 hf1 hm0 hm1 w
  simp only [hr] at q1 q2
  simp only [hk] at q3 q4
  simp only [hc] at q5 q6
  have Q1 := Lib.hid q1
  have Q2 := Lib.hid q2
  have Q3 := Lib.hid q3
  have Q4 := Lib.hid q4
  have Q5 := Lib.hid q5
  have Q6 := Lib.hid q6
  clear q1 q2 q3 q4 q5 q6 hr hk hc
  have A0 : Tp.Res (((w.alloc (.cells #[.int .i64 a, .int .i64 b] 35)).alloc (.cells #[.int .i64 c, .int .i64 d] 35)).alloc (.cells #[.int .i64 e, .int .i64 f] 35)) w.heap.size a b := ⟨by go_simp, by go_simp, by go_simp, by go_simp⟩
  have B0 : Tp.Res (((w.alloc (.cells #[.int .i64 a, .int .i64 b] 35)).alloc (.cells #[.int .i64 c, .int .i64 d] 35)).alloc (.cells #[.int .i64 e, .int .i64 f] 35)) (w.heap.size + 1) c d := ⟨by go_simp, by go_simp, by go_simp, by go_simp⟩
  have C0 : Tp.Res (((w.alloc (.cells #[.int .i64 a, .int .i64 b] 35)).alloc (.cells #[.int .i64 c, .int .i64 d] 35)).alloc (.cells #[.int .i64 e, .int .i64 f] 35)) (w.heap.size + 1 + 1) e f := ⟨by go_simp, by go_simp, by go_simp, by go_simp⟩
  have hA0 := Lib.hid A0
  have hB0 := Lib.hid B0
  have hC0 := Lib.hid C0
  clear A0 B0 C0
  go_enter Try.func20, Try.ntmps20
  go_wp2_with fail
  refine (Q1.out _).mono ?_
  rintro e1 w1 ⟨rfl, hw1⟩
  have hX1 : Below w.heap.size w w1 := (boxed3 _ _ _ _).trans (hw1.mono (by simp <;> omega))
  have hA1 := Lib.hid (hA0.out.below hw1)
  have hB1 := Lib.hid (hB0.out.below hw1)
  have hC1 := Lib.hid (hC0.out.below hw1)
  clear hw1 hA0 hB0 hC0
  obtain ⟨uB0, uB1, fB0, fB1⟩ := hB1.out
  have zB : w.heap.size + 1 < w1.heap.size := World.block_lt_of_cell? _ _ uB0
  obtain ⟨uC0, uC1, fC0, fC1⟩ := hC1.out
  have zC : w.heap.size + 1 + 1 < w1.heap.size := World.block_lt_of_cell? _ _ uC0
  go_wp2_with fail
  refine (Q2.out _).mono ?_
  rintro e2 w2 ⟨rfl, hw2⟩
  have hX2 : Below w.heap.size w w2 := (hX1.alloc hX1.size _).trans (hw2.mono (by have := hX1.size; simp; omega))
  have hA2 := Lib.hid ((hA1.out.alloc (.cells #[.int .i64 r1, .int .i64 r2] 35)).below hw2)
  have hB2 := Lib.hid ((hB1.out.alloc (.cells #[.int .i64 r1, .int .i64 r2] 35)).below hw2)
  have hC2 := Lib.hid ((hC1.out.alloc (.cells #[.int .i64 r1, .int .i64 r2] 35)).below hw2)
  have hD2 := Lib.hid ((Tp.Res.new w1 r1 r2 35).below hw2)
  clear hw2 hA1 hB1 hC1 uB0 uB1 fB0 fB1 zB uC0 uC1 fC0 fC1 zC hX1
  obtain ⟨uB0, uB1, fB0, fB1⟩ := hB2.out
  have zB : w.heap.size + 1 < w2.heap.size := World.block_lt_of_cell? _ _ uB0
  go_wp2_with fail
  refine (Q3.out _).mono ?_
  rintro e3 w3 ⟨rfl, hw3⟩
  have hX3 : Below w.heap.size w w3 := (hX2.alloc hX2.size _).trans (hw3.mono (by have := hX2.size; simp; omega))
  have hA3 := Lib.hid ((hA2.out.alloc (.cells #[.int .i64 r1, .int .i64 r2] 35)).below hw3)
  have hB3 := Lib.hid ((hB2.out.alloc (.cells #[.int .i64 r1, .int .i64 r2] 35)).below hw3)
  have hC3 := Lib.hid ((hC2.out.alloc (.cells #[.int .i64 r1, .int .i64 r2] 35)).below hw3)
  have hD3 := Lib.hid ((hD2.out.alloc (.cells #[.int .i64 r1, .int .i64 r2] 35)).below hw3)
  have hE3 := Lib.hid ((Tp.Res.new w2 r1 r2 35).below hw3)
  clear hw3 hA2 hB2 hC2 hD2 uB0 uB1 fB0 fB1 zB hX2
  obtain ⟨uB0, uB1, fB0, fB1⟩ := hB3.out
  have zB : w.heap.size + 1 < w3.heap.size := World.block_lt_of_cell? _ _ uB0
  go_wp2_with fail
  refine (Q4.out _).mono ?_
  rintro e4 w4 ⟨rfl, hw4⟩
  have hX4 : Below w.heap.size w w4 := hX3.trans (hw4.mono hX3.size)
  have hA4 := Lib.hid (hA3.out.below hw4)
  have hB4 := Lib.hid (hB3.out.below hw4)
  have hC4 := Lib.hid (hC3.out.below hw4)
  have hD4 := Lib.hid (hD3.out.below hw4)
  have hE4 := Lib.hid (hE3.out.below hw4)
  clear hw4 hA3 hB3 hC3 hD3 hE3 uB0 uB1 fB0 fB1 zB hX3
  obtain ⟨uA0, uA1, fA0, fA1⟩ := hA4.out
  have zA : w.heap.size < w4.heap.size := World.block_lt_of_cell? _ _ uA0
  obtain ⟨uB0, uB1, fB0, fB1⟩ := hB4.out
  have zB : w.heap.size + 1 < w4.heap.size := World.block_lt_of_cell? _ _ uB0
  obtain ⟨uC0, uC1, fC0, fC1⟩ := hC4.out
  have zC : w.heap.size + 1 + 1 < w4.heap.size := World.block_lt_of_cell? _ _ uC0
  go_wp2_with fail
  refine (Q5.out _).mono ?_
  rintro e5 w5 ⟨rfl, hw5⟩
  have hX5 : Below w.heap.size w w5 := hX4.trans (hw5.mono hX4.size)
  have hA5 := Lib.hid (hA4.out.below hw5)
  have hB5 := Lib.hid (hB4.out.below hw5)
  have hC5 := Lib.hid (hC4.out.below hw5)
  have hD5 := Lib.hid (hD4.out.below hw5)
  have hE5 := Lib.hid (hE4.out.below hw5)
  clear hw5 hA4 hB4 hC4 hD4 hE4 uA0 uA1 fA0 fA1 zA uB0 uB1 fB0 fB1 zB uC0 uC1 fC0 fC1 zC hX4
  obtain ⟨uA0, uA1, fA0, fA1⟩ := hA5.out
  have zA : w.heap.size < w5.heap.size := World.block_lt_of_cell? _ _ uA0
  obtain ⟨uB0, uB1, fB0, fB1⟩ := hB5.out
  have zB : w.heap.size + 1 < w5.heap.size := World.block_lt_of_cell? _ _ uB0
  obtain ⟨uC0, uC1, fC0, fC1⟩ := hC5.out
  have zC : w.heap.size + 1 + 1 < w5.heap.size := World.block_lt_of_cell? _ _ uC0
  go_wp2_with fail
  refine (Q6.out _).mono ?_
  rintro e6 w6 ⟨rfl, hw6⟩
  have hX6 : Below w.heap.size w w6 := ((hX5.alloc hX5.size _).alloc (by have := hX5.size; simp; omega) _).trans (hw6.mono (by have := hX5.size; simp; omega))
  have hD6 := Lib.hid (((hD5.out.alloc (.cells #[.int .i64 c1, .int .i64 c2] 35)).alloc (.cells #[.int .i64 c3, .int .i64 c4] 35)).below hw6)
  have hE6 := Lib.hid (((hE5.out.alloc (.cells #[.int .i64 c1, .int .i64 c2] 35)).alloc (.cells #[.int .i64 c3, .int .i64 c4] 35)).below hw6)
  have hG6 := Lib.hid (((Tp.Res.new w5 c1 c2 35).alloc (.cells #[.int .i64 c3, .int .i64 c4] 35)).below hw6)
  have hH6 := Lib.hid ((show Tp.Res _ (w5.heap.size + 1) c3 c4 by simpa using Tp.Res.new (w5.alloc (.cells #[.int .i64 c1, .int .i64 c2] 35)) c3 c4 35).below hw6)
  clear hw6 hA5 hB5 hC5 hD5 hE5 uA0 uA1 fA0 fA1 zA uB0 uB1 fB0 fB1 zB uC0 uC1 fC0 fC1 zC hX5
  obtain ⟨uD0, uD1, fD0, fD1⟩ := hD6.out
  have zD : w1.heap.size < w6.heap.size := World.block_lt_of_cell? _ _ uD0
  obtain ⟨uE0, uE1, fE0, fE1⟩ := hE6.out
  have zE : w2.heap.size < w6.heap.size := World.block_lt_of_cell? _ _ uE0
  obtain ⟨uG0, uG1, fG0, fG1⟩ := hG6.out
  have zG : w5.heap.size < w6.heap.size := World.block_lt_of_cell? _ _ uG0
  obtain ⟨uH0, uH1, fH0, fH1⟩ := hH6.out
  have zH : w5.heap.size + 1 < w6.heap.size := World.block_lt_of_cell? _ _ uH0
  go_wp2_with fail
  go_ret
  exact ⟨rfl, (hX6.alloc hX6.size _).alloc (by have := hX6.size; simp; omega) _⟩
end Go.Proofs.Ytnkpbkebbfelfaa

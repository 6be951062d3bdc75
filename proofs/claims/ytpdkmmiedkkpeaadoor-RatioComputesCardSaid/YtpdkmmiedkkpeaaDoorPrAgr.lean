/-
  Layer 1 (ratio): the comparison of the two packages at two fractions answers true, whatever integers stand in the fractions.
-/
import Derived.Test.YtpdkmmiedkkpeaaDoorPrAs
import Derived.Test.YtpdkmmiedkkpeaaDoorPrMulR
import Derived.Test.YtpdkmmiedkkpeaaDoorPrPars2
import Derived.Deep.RegionHeld3
namespace Go.Proofs.YtpdkmmiedkkpeaaDoor
open Go Go.RowKit Go.Lib

theorem frozen_kept {w w' : World} {p : Addr} {v : Value} (hc : w.cell? p = some v) (h : w.frozen? p = false) (hb : Below w.heap.size w w') : w'.frozen? p = false := frozen_below h (World.block_lt_of_cell? w p hc) hb
theorem below_one {u v w : World} (h : Below u.heap.size u v) (k : Below v.heap.size v w) : Below u.heap.size u w := h.trans (k.mono h.size)

set_option maxRecDepth 100000 in
set_option maxHeartbeats 16000000 in
theorem agrees_any (a b c d : Int) (ha0 : -9223372036854775808 ≤ a) (ha1 : a ≤ 9223372036854775807) (hb0 : -9223372036854775808 ≤ b) (hb1 : b ≤ 9223372036854775807) (hc0 : -9223372036854775808 ≤ c) (hc1 : c ≤ 9223372036854775807) (hd0 : -9223372036854775808 ≤ d) (hd1 : d ≤ 9223372036854775807) (w : World) :
    Calls Tryd.prog 14 #[.agg #[.int .i64 a, .int .i64 b], .agg #[.int .i64 c, .int .i64 d]] w fun e w' => e = .returned (.bool true) ∧ Below w.heap.size w w' := by
  go_enter Tryd.func14, Tryd.ntmps14
  go_wp2_with fail
  refine (add_any a b c d ha0 ha1 hb0 hb1 hc0 hc1 hd0 hd1 _).mono ?_
  rintro e w1 ⟨rfl, hw1⟩
  have y1n00 : w1.cell? ⟨w.heap.size, 0, none⟩ = some (.int .i64 a) := cell_below (by go_simp) hw1
  have y1n01 : w1.cell? ⟨w.heap.size, 1, none⟩ = some (.int .i64 b) := cell_below (by go_simp) hw1
  have z1n0 : w.heap.size < w1.heap.size := World.block_lt_of_cell? w1 _ y1n00
  have y1n10 : w1.cell? ⟨w.heap.size + 1, 0, none⟩ = some (.int .i64 c) := cell_below (by go_simp) hw1
  have y1n11 : w1.cell? ⟨w.heap.size + 1, 1, none⟩ = some (.int .i64 d) := cell_below (by go_simp) hw1
  have z1n1 : w.heap.size + 1 < w1.heap.size := World.block_lt_of_cell? w1 _ y1n10
  have hB1 : Below w.heap.size w w1 := (boxed2 _ _ _).trans (hw1.mono (by simp <;> omega))
  go_wp2_with fail
  refine (radd_any a b c d ha0 ha1 hb0 hb1 hc0 hc1 hd0 hd1 _).mono ?_
  rintro e w2 ⟨rfl, hw2⟩
  have y2n00 : w2.cell? ⟨w.heap.size, 0, none⟩ = some (.int .i64 a) := cell_below (by go_simp) hw2
  have y2n01 : w2.cell? ⟨w.heap.size, 1, none⟩ = some (.int .i64 b) := cell_below (by go_simp) hw2
  have z2n0 : w.heap.size < w2.heap.size := World.block_lt_of_cell? w2 _ y2n00
  have y2n10 : w2.cell? ⟨w.heap.size + 1, 0, none⟩ = some (.int .i64 c) := cell_below (by go_simp) hw2
  have y2n11 : w2.cell? ⟨w.heap.size + 1, 1, none⟩ = some (.int .i64 d) := cell_below (by go_simp) hw2
  have z2n1 : w.heap.size + 1 < w2.heap.size := World.block_lt_of_cell? w2 _ y2n10
  have y2s10 : w2.cell? ⟨w1.heap.size, 0, none⟩ = some (.int .i64 (addT a b c d).1) := cell_below (by go_simp) hw2
  have y2s11 : w2.cell? ⟨w1.heap.size, 1, none⟩ = some (.int .i64 (addT a b c d).2.1) := cell_below (by go_simp) hw2
  have f2s10 : w2.frozen? ⟨w1.heap.size, 0, none⟩ = false := frozen_kept (v := .int .i64 (addT a b c d).1) (by go_simp) (by go_simp) hw2
  have f2s11 : w2.frozen? ⟨w1.heap.size, 1, none⟩ = false := frozen_kept (v := .int .i64 (addT a b c d).2.1) (by go_simp) (by go_simp) hw2
  have z2s1 : w1.heap.size < w2.heap.size := World.block_lt_of_cell? w2 _ y2s10
  clear y1n00 y1n01 y1n10 y1n11
  have hB2 : Below w.heap.size w w2 := Below.trans (b := _) (by repeat (first | assumption | refine Below.setCell ?_ (by first | omega | (simp <;> omega)) _ | refine Below.alloc ?_ (by first | omega | (simp <;> omega)) _)) (hw2.mono (by first | omega | (simp <;> omega)))
  go_wp2_with fail
  refine (sub_any a b c d ha0 ha1 hb0 hb1 hc0 hc1 hd0 hd1 _).mono ?_
  rintro e w3 ⟨rfl, hw3⟩
  have y3n00 : w3.cell? ⟨w.heap.size, 0, none⟩ = some (.int .i64 a) := cell_below (by go_simp) hw3
  have y3n01 : w3.cell? ⟨w.heap.size, 1, none⟩ = some (.int .i64 b) := cell_below (by go_simp) hw3
  have z3n0 : w.heap.size < w3.heap.size := World.block_lt_of_cell? w3 _ y3n00
  have y3n10 : w3.cell? ⟨w.heap.size + 1, 0, none⟩ = some (.int .i64 c) := cell_below (by go_simp) hw3
  have y3n11 : w3.cell? ⟨w.heap.size + 1, 1, none⟩ = some (.int .i64 d) := cell_below (by go_simp) hw3
  have z3n1 : w.heap.size + 1 < w3.heap.size := World.block_lt_of_cell? w3 _ y3n10
  have y3s10 : w3.cell? ⟨w1.heap.size, 0, none⟩ = some (.int .i64 (addT a b c d).1) := cell_below (by go_simp) hw3
  have y3s11 : w3.cell? ⟨w1.heap.size, 1, none⟩ = some (.int .i64 (addT a b c d).2.1) := cell_below (by go_simp) hw3
  have f3s10 : w3.frozen? ⟨w1.heap.size, 0, none⟩ = false := frozen_kept (v := .int .i64 (addT a b c d).1) (by go_simp) (by go_simp) hw3
  have f3s11 : w3.frozen? ⟨w1.heap.size, 1, none⟩ = false := frozen_kept (v := .int .i64 (addT a b c d).2.1) (by go_simp) (by go_simp) hw3
  have z3s1 : w1.heap.size < w3.heap.size := World.block_lt_of_cell? w3 _ y3s10
  have y3s20 : w3.cell? ⟨w2.heap.size, 0, none⟩ = some (.int .i64 (addT a b c d).1) := cell_below (by go_simp) hw3
  have y3s21 : w3.cell? ⟨w2.heap.size, 1, none⟩ = some (.int .i64 (addT a b c d).2.1) := cell_below (by go_simp) hw3
  have f3s20 : w3.frozen? ⟨w2.heap.size, 0, none⟩ = false := frozen_kept (v := .int .i64 (addT a b c d).1) (by go_simp) (by go_simp) hw3
  have f3s21 : w3.frozen? ⟨w2.heap.size, 1, none⟩ = false := frozen_kept (v := .int .i64 (addT a b c d).2.1) (by go_simp) (by go_simp) hw3
  have z3s2 : w2.heap.size < w3.heap.size := World.block_lt_of_cell? w3 _ y3s20
  clear y2n00 y2n01 y2n10 y2n11 y2s10 y2s11 f2s10 f2s11
  have hB3 : Below w.heap.size w w3 := Below.trans (b := _) (by repeat (first | assumption | refine Below.setCell ?_ (by first | omega | (simp <;> omega)) _ | refine Below.alloc ?_ (by first | omega | (simp <;> omega)) _)) (hw3.mono (by first | omega | (simp <;> omega)))
  go_wp2_with fail
  refine (rsub_any a b c d ha0 ha1 hb0 hb1 hc0 hc1 hd0 hd1 _).mono ?_
  rintro e w4 ⟨rfl, hw4⟩
  have y4n00 : w4.cell? ⟨w.heap.size, 0, none⟩ = some (.int .i64 a) := cell_below (by go_simp) hw4
  have y4n01 : w4.cell? ⟨w.heap.size, 1, none⟩ = some (.int .i64 b) := cell_below (by go_simp) hw4
  have z4n0 : w.heap.size < w4.heap.size := World.block_lt_of_cell? w4 _ y4n00
  have y4n10 : w4.cell? ⟨w.heap.size + 1, 0, none⟩ = some (.int .i64 c) := cell_below (by go_simp) hw4
  have y4n11 : w4.cell? ⟨w.heap.size + 1, 1, none⟩ = some (.int .i64 d) := cell_below (by go_simp) hw4
  have z4n1 : w.heap.size + 1 < w4.heap.size := World.block_lt_of_cell? w4 _ y4n10
  have y4s10 : w4.cell? ⟨w1.heap.size, 0, none⟩ = some (.int .i64 (addT a b c d).1) := cell_below (by go_simp) hw4
  have y4s11 : w4.cell? ⟨w1.heap.size, 1, none⟩ = some (.int .i64 (addT a b c d).2.1) := cell_below (by go_simp) hw4
  have f4s10 : w4.frozen? ⟨w1.heap.size, 0, none⟩ = false := frozen_kept (v := .int .i64 (addT a b c d).1) (by go_simp) (by go_simp) hw4
  have f4s11 : w4.frozen? ⟨w1.heap.size, 1, none⟩ = false := frozen_kept (v := .int .i64 (addT a b c d).2.1) (by go_simp) (by go_simp) hw4
  have z4s1 : w1.heap.size < w4.heap.size := World.block_lt_of_cell? w4 _ y4s10
  have y4s20 : w4.cell? ⟨w2.heap.size, 0, none⟩ = some (.int .i64 (addT a b c d).1) := cell_below (by go_simp) hw4
  have y4s21 : w4.cell? ⟨w2.heap.size, 1, none⟩ = some (.int .i64 (addT a b c d).2.1) := cell_below (by go_simp) hw4
  have f4s20 : w4.frozen? ⟨w2.heap.size, 0, none⟩ = false := frozen_kept (v := .int .i64 (addT a b c d).1) (by go_simp) (by go_simp) hw4
  have f4s21 : w4.frozen? ⟨w2.heap.size, 1, none⟩ = false := frozen_kept (v := .int .i64 (addT a b c d).2.1) (by go_simp) (by go_simp) hw4
  have z4s2 : w2.heap.size < w4.heap.size := World.block_lt_of_cell? w4 _ y4s20
  have y4s30 : w4.cell? ⟨w3.heap.size, 0, none⟩ = some (.int .i64 (subT a b c d).1) := cell_below (by go_simp) hw4
  have y4s31 : w4.cell? ⟨w3.heap.size, 1, none⟩ = some (.int .i64 (subT a b c d).2.1) := cell_below (by go_simp) hw4
  have f4s30 : w4.frozen? ⟨w3.heap.size, 0, none⟩ = false := frozen_kept (v := .int .i64 (subT a b c d).1) (by go_simp) (by go_simp) hw4
  have f4s31 : w4.frozen? ⟨w3.heap.size, 1, none⟩ = false := frozen_kept (v := .int .i64 (subT a b c d).2.1) (by go_simp) (by go_simp) hw4
  have z4s3 : w3.heap.size < w4.heap.size := World.block_lt_of_cell? w4 _ y4s30
  clear y3n00 y3n01 y3n10 y3n11 y3s10 y3s11 f3s10 f3s11 y3s20 y3s21 f3s20 f3s21
  have hB4 : Below w.heap.size w w4 := Below.trans (b := _) (by repeat (first | assumption | refine Below.setCell ?_ (by first | omega | (simp <;> omega)) _ | refine Below.alloc ?_ (by first | omega | (simp <;> omega)) _)) (hw4.mono (by first | omega | (simp <;> omega)))
  go_wp2_with fail
  refine (mul_any a b c d ha0 ha1 hb0 hb1 hc0 hc1 hd0 hd1 _).mono ?_
  rintro e w5 ⟨rfl, hw5⟩
  have y5n00 : w5.cell? ⟨w.heap.size, 0, none⟩ = some (.int .i64 a) := cell_below (by go_simp) hw5
  have y5n01 : w5.cell? ⟨w.heap.size, 1, none⟩ = some (.int .i64 b) := cell_below (by go_simp) hw5
  have z5n0 : w.heap.size < w5.heap.size := World.block_lt_of_cell? w5 _ y5n00
  have y5n10 : w5.cell? ⟨w.heap.size + 1, 0, none⟩ = some (.int .i64 c) := cell_below (by go_simp) hw5
  have y5n11 : w5.cell? ⟨w.heap.size + 1, 1, none⟩ = some (.int .i64 d) := cell_below (by go_simp) hw5
  have z5n1 : w.heap.size + 1 < w5.heap.size := World.block_lt_of_cell? w5 _ y5n10
  have y5s10 : w5.cell? ⟨w1.heap.size, 0, none⟩ = some (.int .i64 (addT a b c d).1) := cell_below (by go_simp) hw5
  have y5s11 : w5.cell? ⟨w1.heap.size, 1, none⟩ = some (.int .i64 (addT a b c d).2.1) := cell_below (by go_simp) hw5
  have f5s10 : w5.frozen? ⟨w1.heap.size, 0, none⟩ = false := frozen_kept (v := .int .i64 (addT a b c d).1) (by go_simp) (by go_simp) hw5
  have f5s11 : w5.frozen? ⟨w1.heap.size, 1, none⟩ = false := frozen_kept (v := .int .i64 (addT a b c d).2.1) (by go_simp) (by go_simp) hw5
  have z5s1 : w1.heap.size < w5.heap.size := World.block_lt_of_cell? w5 _ y5s10
  have y5s20 : w5.cell? ⟨w2.heap.size, 0, none⟩ = some (.int .i64 (addT a b c d).1) := cell_below (by go_simp) hw5
  have y5s21 : w5.cell? ⟨w2.heap.size, 1, none⟩ = some (.int .i64 (addT a b c d).2.1) := cell_below (by go_simp) hw5
  have f5s20 : w5.frozen? ⟨w2.heap.size, 0, none⟩ = false := frozen_kept (v := .int .i64 (addT a b c d).1) (by go_simp) (by go_simp) hw5
  have f5s21 : w5.frozen? ⟨w2.heap.size, 1, none⟩ = false := frozen_kept (v := .int .i64 (addT a b c d).2.1) (by go_simp) (by go_simp) hw5
  have z5s2 : w2.heap.size < w5.heap.size := World.block_lt_of_cell? w5 _ y5s20
  have y5s30 : w5.cell? ⟨w3.heap.size, 0, none⟩ = some (.int .i64 (subT a b c d).1) := cell_below (by go_simp) hw5
  have y5s31 : w5.cell? ⟨w3.heap.size, 1, none⟩ = some (.int .i64 (subT a b c d).2.1) := cell_below (by go_simp) hw5
  have f5s30 : w5.frozen? ⟨w3.heap.size, 0, none⟩ = false := frozen_kept (v := .int .i64 (subT a b c d).1) (by go_simp) (by go_simp) hw5
  have f5s31 : w5.frozen? ⟨w3.heap.size, 1, none⟩ = false := frozen_kept (v := .int .i64 (subT a b c d).2.1) (by go_simp) (by go_simp) hw5
  have z5s3 : w3.heap.size < w5.heap.size := World.block_lt_of_cell? w5 _ y5s30
  have y5s40 : w5.cell? ⟨w4.heap.size, 0, none⟩ = some (.int .i64 (subT a b c d).1) := cell_below (by go_simp) hw5
  have y5s41 : w5.cell? ⟨w4.heap.size, 1, none⟩ = some (.int .i64 (subT a b c d).2.1) := cell_below (by go_simp) hw5
  have f5s40 : w5.frozen? ⟨w4.heap.size, 0, none⟩ = false := frozen_kept (v := .int .i64 (subT a b c d).1) (by go_simp) (by go_simp) hw5
  have f5s41 : w5.frozen? ⟨w4.heap.size, 1, none⟩ = false := frozen_kept (v := .int .i64 (subT a b c d).2.1) (by go_simp) (by go_simp) hw5
  have z5s4 : w4.heap.size < w5.heap.size := World.block_lt_of_cell? w5 _ y5s40
  clear y4n00 y4n01 y4n10 y4n11 y4s10 y4s11 f4s10 f4s11 y4s20 y4s21 f4s20 f4s21 y4s30 y4s31 f4s30 f4s31
  have hB5 : Below w.heap.size w w5 := Below.trans (b := _) (by repeat (first | assumption | refine Below.setCell ?_ (by first | omega | (simp <;> omega)) _ | refine Below.alloc ?_ (by first | omega | (simp <;> omega)) _)) (hw5.mono (by first | omega | (simp <;> omega)))
  go_wp2_with fail
  refine (rmul_any a b c d ha0 ha1 hb0 hb1 hc0 hc1 hd0 hd1 _).mono ?_
  rintro e w6 ⟨rfl, hw6⟩
  have y6n00 : w6.cell? ⟨w.heap.size, 0, none⟩ = some (.int .i64 a) := cell_below (by go_simp) hw6
  have y6n01 : w6.cell? ⟨w.heap.size, 1, none⟩ = some (.int .i64 b) := cell_below (by go_simp) hw6
  have z6n0 : w.heap.size < w6.heap.size := World.block_lt_of_cell? w6 _ y6n00
  have y6n10 : w6.cell? ⟨w.heap.size + 1, 0, none⟩ = some (.int .i64 c) := cell_below (by go_simp) hw6
  have y6n11 : w6.cell? ⟨w.heap.size + 1, 1, none⟩ = some (.int .i64 d) := cell_below (by go_simp) hw6
  have z6n1 : w.heap.size + 1 < w6.heap.size := World.block_lt_of_cell? w6 _ y6n10
  have y6s10 : w6.cell? ⟨w1.heap.size, 0, none⟩ = some (.int .i64 (mulT a b c d).1) := cell_below (by go_simp) hw6
  have y6s11 : w6.cell? ⟨w1.heap.size, 1, none⟩ = some (.int .i64 (mulT a b c d).2.1) := cell_below (by go_simp) hw6
  have f6s10 : w6.frozen? ⟨w1.heap.size, 0, none⟩ = false := frozen_kept (v := .int .i64 (mulT a b c d).1) (by go_simp) (by go_simp) hw6
  have f6s11 : w6.frozen? ⟨w1.heap.size, 1, none⟩ = false := frozen_kept (v := .int .i64 (mulT a b c d).2.1) (by go_simp) (by go_simp) hw6
  have z6s1 : w1.heap.size < w6.heap.size := World.block_lt_of_cell? w6 _ y6s10
  have y6s20 : w6.cell? ⟨w2.heap.size, 0, none⟩ = some (.int .i64 (addT a b c d).1) := cell_below (by go_simp) hw6
  have y6s21 : w6.cell? ⟨w2.heap.size, 1, none⟩ = some (.int .i64 (addT a b c d).2.1) := cell_below (by go_simp) hw6
  have f6s20 : w6.frozen? ⟨w2.heap.size, 0, none⟩ = false := frozen_kept (v := .int .i64 (addT a b c d).1) (by go_simp) (by go_simp) hw6
  have f6s21 : w6.frozen? ⟨w2.heap.size, 1, none⟩ = false := frozen_kept (v := .int .i64 (addT a b c d).2.1) (by go_simp) (by go_simp) hw6
  have z6s2 : w2.heap.size < w6.heap.size := World.block_lt_of_cell? w6 _ y6s20
  have y6s30 : w6.cell? ⟨w3.heap.size, 0, none⟩ = some (.int .i64 (subT a b c d).1) := cell_below (by go_simp) hw6
  have y6s31 : w6.cell? ⟨w3.heap.size, 1, none⟩ = some (.int .i64 (subT a b c d).2.1) := cell_below (by go_simp) hw6
  have f6s30 : w6.frozen? ⟨w3.heap.size, 0, none⟩ = false := frozen_kept (v := .int .i64 (subT a b c d).1) (by go_simp) (by go_simp) hw6
  have f6s31 : w6.frozen? ⟨w3.heap.size, 1, none⟩ = false := frozen_kept (v := .int .i64 (subT a b c d).2.1) (by go_simp) (by go_simp) hw6
  have z6s3 : w3.heap.size < w6.heap.size := World.block_lt_of_cell? w6 _ y6s30
  have y6s40 : w6.cell? ⟨w4.heap.size, 0, none⟩ = some (.int .i64 (subT a b c d).1) := cell_below (by go_simp) hw6
  have y6s41 : w6.cell? ⟨w4.heap.size, 1, none⟩ = some (.int .i64 (subT a b c d).2.1) := cell_below (by go_simp) hw6
  have f6s40 : w6.frozen? ⟨w4.heap.size, 0, none⟩ = false := frozen_kept (v := .int .i64 (subT a b c d).1) (by go_simp) (by go_simp) hw6
  have f6s41 : w6.frozen? ⟨w4.heap.size, 1, none⟩ = false := frozen_kept (v := .int .i64 (subT a b c d).2.1) (by go_simp) (by go_simp) hw6
  have z6s4 : w4.heap.size < w6.heap.size := World.block_lt_of_cell? w6 _ y6s40
  clear y5n00 y5n01 y5n10 y5n11 y5s10 y5s11 f5s10 f5s11 y5s20 y5s21 f5s20 f5s21 y5s30 y5s31 f5s30 f5s31 y5s40 y5s41 f5s40 f5s41
  have hB6 : Below w.heap.size w w6 := Below.trans (b := _) (by repeat (first | assumption | refine Below.setCell ?_ (by first | omega | (simp <;> omega)) _ | refine Below.alloc ?_ (by first | omega | (simp <;> omega)) _)) (hw6.mono (by first | omega | (simp <;> omega)))
  go_wp2_with fail
  refine (rdiv_any a b c d ha0 ha1 hb0 hb1 hc0 hc1 hd0 hd1 _).mono ?_
  rintro e w7 ⟨rfl, hw7⟩
  have y7n00 : w7.cell? ⟨w.heap.size, 0, none⟩ = some (.int .i64 a) := cell_below (by go_simp) hw7
  have y7n01 : w7.cell? ⟨w.heap.size, 1, none⟩ = some (.int .i64 b) := cell_below (by go_simp) hw7
  have z7n0 : w.heap.size < w7.heap.size := World.block_lt_of_cell? w7 _ y7n00
  have y7n10 : w7.cell? ⟨w.heap.size + 1, 0, none⟩ = some (.int .i64 c) := cell_below (by go_simp) hw7
  have y7n11 : w7.cell? ⟨w.heap.size + 1, 1, none⟩ = some (.int .i64 d) := cell_below (by go_simp) hw7
  have z7n1 : w.heap.size + 1 < w7.heap.size := World.block_lt_of_cell? w7 _ y7n10
  have y7s10 : w7.cell? ⟨w1.heap.size, 0, none⟩ = some (.int .i64 (mulT a b c d).1) := cell_below (by go_simp) hw7
  have y7s11 : w7.cell? ⟨w1.heap.size, 1, none⟩ = some (.int .i64 (mulT a b c d).2.1) := cell_below (by go_simp) hw7
  have f7s10 : w7.frozen? ⟨w1.heap.size, 0, none⟩ = false := frozen_kept (v := .int .i64 (mulT a b c d).1) (by go_simp) (by go_simp) hw7
  have f7s11 : w7.frozen? ⟨w1.heap.size, 1, none⟩ = false := frozen_kept (v := .int .i64 (mulT a b c d).2.1) (by go_simp) (by go_simp) hw7
  have z7s1 : w1.heap.size < w7.heap.size := World.block_lt_of_cell? w7 _ y7s10
  have y7s20 : w7.cell? ⟨w2.heap.size, 0, none⟩ = some (.int .i64 (mulT a b c d).1) := cell_below (by go_simp) hw7
  have y7s21 : w7.cell? ⟨w2.heap.size, 1, none⟩ = some (.int .i64 (mulT a b c d).2.1) := cell_below (by go_simp) hw7
  have f7s20 : w7.frozen? ⟨w2.heap.size, 0, none⟩ = false := frozen_kept (v := .int .i64 (mulT a b c d).1) (by go_simp) (by go_simp) hw7
  have f7s21 : w7.frozen? ⟨w2.heap.size, 1, none⟩ = false := frozen_kept (v := .int .i64 (mulT a b c d).2.1) (by go_simp) (by go_simp) hw7
  have z7s2 : w2.heap.size < w7.heap.size := World.block_lt_of_cell? w7 _ y7s20
  have y7s30 : w7.cell? ⟨w3.heap.size, 0, none⟩ = some (.int .i64 (subT a b c d).1) := cell_below (by go_simp) hw7
  have y7s31 : w7.cell? ⟨w3.heap.size, 1, none⟩ = some (.int .i64 (subT a b c d).2.1) := cell_below (by go_simp) hw7
  have f7s30 : w7.frozen? ⟨w3.heap.size, 0, none⟩ = false := frozen_kept (v := .int .i64 (subT a b c d).1) (by go_simp) (by go_simp) hw7
  have f7s31 : w7.frozen? ⟨w3.heap.size, 1, none⟩ = false := frozen_kept (v := .int .i64 (subT a b c d).2.1) (by go_simp) (by go_simp) hw7
  have z7s3 : w3.heap.size < w7.heap.size := World.block_lt_of_cell? w7 _ y7s30
  have y7s40 : w7.cell? ⟨w4.heap.size, 0, none⟩ = some (.int .i64 (subT a b c d).1) := cell_below (by go_simp) hw7
  have y7s41 : w7.cell? ⟨w4.heap.size, 1, none⟩ = some (.int .i64 (subT a b c d).2.1) := cell_below (by go_simp) hw7
  have f7s40 : w7.frozen? ⟨w4.heap.size, 0, none⟩ = false := frozen_kept (v := .int .i64 (subT a b c d).1) (by go_simp) (by go_simp) hw7
  have f7s41 : w7.frozen? ⟨w4.heap.size, 1, none⟩ = false := frozen_kept (v := .int .i64 (subT a b c d).2.1) (by go_simp) (by go_simp) hw7
  have z7s4 : w4.heap.size < w7.heap.size := World.block_lt_of_cell? w7 _ y7s40
  clear y6n00 y6n01 y6n10 y6n11 y6s10 y6s11 f6s10 f6s11 y6s20 y6s21 f6s20 f6s21 y6s30 y6s31 f6s30 f6s31 y6s40 y6s41 f6s40 f6s41
  have hB7 : Below w.heap.size w w7 := Below.trans (b := _) (by repeat (first | assumption | refine Below.setCell ?_ (by first | omega | (simp <;> omega)) _ | refine Below.alloc ?_ (by first | omega | (simp <;> omega)) _)) (hw7.mono (by first | omega | (simp <;> omega)))
  go_wp2_with fail
  refine (rdivr_any a b c d ha0 ha1 hb0 hb1 hc0 hc1 hd0 hd1 _).mono ?_
  rintro e w8 ⟨rfl, hw8⟩
  have y8n00 : w8.cell? ⟨w.heap.size, 0, none⟩ = some (.int .i64 a) := cell_below (by go_simp) hw8
  have y8n01 : w8.cell? ⟨w.heap.size, 1, none⟩ = some (.int .i64 b) := cell_below (by go_simp) hw8
  have z8n0 : w.heap.size < w8.heap.size := World.block_lt_of_cell? w8 _ y8n00
  have y8n10 : w8.cell? ⟨w.heap.size + 1, 0, none⟩ = some (.int .i64 c) := cell_below (by go_simp) hw8
  have y8n11 : w8.cell? ⟨w.heap.size + 1, 1, none⟩ = some (.int .i64 d) := cell_below (by go_simp) hw8
  have z8n1 : w.heap.size + 1 < w8.heap.size := World.block_lt_of_cell? w8 _ y8n10
  have y8s10 : w8.cell? ⟨w1.heap.size, 0, none⟩ = some (.int .i64 (mulT a b c d).1) := cell_below (by go_simp) hw8
  have y8s11 : w8.cell? ⟨w1.heap.size, 1, none⟩ = some (.int .i64 (mulT a b c d).2.1) := cell_below (by go_simp) hw8
  have f8s10 : w8.frozen? ⟨w1.heap.size, 0, none⟩ = false := frozen_kept (v := .int .i64 (mulT a b c d).1) (by go_simp) (by go_simp) hw8
  have f8s11 : w8.frozen? ⟨w1.heap.size, 1, none⟩ = false := frozen_kept (v := .int .i64 (mulT a b c d).2.1) (by go_simp) (by go_simp) hw8
  have z8s1 : w1.heap.size < w8.heap.size := World.block_lt_of_cell? w8 _ y8s10
  have y8s20 : w8.cell? ⟨w2.heap.size, 0, none⟩ = some (.int .i64 (mulT a b c d).1) := cell_below (by go_simp) hw8
  have y8s21 : w8.cell? ⟨w2.heap.size, 1, none⟩ = some (.int .i64 (mulT a b c d).2.1) := cell_below (by go_simp) hw8
  have f8s20 : w8.frozen? ⟨w2.heap.size, 0, none⟩ = false := frozen_kept (v := .int .i64 (mulT a b c d).1) (by go_simp) (by go_simp) hw8
  have f8s21 : w8.frozen? ⟨w2.heap.size, 1, none⟩ = false := frozen_kept (v := .int .i64 (mulT a b c d).2.1) (by go_simp) (by go_simp) hw8
  have z8s2 : w2.heap.size < w8.heap.size := World.block_lt_of_cell? w8 _ y8s20
  have y8s30 : w8.cell? ⟨w3.heap.size, 0, none⟩ = some (.int .i64 (divT a b c d).1) := cell_below (by go_simp) hw8
  have y8s31 : w8.cell? ⟨w3.heap.size, 1, none⟩ = some (.int .i64 (divT a b c d).2.1) := cell_below (by go_simp) hw8
  have f8s30 : w8.frozen? ⟨w3.heap.size, 0, none⟩ = false := frozen_kept (v := .int .i64 (divT a b c d).1) (by go_simp) (by go_simp) hw8
  have f8s31 : w8.frozen? ⟨w3.heap.size, 1, none⟩ = false := frozen_kept (v := .int .i64 (divT a b c d).2.1) (by go_simp) (by go_simp) hw8
  have z8s3 : w3.heap.size < w8.heap.size := World.block_lt_of_cell? w8 _ y8s30
  have y8s40 : w8.cell? ⟨w4.heap.size, 0, none⟩ = some (.int .i64 (subT a b c d).1) := cell_below (by go_simp) hw8
  have y8s41 : w8.cell? ⟨w4.heap.size, 1, none⟩ = some (.int .i64 (subT a b c d).2.1) := cell_below (by go_simp) hw8
  have f8s40 : w8.frozen? ⟨w4.heap.size, 0, none⟩ = false := frozen_kept (v := .int .i64 (subT a b c d).1) (by go_simp) (by go_simp) hw8
  have f8s41 : w8.frozen? ⟨w4.heap.size, 1, none⟩ = false := frozen_kept (v := .int .i64 (subT a b c d).2.1) (by go_simp) (by go_simp) hw8
  have z8s4 : w4.heap.size < w8.heap.size := World.block_lt_of_cell? w8 _ y8s40
  clear y7n00 y7n01 y7n10 y7n11 y7s10 y7s11 f7s10 f7s11 y7s20 y7s21 f7s20 f7s21 y7s30 y7s31 f7s30 f7s31 y7s40 y7s41 f7s40 f7s41
  have hB8 : Below w.heap.size w w8 := Below.trans (b := _) (by repeat (first | assumption | refine Below.setCell ?_ (by first | omega | (simp <;> omega)) _ | refine Below.alloc ?_ (by first | omega | (simp <;> omega)) _)) (hw8.mono (by first | omega | (simp <;> omega)))
  go_wp2_with fail
  refine (neg_any a b ha0 ha1 hb0 hb1 _).mono ?_
  rintro e w9 ⟨rfl, hw9⟩
  have y9n00 : w9.cell? ⟨w.heap.size, 0, none⟩ = some (.int .i64 a) := cell_below (by go_simp) hw9
  have y9n01 : w9.cell? ⟨w.heap.size, 1, none⟩ = some (.int .i64 b) := cell_below (by go_simp) hw9
  have z9n0 : w.heap.size < w9.heap.size := World.block_lt_of_cell? w9 _ y9n00
  have y9n10 : w9.cell? ⟨w.heap.size + 1, 0, none⟩ = some (.int .i64 c) := cell_below (by go_simp) hw9
  have y9n11 : w9.cell? ⟨w.heap.size + 1, 1, none⟩ = some (.int .i64 d) := cell_below (by go_simp) hw9
  have z9n1 : w.heap.size + 1 < w9.heap.size := World.block_lt_of_cell? w9 _ y9n10
  have y9s10 : w9.cell? ⟨w1.heap.size, 0, none⟩ = some (.int .i64 (mulT a b c d).1) := cell_below (by go_simp) hw9
  have y9s11 : w9.cell? ⟨w1.heap.size, 1, none⟩ = some (.int .i64 (mulT a b c d).2.1) := cell_below (by go_simp) hw9
  have z9s1 : w1.heap.size < w9.heap.size := World.block_lt_of_cell? w9 _ y9s10
  have y9s20 : w9.cell? ⟨w2.heap.size, 0, none⟩ = some (.int .i64 (mulT a b c d).1) := cell_below (by go_simp) hw9
  have y9s21 : w9.cell? ⟨w2.heap.size, 1, none⟩ = some (.int .i64 (mulT a b c d).2.1) := cell_below (by go_simp) hw9
  have z9s2 : w2.heap.size < w9.heap.size := World.block_lt_of_cell? w9 _ y9s20
  have y9s30 : w9.cell? ⟨w3.heap.size, 0, none⟩ = some (.int .i64 (divT a b c d).1) := cell_below (by go_simp) hw9
  have y9s31 : w9.cell? ⟨w3.heap.size, 1, none⟩ = some (.int .i64 (divT a b c d).2.1) := cell_below (by go_simp) hw9
  have z9s3 : w3.heap.size < w9.heap.size := World.block_lt_of_cell? w9 _ y9s30
  have y9s40 : w9.cell? ⟨w4.heap.size, 0, none⟩ = some (.int .i64 (divT a b c d).1) := cell_below (by go_simp) hw9
  have y9s41 : w9.cell? ⟨w4.heap.size, 1, none⟩ = some (.int .i64 (divT a b c d).2.1) := cell_below (by go_simp) hw9
  have z9s4 : w4.heap.size < w9.heap.size := World.block_lt_of_cell? w9 _ y9s40
  clear y8n00 y8n01 y8n10 y8n11 y8s10 y8s11 f8s10 f8s11 y8s20 y8s21 f8s20 f8s21 y8s30 y8s31 f8s30 f8s31 y8s40 y8s41 f8s40 f8s41
  have hB9 : Below w.heap.size w w9 := Below.trans (b := _) (by repeat (first | assumption | refine Below.setCell ?_ (by first | omega | (simp <;> omega)) _ | refine Below.alloc ?_ (by first | omega | (simp <;> omega)) _)) (hw9.mono (by first | omega | (simp <;> omega)))
  go_wp2_with fail
  refine (rneg_any a b ha0 ha1 hb0 hb1 _).mono ?_
  rintro e w10 ⟨rfl, hw10⟩
  have y10n00 : w10.cell? ⟨w.heap.size, 0, none⟩ = some (.int .i64 a) := cell_below (by go_simp) hw10
  have y10n01 : w10.cell? ⟨w.heap.size, 1, none⟩ = some (.int .i64 b) := cell_below (by go_simp) hw10
  have z10n0 : w.heap.size < w10.heap.size := World.block_lt_of_cell? w10 _ y10n00
  have y10n10 : w10.cell? ⟨w.heap.size + 1, 0, none⟩ = some (.int .i64 c) := cell_below (by go_simp) hw10
  have y10n11 : w10.cell? ⟨w.heap.size + 1, 1, none⟩ = some (.int .i64 d) := cell_below (by go_simp) hw10
  have z10n1 : w.heap.size + 1 < w10.heap.size := World.block_lt_of_cell? w10 _ y10n10
  have y10s10 : w10.cell? ⟨w1.heap.size, 0, none⟩ = some (.int .i64 (mulT a b c d).1) := cell_below (by go_simp) hw10
  have y10s11 : w10.cell? ⟨w1.heap.size, 1, none⟩ = some (.int .i64 (mulT a b c d).2.1) := cell_below (by go_simp) hw10
  have z10s1 : w1.heap.size < w10.heap.size := World.block_lt_of_cell? w10 _ y10s10
  have y10s20 : w10.cell? ⟨w2.heap.size, 0, none⟩ = some (.int .i64 (mulT a b c d).1) := cell_below (by go_simp) hw10
  have y10s21 : w10.cell? ⟨w2.heap.size, 1, none⟩ = some (.int .i64 (mulT a b c d).2.1) := cell_below (by go_simp) hw10
  have z10s2 : w2.heap.size < w10.heap.size := World.block_lt_of_cell? w10 _ y10s20
  have y10s30 : w10.cell? ⟨w3.heap.size, 0, none⟩ = some (.int .i64 (divT a b c d).1) := cell_below (by go_simp) hw10
  have y10s31 : w10.cell? ⟨w3.heap.size, 1, none⟩ = some (.int .i64 (divT a b c d).2.1) := cell_below (by go_simp) hw10
  have z10s3 : w3.heap.size < w10.heap.size := World.block_lt_of_cell? w10 _ y10s30
  have y10s40 : w10.cell? ⟨w4.heap.size, 0, none⟩ = some (.int .i64 (divT a b c d).1) := cell_below (by go_simp) hw10
  have y10s41 : w10.cell? ⟨w4.heap.size, 1, none⟩ = some (.int .i64 (divT a b c d).2.1) := cell_below (by go_simp) hw10
  have z10s4 : w4.heap.size < w10.heap.size := World.block_lt_of_cell? w10 _ y10s40
  have y10s90 : w10.cell? ⟨w9.heap.size, 0, none⟩ = some (.int .i64 (negT a b).1) := cell_below (by go_simp) hw10
  have y10s91 : w10.cell? ⟨w9.heap.size, 1, none⟩ = some (.int .i64 (negT a b).2.1) := cell_below (by go_simp) hw10
  have z10s9 : w9.heap.size < w10.heap.size := World.block_lt_of_cell? w10 _ y10s90
  clear y9n00 y9n01 y9n10 y9n11 y9s10 y9s11 y9s20 y9s21 y9s30 y9s31 y9s40 y9s41
  have hB10 : Below w.heap.size w w10 := Below.trans (b := _) (by repeat (first | assumption | refine Below.setCell ?_ (by first | omega | (simp <;> omega)) _ | refine Below.alloc ?_ (by first | omega | (simp <;> omega)) _)) (hw10.mono (by first | omega | (simp <;> omega)))
  go_wp2_with fail
  obtain ⟨W, hW⟩ : ∃ W, W = w10.alloc (.cells #[.int .i64 (negT a b).1, .int .i64 (negT a b).2.1] 23) := ⟨_, rfl⟩
  have xn00 : W.cell? ⟨w.heap.size, 0, none⟩ = some (.int .i64 a) := by rw [hW]; go_simp
  have xn01 : W.cell? ⟨w.heap.size, 1, none⟩ = some (.int .i64 b) := by rw [hW]; go_simp
  have xn10 : W.cell? ⟨w.heap.size + 1, 0, none⟩ = some (.int .i64 c) := by rw [hW]; go_simp
  have xn11 : W.cell? ⟨w.heap.size + 1, 1, none⟩ = some (.int .i64 d) := by rw [hW]; go_simp
  have xs10 : W.cell? ⟨w1.heap.size, 0, none⟩ = some (.int .i64 (mulT a b c d).1) := by rw [hW]; go_simp
  have xs11 : W.cell? ⟨w1.heap.size, 1, none⟩ = some (.int .i64 (mulT a b c d).2.1) := by rw [hW]; go_simp
  have xs20 : W.cell? ⟨w2.heap.size, 0, none⟩ = some (.int .i64 (mulT a b c d).1) := by rw [hW]; go_simp
  have xs21 : W.cell? ⟨w2.heap.size, 1, none⟩ = some (.int .i64 (mulT a b c d).2.1) := by rw [hW]; go_simp
  have xs30 : W.cell? ⟨w3.heap.size, 0, none⟩ = some (.int .i64 (divT a b c d).1) := by rw [hW]; go_simp
  have xs31 : W.cell? ⟨w3.heap.size, 1, none⟩ = some (.int .i64 (divT a b c d).2.1) := by rw [hW]; go_simp
  have xs40 : W.cell? ⟨w4.heap.size, 0, none⟩ = some (.int .i64 (divT a b c d).1) := by rw [hW]; go_simp
  have xs41 : W.cell? ⟨w4.heap.size, 1, none⟩ = some (.int .i64 (divT a b c d).2.1) := by rw [hW]; go_simp
  have xs90 : W.cell? ⟨w9.heap.size, 0, none⟩ = some (.int .i64 (negT a b).1) := by rw [hW]; go_simp
  have xs91 : W.cell? ⟨w9.heap.size, 1, none⟩ = some (.int .i64 (negT a b).2.1) := by rw [hW]; go_simp
  have xs100 : W.cell? ⟨w10.heap.size, 0, none⟩ = some (.int .i64 (negT a b).1) := by rw [hW]; go_simp
  have xs101 : W.cell? ⟨w10.heap.size, 1, none⟩ = some (.int .i64 (negT a b).2.1) := by rw [hW]; go_simp
  have hBW : Below w.heap.size w W := by rw [hW]; exact Below.alloc hB10 hB10.size _
  clear y10n00 y10n01 y10n10 y10n11 y10s10 y10s11 y10s20 y10s21 y10s30 y10s31 y10s40 y10s41 y10s90 y10s91
  rw [← hW]
  clear hW
  go_region_held3 (fun w' => w'.cell? ⟨w.heap.size, 0, none⟩ = some (.int .i64 a) ∧ w'.cell? ⟨w.heap.size, 1, none⟩ = some (.int .i64 b) ∧ w'.cell? ⟨w.heap.size + 1, 0, none⟩ = some (.int .i64 c) ∧ w'.cell? ⟨w.heap.size + 1, 1, none⟩ = some (.int .i64 d) ∧ w'.cell? ⟨w1.heap.size, 0, none⟩ = some (.int .i64 (mulT a b c d).1) ∧ w'.cell? ⟨w1.heap.size, 1, none⟩ = some (.int .i64 (mulT a b c d).2.1) ∧ w'.cell? ⟨w2.heap.size, 0, none⟩ = some (.int .i64 (mulT a b c d).1) ∧ w'.cell? ⟨w2.heap.size, 1, none⟩ = some (.int .i64 (mulT a b c d).2.1) ∧ w'.cell? ⟨w3.heap.size, 0, none⟩ = some (.int .i64 (divT a b c d).1) ∧ w'.cell? ⟨w3.heap.size, 1, none⟩ = some (.int .i64 (divT a b c d).2.1) ∧ w'.cell? ⟨w4.heap.size, 0, none⟩ = some (.int .i64 (divT a b c d).1) ∧ w'.cell? ⟨w4.heap.size, 1, none⟩ = some (.int .i64 (divT a b c d).2.1) ∧ w'.cell? ⟨w9.heap.size, 0, none⟩ = some (.int .i64 (negT a b).1) ∧ w'.cell? ⟨w9.heap.size, 1, none⟩ = some (.int .i64 (negT a b).2.1) ∧ w'.cell? ⟨w10.heap.size, 0, none⟩ = some (.int .i64 (negT a b).1) ∧ w'.cell? ⟨w10.heap.size, 1, none⟩ = some (.int .i64 (negT a b).2.1) ∧ Below w.heap.size w w') (first | exact ⟨xn00, xn01, xn10, xn11, xs10, xs11, xs20, xs21, xs30, xs31, xs40, xs41, xs90, xs91, xs100, xs101, Below.drew hBW⟩ | exact ⟨k0, k1, k2, k3, k4, k5, k6, k7, k8, k9, k10, k11, k12, k13, k14, k15, kB⟩)
    (first | (go_at_call 23; go_split_ands; refine (valid_any a b ha0 ha1 hb0 hb1 _).mono ?_; rintro e wv ⟨rfl, hwv⟩; (have k0 := cell_below (p := ⟨w.heap.size, 0, none⟩) (v := .int .i64 a) (by assumption) hwv); (have k1 := cell_below (p := ⟨w.heap.size, 1, none⟩) (v := .int .i64 b) (by assumption) hwv); (have k2 := cell_below (p := ⟨w.heap.size + 1, 0, none⟩) (v := .int .i64 c) (by assumption) hwv); (have k3 := cell_below (p := ⟨w.heap.size + 1, 1, none⟩) (v := .int .i64 d) (by assumption) hwv); (have k4 := cell_below (p := ⟨w1.heap.size, 0, none⟩) (v := .int .i64 (mulT a b c d).1) (by assumption) hwv); (have k5 := cell_below (p := ⟨w1.heap.size, 1, none⟩) (v := .int .i64 (mulT a b c d).2.1) (by assumption) hwv); (have k6 := cell_below (p := ⟨w2.heap.size, 0, none⟩) (v := .int .i64 (mulT a b c d).1) (by assumption) hwv); (have k7 := cell_below (p := ⟨w2.heap.size, 1, none⟩) (v := .int .i64 (mulT a b c d).2.1) (by assumption) hwv); (have k8 := cell_below (p := ⟨w3.heap.size, 0, none⟩) (v := .int .i64 (divT a b c d).1) (by assumption) hwv); (have k9 := cell_below (p := ⟨w3.heap.size, 1, none⟩) (v := .int .i64 (divT a b c d).2.1) (by assumption) hwv); (have k10 := cell_below (p := ⟨w4.heap.size, 0, none⟩) (v := .int .i64 (divT a b c d).1) (by assumption) hwv); (have k11 := cell_below (p := ⟨w4.heap.size, 1, none⟩) (v := .int .i64 (divT a b c d).2.1) (by assumption) hwv); (have k12 := cell_below (p := ⟨w9.heap.size, 0, none⟩) (v := .int .i64 (negT a b).1) (by assumption) hwv); (have k13 := cell_below (p := ⟨w9.heap.size, 1, none⟩) (v := .int .i64 (negT a b).2.1) (by assumption) hwv); (have k14 := cell_below (p := ⟨w10.heap.size, 0, none⟩) (v := .int .i64 (negT a b).1) (by assumption) hwv); (have k15 := cell_below (p := ⟨w10.heap.size, 1, none⟩) (v := .int .i64 (negT a b).2.1) (by assumption) hwv); (have kB : Below w.heap.size w wv := Below.trans (by assumption) (hwv.mono (Below.size (by assumption))))) | (go_at_call 22; go_split_ands; refine (rvalid_any a b ha0 ha1 hb0 hb1 _).mono ?_; rintro e wv ⟨rfl, hwv⟩; (have k0 := cell_below (p := ⟨w.heap.size, 0, none⟩) (v := .int .i64 a) (by assumption) hwv); (have k1 := cell_below (p := ⟨w.heap.size, 1, none⟩) (v := .int .i64 b) (by assumption) hwv); (have k2 := cell_below (p := ⟨w.heap.size + 1, 0, none⟩) (v := .int .i64 c) (by assumption) hwv); (have k3 := cell_below (p := ⟨w.heap.size + 1, 1, none⟩) (v := .int .i64 d) (by assumption) hwv); (have k4 := cell_below (p := ⟨w1.heap.size, 0, none⟩) (v := .int .i64 (mulT a b c d).1) (by assumption) hwv); (have k5 := cell_below (p := ⟨w1.heap.size, 1, none⟩) (v := .int .i64 (mulT a b c d).2.1) (by assumption) hwv); (have k6 := cell_below (p := ⟨w2.heap.size, 0, none⟩) (v := .int .i64 (mulT a b c d).1) (by assumption) hwv); (have k7 := cell_below (p := ⟨w2.heap.size, 1, none⟩) (v := .int .i64 (mulT a b c d).2.1) (by assumption) hwv); (have k8 := cell_below (p := ⟨w3.heap.size, 0, none⟩) (v := .int .i64 (divT a b c d).1) (by assumption) hwv); (have k9 := cell_below (p := ⟨w3.heap.size, 1, none⟩) (v := .int .i64 (divT a b c d).2.1) (by assumption) hwv); (have k10 := cell_below (p := ⟨w4.heap.size, 0, none⟩) (v := .int .i64 (divT a b c d).1) (by assumption) hwv); (have k11 := cell_below (p := ⟨w4.heap.size, 1, none⟩) (v := .int .i64 (divT a b c d).2.1) (by assumption) hwv); (have k12 := cell_below (p := ⟨w9.heap.size, 0, none⟩) (v := .int .i64 (negT a b).1) (by assumption) hwv); (have k13 := cell_below (p := ⟨w9.heap.size, 1, none⟩) (v := .int .i64 (negT a b).2.1) (by assumption) hwv); (have k14 := cell_below (p := ⟨w10.heap.size, 0, none⟩) (v := .int .i64 (negT a b).1) (by assumption) hwv); (have k15 := cell_below (p := ⟨w10.heap.size, 1, none⟩) (v := .int .i64 (negT a b).2.1) (by assumption) hwv); (have kB : Below w.heap.size w wv := Below.trans (by assumption) (hwv.mono (Below.size (by assumption))))) | (go_at_call 28; go_split_ands; refine (cmp_any a b c d ha0 ha1 hb0 hb1 hc0 hc1 hd0 hd1 _).mono ?_; rintro e wv ⟨rfl, hwv⟩; (have k0 := cell_below (p := ⟨w.heap.size, 0, none⟩) (v := .int .i64 a) (by assumption) hwv); (have k1 := cell_below (p := ⟨w.heap.size, 1, none⟩) (v := .int .i64 b) (by assumption) hwv); (have k2 := cell_below (p := ⟨w.heap.size + 1, 0, none⟩) (v := .int .i64 c) (by assumption) hwv); (have k3 := cell_below (p := ⟨w.heap.size + 1, 1, none⟩) (v := .int .i64 d) (by assumption) hwv); (have k4 := cell_below (p := ⟨w1.heap.size, 0, none⟩) (v := .int .i64 (mulT a b c d).1) (by assumption) hwv); (have k5 := cell_below (p := ⟨w1.heap.size, 1, none⟩) (v := .int .i64 (mulT a b c d).2.1) (by assumption) hwv); (have k6 := cell_below (p := ⟨w2.heap.size, 0, none⟩) (v := .int .i64 (mulT a b c d).1) (by assumption) hwv); (have k7 := cell_below (p := ⟨w2.heap.size, 1, none⟩) (v := .int .i64 (mulT a b c d).2.1) (by assumption) hwv); (have k8 := cell_below (p := ⟨w3.heap.size, 0, none⟩) (v := .int .i64 (divT a b c d).1) (by assumption) hwv); (have k9 := cell_below (p := ⟨w3.heap.size, 1, none⟩) (v := .int .i64 (divT a b c d).2.1) (by assumption) hwv); (have k10 := cell_below (p := ⟨w4.heap.size, 0, none⟩) (v := .int .i64 (divT a b c d).1) (by assumption) hwv); (have k11 := cell_below (p := ⟨w4.heap.size, 1, none⟩) (v := .int .i64 (divT a b c d).2.1) (by assumption) hwv); (have k12 := cell_below (p := ⟨w9.heap.size, 0, none⟩) (v := .int .i64 (negT a b).1) (by assumption) hwv); (have k13 := cell_below (p := ⟨w9.heap.size, 1, none⟩) (v := .int .i64 (negT a b).2.1) (by assumption) hwv); (have k14 := cell_below (p := ⟨w10.heap.size, 0, none⟩) (v := .int .i64 (negT a b).1) (by assumption) hwv); (have k15 := cell_below (p := ⟨w10.heap.size, 1, none⟩) (v := .int .i64 (negT a b).2.1) (by assumption) hwv); (have kB : Below w.heap.size w wv := Below.trans (by assumption) (hwv.mono (Below.size (by assumption))))) | (go_at_call 40; go_split_ands; refine (rcmp_any a b c d ha0 ha1 hb0 hb1 hc0 hc1 hd0 hd1 _).mono ?_; rintro e wv ⟨rfl, hwv⟩; (have k0 := cell_below (p := ⟨w.heap.size, 0, none⟩) (v := .int .i64 a) (by assumption) hwv); (have k1 := cell_below (p := ⟨w.heap.size, 1, none⟩) (v := .int .i64 b) (by assumption) hwv); (have k2 := cell_below (p := ⟨w.heap.size + 1, 0, none⟩) (v := .int .i64 c) (by assumption) hwv); (have k3 := cell_below (p := ⟨w.heap.size + 1, 1, none⟩) (v := .int .i64 d) (by assumption) hwv); (have k4 := cell_below (p := ⟨w1.heap.size, 0, none⟩) (v := .int .i64 (mulT a b c d).1) (by assumption) hwv); (have k5 := cell_below (p := ⟨w1.heap.size, 1, none⟩) (v := .int .i64 (mulT a b c d).2.1) (by assumption) hwv); (have k6 := cell_below (p := ⟨w2.heap.size, 0, none⟩) (v := .int .i64 (mulT a b c d).1) (by assumption) hwv); (have k7 := cell_below (p := ⟨w2.heap.size, 1, none⟩) (v := .int .i64 (mulT a b c d).2.1) (by assumption) hwv); (have k8 := cell_below (p := ⟨w3.heap.size, 0, none⟩) (v := .int .i64 (divT a b c d).1) (by assumption) hwv); (have k9 := cell_below (p := ⟨w3.heap.size, 1, none⟩) (v := .int .i64 (divT a b c d).2.1) (by assumption) hwv); (have k10 := cell_below (p := ⟨w4.heap.size, 0, none⟩) (v := .int .i64 (divT a b c d).1) (by assumption) hwv); (have k11 := cell_below (p := ⟨w4.heap.size, 1, none⟩) (v := .int .i64 (divT a b c d).2.1) (by assumption) hwv); (have k12 := cell_below (p := ⟨w9.heap.size, 0, none⟩) (v := .int .i64 (negT a b).1) (by assumption) hwv); (have k13 := cell_below (p := ⟨w9.heap.size, 1, none⟩) (v := .int .i64 (negT a b).2.1) (by assumption) hwv); (have k14 := cell_below (p := ⟨w10.heap.size, 0, none⟩) (v := .int .i64 (negT a b).1) (by assumption) hwv); (have k15 := cell_below (p := ⟨w10.heap.size, 1, none⟩) (v := .int .i64 (negT a b).2.1) (by assumption) hwv); (have kB : Below w.heap.size w wv := Below.trans (by assumption) (hwv.mono (Below.size (by assumption))))) | (go_at_call 29; go_split_ands; refine (floor_any a b ha0 ha1 hb0 hb1 _).mono ?_; rintro e wv ⟨rfl, hwv⟩; (have k0 := cell_below (p := ⟨w.heap.size, 0, none⟩) (v := .int .i64 a) (by assumption) hwv); (have k1 := cell_below (p := ⟨w.heap.size, 1, none⟩) (v := .int .i64 b) (by assumption) hwv); (have k2 := cell_below (p := ⟨w.heap.size + 1, 0, none⟩) (v := .int .i64 c) (by assumption) hwv); (have k3 := cell_below (p := ⟨w.heap.size + 1, 1, none⟩) (v := .int .i64 d) (by assumption) hwv); (have k4 := cell_below (p := ⟨w1.heap.size, 0, none⟩) (v := .int .i64 (mulT a b c d).1) (by assumption) hwv); (have k5 := cell_below (p := ⟨w1.heap.size, 1, none⟩) (v := .int .i64 (mulT a b c d).2.1) (by assumption) hwv); (have k6 := cell_below (p := ⟨w2.heap.size, 0, none⟩) (v := .int .i64 (mulT a b c d).1) (by assumption) hwv); (have k7 := cell_below (p := ⟨w2.heap.size, 1, none⟩) (v := .int .i64 (mulT a b c d).2.1) (by assumption) hwv); (have k8 := cell_below (p := ⟨w3.heap.size, 0, none⟩) (v := .int .i64 (divT a b c d).1) (by assumption) hwv); (have k9 := cell_below (p := ⟨w3.heap.size, 1, none⟩) (v := .int .i64 (divT a b c d).2.1) (by assumption) hwv); (have k10 := cell_below (p := ⟨w4.heap.size, 0, none⟩) (v := .int .i64 (divT a b c d).1) (by assumption) hwv); (have k11 := cell_below (p := ⟨w4.heap.size, 1, none⟩) (v := .int .i64 (divT a b c d).2.1) (by assumption) hwv); (have k12 := cell_below (p := ⟨w9.heap.size, 0, none⟩) (v := .int .i64 (negT a b).1) (by assumption) hwv); (have k13 := cell_below (p := ⟨w9.heap.size, 1, none⟩) (v := .int .i64 (negT a b).2.1) (by assumption) hwv); (have k14 := cell_below (p := ⟨w10.heap.size, 0, none⟩) (v := .int .i64 (negT a b).1) (by assumption) hwv); (have k15 := cell_below (p := ⟨w10.heap.size, 1, none⟩) (v := .int .i64 (negT a b).2.1) (by assumption) hwv); (have kB : Below w.heap.size w wv := Below.trans (by assumption) (hwv.mono (Below.size (by assumption))))) | (go_at_call 41; go_split_ands; refine (rfloor_any a b ha0 ha1 hb0 hb1 _).mono ?_; rintro e wv ⟨rfl, hwv⟩; (have k0 := cell_below (p := ⟨w.heap.size, 0, none⟩) (v := .int .i64 a) (by assumption) hwv); (have k1 := cell_below (p := ⟨w.heap.size, 1, none⟩) (v := .int .i64 b) (by assumption) hwv); (have k2 := cell_below (p := ⟨w.heap.size + 1, 0, none⟩) (v := .int .i64 c) (by assumption) hwv); (have k3 := cell_below (p := ⟨w.heap.size + 1, 1, none⟩) (v := .int .i64 d) (by assumption) hwv); (have k4 := cell_below (p := ⟨w1.heap.size, 0, none⟩) (v := .int .i64 (mulT a b c d).1) (by assumption) hwv); (have k5 := cell_below (p := ⟨w1.heap.size, 1, none⟩) (v := .int .i64 (mulT a b c d).2.1) (by assumption) hwv); (have k6 := cell_below (p := ⟨w2.heap.size, 0, none⟩) (v := .int .i64 (mulT a b c d).1) (by assumption) hwv); (have k7 := cell_below (p := ⟨w2.heap.size, 1, none⟩) (v := .int .i64 (mulT a b c d).2.1) (by assumption) hwv); (have k8 := cell_below (p := ⟨w3.heap.size, 0, none⟩) (v := .int .i64 (divT a b c d).1) (by assumption) hwv); (have k9 := cell_below (p := ⟨w3.heap.size, 1, none⟩) (v := .int .i64 (divT a b c d).2.1) (by assumption) hwv); (have k10 := cell_below (p := ⟨w4.heap.size, 0, none⟩) (v := .int .i64 (divT a b c d).1) (by assumption) hwv); (have k11 := cell_below (p := ⟨w4.heap.size, 1, none⟩) (v := .int .i64 (divT a b c d).2.1) (by assumption) hwv); (have k12 := cell_below (p := ⟨w9.heap.size, 0, none⟩) (v := .int .i64 (negT a b).1) (by assumption) hwv); (have k13 := cell_below (p := ⟨w9.heap.size, 1, none⟩) (v := .int .i64 (negT a b).2.1) (by assumption) hwv); (have k14 := cell_below (p := ⟨w10.heap.size, 0, none⟩) (v := .int .i64 (negT a b).1) (by assumption) hwv); (have k15 := cell_below (p := ⟨w10.heap.size, 1, none⟩) (v := .int .i64 (negT a b).2.1) (by assumption) hwv); (have kB : Below w.heap.size w wv := Below.trans (by assumption) (hwv.mono (Below.size (by assumption))))))
  go_split_ands
  go_wp2
  go_ret
  exact ⟨by simp, by assumption⟩
end Go.Proofs.YtpdkmmiedkkpeaaDoor

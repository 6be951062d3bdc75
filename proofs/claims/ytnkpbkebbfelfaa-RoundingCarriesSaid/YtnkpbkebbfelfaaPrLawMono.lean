/-
  RoundingMonotone: the walk: of two made fractions the greater one is never rounded to a smaller multiple, and a multiple is rounded to itself; the answer is true.
-/
import Derived.Test.YtnkpbkebbfelfaaPrKept
import Derived.Test.YtnkpbkebbfelfaaPrMono
import Derived.Test.YtnkpbkebbfelfaaPrCarry
import Derived.Test.YtnkpbkebbfelfaaPrSane2
namespace Go.Proofs.Ytnkpbkebbfelfaa
open Go Go.RowKit Go.Lib Go.Proofs.Ytnkpbkebbfelfaa.Tp
set_option linter.unusedVariables false

theorem step_val {p q : Int} (hp : p ∈ ([1, 5, 1, 50, 1, 3, 100, 7] : List Int)) (hq : q ∈ ([100, 1, 20, 100, 2, 1000, 1] : List Int)) : vldB (newT p q).1 (newT p q).2.1 = true ∧ 0 < (newT p q).1 ∧ newT p q = ((newT p q).1, (newT p q).2.1, 0) := by
  simp only [List.mem_cons, List.not_mem_nil, or_false] at hp hq
  obtain ⟨e1, e2⟩ := newT_small p q (by omega) (by omega) (by omega) (by omega)
  have e3 : newT p q = ((newT p q).1, (newT p q).2.1, 0) := Prod.ext rfl (Prod.ext rfl e1)
  have e4 := (newT_val (by omega) e3).2
  have hy := (vld_bd e2).1
  refine ⟨e2, ?_, e3⟩
  have hpy : 0 < p * (newT p q).2.1 := Int.mul_pos (by omega) (by omega)
  rcases Int.lt_or_le 0 (newT p q).1 with h | h
  · exact h
  · have : (newT p q).1 * q ≤ 0 := Int.mul_nonpos_of_nonpos_of_nonneg h (by omega)
    omega
theorem cell_low' {w w' : World} {p : Addr} {v : Value} (h : w.cell? p = some v) (hb : Below w.heap.size w w') : w'.cell? p = some v := (hb.cell (World.block_lt_of_cell? w p h)).trans h

set_option maxRecDepth 100000 in
set_option maxHeartbeats 8000000 in
theorem mono_walk (p : Option Addr) (len cap : Nat) (zs : List Int) (m : Int) (hm0 : -9223372036854775808 ≤ m) (hm1 : m ≤ 9223372036854775807)
    (w : World) (hr : IsRow w p len cap zs) (hl : len ≤ 9223372036854775807) :
    Calls Try.prog 8 #[.slice p len cap, .int .i64 m] w fun e w' => e = .returned (.bool true) ∧ Below w.heap.size w w' := by
  have K0 : Kept w w.heap.size (w.alloc (.cells #[.slice p len cap, .int .i64 0] 53)) := ⟨tape_new hr hl _, boxed1 _ _, Nat.le_refl _⟩
  have HK := Lib.hid K0
  clear hr K0
  go_enter Try.func8, Try.ntmps8
  go_wp2_with (go_at_call 11; refine (gnew_any _ _ _ _).mono ?_; rintro e w' ⟨rfl, rfl⟩)
  refine (ratio_any w.heap.size _ HK.out.tape).mono ?_
  rintro e w1 ⟨a1, a2, rfl, va, T1, O1⟩
  have I1 := Lib.hid (HK.out.only T1 O1)
  have VA := Lib.hid va
  clear HK T1 O1 va
  go_wp2_with fail
  refine (ratio_any w.heap.size _ I1.out.tape).mono ?_
  rintro e w2 ⟨b1, b2, rfl, vb, T2, O2⟩
  have I2 := Lib.hid (I1.out.only T2 O2)
  have VB := Lib.hid vb
  clear I1 T2 O2 vb
  go_wp2_with fail
  refine (step_any w.heap.size _ I2.out.tape).mono ?_
  rintro e w3 ⟨sp, sq, hp, hq, rfl, T3, O3⟩
  have hX3 : Below w.heap.size w w3 := (I2.out.only T3 O3).below
  obtain ⟨vu, pu, eu⟩ := step_val hp hq
  obtain ⟨u1, hu1⟩ : ∃ u1, (newT sp sq).1 = u1 := ⟨_, rfl⟩
  obtain ⟨u2, hu2⟩ : ∃ u2, (newT sp sq).2.1 = u2 := ⟨_, rfl⟩
  rw [hu1] at vu pu
  rw [hu2] at vu
  rw [hu1, hu2]
  have VU := Lib.hid vu
  clear I2 T3 O3 vu eu hp hq hu1 hu2
  have bA := vld_bd VA.out
  have bB := vld_bd VB.out
  have bU := vld_bd VU.out
  have t0 := modT_lo m 7 (by omega)
  have t1 := modT_hi m 7 (by omega)
  obtain ⟨k, hk⟩ : ∃ k, k = modT m 7 := ⟨_, rfl⟩
  rw [← hk] at t0 t1
  have hM := fun w => mod_any m 7 hm0 hm1 (by omega) (by omega) w
  rw [← hk] at hM
  have HM := Lib.hid hM
  have wm : Hid (witB k 0 6 = true) := Lib.hid (wit_yes t0 (by omega))
  clear hk hM
  obtain ⟨x1, x2, x3, hx⟩ : ∃ x y z, roundT a1 a2 u1 u2 k = (x, y, z) := ⟨_, _, _, rfl⟩
  obtain ⟨y1, y2, y3, hy⟩ : ∃ x y z, roundT b1 b2 u1 u2 k = (x, y, z) := ⟨_, _, _, rfl⟩
  have ex := round_err VA.out VU.out pu wm.out
  have ey := round_err VB.out VU.out pu wm.out
  obtain ⟨c1, c2⟩ := bd_of hx (roundT_bd a1 a2 u1 u2 k)
  obtain ⟨c3, c4⟩ := bd_of hy (roundT_bd b1 b2 u1 u2 k)
  rw [hx] at ex
  rw [hy] at ey
  have q1 := fun w => round_any a1 a2 u1 u2 k (by omega) (by omega) (by omega) (by omega) (by omega) (by omega) (by omega) (by omega) (by omega) (by omega) w
  have q2 := fun w => round_any b1 b2 u1 u2 k (by omega) (by omega) (by omega) (by omega) (by omega) (by omega) (by omega) (by omega) (by omega) (by omega) w
  have q3 := fun w => round_any x1 x2 u1 u2 k (by omega) (by omega) (by omega) (by omega) (by omega) (by omega) (by omega) (by omega) (by omega) (by omega) w
  simp only [hx] at q1
  simp only [hy] at q2
  have Q1 := Lib.hid q1
  have Q2 := Lib.hid q2
  have Q3 := Lib.hid q3
  have HX := Lib.hid hx
  have HY := Lib.hid hy
  clear q1 q2 q3 hx hy
  have A0 : Tp.Res (((w3.alloc (.cells #[.int .i64 a1, .int .i64 a2] 35)).alloc (.cells #[.int .i64 b1, .int .i64 b2] 35)).alloc (.cells #[.int .i64 u1, .int .i64 u2] 35)) w3.heap.size a1 a2 := ⟨by go_simp, by go_simp, by go_simp, by go_simp⟩
  have B0 : Tp.Res (((w3.alloc (.cells #[.int .i64 a1, .int .i64 a2] 35)).alloc (.cells #[.int .i64 b1, .int .i64 b2] 35)).alloc (.cells #[.int .i64 u1, .int .i64 u2] 35)) (w3.heap.size + 1) b1 b2 := ⟨by go_simp, by go_simp, by go_simp, by go_simp⟩
  have U0 : Tp.Res (((w3.alloc (.cells #[.int .i64 a1, .int .i64 a2] 35)).alloc (.cells #[.int .i64 b1, .int .i64 b2] 35)).alloc (.cells #[.int .i64 u1, .int .i64 u2] 35)) (w3.heap.size + 1 + 1) u1 u2 := ⟨by go_simp, by go_simp, by go_simp, by go_simp⟩
  have hA3 := Lib.hid A0
  have hB3 := Lib.hid B0
  have hU3 := Lib.hid U0
  clear A0 B0 U0
  go_wp2_with (go_at_call 12; refine (HM.out _).mono ?_; rintro e w' ⟨rfl, rfl⟩)
  refine (Q1.out _).mono ?_
  rintro e4 w4 ⟨rfl, hw4⟩
  have hX4 : Below w.heap.size w w4 := (((hX3.alloc hX3.size _).alloc (by have := hX3.size; simp; omega) _).alloc (by have := hX3.size; simp; omega) _).trans (hw4.mono (by have := hX3.size; simp; omega))
  have hA4 := Lib.hid (hA3.out.below hw4)
  have hB4 := Lib.hid (hB3.out.below hw4)
  have hU4 := Lib.hid (hU3.out.below hw4)
  clear hw4 hA3 hB3 hU3
  obtain ⟨uB0, uB1, _, _⟩ := hB4.out
  obtain ⟨uU0, uU1, _, _⟩ := hU4.out
  have zB : w3.heap.size + 1 < w4.heap.size := World.block_lt_of_cell? _ _ uB0
  have zU : w3.heap.size + 1 + 1 < w4.heap.size := World.block_lt_of_cell? _ _ uU0
  go_wp2_with fail
  refine (Q2.out _).mono ?_
  rintro e5 w5 ⟨rfl, hw5⟩
  have hX5 : Below w.heap.size w w5 := (hX4.alloc hX4.size _).trans (hw5.mono (by have := hX4.size; simp; omega))
  have hA5 := Lib.hid ((hA4.out.alloc (.cells #[.int .i64 x1, .int .i64 x2] 35)).below hw5)
  have hB5 := Lib.hid ((hB4.out.alloc (.cells #[.int .i64 x1, .int .i64 x2] 35)).below hw5)
  have hU5 := Lib.hid ((hU4.out.alloc (.cells #[.int .i64 x1, .int .i64 x2] 35)).below hw5)
  have hZ5 := Lib.hid ((Tp.Res.new w4 x1 x2 35).below hw5)
  clear hw5 hA4 hB4 hU4 uB0 uB1 uU0 uU1 zB zU hX4
  rcases ex with ex | ex
  case inr =>
    subst ex
    go_wp2_with (go_at_call 17; refine (sane_any _).mono ?_; rintro e wv ⟨rfl, hwv⟩)
    go_ret
    exact ⟨rfl, (hX5.alloc hX5.size _).trans (hwv.mono (by have := hX5.size; simp; omega))⟩
  subst ex
  rcases ey with ey | ey
  case inr =>
    subst ey
    go_wp2_with (go_at_call 17; refine (sane_any _).mono ?_; rintro e wv ⟨rfl, hwv⟩)
    go_ret
    exact ⟨rfl, (hX5.alloc hX5.size _).trans (hwv.mono (by have := hX5.size; simp; omega))⟩
  subst ey
  have Q3' : Hid (∀ w, Calls Try.prog 26 #[.agg #[.int .i64 x1, .int .i64 x2], .agg #[.int .i64 u1, .int .i64 u2], .int .i64 k] w fun e w' => e = .returned (.tuple #[.agg #[.int .i64 x1, .int .i64 x2], .int .i64 0]) ∧ Below w.heap.size w w') := Lib.hid fun w => by
    have h := Q3.out w
    rw [round_again VA.out VU.out pu wm.out HX.out] at h
    exact h
  have HC : Hid (¬ 0 < cmpT a1 a2 b1 b2 → cmpT x1 x2 y1 y2 ≤ 0) := Lib.hid fun h => cmpT_le (round_mono VA.out VB.out VU.out pu wm.out HX.out HY.out (cmpT_gt VA.out VB.out (by omega)))
  clear Q1 Q2 Q3 VA VB VU HX HY wm
  obtain ⟨uZ0, uZ1, _, _⟩ := hZ5.out
  obtain ⟨uU0, uU1, _, _⟩ := hU5.out
  have zZ : w4.heap.size < w5.heap.size := World.block_lt_of_cell? _ _ uZ0
  have zU : w3.heap.size + 1 + 1 < w5.heap.size := World.block_lt_of_cell? _ _ uU0
  go_wp2_with fail
  refine (Q3'.out _).mono ?_
  rintro e6 w6 ⟨rfl, hw6⟩
  have hX6 : Below w.heap.size w w6 := (hX5.alloc hX5.size _).trans (hw6.mono (by have := hX5.size; simp; omega))
  have hA6 := Lib.hid ((hA5.out.alloc (.cells #[.int .i64 y1, .int .i64 y2] 35)).below hw6)
  have hB6 := Lib.hid ((hB5.out.alloc (.cells #[.int .i64 y1, .int .i64 y2] 35)).below hw6)
  have hZ6 := Lib.hid ((hZ5.out.alloc (.cells #[.int .i64 y1, .int .i64 y2] 35)).below hw6)
  have hY6 := Lib.hid ((Tp.Res.new w5 y1 y2 35).below hw6)
  clear hw6 hA5 hB5 hU5 hZ5 uZ0 uZ1 uU0 uU1 zZ zU hX5
  obtain ⟨uA0, uA1, _, _⟩ := hA6.out
  obtain ⟨uB0, uB1, _, _⟩ := hB6.out
  have zA : w3.heap.size < w6.heap.size := World.block_lt_of_cell? _ _ uA0
  have zB : w3.heap.size + 1 < w6.heap.size := World.block_lt_of_cell? _ _ uB0
  by_cases hc : 0 < cmpT a1 a2 b1 b2
  · have hc1 : decide (0 < cmpT a1 a2 b1 b2) = true := decide_eq_true hc
    clear hc HC
    go_wp2_with fail
    refine (cmp_any a1 a2 b1 b2 (by omega) (by omega) (by omega) (by omega) (by omega) (by omega) (by omega) (by omega) _).mono ?_
    rintro e7 w7 ⟨rfl, hw7⟩
    have hX7 : Below w.heap.size w w7 := (hX6.alloc hX6.size _).trans (hw7.mono (by have := hX6.size; simp; omega))
    have hZ7 := (hZ6.out.alloc (.cells #[.int .i64 x1, .int .i64 x2] 35)).below hw7
    have hG7 := (Tp.Res.new w6 x1 x2 35).below hw7
    obtain ⟨uZ0, uZ1, _, _⟩ := hZ7
    obtain ⟨uG0, uG1, _, _⟩ := hG7
    clear uA0 uA1 uB0 uB1 zA zB hw7
    go_wp2_with (go_at_call 17; refine (sane_any _).mono ?_; rintro e wv ⟨rfl, hwv⟩)
    go_ret
    exact ⟨rfl, hX7.trans (hwv.mono hX7.size)⟩
  · have hc1 : decide (0 < cmpT a1 a2 b1 b2) = false := decide_eq_false hc
    have hc2 : decide (cmpT x1 x2 y1 y2 ≤ 0) = true := decide_eq_true (HC.out (by omega))
    clear hc HC
    go_wp2_with fail
    refine (cmp_any a1 a2 b1 b2 (by omega) (by omega) (by omega) (by omega) (by omega) (by omega) (by omega) (by omega) _).mono ?_
    rintro e7 w7 ⟨rfl, hw7⟩
    have hX7 : Below w.heap.size w w7 := (hX6.alloc hX6.size _).trans (hw7.mono (by have := hX6.size; simp; omega))
    have hZ7 := Lib.hid ((hZ6.out.alloc (.cells #[.int .i64 x1, .int .i64 x2] 35)).below hw7)
    have hY7 := Lib.hid ((hY6.out.alloc (.cells #[.int .i64 x1, .int .i64 x2] 35)).below hw7)
    have hG7 := Lib.hid ((Tp.Res.new w6 x1 x2 35).below hw7)
    obtain ⟨uZ0, uZ1, _, _⟩ := hZ7.out
    obtain ⟨uY0, uY1, _, _⟩ := hY7.out
    clear uA0 uA1 uB0 uB1 zA zB hw7
    go_wp2_with fail
    refine (cmp_any x1 x2 y1 y2 (by omega) (by omega) (by omega) (by omega) (by omega) (by omega) (by omega) (by omega) _).mono ?_
    rintro e8 w8 ⟨rfl, hw8⟩
    have hX8 : Below w.heap.size w w8 := hX7.trans (hw8.mono hX7.size)
    obtain ⟨vZ0, vZ1, _, _⟩ := hZ7.out.below hw8
    obtain ⟨vG0, vG1, _, _⟩ := hG7.out.below hw8
    clear uZ0 uZ1 uY0 uY1 hw8
    go_wp2_with (go_at_call 17; refine (sane_any _).mono ?_; rintro e wv ⟨rfl, hwv⟩)
    go_ret
    exact ⟨rfl, hX8.trans (hwv.mono hX8.size)⟩
end Go.Proofs.Ytnkpbkebbfelfaa

/-
  RoundingNearest: the walk: a made fraction that is rounded is a multiple of the unit, less than one unit away, on the side that the mode says; the answer is true.
-/
import Derived.Test.YtnkpbkebbfelfaaPrLawMono
import Derived.Test.YtnkpbkebbfelfaaPrNear2
namespace Go.Proofs.Ytnkpbkebbfelfaa
open Go Go.RowKit Go.Lib Go.Proofs.Ytnkpbkebbfelfaa.Tp
set_option linter.unusedVariables false

theorem divT_bd (a b c d : Int) : (-1000000000000 ≤ (divT a b c d).1 ∧ (divT a b c d).1 ≤ 1000000000000) ∧ (0 ≤ (divT a b c d).2.1 ∧ (divT a b c d).2.1 ≤ 1000000) := by
  unfold divT
  split
  · exact newT_bd _ _
  · simp
theorem tmod2_eq (i : Int) : (i.tmod 2 == 0) = (i % 2 == 0) := by
  have h := tmod2_ne i
  unfold bne at h
  exact Bool.not_inj h

set_option maxRecDepth 100000 in
set_option maxHeartbeats 40000000 in
theorem near_walk (p : Option Addr) (len cap : Nat) (zs : List Int) (m : Int) (hm0 : -9223372036854775808 ≤ m) (hm1 : m ≤ 9223372036854775807)
    (w : World) (hr : IsRow w p len cap zs) (hl : len ≤ 9223372036854775807) :
    Calls Try.prog 7 #[.slice p len cap, .int .i64 m] w fun e w' => e = .returned (.bool true) ∧ Below w.heap.size w w' := by
  have K0 : Kept w w.heap.size (w.alloc (.cells #[.slice p len cap, .int .i64 0] 53)) := ⟨tape_new hr hl _, boxed1 _ _, Nat.le_refl _⟩
  have HK := Lib.hid K0
  clear hr K0
  go_enter Try.func7, Try.ntmps7
  go_wp2_with (go_at_call 11; refine (gnew_any _ _ _ _).mono ?_; rintro e w' ⟨rfl, rfl⟩)
  refine (ratio_any w.heap.size _ HK.out.tape).mono ?_
  rintro e w1 ⟨a1, a2, rfl, va, T1, O1⟩
  have I1 := Lib.hid (HK.out.only T1 O1)
  have VA := Lib.hid va
  clear HK T1 O1 va
  go_wp2_with fail
  refine (step_any w.heap.size _ I1.out.tape).mono ?_
  rintro e w2 ⟨sp, sq, hp, hq, rfl, T3, O3⟩
  have hX2 : Below w.heap.size w w2 := (I1.out.only T3 O3).below
  obtain ⟨vu, pu, eu⟩ := step_val hp hq
  obtain ⟨u1, hu1⟩ : ∃ u1, (newT sp sq).1 = u1 := ⟨_, rfl⟩
  obtain ⟨u2, hu2⟩ : ∃ u2, (newT sp sq).2.1 = u2 := ⟨_, rfl⟩
  rw [hu1] at vu pu
  rw [hu2] at vu
  rw [hu1, hu2]
  have VU := Lib.hid vu
  clear I1 T3 O3 vu eu hp hq hu1 hu2
  have bA := vld_bd VA.out
  have bU := vld_bd VU.out
  have tm0 := modT_lo m 7 (by omega)
  have tm1 := modT_hi m 7 (by omega)
  obtain ⟨k, hk⟩ : ∃ k, k = modT m 7 := ⟨_, rfl⟩
  rw [← hk] at tm0 tm1
  have hM := fun w => mod_any m 7 hm0 hm1 (by omega) (by omega) w
  rw [← hk] at hM
  have HM := Lib.hid hM
  have wm : Hid (witB k 0 6 = true) := Lib.hid (wit_yes tm0 (by omega))
  clear hk hM
  obtain ⟨x1, x2, x3, hx⟩ : ∃ x y z, roundT a1 a2 u1 u2 k = (x, y, z) := ⟨_, _, _, rfl⟩
  have ex := round_err VA.out VU.out pu wm.out
  obtain ⟨c1, c2⟩ := bd_of hx (roundT_bd a1 a2 u1 u2 k)
  rw [hx] at ex
  obtain ⟨q1, q2, q3, hq⟩ : ∃ x y z, divT x1 x2 u1 u2 = (x, y, z) := ⟨_, _, _, rfl⟩
  obtain ⟨c3, c4⟩ := bd_of hq (divT_bd x1 x2 u1 u2)
  obtain ⟨d1, d2, d3, hd⟩ : ∃ x y z, subT x1 x2 a1 a2 = (x, y, z) := ⟨_, _, _, rfl⟩
  obtain ⟨c5, c6⟩ := bd_of hd (subT_bd x1 x2 a1 a2)
  have p1 := fun w => round_any a1 a2 u1 u2 k (by omega) (by omega) (by omega) (by omega) (by omega) (by omega) (by omega) (by omega) (by omega) (by omega) w
  have p2 := fun w => rdiv_any x1 x2 u1 u2 (by omega) (by omega) (by omega) (by omega) (by omega) (by omega) (by omega) (by omega) w
  have p3 := fun w => sub_any x1 x2 a1 a2 (by omega) (by omega) (by omega) (by omega) (by omega) (by omega) (by omega) (by omega) w
  simp only [hx] at p1
  simp only [hq] at p2
  simp only [hd] at p3
  have Q1 := Lib.hid p1
  have Q2 := Lib.hid p2
  have Q3 := Lib.hid p3
  have HX := Lib.hid hx
  have HQ := Lib.hid hq
  have HD := Lib.hid hd
  clear p1 p2 p3 hx hq hd
  have A0 : Tp.Res ((w2.alloc (.cells #[.int .i64 a1, .int .i64 a2] 35)).alloc (.cells #[.int .i64 u1, .int .i64 u2] 35)) w2.heap.size a1 a2 := ⟨by go_simp, by go_simp, by go_simp, by go_simp⟩
  have U0 : Tp.Res ((w2.alloc (.cells #[.int .i64 a1, .int .i64 a2] 35)).alloc (.cells #[.int .i64 u1, .int .i64 u2] 35)) (w2.heap.size + 1) u1 u2 := ⟨by go_simp, by go_simp, by go_simp, by go_simp⟩
  have hA2 := Lib.hid A0
  have hU2 := Lib.hid U0
  clear A0 U0
  go_wp2_with (go_at_call 12; refine (HM.out _).mono ?_; rintro e w' ⟨rfl, rfl⟩)
  refine (Q1.out _).mono ?_
  rintro e3 w3 ⟨rfl, hw3⟩
  have hX3 : Below w.heap.size w w3 := ((hX2.alloc hX2.size _).alloc (by have := hX2.size; simp; omega) _).trans (hw3.mono (by have := hX2.size; simp; omega))
  have hA3 := Lib.hid (hA2.out.below hw3)
  have hU3 := Lib.hid (hU2.out.below hw3)
  clear hw3 hA2 hU2 hX2
  rcases ex with ex | ex
  case inr =>
    subst ex
    go_wp2_with (go_at_call 17; refine (sane_any _).mono ?_; rintro e wv ⟨rfl, hwv⟩)
    go_ret
    exact ⟨rfl, (hX3.alloc hX3.size _).trans (hwv.mono (by have := hX3.size; simp; omega))⟩
  subst ex
  obtain ⟨uU0, uU1, _, _⟩ := hU3.out
  have zU : w2.heap.size + 1 < w3.heap.size := World.block_lt_of_cell? _ _ uU0
  go_wp2_with fail
  refine (Q2.out _).mono ?_
  rintro e4 w4 ⟨rfl, hw4⟩
  have hX4 : Below w.heap.size w w4 := (hX3.alloc hX3.size _).trans (hw4.mono (by have := hX3.size; simp; omega))
  have hA4 := Lib.hid ((hA3.out.alloc (.cells #[.int .i64 x1, .int .i64 x2] 35)).below hw4)
  have hU4 := Lib.hid ((hU3.out.alloc (.cells #[.int .i64 x1, .int .i64 x2] 35)).below hw4)
  have hZ4 := Lib.hid ((Tp.Res.new w3 x1 x2 35).below hw4)
  clear hw4 hA3 hU3 uU0 uU1 zU hX3
  obtain ⟨uA0, uA1, _, _⟩ := hA4.out
  obtain ⟨uZ0, uZ1, _, _⟩ := hZ4.out
  have zA : w2.heap.size < w4.heap.size := World.block_lt_of_cell? _ _ uA0
  have zZ : w3.heap.size < w4.heap.size := World.block_lt_of_cell? _ _ uZ0
  go_wp2_with fail
  refine (Q3.out _).mono ?_
  rintro e5 w5 ⟨rfl, hw5⟩
  have hX5 : Below w.heap.size w w5 := (hX4.alloc hX4.size _).trans (hw5.mono (by have := hX4.size; simp; omega))
  have hA5 := Lib.hid ((hA4.out.alloc (.cells #[.int .i64 q1, .int .i64 q2] 35)).below hw5)
  have hU5 := Lib.hid ((hU4.out.alloc (.cells #[.int .i64 q1, .int .i64 q2] 35)).below hw5)
  have hQ5 := Lib.hid ((Tp.Res.new w4 q1 q2 35).below hw5)
  clear hw5 hA4 hU4 hZ4 uA0 uA1 uZ0 uZ1 zA zZ hX4
  by_cases k3 : q3 = 0
  case neg =>
    have k3' : (q3 != 0) = true := by simp [k3]
    clear k3
    go_wp2_with (go_at_call 17; refine (sane_any _).mono ?_; rintro e wv ⟨rfl, hwv⟩)
    go_ret
    exact ⟨rfl, (hX5.alloc hX5.size _).trans (hwv.mono (by have := hX5.size; simp; omega))⟩
  subst k3
  by_cases k4 : d3 = 0
  case neg =>
    have k4' : (d3 != 0) = true := by simp [k4]
    clear k4
    go_wp2_with (go_at_call 17; refine (sane_any _).mono ?_; rintro e wv ⟨rfl, hwv⟩)
    go_ret
    exact ⟨rfl, (hX5.alloc hX5.size _).trans (hwv.mono (by have := hX5.size; simp; omega))⟩
  subst k4
  obtain ⟨s1, hs⟩ : ∃ s1, s1 = if d1 < 0 then -d1 else d1 := ⟨_, rfl⟩
  obtain ⟨f1, vs, f2, f3, f4, f5, f6, f7⟩ := near_all VA.out VU.out pu wm.out HX.out HQ.out HD.out hs
  subst f1
  have bS := vld_bd vs
  obtain ⟨t1, t2, t3, ht⟩ : ∃ x y z, addT s1 d2 s1 d2 = (x, y, z) := ⟨_, _, _, rfl⟩
  obtain ⟨c7, c8⟩ := bd_of ht (addT_bd s1 d2 s1 d2)
  have p4 := fun w => add_any s1 d2 s1 d2 (by omega) (by omega) (by omega) (by omega) (by omega) (by omega) (by omega) (by omega) w
  simp only [ht] at p4
  have Q4 := Lib.hid p4
  have F2 : decide (0 ≤ cmpT s1 d2 u1 u2) = false := decide_eq_false (by omega)
  have F3 := Lib.hid f3
  have F4 := Lib.hid f4
  have F5 := Lib.hid f5
  have F6 := Lib.hid f6
  have F7 := Lib.hid f7
  have HT := Lib.hid ht
  clear p4 f2 f3 f4 f5 f6 f7 ht Q1 Q2 Q3 VA VU HX HQ HD
  rcases Int.lt_or_le d1 0 with hd1 | hd1
  · rw [if_pos hd1] at hs
    have hdd : decide (d1 < 0) = true := decide_eq_true hd1
    obtain ⟨uQ0, uQ1, _, _⟩ := hQ5.out
    obtain ⟨uU0, uU1, _, _⟩ := hU5.out
    have zQ : w4.heap.size < w5.heap.size := World.block_lt_of_cell? _ _ uQ0
    have zU : w2.heap.size + 1 < w5.heap.size := World.block_lt_of_cell? _ _ uU0
    have zU' : w2.heap.size < w5.heap.size := by omega
    have hs' := hs.symm
    have HS := Lib.hid hs
    clear hs
    go_wp2_with fail
    refine (cmp_any s1 d2 u1 u2 (by omega) (by omega) (by omega) (by omega) (by omega) (by omega) (by omega) (by omega) _).mono ?_
    rintro e6 w6 ⟨rfl, hw6⟩
    have hX6 : Below w.heap.size w w6 := ((hX5.alloc hX5.size _).alloc (by have := hX5.size; simp; omega) _).trans (hw6.mono (by have := hX5.size; simp; omega))
    have hA6 := Lib.hid (((hA5.out.alloc (.cells #[.int .i64 d1, .int .i64 d2] 35)).alloc (.cells #[.int .i64 s1, .int .i64 d2] 35)).below hw6)
    have hU6 := Lib.hid (((hU5.out.alloc (.cells #[.int .i64 d1, .int .i64 d2] 35)).alloc (.cells #[.int .i64 s1, .int .i64 d2] 35)).below hw6)
    have hQ6 := Lib.hid (((hQ5.out.alloc (.cells #[.int .i64 d1, .int .i64 d2] 35)).alloc (.cells #[.int .i64 s1, .int .i64 d2] 35)).below hw6)
    have hD6 := Lib.hid (((Tp.Res.new w5 d1 d2 35).alloc (.cells #[.int .i64 s1, .int .i64 d2] 35)).below hw6)
    have hS6 := Lib.hid ((show Tp.Res _ (w5.heap.size + 1) s1 d2 by simpa using Tp.Res.new (w5.alloc (.cells #[.int .i64 d1, .int .i64 d2] 35)) s1 d2 35).below hw6)
    obtain ⟨uS0, uS1, _, _⟩ := hS6.out
    have zS : w5.heap.size + 1 < w6.heap.size := World.block_lt_of_cell? _ _ uS0
    clear hs'
    clear hw6 hA5 hU5 hQ5 uQ0 uQ1 uU0 uU1 zQ zU zU' hX5 hdd
    go_wp2_with fail
    refine (Q4.out _).mono ?_
    rintro e7 w7 ⟨rfl, hw7⟩
    have hX7 : Below w.heap.size w w7 := hX6.trans (hw7.mono hX6.size)
    have hA7 := Lib.hid (hA6.out.below hw7)
    have hU7 := Lib.hid (hU6.out.below hw7)
    have hQ7 := Lib.hid (hQ6.out.below hw7)
    have hD7 := Lib.hid (hD6.out.below hw7)
    obtain ⟨uD0, uD1, _, _⟩ := hD7.out
    obtain ⟨uA0, uA1, _, _⟩ := hA7.out
    have zD : w5.heap.size < w7.heap.size := World.block_lt_of_cell? _ _ uD0
    have zA : w2.heap.size < w7.heap.size := World.block_lt_of_cell? _ _ uA0
    clear hw7 hA6 hU6 hQ6 hD6 hS6 uS0 uS1 zS hX6 Q4 F2
    rcases mode7 tm0 (by omega) with rfl | rfl | rfl | rfl | rfl | rfl | rfl
    · have f := F5.out rfl
      by_cases hz : d1 = 0
      · have hz1 : (d1 == 0) = true := by simp [hz]
        clear hz f
        go_wp2_with (go_at_call 17; refine (sane_any _).mono ?_; rintro e wv ⟨rfl, hwv⟩)
        go_ret
        exact ⟨rfl, (hX7.alloc hX7.size _).trans (hwv.mono (by have := hX7.size; simp; omega))⟩
      · have hz1 : (d1 == 0) = false := by simp [hz]
        have hs1 : (decide (d1 < 0) == decide (0 < a1)) = true := by
          rw [beq_iff_eq, decide_eq_decide]; omega
        by_cases g1 : d1 < 0 <;> by_cases g2 : 0 < a1
        all_goals
          first
          | (exfalso; omega)
          | (have g1' : decide (d1 < 0) = true := decide_eq_true g1
             have g2' : decide (0 < a1) = true := decide_eq_true g2
             clear hz f g1 g2 hs1
             go_wp2_with (go_at_call 17; refine (sane_any _).mono ?_; rintro e wv ⟨rfl, hwv⟩)
             go_ret
             exact ⟨rfl, (hX7.alloc hX7.size _).trans (hwv.mono (by have := hX7.size; simp; omega))⟩)
          | (have g1' : decide (d1 < 0) = false := decide_eq_false g1
             have g2' : decide (0 < a1) = false := decide_eq_false g2
             clear hz f g1 g2 hs1
             go_wp2_with (go_at_call 17; refine (sane_any _).mono ?_; rintro e wv ⟨rfl, hwv⟩)
             go_ret
             exact ⟨rfl, (hX7.alloc hX7.size _).trans (hwv.mono (by have := hX7.size; simp; omega))⟩)
    · have f := F6.out rfl
      by_cases hz : d1 = 0
      · have hz1 : (d1 == 0) = true := by simp [hz]
        clear hz f
        go_wp2_with (go_at_call 17; refine (sane_any _).mono ?_; rintro e wv ⟨rfl, hwv⟩)
        go_ret
        exact ⟨rfl, (hX7.alloc hX7.size _).trans (hwv.mono (by have := hX7.size; simp; omega))⟩
      · have hz1 : (d1 == 0) = false := by simp [hz]
        by_cases g1 : 0 < d1 <;> by_cases g2 : 0 < a1
        all_goals
          first
          | (exfalso; omega)
          | (have g1' : decide (0 < d1) = true := decide_eq_true g1
             have g2' : decide (0 < a1) = true := decide_eq_true g2
             clear hz f g1 g2
             go_wp2_with (go_at_call 17; refine (sane_any _).mono ?_; rintro e wv ⟨rfl, hwv⟩)
             go_ret
             exact ⟨rfl, (hX7.alloc hX7.size _).trans (hwv.mono (by have := hX7.size; simp; omega))⟩)
          | (have g1' : decide (0 < d1) = false := decide_eq_false g1
             have g2' : decide (0 < a1) = false := decide_eq_false g2
             clear hz f g1 g2
             go_wp2_with (go_at_call 17; refine (sane_any _).mono ?_; rintro e wv ⟨rfl, hwv⟩)
             go_ret
             exact ⟨rfl, (hX7.alloc hX7.size _).trans (hwv.mono (by have := hX7.size; simp; omega))⟩)
    · have f : decide (d1 ≤ 0) = true := decide_eq_true (F3.out rfl)
      go_wp2_with (go_at_call 17; refine (sane_any _).mono ?_; rintro e wv ⟨rfl, hwv⟩)
      go_ret
      exact ⟨rfl, (hX7.alloc hX7.size _).trans (hwv.mono (by have := hX7.size; simp; omega))⟩
    · have f : decide (0 ≤ d1) = true := decide_eq_true (F4.out rfl)
      go_wp2_with (go_at_call 17; refine (sane_any _).mono ?_; rintro e wv ⟨rfl, hwv⟩)
      go_ret
      exact ⟨rfl, (hX7.alloc hX7.size _).trans (hwv.mono (by have := hX7.size; simp; omega))⟩
    all_goals
      by_cases k5 : t3 = 0
      case neg =>
        have k5' : (t3 != 0) = true := by simp [k5]
        clear k5
        go_wp2_with (go_at_call 17; refine (sane_any _).mono ?_; rintro e wv ⟨rfl, hwv⟩)
        go_ret
        exact ⟨rfl, (hX7.alloc hX7.size _).trans (hwv.mono (by have := hX7.size; simp; omega))⟩
      subst k5
      obtain ⟨j1, j2⟩ := F7.out t1 t2 HT.out (by omega)
      have J1 : decide (cmpT t1 t2 u1 u2 ≤ 0) = true := decide_eq_true j1
      have J2 := Lib.hid j2
      obtain ⟨uU0, uU1, _, _⟩ := hU7.out
      have zU : w2.heap.size + 1 < w7.heap.size := World.block_lt_of_cell? _ _ uU0
      clear uD0 uD1 uA0 uA1 zD zA j2
      go_wp2_with fail
      refine (cmp_any t1 t2 u1 u2 (by omega) (by omega) (by omega) (by omega) (by omega) (by omega) (by omega) (by omega) _).mono ?_
      rintro e8 w8 ⟨rfl, hw8⟩
      have hX8 : Below w.heap.size w w8 := (hX7.alloc hX7.size _).trans (hw8.mono (by have := hX7.size; simp; omega))
      obtain ⟨uA0, uA1, _, _⟩ := (hA7.out.alloc (.cells #[.int .i64 t1, .int .i64 t2] 35)).below hw8
      obtain ⟨uQ0, uQ1, _, _⟩ := (hQ7.out.alloc (.cells #[.int .i64 t1, .int .i64 t2] 35)).below hw8
      obtain ⟨uD0, uD1, _, _⟩ := (hD7.out.alloc (.cells #[.int .i64 t1, .int .i64 t2] 35)).below hw8
      have r1 := tmod2_eq q1
      clear hw8 uU0 uU1 zU
    · skip
      by_cases k6 : cmpT t1 t2 u1 u2 < 0
      · have J3 : decide (cmpT t1 t2 u1 u2 < 0) = true := decide_eq_true k6
        by_cases g1 : 0 < d1 <;> by_cases g2 : 0 < a1
        all_goals
          first
          | (exfalso; omega)
          | skip
        all_goals
          first | have g1' : decide (0 < d1) = true := decide_eq_true g1 | have g1' : decide (0 < d1) = false := decide_eq_false g1
          first | have g2' : decide (0 < a1) = true := decide_eq_true g2 | have g2' : decide (0 < a1) = false := decide_eq_false g2
          clear k6 g1 g2 r1 j1
          go_wp2_with (go_at_call 17; refine (sane_any _).mono ?_; rintro e wv ⟨rfl, hwv⟩)
          go_ret
          exact ⟨rfl, hX8.trans (hwv.mono hX8.size)⟩
      · have hz : cmpT t1 t2 u1 u2 = 0 := by omega
        have J3 : decide (cmpT t1 t2 u1 u2 < 0) = false := decide_eq_false k6
        obtain ⟨i4, i5, i6⟩ := J2.out hz
        replace i4 := i4 trivial
        by_cases g1 : 0 < d1 <;> by_cases g2 : 0 < a1
        all_goals
          first
          | (exfalso; omega)
          | skip
        all_goals
          first | have g1' : decide (0 < d1) = true := decide_eq_true g1 | have g1' : decide (0 < d1) = false := decide_eq_false g1
          first | have g2' : decide (0 < a1) = true := decide_eq_true g2 | have g2' : decide (0 < a1) = false := decide_eq_false g2
          clear k6 g1 g2 r1 j1 i4 i5 i6 hz
          go_wp2_with (go_at_call 17; refine (sane_any _).mono ?_; rintro e wv ⟨rfl, hwv⟩)
          go_ret
          exact ⟨rfl, hX8.trans (hwv.mono hX8.size)⟩
    · skip
      by_cases k6 : cmpT t1 t2 u1 u2 < 0
      · have J3 : decide (cmpT t1 t2 u1 u2 < 0) = true := decide_eq_true k6
        by_cases g0 : d1 < 0 <;> by_cases g2 : 0 < a1
        all_goals
          first
          | (exfalso; omega)
          | skip
        all_goals
          first | have g0' : decide (d1 < 0) = true := decide_eq_true g0 | have g0' : decide (d1 < 0) = false := decide_eq_false g0
          first | have g2' : decide (0 < a1) = true := decide_eq_true g2 | have g2' : decide (0 < a1) = false := decide_eq_false g2
          clear k6 g0 g2 r1 j1
          go_wp2_with (go_at_call 17; refine (sane_any _).mono ?_; rintro e wv ⟨rfl, hwv⟩)
          go_ret
          exact ⟨rfl, hX8.trans (hwv.mono hX8.size)⟩
      · have hz : cmpT t1 t2 u1 u2 = 0 := by omega
        have J3 : decide (cmpT t1 t2 u1 u2 < 0) = false := decide_eq_false k6
        obtain ⟨i4, i5, i6⟩ := J2.out hz
        replace i5 := i5 trivial
        by_cases g0 : d1 < 0 <;> by_cases g2 : 0 < a1
        all_goals
          first
          | (exfalso; omega)
          | skip
        all_goals
          first | have g0' : decide (d1 < 0) = true := decide_eq_true g0 | have g0' : decide (d1 < 0) = false := decide_eq_false g0
          first | have g2' : decide (0 < a1) = true := decide_eq_true g2 | have g2' : decide (0 < a1) = false := decide_eq_false g2
          clear k6 g0 g2 r1 j1 i4 i5 i6 hz
          go_wp2_with (go_at_call 17; refine (sane_any _).mono ?_; rintro e wv ⟨rfl, hwv⟩)
          go_ret
          exact ⟨rfl, hX8.trans (hwv.mono hX8.size)⟩
    · skip
      by_cases k6 : cmpT t1 t2 u1 u2 < 0
      · have J3 : decide (cmpT t1 t2 u1 u2 < 0) = true := decide_eq_true k6
        by_cases g3 : q1 % 2 = 0
        all_goals
          first
          | (exfalso; omega)
          | skip
        all_goals
          first | have g3' : (q1.tmod 2 == 0) = true := by rw [r1]; simp [g3] | have g3' : (q1.tmod 2 == 0) = false := by rw [r1]; simp [g3]
          clear k6 g3 r1 j1
          go_wp2_with (go_at_call 17; refine (sane_any _).mono ?_; rintro e wv ⟨rfl, hwv⟩)
          go_ret
          exact ⟨rfl, hX8.trans (hwv.mono hX8.size)⟩
      · have hz : cmpT t1 t2 u1 u2 = 0 := by omega
        have J3 : decide (cmpT t1 t2 u1 u2 < 0) = false := decide_eq_false k6
        obtain ⟨i4, i5, i6⟩ := J2.out hz
        replace i6 := i6 trivial
        by_cases g3 : q1 % 2 = 0
        all_goals
          first
          | (exfalso; omega)
          | skip
        all_goals
          first | have g3' : (q1.tmod 2 == 0) = true := by rw [r1]; simp [g3] | have g3' : (q1.tmod 2 == 0) = false := by rw [r1]; simp [g3]
          clear k6 g3 r1 j1 i4 i5 i6 hz
          go_wp2_with (go_at_call 17; refine (sane_any _).mono ?_; rintro e wv ⟨rfl, hwv⟩)
          go_ret
          exact ⟨rfl, hX8.trans (hwv.mono hX8.size)⟩
  · rw [if_neg (by omega)] at hs
    have hdd : decide (d1 < 0) = false := decide_eq_false (by omega)
    have hs2 := hs.symm
    clear hs
    subst hs2
    obtain ⟨uQ0, uQ1, _, _⟩ := hQ5.out
    obtain ⟨uU0, uU1, _, _⟩ := hU5.out
    have zQ : w4.heap.size < w5.heap.size := World.block_lt_of_cell? _ _ uQ0
    have zU : w2.heap.size + 1 < w5.heap.size := World.block_lt_of_cell? _ _ uU0
    have zU' : w2.heap.size < w5.heap.size := by omega
    go_wp2_with fail
    refine (cmp_any d1 d2 u1 u2 (by omega) (by omega) (by omega) (by omega) (by omega) (by omega) (by omega) (by omega) _).mono ?_
    rintro e6 w6 ⟨rfl, hw6⟩
    have hX6 : Below w.heap.size w w6 := ((hX5.alloc hX5.size _).alloc (by have := hX5.size; simp; omega) _).trans (hw6.mono (by have := hX5.size; simp; omega))
    have hA6 := Lib.hid (((hA5.out.alloc (.cells #[.int .i64 d1, .int .i64 d2] 35)).alloc (.cells #[.int .i64 d1, .int .i64 d2] 35)).below hw6)
    have hU6 := Lib.hid (((hU5.out.alloc (.cells #[.int .i64 d1, .int .i64 d2] 35)).alloc (.cells #[.int .i64 d1, .int .i64 d2] 35)).below hw6)
    have hQ6 := Lib.hid (((hQ5.out.alloc (.cells #[.int .i64 d1, .int .i64 d2] 35)).alloc (.cells #[.int .i64 d1, .int .i64 d2] 35)).below hw6)
    have hD6 := Lib.hid (((Tp.Res.new w5 d1 d2 35).alloc (.cells #[.int .i64 d1, .int .i64 d2] 35)).below hw6)
    have hS6 := Lib.hid ((show Tp.Res _ (w5.heap.size + 1) d1 d2 by simpa using Tp.Res.new (w5.alloc (.cells #[.int .i64 d1, .int .i64 d2] 35)) d1 d2 35).below hw6)
    obtain ⟨uS0, uS1, _, _⟩ := hS6.out
    have zS : w5.heap.size + 1 < w6.heap.size := World.block_lt_of_cell? _ _ uS0
    clear hw6 hA5 hU5 hQ5 uQ0 uQ1 uU0 uU1 zQ zU zU' hX5 hdd
    go_wp2_with fail
    refine (Q4.out _).mono ?_
    rintro e7 w7 ⟨rfl, hw7⟩
    have hX7 : Below w.heap.size w w7 := hX6.trans (hw7.mono hX6.size)
    have hA7 := Lib.hid (hA6.out.below hw7)
    have hU7 := Lib.hid (hU6.out.below hw7)
    have hQ7 := Lib.hid (hQ6.out.below hw7)
    have hD7 := Lib.hid (hD6.out.below hw7)
    obtain ⟨uD0, uD1, _, _⟩ := hD7.out
    obtain ⟨uA0, uA1, _, _⟩ := hA7.out
    have zD : w5.heap.size < w7.heap.size := World.block_lt_of_cell? _ _ uD0
    have zA : w2.heap.size < w7.heap.size := World.block_lt_of_cell? _ _ uA0
    clear hw7 hA6 hU6 hQ6 hD6 hS6 uS0 uS1 zS hX6 Q4 F2
    rcases mode7 tm0 (by omega) with rfl | rfl | rfl | rfl | rfl | rfl | rfl
    · have f := F5.out rfl
      by_cases hz : d1 = 0
      · have hz1 : (d1 == 0) = true := by simp [hz]
        clear hz f
        go_wp2_with (go_at_call 17; refine (sane_any _).mono ?_; rintro e wv ⟨rfl, hwv⟩)
        go_ret
        exact ⟨rfl, (hX7.alloc hX7.size _).trans (hwv.mono (by have := hX7.size; simp; omega))⟩
      · have hz1 : (d1 == 0) = false := by simp [hz]
        have hs1 : (decide (d1 < 0) == decide (0 < a1)) = true := by
          rw [beq_iff_eq, decide_eq_decide]; omega
        by_cases g1 : d1 < 0 <;> by_cases g2 : 0 < a1
        all_goals
          first
          | (exfalso; omega)
          | (have g1' : decide (d1 < 0) = true := decide_eq_true g1
             have g2' : decide (0 < a1) = true := decide_eq_true g2
             clear hz f g1 g2 hs1
             go_wp2_with (go_at_call 17; refine (sane_any _).mono ?_; rintro e wv ⟨rfl, hwv⟩)
             go_ret
             exact ⟨rfl, (hX7.alloc hX7.size _).trans (hwv.mono (by have := hX7.size; simp; omega))⟩)
          | (have g1' : decide (d1 < 0) = false := decide_eq_false g1
             have g2' : decide (0 < a1) = false := decide_eq_false g2
             clear hz f g1 g2 hs1
             go_wp2_with (go_at_call 17; refine (sane_any _).mono ?_; rintro e wv ⟨rfl, hwv⟩)
             go_ret
             exact ⟨rfl, (hX7.alloc hX7.size _).trans (hwv.mono (by have := hX7.size; simp; omega))⟩)
    · have f := F6.out rfl
      by_cases hz : d1 = 0
      · have hz1 : (d1 == 0) = true := by simp [hz]
        clear hz f
        go_wp2_with (go_at_call 17; refine (sane_any _).mono ?_; rintro e wv ⟨rfl, hwv⟩)
        go_ret
        exact ⟨rfl, (hX7.alloc hX7.size _).trans (hwv.mono (by have := hX7.size; simp; omega))⟩
      · have hz1 : (d1 == 0) = false := by simp [hz]
        by_cases g1 : 0 < d1 <;> by_cases g2 : 0 < a1
        all_goals
          first
          | (exfalso; omega)
          | (have g1' : decide (0 < d1) = true := decide_eq_true g1
             have g2' : decide (0 < a1) = true := decide_eq_true g2
             clear hz f g1 g2
             go_wp2_with (go_at_call 17; refine (sane_any _).mono ?_; rintro e wv ⟨rfl, hwv⟩)
             go_ret
             exact ⟨rfl, (hX7.alloc hX7.size _).trans (hwv.mono (by have := hX7.size; simp; omega))⟩)
          | (have g1' : decide (0 < d1) = false := decide_eq_false g1
             have g2' : decide (0 < a1) = false := decide_eq_false g2
             clear hz f g1 g2
             go_wp2_with (go_at_call 17; refine (sane_any _).mono ?_; rintro e wv ⟨rfl, hwv⟩)
             go_ret
             exact ⟨rfl, (hX7.alloc hX7.size _).trans (hwv.mono (by have := hX7.size; simp; omega))⟩)
    · have f : decide (d1 ≤ 0) = true := decide_eq_true (F3.out rfl)
      go_wp2_with (go_at_call 17; refine (sane_any _).mono ?_; rintro e wv ⟨rfl, hwv⟩)
      go_ret
      exact ⟨rfl, (hX7.alloc hX7.size _).trans (hwv.mono (by have := hX7.size; simp; omega))⟩
    · have f : decide (0 ≤ d1) = true := decide_eq_true (F4.out rfl)
      go_wp2_with (go_at_call 17; refine (sane_any _).mono ?_; rintro e wv ⟨rfl, hwv⟩)
      go_ret
      exact ⟨rfl, (hX7.alloc hX7.size _).trans (hwv.mono (by have := hX7.size; simp; omega))⟩
    all_goals
      by_cases k5 : t3 = 0
      case neg =>
        have k5' : (t3 != 0) = true := by simp [k5]
        clear k5
        go_wp2_with (go_at_call 17; refine (sane_any _).mono ?_; rintro e wv ⟨rfl, hwv⟩)
        go_ret
        exact ⟨rfl, (hX7.alloc hX7.size _).trans (hwv.mono (by have := hX7.size; simp; omega))⟩
      subst k5
      obtain ⟨j1, j2⟩ := F7.out t1 t2 HT.out (by omega)
      have J1 : decide (cmpT t1 t2 u1 u2 ≤ 0) = true := decide_eq_true j1
      have J2 := Lib.hid j2
      obtain ⟨uU0, uU1, _, _⟩ := hU7.out
      have zU : w2.heap.size + 1 < w7.heap.size := World.block_lt_of_cell? _ _ uU0
      clear uD0 uD1 uA0 uA1 zD zA j2
      go_wp2_with fail
      refine (cmp_any t1 t2 u1 u2 (by omega) (by omega) (by omega) (by omega) (by omega) (by omega) (by omega) (by omega) _).mono ?_
      rintro e8 w8 ⟨rfl, hw8⟩
      have hX8 : Below w.heap.size w w8 := (hX7.alloc hX7.size _).trans (hw8.mono (by have := hX7.size; simp; omega))
      obtain ⟨uA0, uA1, _, _⟩ := (hA7.out.alloc (.cells #[.int .i64 t1, .int .i64 t2] 35)).below hw8
      obtain ⟨uQ0, uQ1, _, _⟩ := (hQ7.out.alloc (.cells #[.int .i64 t1, .int .i64 t2] 35)).below hw8
      obtain ⟨uD0, uD1, _, _⟩ := (hD7.out.alloc (.cells #[.int .i64 t1, .int .i64 t2] 35)).below hw8
      have r1 := tmod2_eq q1
      clear hw8 uU0 uU1 zU
    · skip
      by_cases k6 : cmpT t1 t2 u1 u2 < 0
      · have J3 : decide (cmpT t1 t2 u1 u2 < 0) = true := decide_eq_true k6
        by_cases g1 : 0 < d1 <;> by_cases g2 : 0 < a1
        all_goals
          first
          | (exfalso; omega)
          | skip
        all_goals
          first | have g1' : decide (0 < d1) = true := decide_eq_true g1 | have g1' : decide (0 < d1) = false := decide_eq_false g1
          first | have g2' : decide (0 < a1) = true := decide_eq_true g2 | have g2' : decide (0 < a1) = false := decide_eq_false g2
          clear k6 g1 g2 r1 j1
          go_wp2_with (go_at_call 17; refine (sane_any _).mono ?_; rintro e wv ⟨rfl, hwv⟩)
          go_ret
          exact ⟨rfl, hX8.trans (hwv.mono hX8.size)⟩
      · have hz : cmpT t1 t2 u1 u2 = 0 := by omega
        have J3 : decide (cmpT t1 t2 u1 u2 < 0) = false := decide_eq_false k6
        obtain ⟨i4, i5, i6⟩ := J2.out hz
        replace i4 := i4 trivial
        by_cases g1 : 0 < d1 <;> by_cases g2 : 0 < a1
        all_goals
          first
          | (exfalso; omega)
          | skip
        all_goals
          first | have g1' : decide (0 < d1) = true := decide_eq_true g1 | have g1' : decide (0 < d1) = false := decide_eq_false g1
          first | have g2' : decide (0 < a1) = true := decide_eq_true g2 | have g2' : decide (0 < a1) = false := decide_eq_false g2
          clear k6 g1 g2 r1 j1 i4 i5 i6 hz
          go_wp2_with (go_at_call 17; refine (sane_any _).mono ?_; rintro e wv ⟨rfl, hwv⟩)
          go_ret
          exact ⟨rfl, hX8.trans (hwv.mono hX8.size)⟩
    · skip
      by_cases k6 : cmpT t1 t2 u1 u2 < 0
      · have J3 : decide (cmpT t1 t2 u1 u2 < 0) = true := decide_eq_true k6
        by_cases g0 : d1 < 0 <;> by_cases g2 : 0 < a1
        all_goals
          first
          | (exfalso; omega)
          | skip
        all_goals
          first | have g0' : decide (d1 < 0) = true := decide_eq_true g0 | have g0' : decide (d1 < 0) = false := decide_eq_false g0
          first | have g2' : decide (0 < a1) = true := decide_eq_true g2 | have g2' : decide (0 < a1) = false := decide_eq_false g2
          clear k6 g0 g2 r1 j1
          go_wp2_with (go_at_call 17; refine (sane_any _).mono ?_; rintro e wv ⟨rfl, hwv⟩)
          go_ret
          exact ⟨rfl, hX8.trans (hwv.mono hX8.size)⟩
      · have hz : cmpT t1 t2 u1 u2 = 0 := by omega
        have J3 : decide (cmpT t1 t2 u1 u2 < 0) = false := decide_eq_false k6
        obtain ⟨i4, i5, i6⟩ := J2.out hz
        replace i5 := i5 trivial
        by_cases g0 : d1 < 0 <;> by_cases g2 : 0 < a1
        all_goals
          first
          | (exfalso; omega)
          | skip
        all_goals
          first | have g0' : decide (d1 < 0) = true := decide_eq_true g0 | have g0' : decide (d1 < 0) = false := decide_eq_false g0
          first | have g2' : decide (0 < a1) = true := decide_eq_true g2 | have g2' : decide (0 < a1) = false := decide_eq_false g2
          clear k6 g0 g2 r1 j1 i4 i5 i6 hz
          go_wp2_with (go_at_call 17; refine (sane_any _).mono ?_; rintro e wv ⟨rfl, hwv⟩)
          go_ret
          exact ⟨rfl, hX8.trans (hwv.mono hX8.size)⟩
    · skip
      by_cases k6 : cmpT t1 t2 u1 u2 < 0
      · have J3 : decide (cmpT t1 t2 u1 u2 < 0) = true := decide_eq_true k6
        by_cases g3 : q1 % 2 = 0
        all_goals
          first
          | (exfalso; omega)
          | skip
        all_goals
          first | have g3' : (q1.tmod 2 == 0) = true := by rw [r1]; simp [g3] | have g3' : (q1.tmod 2 == 0) = false := by rw [r1]; simp [g3]
          clear k6 g3 r1 j1
          go_wp2_with (go_at_call 17; refine (sane_any _).mono ?_; rintro e wv ⟨rfl, hwv⟩)
          go_ret
          exact ⟨rfl, hX8.trans (hwv.mono hX8.size)⟩
      · have hz : cmpT t1 t2 u1 u2 = 0 := by omega
        have J3 : decide (cmpT t1 t2 u1 u2 < 0) = false := decide_eq_false k6
        obtain ⟨i4, i5, i6⟩ := J2.out hz
        replace i6 := i6 trivial
        by_cases g3 : q1 % 2 = 0
        all_goals
          first
          | (exfalso; omega)
          | skip
        all_goals
          first | have g3' : (q1.tmod 2 == 0) = true := by rw [r1]; simp [g3] | have g3' : (q1.tmod 2 == 0) = false := by rw [r1]; simp [g3]
          clear k6 g3 r1 j1 i4 i5 i6 hz
          go_wp2_with (go_at_call 17; refine (sane_any _).mono ?_; rintro e wv ⟨rfl, hwv⟩)
          go_ret
          exact ⟨rfl, hX8.trans (hwv.mono hX8.size)⟩
end Go.Proofs.Ytnkpbkebbfelfaa

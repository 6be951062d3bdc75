/-
  Layer 1 (ratio): contracts of Neg, Compare and Floor, and of the reference's. Conditions: the parts of the fractions fit their kinds.
-/
import Derived.Test.YtjhnapbaaifmnaaDoorPrAr
import Derived.Test.YtjhnapbaaifmnaaDoorShelf
namespace Go.Proofs.YtjhnapbaaifmnaaDoor
open Go Go.RowKit Go.Lib

theorem div_unique {a b q r : Int} (hb : 0 < b) (h : r + b * q = a) (h0 : 0 ≤ r) (h1 : r < b) : a / b = q :=
  ((Int.ediv_emod_unique hb).2 ⟨h, h0, h1⟩).1
theorem floor_low (a b : Int) (hb : 1 ≤ b) (h : a.tmod b < 0) : a.tdiv b - 1 = a / b := by
  have e := Int.mul_tdiv_add_tmod a b
  have l := Int.lt_tmod_of_pos a (b := b) (by omega)
  refine (div_unique (r := a.tmod b + b) (by omega) ?_ (by omega) (by omega)).symm
  rw [Int.mul_sub, Int.mul_one]; omega
theorem floor_same (a b : Int) (hb : 1 ≤ b) (h : 0 ≤ a.tmod b) : a.tdiv b = a / b := by
  have e := Int.mul_tdiv_add_tmod a b
  have l := Int.tmod_lt_of_pos a (b := b) (by omega)
  exact (div_unique (r := a.tmod b) (by omega) (by omega) (by omega) (by omega)).symm
theorem tdiv_bd (a b : Int) (hb : 1 ≤ b) (ha : a < 0) : a ≤ a.tdiv b ∧ a.tdiv b ≤ 0 ∧ a ≤ a.tdiv b * b ∧ a.tdiv b * b < a + b := by
  have e := Int.mul_tdiv_add_tmod a b
  have l := Int.lt_tmod_of_pos a (b := b) (by omega)
  have u : a.tmod b ≤ 0 := by
    have := Int.tmod_nonneg (a := -a) b (by omega)
    rw [Int.neg_tmod] at this; omega
  have c : a.tdiv b * b = b * a.tdiv b := Int.mul_comm ..
  have q : a.tdiv b ≤ 0 := by
    have := Int.tdiv_nonneg (a := -a) (b := b) (by omega) (by omega)
    rw [Int.neg_tdiv] at this; omega
  have m : b * a.tdiv b ≤ 1 * a.tdiv b := Int.mul_le_mul_of_nonpos_right hb q
  refine ⟨?_, q, by omega, by omega⟩
  omega
theorem ediv_bd (a b : Int) (hb : 1 ≤ b) (ha : 0 ≤ a) : 0 ≤ a / b ∧ a / b ≤ a ∧ a / b * b ≤ a ∧ 0 ≤ a / b * b := by
  have h1 := Int.ediv_nonneg ha (by omega : 0 ≤ b)
  have h2 : a / b ≤ a := Int.ediv_le_self _ ha
  have h3 := Int.ediv_mul_le a (b := b) (by omega)
  exact ⟨h1, h2, h3, Int.mul_nonneg h1 (by omega)⟩
theorem less_of_tmod (a b : Int) (h : a.tmod b < 0) : a < a.tdiv b * b := by
  have e := Int.mul_tdiv_add_tmod a b
  have c : a.tdiv b * b = b * a.tdiv b := Int.mul_comm ..
  omega
theorem notless_of_tmod (a b : Int) (h : 0 ≤ a.tmod b) : a.tdiv b * b ≤ a := by
  have e := Int.mul_tdiv_add_tmod a b
  have c : a.tdiv b * b = b * a.tdiv b := Int.mul_comm ..
  omega
theorem cmpT_eq (a b c d : Int) (hv : vldB a b = true) (hk : vldB c d = true) : cmpT a b c d = Lib.compareInt (a * d) (c * b) := by unfold cmpT Lib.compareInt; rw [hv, hk]; rfl
theorem cmpT_no1 (a b c d : Int) (hv : vldB a b = false) : cmpT a b c d = 0 := by unfold cmpT; rw [hv]; rfl
theorem cmpT_no2 (a b c d : Int) (hv : vldB a b = true) (hk : vldB c d = false) : cmpT a b c d = 0 := by unfold cmpT; rw [hv, hk]; rfl

set_option maxHeartbeats 2000000 in
theorem neg_any (a b : Int) (ha0 : -9223372036854775808 ≤ a) (ha1 : a ≤ 9223372036854775807) (hb0 : -9223372036854775808 ≤ b) (hb1 : b ≤ 9223372036854775807) (w : World) :
    Calls Tryd.prog 38 #[.agg #[.int .i64 a, .int .i64 b]] w fun e w' => e = .returned (.tuple #[.agg #[.int .i64 (negT a b).1, .int .i64 (negT a b).2.1], .int .i64 (negT a b).2.2]) ∧ Below w.heap.size w w' := by
  cases hv : vldB a b
  · have H := Lib.hid (show negT a b = (0, 0, 1) by unfold negT; rw [hv]; rfl)
    go_enter Tryd.func38, Tryd.ntmps38
    go_wp2_with fail
    refine (valid_any _ _ (by omega) (by omega) (by omega) (by omega) _).mono ?_
    rintro e w1 ⟨rfl, hw1⟩
    obtain ⟨hcw1, hfw1⟩ := bcell hw1
    have hB1 : Below w.heap.size w w1 := (boxed2 _ _ _).trans (hw1.mono (by simp <;> omega))
    go_wp2_with fail
    refine bodyPost_ret (v := retT (negT a b)) (by rw [H.out]; simp [results, Tryd.results38, go_sem, hcw1, retT]) rfl ⟨rfl, ?_⟩
    repeat (first | exact Below.refl _ _ | assumption | refine below_drewN ?_ _ | refine Below.setCell ?_ (by simp <;> omega) _ | refine Below.alloc ?_ (by simp <;> omega) _)
  · have H := Lib.hid (show negT a b = (-a, b, 0) by unfold negT; rw [hv]; rfl)
    obtain ⟨p7, p8, p9, p10⟩ := vld_bd hv
    go_enter Tryd.func38, Tryd.ntmps38
    go_wp2_with fail
    refine (valid_any _ _ (by omega) (by omega) (by omega) (by omega) _).mono ?_
    rintro e w1 ⟨rfl, hw1⟩
    obtain ⟨hcw1, hfw1⟩ := bcell hw1
    have hB1 : Below w.heap.size w w1 := (boxed2 _ _ _).trans (hw1.mono (by simp <;> omega))
    go_wp2_with fail
    refine bodyPost_ret (v := retT (negT a b)) (by rw [H.out]; simp [results, Tryd.results38, go_sem, hcw1, retT]) rfl ⟨rfl, ?_⟩
    repeat (first | exact Below.refl _ _ | assumption | refine below_drewN ?_ _ | refine Below.setCell ?_ (by simp <;> omega) _ | refine Below.alloc ?_ (by simp <;> omega) _)

set_option maxHeartbeats 2000000 in
theorem floor_any (a b : Int) (ha0 : -9223372036854775808 ≤ a) (ha1 : a ≤ 9223372036854775807) (hb0 : -9223372036854775808 ≤ b) (hb1 : b ≤ 9223372036854775807) (w : World) :
    Calls Tryd.prog 29 #[.agg #[.int .i64 a, .int .i64 b]] w fun e w' => e = .returned (.int .i64 (floorT a b)) ∧ Below w.heap.size w w' := by
  cases hv : vldB a b
  · have H := Lib.hid (show floorT a b = 0 by unfold floorT; rw [hv]; rfl)
    go_enter Tryd.func29, Tryd.ntmps29
    go_wp2_with fail
    refine (valid_any _ _ (by omega) (by omega) (by omega) (by omega) _).mono ?_
    rintro e w1 ⟨rfl, hw1⟩
    obtain ⟨hcw1, hfw1⟩ := bcell hw1
    have hB1 : Below w.heap.size w w1 := (boxed1 _ _).trans (hw1.mono (by simp <;> omega))
    go_wp2_with fail
    go_ret
    exact ⟨ret_int (by rw [H.out]), hB1⟩
  · have H := Lib.hid (show floorT a b = a / b by unfold floorT; rw [hv]; rfl)
    obtain ⟨p7, p8, p9, p10⟩ := vld_bd hv
    rcases (by omega : 0 ≤ a ∨ (a < 0 ∧ a.tmod b < 0) ∨ (a < 0 ∧ 0 ≤ a.tmod b)) with hs | ⟨hs, ht⟩ | ⟨hs, ht⟩
    · obtain ⟨q1, q2, q3, q4⟩ := ediv_bd a b p7 hs
      have q5 : 0 ≤ a % b := Int.emod_nonneg _ (by omega)
      go_enter Tryd.func29, Tryd.ntmps29
      go_wp2_with fail
      refine (valid_any _ _ (by omega) (by omega) (by omega) (by omega) _).mono ?_
      rintro e w1 ⟨rfl, hw1⟩
      obtain ⟨hcw1, hfw1⟩ := bcell hw1
      have hB1 : Below w.heap.size w w1 := (boxed1 _ _).trans (hw1.mono (by simp <;> omega))
      go_wp2_with fail
      go_ret
      exact ⟨ret_int (by rw [H.out]), hB1⟩
    · obtain ⟨q1, q2, q3, q4⟩ := tdiv_bd a b p7 hs
      have q5 := Lib.hid (floor_low a b p7 ht)
      have q6 := less_of_tmod a b ht
      go_enter Tryd.func29, Tryd.ntmps29
      go_wp2_with fail
      refine (valid_any _ _ (by omega) (by omega) (by omega) (by omega) _).mono ?_
      rintro e w1 ⟨rfl, hw1⟩
      obtain ⟨hcw1, hfw1⟩ := bcell hw1
      have hB1 : Below w.heap.size w w1 := (boxed1 _ _).trans (hw1.mono (by simp <;> omega))
      go_wp2_with fail
      go_ret
      exact ⟨ret_int (by rw [H.out, q5.out]), hB1⟩
    · obtain ⟨q1, q2, q3, q4⟩ := tdiv_bd a b p7 hs
      have q5 := Lib.hid (floor_same a b p7 ht)
      have q6 := notless_of_tmod a b ht
      go_enter Tryd.func29, Tryd.ntmps29
      go_wp2_with fail
      refine (valid_any _ _ (by omega) (by omega) (by omega) (by omega) _).mono ?_
      rintro e w1 ⟨rfl, hw1⟩
      obtain ⟨hcw1, hfw1⟩ := bcell hw1
      have hB1 : Below w.heap.size w w1 := (boxed1 _ _).trans (hw1.mono (by simp <;> omega))
      go_wp2_with fail
      go_ret
      exact ⟨ret_int (by rw [H.out, q5.out]), hB1⟩

set_option maxHeartbeats 2000000 in
theorem cmp_any (a b c d : Int) (ha0 : -9223372036854775808 ≤ a) (ha1 : a ≤ 9223372036854775807) (hb0 : -9223372036854775808 ≤ b) (hb1 : b ≤ 9223372036854775807) (hc0 : -9223372036854775808 ≤ c) (hc1 : c ≤ 9223372036854775807) (hd0 : -9223372036854775808 ≤ d) (hd1 : d ≤ 9223372036854775807) (w : World) :
    Calls Tryd.prog 28 #[.agg #[.int .i64 a, .int .i64 b], .agg #[.int .i64 c, .int .i64 d]] w fun e w' => e = .returned (.int .i64 (cmpT a b c d)) ∧ Below w.heap.size w w' := by
  rcases two_cases (vldB a b) (vldB c d) with hv | ⟨hv, hk⟩ | ⟨hv, hk⟩
  · have H := Lib.hid (cmpT_no1 a b c d hv)
    go_enter Tryd.func28, Tryd.ntmps28
    go_wp2_with fail
    refine (valid_any _ _ (by omega) (by omega) (by omega) (by omega) _).mono ?_
    rintro e w1 ⟨rfl, hw1⟩
    obtain ⟨hcw1, hfw1⟩ := bcell hw1
    have hB1 : Below w.heap.size w w1 := (boxed2 _ _ _).trans (hw1.mono (by simp <;> omega))
    have hz1 : w.heap.size + 1 < w1.heap.size := by have := hw1.size; simp at this; omega
    go_wp2_with fail
    go_ret
    exact ⟨ret_int (by rw [H.out]), hB1⟩
  · have H := Lib.hid (cmpT_no2 a b c d hv hk)
    go_enter Tryd.func28, Tryd.ntmps28
    go_wp2_with fail
    refine (valid_any _ _ (by omega) (by omega) (by omega) (by omega) _).mono ?_
    rintro e w1 ⟨rfl, hw1⟩
    obtain ⟨hcw1, hfw1⟩ := bcell hw1
    have hB1 : Below w.heap.size w w1 := (boxed2 _ _ _).trans (hw1.mono (by simp <;> omega))
    have hz1 : w.heap.size + 1 < w1.heap.size := by have := hw1.size; simp at this; omega
    go_wp2_with fail
    refine (valid_any _ _ (by omega) (by omega) (by omega) (by omega) _).mono ?_
    rintro e w2 ⟨rfl, hw2⟩
    have hv2 := hw1.trans (hw2.mono hw1.size)
    obtain ⟨hcw2, hfw2⟩ := bcell hv2
    have hB2 : Below w.heap.size w w2 := hB1.trans (hw2.mono (by omega))
    clear hcw1 hfw1
    go_wp2_with fail
    go_ret
    exact ⟨ret_int (by rw [H.out]), hB2⟩
  · have H := Lib.hid (cmpT_eq a b c d hv hk)
    obtain ⟨p1, p2⟩ := cross_bd hv hk
    obtain ⟨p3, p4⟩ := cross_bd hk hv
    obtain ⟨p7, p8, p9, p10⟩ := vld_bd hv
    obtain ⟨q7, q8, q9, q10⟩ := vld_bd hk
    go_enter Tryd.func28, Tryd.ntmps28
    go_wp2_with fail
    refine (valid_any _ _ (by omega) (by omega) (by omega) (by omega) _).mono ?_
    rintro e w1 ⟨rfl, hw1⟩
    obtain ⟨hcw1, hfw1⟩ := bcell hw1
    have hB1 : Below w.heap.size w w1 := (boxed2 _ _ _).trans (hw1.mono (by simp <;> omega))
    have hz1 : w.heap.size + 1 < w1.heap.size := by have := hw1.size; simp at this; omega
    go_wp2_with fail
    refine (valid_any _ _ (by omega) (by omega) (by omega) (by omega) _).mono ?_
    rintro e w2 ⟨rfl, hw2⟩
    have hv2 := hw1.trans (hw2.mono hw1.size)
    obtain ⟨hcw2, hfw2⟩ := bcell hv2
    have hB2 : Below w.heap.size w w2 := hB1.trans (hw2.mono (by omega))
    clear hcw1 hfw1
    go_wp2_with fail
    refine (Tryd.cmp_Compare_int _ _ _).mono ?_
    rintro e w3 ⟨rfl, rfl⟩
    go_wp2_with fail
    go_ret
    exact ⟨ret_int (by rw [H.out]), hB2⟩

set_option maxHeartbeats 2000000 in
theorem rneg_any (a b : Int) (ha0 : -9223372036854775808 ≤ a) (ha1 : a ≤ 9223372036854775807) (hb0 : -9223372036854775808 ≤ b) (hb1 : b ≤ 9223372036854775807) (w : World) :
    Calls Tryd.prog 39 #[.agg #[.int .i64 a, .int .i64 b]] w fun e w' => e = .returned (.tuple #[.agg #[.int .i64 (negT a b).1, .int .i64 (negT a b).2.1], .int .i64 (negT a b).2.2]) ∧ Below w.heap.size w w' := by
  cases hv : vldB a b
  · have H := Lib.hid (show negT a b = (0, 0, 1) by unfold negT; rw [hv]; rfl)
    go_enter Tryd.func39, Tryd.ntmps39
    go_wp2_with fail
    refine (rvalid_any _ _ (by omega) (by omega) (by omega) (by omega) _).mono ?_
    rintro e w1 ⟨rfl, hw1⟩
    obtain ⟨hcw1, hfw1⟩ := bcell hw1
    have hB1 : Below w.heap.size w w1 := (boxed2 _ _ _).trans (hw1.mono (by simp <;> omega))
    go_wp2_with fail
    refine bodyPost_ret (v := retT (negT a b)) (by rw [H.out]; simp [results, Tryd.results39, go_sem, hcw1, retT]) rfl ⟨rfl, ?_⟩
    repeat (first | exact Below.refl _ _ | assumption | refine below_drewN ?_ _ | refine Below.setCell ?_ (by simp <;> omega) _ | refine Below.alloc ?_ (by simp <;> omega) _)
  · have H := Lib.hid (show negT a b = (-a, b, 0) by unfold negT; rw [hv]; rfl)
    obtain ⟨p7, p8, p9, p10⟩ := vld_bd hv
    go_enter Tryd.func39, Tryd.ntmps39
    go_wp2_with fail
    refine (rvalid_any _ _ (by omega) (by omega) (by omega) (by omega) _).mono ?_
    rintro e w1 ⟨rfl, hw1⟩
    obtain ⟨hcw1, hfw1⟩ := bcell hw1
    have hB1 : Below w.heap.size w w1 := (boxed2 _ _ _).trans (hw1.mono (by simp <;> omega))
    go_wp2_with fail
    refine bodyPost_ret (v := retT (negT a b)) (by rw [H.out]; simp [results, Tryd.results39, go_sem, hcw1, retT]) rfl ⟨rfl, ?_⟩
    repeat (first | exact Below.refl _ _ | assumption | refine below_drewN ?_ _ | refine Below.setCell ?_ (by simp <;> omega) _ | refine Below.alloc ?_ (by simp <;> omega) _)

set_option maxHeartbeats 2000000 in
theorem rfloor_any (a b : Int) (ha0 : -9223372036854775808 ≤ a) (ha1 : a ≤ 9223372036854775807) (hb0 : -9223372036854775808 ≤ b) (hb1 : b ≤ 9223372036854775807) (w : World) :
    Calls Tryd.prog 41 #[.agg #[.int .i64 a, .int .i64 b]] w fun e w' => e = .returned (.int .i64 (floorT a b)) ∧ Below w.heap.size w w' := by
  cases hv : vldB a b
  · have H := Lib.hid (show floorT a b = 0 by unfold floorT; rw [hv]; rfl)
    go_enter Tryd.func41, Tryd.ntmps41
    go_wp2_with fail
    refine (rvalid_any _ _ (by omega) (by omega) (by omega) (by omega) _).mono ?_
    rintro e w1 ⟨rfl, hw1⟩
    obtain ⟨hcw1, hfw1⟩ := bcell hw1
    have hB1 : Below w.heap.size w w1 := (boxed1 _ _).trans (hw1.mono (by simp <;> omega))
    go_wp2_with fail
    go_ret
    exact ⟨ret_int (by rw [H.out]), hB1⟩
  · have H := Lib.hid (show floorT a b = a / b by unfold floorT; rw [hv]; rfl)
    obtain ⟨p7, p8, p9, p10⟩ := vld_bd hv
    rcases (by omega : 0 ≤ a ∨ (a < 0 ∧ a.tmod b < 0) ∨ (a < 0 ∧ 0 ≤ a.tmod b)) with hs | ⟨hs, ht⟩ | ⟨hs, ht⟩
    · obtain ⟨q1, q2, q3, q4⟩ := ediv_bd a b p7 hs
      have q5 : 0 ≤ a % b := Int.emod_nonneg _ (by omega)
      go_enter Tryd.func41, Tryd.ntmps41
      go_wp2_with fail
      refine (rvalid_any _ _ (by omega) (by omega) (by omega) (by omega) _).mono ?_
      rintro e w1 ⟨rfl, hw1⟩
      obtain ⟨hcw1, hfw1⟩ := bcell hw1
      have hB1 : Below w.heap.size w w1 := (boxed1 _ _).trans (hw1.mono (by simp <;> omega))
      go_wp2_with fail
      go_ret
      exact ⟨ret_int (by rw [H.out]), hB1⟩
    · obtain ⟨q1, q2, q3, q4⟩ := tdiv_bd a b p7 hs
      have q5 := Lib.hid (floor_low a b p7 ht)
      have q6 := less_of_tmod a b ht
      go_enter Tryd.func41, Tryd.ntmps41
      go_wp2_with fail
      refine (rvalid_any _ _ (by omega) (by omega) (by omega) (by omega) _).mono ?_
      rintro e w1 ⟨rfl, hw1⟩
      obtain ⟨hcw1, hfw1⟩ := bcell hw1
      have hB1 : Below w.heap.size w w1 := (boxed1 _ _).trans (hw1.mono (by simp <;> omega))
      go_wp2_with fail
      go_ret
      exact ⟨ret_int (by rw [H.out, q5.out]), hB1⟩
    · obtain ⟨q1, q2, q3, q4⟩ := tdiv_bd a b p7 hs
      have q5 := Lib.hid (floor_same a b p7 ht)
      have q6 := notless_of_tmod a b ht
      go_enter Tryd.func41, Tryd.ntmps41
      go_wp2_with fail
      refine (rvalid_any _ _ (by omega) (by omega) (by omega) (by omega) _).mono ?_
      rintro e w1 ⟨rfl, hw1⟩
      obtain ⟨hcw1, hfw1⟩ := bcell hw1
      have hB1 : Below w.heap.size w w1 := (boxed1 _ _).trans (hw1.mono (by simp <;> omega))
      go_wp2_with fail
      go_ret
      exact ⟨ret_int (by rw [H.out, q5.out]), hB1⟩

set_option maxHeartbeats 2000000 in
theorem rcmp_any (a b c d : Int) (ha0 : -9223372036854775808 ≤ a) (ha1 : a ≤ 9223372036854775807) (hb0 : -9223372036854775808 ≤ b) (hb1 : b ≤ 9223372036854775807) (hc0 : -9223372036854775808 ≤ c) (hc1 : c ≤ 9223372036854775807) (hd0 : -9223372036854775808 ≤ d) (hd1 : d ≤ 9223372036854775807) (w : World) :
    Calls Tryd.prog 40 #[.agg #[.int .i64 a, .int .i64 b], .agg #[.int .i64 c, .int .i64 d]] w fun e w' => e = .returned (.int .i64 (cmpT a b c d)) ∧ Below w.heap.size w w' := by
  rcases two_cases (vldB a b) (vldB c d) with hv | ⟨hv, hk⟩ | ⟨hv, hk⟩
  · have H := Lib.hid (cmpT_no1 a b c d hv)
    go_enter Tryd.func40, Tryd.ntmps40
    go_wp2_with fail
    refine (rvalid_any _ _ (by omega) (by omega) (by omega) (by omega) _).mono ?_
    rintro e w1 ⟨rfl, hw1⟩
    obtain ⟨hcw1, hfw1⟩ := bcell hw1
    have hB1 : Below w.heap.size w w1 := (boxed2 _ _ _).trans (hw1.mono (by simp <;> omega))
    have hz1 : w.heap.size + 1 < w1.heap.size := by have := hw1.size; simp at this; omega
    go_wp2_with fail
    go_ret
    exact ⟨ret_int (by rw [H.out]), hB1⟩
  · have H := Lib.hid (cmpT_no2 a b c d hv hk)
    go_enter Tryd.func40, Tryd.ntmps40
    go_wp2_with fail
    refine (rvalid_any _ _ (by omega) (by omega) (by omega) (by omega) _).mono ?_
    rintro e w1 ⟨rfl, hw1⟩
    obtain ⟨hcw1, hfw1⟩ := bcell hw1
    have hB1 : Below w.heap.size w w1 := (boxed2 _ _ _).trans (hw1.mono (by simp <;> omega))
    have hz1 : w.heap.size + 1 < w1.heap.size := by have := hw1.size; simp at this; omega
    go_wp2_with fail
    refine (rvalid_any _ _ (by omega) (by omega) (by omega) (by omega) _).mono ?_
    rintro e w2 ⟨rfl, hw2⟩
    have hv2 := hw1.trans (hw2.mono hw1.size)
    obtain ⟨hcw2, hfw2⟩ := bcell hv2
    have hB2 : Below w.heap.size w w2 := hB1.trans (hw2.mono (by omega))
    clear hcw1 hfw1
    go_wp2_with fail
    go_ret
    exact ⟨ret_int (by rw [H.out]), hB2⟩
  · have H := Lib.hid (cmpT_eq a b c d hv hk)
    obtain ⟨p1, p2⟩ := cross_bd hv hk
    obtain ⟨p3, p4⟩ := cross_bd hk hv
    obtain ⟨p7, p8, p9, p10⟩ := vld_bd hv
    obtain ⟨q7, q8, q9, q10⟩ := vld_bd hk
    have e1 : IntKind.i64.wrap (a * d) = a * d := IntWalk.i64_in _ (by omega)
    have e2 : IntKind.i64.wrap (c * b) = c * b := IntWalk.i64_in _ (by omega)
    rcases (by omega : a * d < c * b ∨ (¬ a * d < c * b ∧ c * b < a * d) ∨ (¬ a * d < c * b ∧ ¬ c * b < a * d)) with h1 | ⟨h1, h2⟩ | ⟨h1, h2⟩
    all_goals
      go_enter Tryd.func40, Tryd.ntmps40
      go_wp2_with fail
      refine (rvalid_any _ _ (by omega) (by omega) (by omega) (by omega) _).mono ?_
      rintro e w1 ⟨rfl, hw1⟩
      obtain ⟨hcw1, hfw1⟩ := bcell hw1
      have hB1 : Below w.heap.size w w1 := (boxed2 _ _ _).trans (hw1.mono (by simp <;> omega))
      have hz1 : w.heap.size + 1 < w1.heap.size := by have := hw1.size; simp at this; omega
      go_wp2_with fail
      refine (rvalid_any _ _ (by omega) (by omega) (by omega) (by omega) _).mono ?_
      rintro e w2 ⟨rfl, hw2⟩
      have hv2 := hw1.trans (hw2.mono hw1.size)
      obtain ⟨hcw2, hfw2⟩ := bcell hv2
      have hB2 : Below w.heap.size w w2 := hB1.trans (hw2.mono (by omega))
      clear hcw1 hfw1
      go_wp2_with fail
      go_quiet (fail)
      go_wp2
    · go_ret
      exact ⟨ret_int (by rw [H.out]; unfold Lib.compareInt; rw [if_pos (by omega)]), below_drewN hB2 _⟩
    · go_ret
      exact ⟨ret_int (by rw [H.out]; unfold Lib.compareInt; rw [if_neg (by omega), if_pos (by omega)]), below_drewN hB2 _⟩
    · go_ret
      exact ⟨ret_int (by rw [H.out]; unfold Lib.compareInt; rw [if_neg (by omega), if_neg (by omega)]), below_drewN hB2 _⟩
end Go.Proofs.YtjhnapbaaifmnaaDoor

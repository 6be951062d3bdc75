/-
  Layer 2 (rounding): contracts of Round and of the reference's Round. Conditions: the parts of the fractions and the mode fit their kinds.
-/
import Derived.Test.YtgkjdaeihjedkaaPrPart
namespace Go.Proofs.Ytgkjdaeihjedkaa
open Go Go.RowKit Go.Lib
set_option linter.unusedVariables false

/-- What Round computes of a / b with the unit c / d. -/
def roundT (a b c d m : Int) : Int × Int × Int :=
  if vldB a b && vldB c d then (if decide (0 < c) && witB m 0 6 then newT (rndT (a * d) (b * c) m * c) d else (0, 0, 2)) else (0, 0, 1)
theorem roundT_no1 {a b c d m : Int} (h : vldB a b = false) : roundT a b c d m = (0, 0, 1) := by unfold roundT; rw [h]; rfl
theorem roundT_no2 {a b c d m : Int} (h : vldB a b = true) (k : vldB c d = false) : roundT a b c d m = (0, 0, 1) := by unfold roundT; rw [h, k]; rfl
theorem roundT_no3 {a b c d m : Int} (h : vldB a b = true) (k : vldB c d = true) (hc : ¬ 0 < c) : roundT a b c d m = (0, 0, 2) := by unfold roundT; rw [h, k, decide_eq_false hc]; rfl
theorem roundT_no4 {a b c d m : Int} (h : vldB a b = true) (k : vldB c d = true) (hm : witB m 0 6 = false) : roundT a b c d m = (0, 0, 2) := by unfold roundT; rw [h, k, hm, Bool.and_false]; rfl
theorem roundT_yes {a b c d m : Int} (h : vldB a b = true) (k : vldB c d = true) (hc : 0 < c) (hm : witB m 0 6 = true) : roundT a b c d m = newT (rndT (a * d) (b * c) m * c) d := by unfold roundT; rw [h, k, decide_eq_true hc, hm]; rfl
theorem round_facts {a b c d m : Int} (h : vldB a b = true) (k : vldB c d = true) (hc : 0 < c) (hm : witB m 0 6 = true) :
    (1 ≤ b * c ∧ b * c ≤ 1000000000000000000) ∧ (-1000000000000000000 ≤ a * d ∧ a * d ≤ 1000000000000000000) ∧ (0 ≤ m ∧ m ≤ 6) ∧ (-2000000000000000000 ≤ rndT (a * d) (b * c) m * c ∧ rndT (a * d) (b * c) m * c ≤ 2000000000000000000) ∧ (1 ≤ d ∧ d ≤ 1000000)
      ∧ (-1000000000000000001 ≤ rndT (a * d) (b * c) m ∧ rndT (a * d) (b * c) m ≤ 1000000000000000001) := by
  have hb := vld_bd h
  have hd := vld_bd k
  have k1 := mul_pos_bd (a := b) (b := c) (A := 1000000) (B := 1000000000000) hb.1 hb.2.1 (by omega) hd.2.2.2
  have k2 := cross_bd h k
  have k3 := rnd_unit (a * d) b c m 1000000000000000000 hb.1 (by omega) k2.1 k2.2 (by omega)
  have k4 := rndT_bd (a * d) (b * c) m 1000000000000000000 (by omega) k2.1 k2.2 (by omega)
  exact ⟨by omega, k2, wit_of hm, by omega, by omega, by omega⟩

set_option maxHeartbeats 4000000 in
theorem round_any (a b c d m : Int) (ha0 : -9223372036854775808 ≤ a) (ha1 : a ≤ 9223372036854775807) (hb0 : -9223372036854775808 ≤ b) (hb1 : b ≤ 9223372036854775807) (hc0 : -9223372036854775808 ≤ c) (hc1 : c ≤ 9223372036854775807) (hd0 : -9223372036854775808 ≤ d) (hd1 : d ≤ 9223372036854775807) (hm0 : -9223372036854775808 ≤ m) (hm1 : m ≤ 9223372036854775807) (w : World) :
    Calls Try.prog 22 #[.agg #[.int .i64 a, .int .i64 b], .agg #[.int .i64 c, .int .i64 d], .int .i64 m] w fun e w' => e = .returned (.tuple #[.agg #[.int .i64 (roundT a b c d m).1, .int .i64 (roundT a b c d m).2.1], .int .i64 (roundT a b c d m).2.2]) ∧ Below w.heap.size w w' := by
  rcases two_cases (vldB a b) (vldB c d) with hv | ⟨hv, hk⟩ | ⟨hv, hk⟩
  · have H := Lib.hid (roundT_no1 (c := c) (d := d) (m := m) hv)
    go_enter Try.func22, Try.ntmps22
    go_wp2_with fail
    refine (valid_any _ _ (by omega) (by omega) (by omega) (by omega) _).mono ?_
    rintro e w1 ⟨rfl, hw1⟩
    obtain ⟨hcw1, hfw1⟩ := bcell hw1
    have hB1 : Below w.heap.size w w1 := (boxed3 _ _ _ _).trans (hw1.mono (by simp <;> omega))
    have hz1 : w.heap.size + 2 < w1.heap.size := by have := hw1.size; simp at this; omega
    go_wp2_with fail
    refine bodyPost_ret (v := retT (roundT a b c d m)) (by rw [H.out]; simp [results, Try.results22, go_sem, hcw1, retT]) rfl ⟨rfl, ?_⟩
    repeat (first | exact Below.refl _ _ | assumption | refine below_drewN ?_ _ | refine Below.setCell ?_ (by simp <;> omega) _ | refine Below.alloc ?_ (by simp <;> omega) _)
  · have H := Lib.hid (roundT_no2 (m := m) hv hk)
    go_enter Try.func22, Try.ntmps22
    go_wp2_with fail
    refine (valid_any _ _ (by omega) (by omega) (by omega) (by omega) _).mono ?_
    rintro e w1 ⟨rfl, hw1⟩
    obtain ⟨hcw1, hfw1⟩ := bcell hw1
    have hB1 : Below w.heap.size w w1 := (boxed3 _ _ _ _).trans (hw1.mono (by simp <;> omega))
    have hz1 : w.heap.size + 2 < w1.heap.size := by have := hw1.size; simp at this; omega
    go_wp2_with fail
    refine (valid_any _ _ (by omega) (by omega) (by omega) (by omega) _).mono ?_
    rintro e w2 ⟨rfl, hw2⟩
    have hv2 := hw1.trans (hw2.mono hw1.size)
    obtain ⟨hcw2, hfw2⟩ := bcell hv2
    have hB2 : Below w.heap.size w w2 := hB1.trans (hw2.mono (by omega))
    have hz2 : w.heap.size + 2 < w2.heap.size := by have := hw2.size; omega
    clear hcw1 hfw1
    go_wp2_with fail
    refine bodyPost_ret (v := retT (roundT a b c d m)) (by rw [H.out]; simp [results, Try.results22, go_sem, hcw2, retT]) rfl ⟨rfl, ?_⟩
    repeat (first | exact Below.refl _ _ | assumption | refine below_drewN ?_ _ | refine Below.setCell ?_ (by simp <;> omega) _ | refine Below.alloc ?_ (by simp <;> omega) _)
  obtain ⟨q7, q8, q9, q10⟩ := vld_bd hk
  rcases (by omega : c ≤ 0 ∨ 0 < c) with hc | hc
  · have H := Lib.hid (roundT_no3 (m := m) hv hk (by omega))
    have hc1 : decide (c ≤ 0) = true := decide_eq_true hc
    go_enter Try.func22, Try.ntmps22
    go_wp2_with fail
    refine (valid_any _ _ (by omega) (by omega) (by omega) (by omega) _).mono ?_
    rintro e w1 ⟨rfl, hw1⟩
    obtain ⟨hcw1, hfw1⟩ := bcell hw1
    have hB1 : Below w.heap.size w w1 := (boxed3 _ _ _ _).trans (hw1.mono (by simp <;> omega))
    have hz1 : w.heap.size + 2 < w1.heap.size := by have := hw1.size; simp at this; omega
    go_wp2_with fail
    refine (valid_any _ _ (by omega) (by omega) (by omega) (by omega) _).mono ?_
    rintro e w2 ⟨rfl, hw2⟩
    have hv2 := hw1.trans (hw2.mono hw1.size)
    obtain ⟨hcw2, hfw2⟩ := bcell hv2
    have hB2 : Below w.heap.size w w2 := hB1.trans (hw2.mono (by omega))
    have hz2 : w.heap.size + 2 < w2.heap.size := by have := hw2.size; omega
    clear hcw1 hfw1
    go_wp2_with (go_at_call 23; refine (known_any _ _).mono ?_; rintro e w' ⟨rfl, rfl⟩)
    refine bodyPost_ret (v := retT (roundT a b c d m)) (by rw [H.out]; simp [results, Try.results22, go_sem, hcw2, retT]) rfl ⟨rfl, ?_⟩
    repeat (first | exact Below.refl _ _ | assumption | refine below_drewN ?_ _ | refine Below.setCell ?_ (by simp <;> omega) _ | refine Below.alloc ?_ (by simp <;> omega) _)
  have hc1 : decide (c ≤ 0) = false := decide_eq_false (by omega)
  cases hm : witB m 0 6
  · have H := Lib.hid (roundT_no4 hv hk hm)
    go_enter Try.func22, Try.ntmps22
    go_wp2_with fail
    refine (valid_any _ _ (by omega) (by omega) (by omega) (by omega) _).mono ?_
    rintro e w1 ⟨rfl, hw1⟩
    obtain ⟨hcw1, hfw1⟩ := bcell hw1
    have hB1 : Below w.heap.size w w1 := (boxed3 _ _ _ _).trans (hw1.mono (by simp <;> omega))
    have hz1 : w.heap.size + 2 < w1.heap.size := by have := hw1.size; simp at this; omega
    go_wp2_with fail
    refine (valid_any _ _ (by omega) (by omega) (by omega) (by omega) _).mono ?_
    rintro e w2 ⟨rfl, hw2⟩
    have hv2 := hw1.trans (hw2.mono hw1.size)
    obtain ⟨hcw2, hfw2⟩ := bcell hv2
    have hB2 : Below w.heap.size w w2 := hB1.trans (hw2.mono (by omega))
    have hz2 : w.heap.size + 2 < w2.heap.size := by have := hw2.size; omega
    clear hcw1 hfw1
    go_wp2_with (go_at_call 23; refine (known_any _ _).mono ?_; rintro e w' ⟨rfl, rfl⟩)
    refine bodyPost_ret (v := retT (roundT a b c d m)) (by rw [H.out]; simp [results, Try.results22, go_sem, hcw2, retT]) rfl ⟨rfl, ?_⟩
    repeat (first | exact Below.refl _ _ | assumption | refine below_drewN ?_ _ | refine Below.setCell ?_ (by simp <;> omega) _ | refine Below.alloc ?_ (by simp <;> omega) _)
  · have H := Lib.hid (roundT_yes hv hk hc hm)
    obtain ⟨⟨k1, k2⟩, ⟨k3, k4⟩, ⟨k5, k6⟩, ⟨k7, k8⟩, ⟨k9, k10⟩, ⟨k11, k12⟩⟩ := round_facts hv hk hc hm
    obtain ⟨p7, p8, p9, p10⟩ := vld_bd hv
    go_enter Try.func22, Try.ntmps22
    go_wp2_with fail
    refine (valid_any _ _ (by omega) (by omega) (by omega) (by omega) _).mono ?_
    rintro e w1 ⟨rfl, hw1⟩
    obtain ⟨hcw1, hfw1⟩ := bcell hw1
    have hB1 : Below w.heap.size w w1 := (boxed3 _ _ _ _).trans (hw1.mono (by simp <;> omega))
    have hz1 : w.heap.size + 2 < w1.heap.size := by have := hw1.size; simp at this; omega
    go_wp2_with fail
    refine (valid_any _ _ (by omega) (by omega) (by omega) (by omega) _).mono ?_
    rintro e w2 ⟨rfl, hw2⟩
    have hv2 := hw1.trans (hw2.mono hw1.size)
    obtain ⟨hcw2, hfw2⟩ := bcell hv2
    have hB2 : Below w.heap.size w w2 := hB1.trans (hw2.mono (by omega))
    have hz2 : w.heap.size + 2 < w2.heap.size := by have := hw2.size; omega
    clear hcw1 hfw1
    go_wp2_with (go_at_call 23; refine (known_any _ _).mono ?_; rintro e w' ⟨rfl, rfl⟩)
    refine (quo_any _ _ _ k1 k2 k3 k4 k5 k6 _).mono ?_
    rintro e w' ⟨rfl, k, rfl⟩
    go_wp2_with fail
    refine (new_any _ _ (by omega) (by omega) (by omega) (by omega) _).mono ?_
    rintro e w3 ⟨rfl, hw3⟩
    have hv3 := hv2.trans ((below_drewN (Below.refl _ _) k).trans hw3 |>.mono hv2.size)
    have hB3 : Below w.heap.size w w3 := hB2.trans ((below_drewN (Below.refl _ _) k).trans hw3 |>.mono (by show w.heap.size ≤ w2.heap.size; omega))
    obtain ⟨hcw3, hfw3⟩ := bcell hv3
    clear hcw2 hfw2
    go_wp2_with fail
    refine bodyPost_ret (v := retT (roundT a b c d m)) (by rw [H.out]; simp [results, Try.results22, go_sem, hcw3, retT]) rfl ⟨rfl, ?_⟩
    repeat (first | exact Below.refl _ _ | assumption | refine below_drewN ?_ _ | refine Below.setCell ?_ (by simp <;> omega) _ | refine Below.alloc ?_ (by simp <;> omega) _)

end Go.Proofs.Ytgkjdaeihjedkaa

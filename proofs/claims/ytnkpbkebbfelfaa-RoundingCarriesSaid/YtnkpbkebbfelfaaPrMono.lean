/-
  Layer 2 (rounding): rounding is monotone, and leaves a multiple as it is. Conditions: valid fractions, a positive unit, a known mode.
-/
import Derived.Test.YtnkpbkebbfelfaaPrRound
import Derived.Test.YtnkpbkebbfelfaaPrRat
namespace Go.Proofs.Ytnkpbkebbfelfaa
open Go Go.RowKit Go.Lib
set_option linter.unusedVariables false

theorem out_back' (t : Int × Int × Int) (q : Rat) (e : t = outT q) (h : t.2.2 = 0) : vldB t.1 t.2.1 = true ∧ Rat.divInt t.1 t.2.1 = q := by
  subst e
  obtain ⟨e1, e2, e3⟩ := valid_of_out q h
  rw [e1]
  exact ⟨e2, e3⟩
/-- What a fraction that New has made is worth. -/
theorem newT_val {n d x y : Int} (hd : 1 ≤ d) (h : newT n d = (x, y, 0)) : vldB x y = true ∧ x * d = n * y := by
  have e := newT_out n d (by omega)
  obtain ⟨a, b⟩ := out_back' (newT n d) _ e (by rw [h])
  rw [h] at a b
  dsimp only at a b
  have hy := (vld_bd a).1
  refine ⟨a, ?_⟩
  exact (Rat.divInt_eq_divInt_iff (show y ≠ 0 by omega) (show d ≠ 0 by omega)).1 b
theorem newT_of_val {n d x y : Int} (hd : 1 ≤ d) (hv : vldB x y = true) (h : x * d = n * y) : newT n d = (x, y, 0) := by
  have hy := (vld_bd hv).1
  rw [newT_out n d (by omega), ← (Rat.divInt_eq_divInt_iff (show y ≠ 0 by omega) (show d ≠ 0 by omega)).2 h]
  exact (out_valid x y hv).1
theorem outT_err (q : Rat) : (outT q).2.2 = 0 ∨ (outT q).2.2 = 4 := by unfold outT; split <;> simp
theorem round_err {a b c d m : Int} (h : vldB a b = true) (k : vldB c d = true) (hc : 0 < c) (hm : witB m 0 6 = true) : (roundT a b c d m).2.2 = 0 ∨ (roundT a b c d m).2.2 = 4 := by
  rw [roundT_yes h k hc hm, newT_out _ _ (by have := vld_bd k; omega)]
  exact outT_err _

theorem div_neg_iff {n d : Int} (hd : 0 < d) : n < 0 ↔ n / d < 0 := by
  constructor
  · intro h; exact Int.ediv_neg_of_neg_of_pos h hd
  · intro h
    rcases Int.lt_or_le n 0 with k | k
    · exact k
    · have := Int.ediv_nonneg k (show 0 ≤ d by omega); omega
theorem half_mono {r1 d1 r2 d2 : Int} (h1 : 0 < d1) (h2 : 0 < d2) (hr : r1 * d2 ≤ r2 * d1) : (d1 ≤ 2 * r1 → d2 ≤ 2 * r2) ∧ (d1 < 2 * r1 → d2 < 2 * r2) ∧ (0 < r1 → 0 < r2) := by
  refine ⟨fun h => ?_, fun h => ?_, fun h => ?_⟩
  · have a : d1 * d2 ≤ 2 * r1 * d2 := Int.mul_le_mul_of_nonneg_right h (by omega)
    have b : d2 * d1 ≤ 2 * r2 * d1 := by rw [Int.mul_comm d2, Int.mul_assoc 2 r2]; rw [Int.mul_assoc] at a; omega
    exact Int.le_of_mul_le_mul_right b h1
  · have a : d1 * d2 < 2 * r1 * d2 := Int.mul_lt_mul_of_pos_right h h2
    have b : d2 * d1 < 2 * r2 * d1 := by rw [Int.mul_comm d2, Int.mul_assoc 2 r2]; rw [Int.mul_assoc] at a; omega
    exact Int.lt_of_mul_lt_mul_right b (by omega)
  · have a : 0 * d2 < r1 * d2 := Int.mul_lt_mul_of_pos_right h h2
    have b : 0 * d1 < r2 * d1 := by rw [Int.zero_mul] at a ⊢; omega
    exact Int.lt_of_mul_lt_mul_right b (by omega)
theorem pick_mono {q r1 d1 r2 d2 m : Int} {neg : Bool} (a1 : 0 ≤ r1) (b1 : r1 < d1) (a2 : 0 ≤ r2) (b2 : r2 < d2) (hr : r1 * d2 ≤ r2 * d1) (h0 : 0 ≤ m) (h1 : m ≤ 6) : pickT q r1 d1 m neg ≤ pickT q r2 d2 m neg := by
  obtain ⟨x1, x2, x3⟩ := half_mono (by omega : 0 < d1) (by omega : 0 < d2) hr
  rcases (by omega : r1 = 0 ∨ 0 < r1) with hz | hz
  · have e : pickT q r1 d1 m neg = q := by unfold pickT; rw [if_pos hz]
    rw [e]
    rcases pickT_near q r2 d2 m neg with h | ⟨h, _⟩ <;> omega
  · have hz2 := x3 hz
    rcases mode7 h0 h1 with rfl | rfl | rfl | rfl | rfl | rfl | rfl
    · rw [pick_m0 hz, pick_m0 hz2]; exact Int.le_refl _
    · rw [pick_m1 hz, pick_m1 hz2]; exact Int.le_refl _
    · rw [pick_m2 hz, pick_m2 hz2]; exact Int.le_refl _
    · rw [pick_m3 hz, pick_m3 hz2]; exact Int.le_refl _
    all_goals
      rcases (by omega : r1 < d1 - r1 ∨ r1 = d1 - r1 ∨ d1 - r1 < r1) with c | c | c
      · rw [pick_lo hz (by omega) c]
        rcases pickT_near q r2 d2 _ neg with h | ⟨h, _⟩ <;> rw [h] <;> omega
      · rcases (by omega : r2 = d2 - r2 ∨ d2 - r2 < r2) with e | e
        · unfold pickT
          rw [if_neg (show ¬ r1 = 0 by omega), if_neg (show ¬ r2 = 0 by omega), if_neg (show ¬ d1 - r1 < r1 by omega), if_neg (show ¬ d2 - r2 < r2 by omega), if_neg (show ¬ r1 < d1 - r1 by omega), if_neg (show ¬ r2 < d2 - r2 by omega)]
          exact Int.le_refl _
        · rw [pick_hi hz2 (by omega) e]
          rcases pickT_near q r1 d1 _ neg with h | ⟨h, _⟩ <;> rw [h] <;> omega
      · rw [pick_hi hz (by omega) c, pick_hi hz2 (by omega) (by omega)]; exact Int.le_refl _
theorem rnd_mono {n1 d1 n2 d2 m : Int} (h1 : 1 ≤ d1) (h2 : 1 ≤ d2) (h : n1 * d2 ≤ n2 * d1) (m0 : 0 ≤ m) (m1 : m ≤ 6) : rndT n1 d1 m ≤ rndT n2 d2 m := by
  have e1 := Int.mul_ediv_add_emod n1 d1
  have e2 := Int.mul_ediv_add_emod n2 d2
  have a1 := Int.emod_nonneg n1 (show d1 ≠ 0 by omega)
  have b1 := Int.emod_lt_of_pos n1 (show 0 < d1 by omega)
  have a2 := Int.emod_nonneg n2 (show d2 ≠ 0 by omega)
  have b2 := Int.emod_lt_of_pos n2 (show 0 < d2 by omega)
  have hq : n1 / d1 ≤ n2 / d2 := by
    rw [Int.le_ediv_iff_mul_le (by omega)]
    have k : n1 / d1 * d2 * d1 ≤ n2 * d1 := by
      have : d1 * (n1 / d1) ≤ n1 := by omega
      have t : d1 * (n1 / d1) * d2 ≤ n1 * d2 := Int.mul_le_mul_of_nonneg_right this (by omega)
      have c : n1 / d1 * d2 * d1 = d1 * (n1 / d1) * d2 := by rw [Int.mul_comm (n1 / d1 * d2) d1, Int.mul_assoc]
      omega
    exact Int.le_of_mul_le_mul_right k (by omega)
  rcases Int.lt_or_eq_of_le hq with hl | he
  · rcases rndT_near n1 d1 m with h | ⟨h, _⟩ <;> rcases rndT_near n2 d2 m with k | ⟨k, _⟩ <;> omega
  · have sg : decide (n1 < 0) = decide (n2 < 0) := by
      have s1 : n1 < 0 ↔ n1 / d1 < 0 := div_neg_iff (by omega)
      have s2 : n2 < 0 ↔ n2 / d2 < 0 := div_neg_iff (by omega)
      rw [decide_eq_decide, s1, s2, he]
    unfold rndT
    rw [sg, he]
    refine pick_mono a1 b1 a2 b2 ?_ m0 m1
    rw [he] at e1
    have p1 : d1 * (n2 / d2) * d2 + n1 % d1 * d2 = n1 * d2 := by rw [← Int.add_mul, e1]
    have p2 : d2 * (n2 / d2) * d1 + n2 % d2 * d1 = n2 * d1 := by rw [← Int.add_mul, e2]
    have p3 : d1 * (n2 / d2) * d2 = d2 * (n2 / d2) * d1 := by rw [Int.mul_comm (d1 * (n2 / d2)) d2, ← Int.mul_assoc, Int.mul_comm d2 d1, Int.mul_assoc, Int.mul_comm d1]
    omega
theorem round_val {a b c d m x y : Int} (h : vldB a b = true) (k : vldB c d = true) (hc : 0 < c) (hm : witB m 0 6 = true) (e : roundT a b c d m = (x, y, 0)) :
    vldB x y = true ∧ x * d = rndT (a * d) (b * c) m * c * y := by
  rw [roundT_yes h k hc hm] at e
  exact newT_val (vld_bd k).1 e
theorem round_mono {a1 b1 a2 b2 c d m x1 y1 x2 y2 : Int} (h1 : vldB a1 b1 = true) (h2 : vldB a2 b2 = true) (k : vldB c d = true) (hc : 0 < c) (hm : witB m 0 6 = true)
    (e1 : roundT a1 b1 c d m = (x1, y1, 0)) (e2 : roundT a2 b2 c d m = (x2, y2, 0)) (h : a1 * b2 ≤ a2 * b1) : x1 * y2 ≤ x2 * y1 := by
  obtain ⟨v1, f1⟩ := round_val h1 k hc hm e1
  obtain ⟨v2, f2⟩ := round_val h2 k hc hm e2
  obtain ⟨m0, m1⟩ := wit_of hm
  have bd1 := vld_bd h1
  have bd2 := vld_bd h2
  have bk := vld_bd k
  have w1 := vld_bd v1
  have w2 := vld_bd v2
  have p1 : 0 < b1 * c := Int.mul_pos (by omega) hc
  have p2 : 0 < b2 * c := Int.mul_pos (by omega) hc
  have mono := rnd_mono (n1 := a1 * d) (d1 := b1 * c) (n2 := a2 * d) (d2 := b2 * c) (m := m) (by omega) (by omega) (by
    have t : a1 * b2 * (d * c) ≤ a2 * b1 * (d * c) := Int.mul_le_mul_of_nonneg_right h (Int.mul_nonneg (by omega) (by omega))
    have c1 : a1 * d * (b2 * c) = a1 * b2 * (d * c) := by rw [Int.mul_assoc, Int.mul_assoc, Int.mul_left_comm d b2 c]
    have c2 : a2 * d * (b1 * c) = a2 * b1 * (d * c) := by rw [Int.mul_assoc, Int.mul_assoc, Int.mul_left_comm d b1 c]
    omega) m0 m1
  generalize rndT (a1 * d) (b1 * c) m = X1 at *
  generalize rndT (a2 * d) (b2 * c) m = X2 at *
  have q1 : X1 * (c * (y1 * y2)) ≤ X2 * (c * (y1 * y2)) := Int.mul_le_mul_of_nonneg_right mono (Int.mul_nonneg (by omega) (Int.mul_nonneg (by omega) (by omega)))
  have r1 : x1 * y2 * d = X1 * (c * (y1 * y2)) := by rw [Int.mul_right_comm, f1, Int.mul_assoc, Int.mul_assoc]
  have r2 : x2 * y1 * d = X2 * (c * (y1 * y2)) := by rw [Int.mul_right_comm, f2, Int.mul_assoc, Int.mul_assoc, Int.mul_comm y2 y1]
  have s : x1 * y2 * d ≤ x2 * y1 * d := by omega
  exact Int.le_of_mul_le_mul_right s (by omega)
theorem round_again {a b c d m x y : Int} (h : vldB a b = true) (k : vldB c d = true) (hc : 0 < c) (hm : witB m 0 6 = true) (e : roundT a b c d m = (x, y, 0)) : roundT x y c d m = (x, y, 0) := by
  obtain ⟨v, f⟩ := round_val h k hc hm e
  have hy := (vld_bd v).1
  have p : 0 < y * c := Int.mul_pos (by omega) hc
  rw [roundT_yes v k hc hm]
  rw [roundT_yes h k hc hm] at e
  have g : x * d = rndT (a * d) (b * c) m * (y * c) := by rw [f, Int.mul_assoc, Int.mul_comm c y]
  have z : rndT (x * d) (y * c) m = rndT (a * d) (b * c) m := by
    rw [rnd_zero (x * d) (y * c) m (by rw [g]; exact Int.mul_emod_left _ _), g]
    exact Int.mul_ediv_cancel _ (by omega)
  rw [z]
  exact e
theorem cmpT_le {a b c d : Int} (h : a * d ≤ c * b) : cmpT a b c d ≤ 0 := by
  unfold cmpT
  split
  · split
    · omega
    · rw [if_neg (by omega)]; omega
  · omega
theorem cmpT_gt {a b c d : Int} (hv : vldB a b = true) (hk : vldB c d = true) (h : cmpT a b c d ≤ 0) : a * d ≤ c * b := by
  unfold cmpT at h
  rw [hv, hk] at h
  simp only [Bool.and_self, if_true] at h
  split at h
  · omega
  · split at h <;> omega
end Go.Proofs.Ytnkpbkebbfelfaa

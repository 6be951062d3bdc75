/-
  Layer 2 (rounding): the distance of a rounded fraction from the fraction, as the statement computes it. Conditions: valid fractions, a positive unit, a known mode; the quotient and the difference fit.
-/
import Derived.Test.YtnkpbkebbfelfaaPrNear
namespace Go.Proofs.Ytnkpbkebbfelfaa
open Go Go.RowKit Go.Lib
set_option linter.unusedVariables false

section
variable {a b c d m x1 x2 : Int}
theorem near_div {q1 q2 : Int} (h : vldB a b = true) (k : vldB c d = true) (hc : 0 < c) (hm : witB m 0 6 = true) (e : roundT a b c d m = (x1, x2, 0)) (e2 : divT x1 x2 c d = (q1, q2, 0)) :
    q2 = 1 ∧ q1 = rndT (a * d) (b * c) m := by
  obtain ⟨v, f⟩ := round_val h k hc hm e
  have hx := (vld_bd v).1
  have hp : 0 < x2 * c := Int.mul_pos (by omega) hc
  unfold divT at e2
  rw [v, k] at e2
  obtain ⟨vq, g⟩ := newT_val (by omega) (show newT (x1 * d) (x2 * c) = (q1, q2, 0) from e2)
  generalize rndT (a * d) (b * c) m = X at *
  have hq := (vld_bd vq).1
  have e3 : q1 = X * q2 := by
    have : q1 * (x2 * c) = X * q2 * (x2 * c) := by rw [g, f, Int.mul_assoc X c, Int.mul_comm c x2, Int.mul_right_comm]
    exact Int.eq_of_mul_eq_mul_right (by omega) this
  have hg := vld_gcd vq
  rw [e3, Int.natAbs_mul, Nat.gcd_mul_left_left] at hg
  have : q2 = 1 := by omega
  exact ⟨this, by rw [e3, this, Int.mul_one]⟩
theorem near_sub {d1 d2 : Int} (h : vldB a b = true) (k : vldB c d = true) (hc : 0 < c) (hm : witB m 0 6 = true) (e : roundT a b c d m = (x1, x2, 0)) (e2 : subT x1 x2 a b = (d1, d2, 0)) :
    vldB d1 d2 = true ∧ d1 * (b * d) = (rndT (a * d) (b * c) m * (b * c) - a * d) * d2 := by
  obtain ⟨v, f⟩ := round_val h k hc hm e
  have hx := (vld_bd v).1
  have hb := (vld_bd h).1
  have hp : 0 < x2 * b := Int.mul_pos (by omega) (by omega)
  unfold subT at e2
  rw [v, h] at e2
  obtain ⟨vq, g⟩ := newT_val (by omega) (show newT (x1 * b - a * x2) (x2 * b) = (d1, d2, 0) from e2)
  generalize rndT (a * d) (b * c) m = X at *
  refine ⟨vq, ?_⟩
  have t : d1 * (b * d) * x2 = (X * (b * c) - a * d) * d2 * x2 := by
    have t1 : d1 * (b * d) * x2 = d1 * (x2 * b) * d := by
      rw [Int.mul_assoc d1 (b * d) x2, Int.mul_assoc d1 (x2 * b) d, Int.mul_comm (b * d) x2, Int.mul_assoc x2 b d]
    have t2 : (x1 * b - a * x2) * d2 * d = (x1 * d * b - a * d * x2) * d2 := by
      rw [Int.mul_right_comm, Int.sub_mul, Int.mul_right_comm x1 b d, Int.mul_right_comm a x2 d]
    have t3 : (x1 * d * b - a * d * x2) = (X * (b * c) - a * d) * x2 := by
      have u : X * c * x2 * b = X * (b * c) * x2 := by rw [Int.mul_right_comm (X * c) x2 b, Int.mul_assoc X c b, Int.mul_comm c b]
      rw [f, Int.sub_mul, u]
    rw [t1, g, t2, t3, Int.mul_right_comm]
  exact Int.eq_of_mul_eq_mul_right (by omega) t
/-- What the statement sees of the distance d1 / d2. -/
theorem near_all {q1 q2 d1 d2 s1 : Int} (h : vldB a b = true) (k : vldB c d = true) (hc : 0 < c) (hm : witB m 0 6 = true) (e : roundT a b c d m = (x1, x2, 0)) (e2 : divT x1 x2 c d = (q1, q2, 0)) (e3 : subT x1 x2 a b = (d1, d2, 0)) (hs : s1 = if d1 < 0 then -d1 else d1) :
    q2 = 1 ∧ vldB s1 d2 = true ∧ cmpT s1 d2 c d < 0 ∧ (m = 2 → d1 ≤ 0) ∧ (m = 3 → 0 ≤ d1) ∧ (m = 0 → d1 = 0 ∨ (d1 < 0 ↔ 0 < a)) ∧ (m = 1 → d1 = 0 ∨ (0 < d1 ↔ 0 < a)) ∧
      (∀ t1 t2, addT s1 d2 s1 d2 = (t1, t2, 0) → 4 ≤ m → cmpT t1 t2 c d ≤ 0 ∧ (cmpT t1 t2 c d = 0 → (m = 4 → (0 < d1 ↔ 0 < a)) ∧ (m = 5 → (d1 < 0 ↔ 0 < a)) ∧ (m = 6 → q1 % 2 = 0))) := by
  obtain ⟨hq, hX⟩ := near_div h k hc hm e e2
  obtain ⟨vd, hd⟩ := near_sub h k hc hm e e3
  obtain ⟨m0, m1⟩ := wit_of hm
  have bA := vld_bd h
  have bU := vld_bd k
  have bD := vld_bd vd
  have pD : 0 < b * c := Int.mul_pos (by omega) hc
  have pP : 0 < b * d := Int.mul_pos (by omega) (by omega)
  have F := near_fact (n := a * d) (D := b * c) (m := m) (by omega) m0 m1
  rw [← hX] at F hd
  generalize hE : q1 * (b * c) - a * d = E at *
  have sa : 0 < a * d ↔ 0 < a := by
    constructor
    · intro t
      rcases Int.lt_or_le 0 a with u | u
      · exact u
      · have := Int.mul_nonpos_of_nonpos_of_nonneg u (show 0 ≤ d by omega); omega
    · intro t; exact Int.mul_pos t (by omega)
  have sgn : (0 < d1 ↔ 0 < E) ∧ (d1 < 0 ↔ E < 0) := by
    rcases Int.lt_trichotomy d1 0 with t | t | t
    · have u : d1 * (b * d) < 0 := Int.mul_neg_of_neg_of_pos t pP
      rcases Int.lt_trichotomy E 0 with v | v | v
      · omega
      · rw [hd, v, Int.zero_mul] at u; omega
      · have := Int.mul_pos v (show 0 < d2 by omega); omega
    · rw [t, Int.zero_mul] at hd
      rcases Int.lt_trichotomy E 0 with v | v | v
      · have := Int.mul_neg_of_neg_of_pos v (show 0 < d2 by omega); omega
      · omega
      · have := Int.mul_pos v (show 0 < d2 by omega); omega
    · have u : 0 < d1 * (b * d) := Int.mul_pos t pP
      rcases Int.lt_trichotomy E 0 with v | v | v
      · have := Int.mul_neg_of_neg_of_pos v (show 0 < d2 by omega); omega
      · rw [hd, v, Int.zero_mul] at u; omega
      · omega
  -- the absolute values
  obtain ⟨A, hA⟩ : ∃ A, A = if d1 < 0 then -E else E := ⟨_, rfl⟩
  have hsA : s1 * (b * d) = A * d2 := by
    rw [hs, hA]
    by_cases t : d1 < 0
    · rw [if_pos t, if_pos t, Int.neg_mul, Int.neg_mul, hd]
    · rw [if_neg t, if_neg t, hd]
  have A1 : 0 ≤ A ∧ A < b * c := by
    have := F.lo
    have := F.hi
    rw [hA]; split <;> omega
  have A2 : 4 ≤ m → 2 * A ≤ b * c := fun t => by
    have := F.half t
    rw [hA]; split <;> omega
  have A3 : 2 * A = b * c → 2 * E = b * c ∨ 2 * E = -(b * c) := fun t => by
    rw [hA] at t
    split at t <;> omega
  have vs : vldB s1 d2 = true := by
    refine vld_mk ⟨by omega, by omega, ?_, ?_⟩ ?_
    · rw [hs]; split <;> omega
    · rw [hs]; split <;> omega
    · have g := vld_gcd vd
      rw [hs]
      split
      · rw [Int.natAbs_neg]; exact g
      · exact g
  have cmp1 : s1 * d < c * d2 := by
    have t : s1 * d * b < c * d2 * b := by
      have u1 : s1 * d * b = A * d2 := by rw [← hsA, Int.mul_assoc, Int.mul_comm d b]
      have u2 : c * d2 * b = b * c * d2 := by rw [Int.mul_comm, Int.mul_assoc]
      rw [u1, u2]
      exact Int.mul_lt_mul_of_pos_right A1.2 (by omega)
    exact Int.lt_of_mul_lt_mul_right t (by omega)
  refine ⟨hq, vs, ?_, fun t => ?_, fun t => ?_, fun t => ?_, fun t => ?_, fun t1 t2 ht h4 => ?_⟩
  · unfold cmpT
    rw [vs, k]
    simp only [Bool.and_self, if_true]
    rw [if_pos cmp1]
    omega
  · have := F.floor t; omega
  · have := F.ceil t; omega
  · have := F.down t; omega
  · have := F.up t; omega
  · unfold addT at ht
    rw [vs] at ht
    have pd : 0 < d2 * d2 := Int.mul_pos (by omega) (by omega)
    obtain ⟨vt, g⟩ := newT_val (by omega) (show newT (s1 * d2 + s1 * d2) (d2 * d2) = (t1, t2, 0) from ht)
    have bT := vld_bd vt
    have w1 : t1 * d2 = 2 * s1 * t2 := by
      have u : t1 * d2 * d2 = 2 * s1 * t2 * d2 := by
        rw [Int.mul_assoc t1, g, ← Int.two_mul, ← Int.mul_assoc, Int.mul_right_comm]
      exact Int.eq_of_mul_eq_mul_right (by omega) u
    have pz : 0 < t2 * d2 := Int.mul_pos (by omega) (by omega)
    have w2 : t1 * d * (d2 * b) = 2 * A * (t2 * d2) := by
      have u1 : t1 * d * (d2 * b) = t1 * d2 * (b * d) := by
        rw [Int.mul_assoc, Int.mul_assoc, Int.mul_left_comm d d2 b, Int.mul_comm d b]
      have u2 : 2 * s1 * t2 * (b * d) = 2 * t2 * (s1 * (b * d)) := by
        rw [Int.mul_right_comm 2 s1 t2, Int.mul_assoc]
      have u3 : 2 * t2 * (A * d2) = 2 * A * (t2 * d2) := by
        rw [Int.mul_assoc, Int.mul_left_comm t2 A d2, ← Int.mul_assoc]
      rw [u1, w1, u2, hsA, u3]
    have w3 : c * t2 * (d2 * b) = b * c * (t2 * d2) := by
      rw [Int.mul_assoc, Int.mul_comm b c, Int.mul_assoc c b, ← Int.mul_assoc t2 d2 b, Int.mul_comm (t2 * d2) b]
    have pb : 0 < d2 * b := Int.mul_pos (by omega) (by omega)
    have le : t1 * d ≤ c * t2 := by
      have : t1 * d * (d2 * b) ≤ c * t2 * (d2 * b) := by
        rw [w2, w3]; exact Int.mul_le_mul_of_nonneg_right (A2 h4) (by omega)
      exact Int.le_of_mul_le_mul_right this pb
    refine ⟨cmpT_le le, fun hz => ?_⟩
    have eq : t1 * d = c * t2 := by
      unfold cmpT at hz
      rw [vt, k] at hz
      simp only [Bool.and_self, if_true] at hz
      split at hz
      · omega
      · omega
    have e4 : 2 * A = b * c := by
      have : 2 * A * (t2 * d2) = b * c * (t2 * d2) := by rw [← w2, ← w3, eq]
      exact Int.eq_of_mul_eq_mul_right (by omega) this
    have e5 := A3 e4
    refine ⟨fun t => ?_, fun t => ?_, fun t => F.tie6 t e5⟩
    · have := F.tie4 t e5; omega
    · have := F.tie5 t e5; omega
end
end Go.Proofs.Ytnkpbkebbfelfaa

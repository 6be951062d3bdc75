/-
  Layer 1 (ratio): sums, differences, products and quotients are those of rational numbers; the laws of arithmetic for them. Plain mathematics; no condition.
-/
import Derived.Test.YtnkpbkebbfelfaaPrRat
namespace Go.Proofs.Ytnkpbkebbfelfaa
open Go Go.RowKit Go.Lib

theorem addT_out (a b c d : Int) (h : vldB a b = true) (k : vldB c d = true) : addT a b c d = outT (Rat.divInt a b + Rat.divInt c d) := by
  have hb := vld_bd h
  have hd := vld_bd k
  have hn := den_bd h k
  have e : addT a b c d = newT (a * d + c * b) (b * d) := by unfold addT; rw [h, k]; try rfl
  rw [e, newT_out _ _ (by omega), Rat.divInt_add_divInt a c (by omega) (by omega)]
theorem subT_out (a b c d : Int) (h : vldB a b = true) (k : vldB c d = true) : subT a b c d = outT (Rat.divInt a b - Rat.divInt c d) := by
  have hb := vld_bd h
  have hd := vld_bd k
  have hn := den_bd h k
  have e : subT a b c d = newT (a * d - c * b) (b * d) := by unfold subT; rw [h, k]; try rfl
  rw [e, newT_out _ _ (by omega), Rat.divInt_sub_divInt a c (by omega) (by omega)]
theorem divT_out (a b c d : Int) (h : vldB a b = true) (k : vldB c d = true) (hc : c ≠ 0) : divT a b c d = outT (Rat.divInt a b / Rat.divInt c d) := by
  have hb := vld_bd h
  have e : divT a b c d = newT (a * d) (b * c) := by unfold divT; rw [h, k]; try rfl
  have hn : b * c ≠ 0 := Int.mul_ne_zero (by omega) hc
  rw [e, newT_out _ _ hn, Rat.div_def, Rat.inv_divInt, Rat.divInt_mul_divInt]
theorem sign_mul (a c b d : Int) (ha : a ≠ 0) (hc : c ≠ 0) (hb : 0 < b) (hd : 0 < d) : (decide (a * c < 0) != decide (b * d < 0)) = (decide (a < 0) != decide (c < 0)) := by
  have hbd : ¬ b * d < 0 := by have := Int.mul_pos hb hd; omega
  rw [decide_eq_false hbd]
  rcases Int.lt_trichotomy a 0 with h | h | h
  · rcases Int.lt_trichotomy c 0 with k | k | k
    · have := Int.mul_pos_of_neg_of_neg h k
      rw [decide_eq_false (by omega), decide_eq_true h, decide_eq_true k]; try rfl
    · exact absurd k hc
    · have := Int.mul_neg_of_neg_of_pos h k
      rw [decide_eq_true this, decide_eq_true h, decide_eq_false (by omega)]; try rfl
  · exact absurd h ha
  · rcases Int.lt_trichotomy c 0 with k | k | k
    · have := Int.mul_neg_of_pos_of_neg h k
      rw [decide_eq_true this, decide_eq_false (by omega), decide_eq_true k]; try rfl
    · exact absurd k hc
    · have := Int.mul_pos h k
      rw [decide_eq_false (by omega), decide_eq_false (by omega), decide_eq_false (by omega)]; try rfl
theorem cut_nil (s t : Bool) (y : Int) : cutT s ((0 : Nat) : Int) y = cutT t ((0 : Nat) : Int) y := by
  unfold cutT; cases s <;> cases t <;> simp
theorem mulT_new (a b c d : Int) (h : vldB a b = true) (k : vldB c d = true) : mulT a b c d = newT (a * c) (b * d) := by
  obtain ⟨h1, h2, h3, h4⟩ := vld_bd h
  obtain ⟨k1, k2, k3, k4⟩ := vld_bd k
  have e : mulT a b c d = cutT (decide (a < 0) != decide (c < 0)) (mulN a b c d) (mulD a b c d) := by unfold mulT; rw [h, k]; try rfl
  have hc := mul_cop a.natAbs b.natAbs c.natAbs d.natAbs (vld_gcd h) (vld_gcd k) (by omega) (by omega)
  have g1 : 0 < Nat.gcd a.natAbs d.natAbs := Nat.gcd_pos_of_pos_right _ (by omega)
  have g2 : 0 < Nat.gcd c.natAbs b.natAbs := Nat.gcd_pos_of_pos_right _ (by omega)
  have d1 := Nat.div_mul_cancel (Nat.gcd_dvd_left a.natAbs d.natAbs)
  have d2 := Nat.div_mul_cancel (Nat.gcd_dvd_right a.natAbs d.natAbs)
  have d3 := Nat.div_mul_cancel (Nat.gcd_dvd_left c.natAbs b.natAbs)
  have d4 := Nat.div_mul_cancel (Nat.gcd_dvd_right c.natAbs b.natAbs)
  have q1 : 0 < d.natAbs / Nat.gcd a.natAbs d.natAbs := Nat.div_pos (Nat.le_of_dvd (by omega) (Nat.gcd_dvd_right _ _)) g1
  have q2 : 0 < b.natAbs / Nat.gcd c.natAbs b.natAbs := Nat.div_pos (Nat.le_of_dvd (by omega) (Nat.gcd_dvd_right _ _)) g2
  have hn : (a * c).natAbs = mulN a b c d * (Nat.gcd a.natAbs d.natAbs * Nat.gcd c.natAbs b.natAbs) := by
    unfold mulN
    rw [Int.natAbs_mul, Nat.mul_mul_mul_comm, d1, d3]
  have hd : (b * d).natAbs = mulD a b c d * (Nat.gcd a.natAbs d.natAbs * Nat.gcd c.natAbs b.natAbs) := by
    unfold mulD
    rw [Int.natAbs_mul, Nat.mul_comm (Nat.gcd a.natAbs d.natAbs), Nat.mul_mul_mul_comm, d4, d2]
  rw [e, newT_gcd (a * c) (b * d) _ (mulN a b c d) (mulD a b c d) (Nat.mul_pos g1 g2) hn hd (Nat.mul_pos q2 q1) hc]
  by_cases ha : a = 0
  · have : mulN a b c d = 0 := by unfold mulN; rw [ha]; simp
    rw [this]; exact cut_nil _ _ _
  · by_cases hc0 : c = 0
    · have : mulN a b c d = 0 := by unfold mulN; rw [hc0]; simp
      rw [this]; exact cut_nil _ _ _
    · rw [sign_mul a c b d ha hc0 (by omega) (by omega)]
theorem mulT_out (a b c d : Int) (h : vldB a b = true) (k : vldB c d = true) : mulT a b c d = outT (Rat.divInt a b * Rat.divInt c d) := by
  have hb := vld_bd h
  have hd := vld_bd k
  have hn := den_bd h k
  rw [mulT_new a b c d h k, newT_out _ _ (by omega), Rat.divInt_mul_divInt]

/-- A result without an error is a valid fraction of the rational number. -/
theorem out_back (t : Int × Int × Int) (q : Rat) (e : t = outT q) (h : t.2.2 = 0) : vldB t.1 t.2.1 = true ∧ Rat.divInt t.1 t.2.1 = q := by
  subst e
  obtain ⟨e1, e2, e3⟩ := valid_of_out q h
  rw [e1]; exact ⟨e2, e3⟩

theorem field_add (a b c d : Int) (h : vldB a b = true) (k : vldB c d = true) : addT c d a b = addT a b c d := by
  rw [addT_out _ _ _ _ h k, addT_out _ _ _ _ k h, Rat.add_comm]
theorem field_mul (a b c d : Int) (h : vldB a b = true) (k : vldB c d = true) : mulT c d a b = mulT a b c d := by
  rw [mulT_out _ _ _ _ h k, mulT_out _ _ _ _ k h, Rat.mul_comm]
theorem field_dist (a b c d e f : Int) (h : vldB a b = true) (k : vldB c d = true) (l : vldB e f = true)
    (h1 : (mulT a b c d).2.2 = 0) (h2 : (addT c d e f).2.2 = 0) (h3 : (mulT a b e f).2.2 = 0) :
    mulT a b (addT c d e f).1 (addT c d e f).2.1 = addT (mulT a b c d).1 (mulT a b c d).2.1 (mulT a b e f).1 (mulT a b e f).2.1 := by
  obtain ⟨v1, r1⟩ := out_back _ _ (mulT_out a b c d h k) h1
  obtain ⟨v2, r2⟩ := out_back _ _ (addT_out c d e f k l) h2
  obtain ⟨v3, r3⟩ := out_back _ _ (mulT_out a b e f h l) h3
  rw [mulT_out _ _ _ _ h v2, addT_out _ _ _ _ v1 v3, r1, r2, r3, Rat.mul_add]
theorem field_sub (a b c d : Int) (h : vldB a b = true) (k : vldB c d = true) (h1 : (addT a b c d).2.2 = 0) :
    subT (addT a b c d).1 (addT a b c d).2.1 c d = (a, b, 0) := by
  obtain ⟨v1, r1⟩ := out_back _ _ (addT_out a b c d h k) h1
  rw [subT_out _ _ _ _ v1 k, r1, Rat.add_sub_cancel]
  exact (out_valid a b h).1
theorem field_div (a b c d : Int) (h : vldB a b = true) (k : vldB c d = true) (hc : c ≠ 0) (h1 : (mulT a b c d).2.2 = 0) :
    divT (mulT a b c d).1 (mulT a b c d).2.1 c d = (a, b, 0) := by
  obtain ⟨v1, r1⟩ := out_back _ _ (mulT_out a b c d h k) h1
  have hq : Rat.divInt c d ≠ 0 := by
    intro e
    have := (out_valid c d k).2.1
    rw [e] at this
    exact hc this.symm
  rw [divT_out _ _ _ _ v1 k hc, r1, Rat.mul_div_cancel hq]
  exact (out_valid a b h).1
theorem field_zero (a b d : Int) (h : vldB a b = true) (k : vldB 0 d = true) : divT a b 0 d = (0, 0, 5) := by
  unfold divT; rw [h, k, Int.mul_zero]; try rfl
end Go.Proofs.Ytnkpbkebbfelfaa

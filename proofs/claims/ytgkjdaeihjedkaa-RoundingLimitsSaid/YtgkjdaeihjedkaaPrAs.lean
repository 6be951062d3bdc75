/-
  Layer 1 (ratio): contracts of Neg, Compare and Floor, and of the reference's. Conditions: the parts of the fractions fit their kinds.
-/
import Derived.Test.YtgkjdaeihjedkaaPrAr
import Derived.Test.YtgkjdaeihjedkaaShelf
namespace Go.Proofs.Ytgkjdaeihjedkaa
open Go Go.RowKit Go.Lib

theorem div_unique {a b q r : Int} (hb : 0 < b) (h : r + b * q = a) (h0 : 0 ≤ r) (h1 : r < b) : a / b = q :=
  ((Int.ediv_emod_unique hb).2 ⟨h, h0, h1⟩).1
theorem floor_low (a b : Int) (hb : 1 ≤ b) (h : a.tmod b < 0) : a.tdiv b - 1 = a / b := by
  have e := Int.mul_tdiv_add_tmod a b
  have l := Int.lt_tmod_of_pos a (b := b) (by omega)
  refine (div_unique (r := a.tmod b + b) (by omega) ?_ (by omega) (by omega)).symm
  rw [Int.mul_sub, Int.mul_one]; omega
theorem floor_same (a b : Int) (hb : 1 ≤ b) (h : 0 ≤ a.tmod b) : a.tdiv b = a / b := by
  have e := Int.mul_tdiv_add_tmod a b
  have l := Int.tmod_lt_of_pos a (b := b) (by omega)
  exact (div_unique (r := a.tmod b) (by omega) (by omega) (by omega) (by omega)).symm
theorem tdiv_bd (a b : Int) (hb : 1 ≤ b) (ha : a < 0) : a ≤ a.tdiv b ∧ a.tdiv b ≤ 0 ∧ a ≤ a.tdiv b * b ∧ a.tdiv b * b < a + b := by
  have e := Int.mul_tdiv_add_tmod a b
  have l := Int.lt_tmod_of_pos a (b := b) (by omega)
  have u : a.tmod b ≤ 0 := by
    have := Int.tmod_nonneg (a := -a) b (by omega)
    rw [Int.neg_tmod] at this; omega
  have c : a.tdiv b * b = b * a.tdiv b := Int.mul_comm ..
  have q : a.tdiv b ≤ 0 := by
    have := Int.tdiv_nonneg (a := -a) (b := b) (by omega) (by omega)
    rw [Int.neg_tdiv] at this; omega
  have m : b * a.tdiv b ≤ 1 * a.tdiv b := Int.mul_le_mul_of_nonpos_right hb q
  refine ⟨?_, q, by omega, by omega⟩
  omega
theorem ediv_bd (a b : Int) (hb : 1 ≤ b) (ha : 0 ≤ a) : 0 ≤ a / b ∧ a / b ≤ a ∧ a / b * b ≤ a ∧ 0 ≤ a / b * b := by
  have h1 := Int.ediv_nonneg ha (by omega : 0 ≤ b)
  have h2 : a / b ≤ a := Int.ediv_le_self _ ha
  have h3 := Int.ediv_mul_le a (b := b) (by omega)
  exact ⟨h1, h2, h3, Int.mul_nonneg h1 (by omega)⟩
theorem less_of_tmod (a b : Int) (h : a.tmod b < 0) : a < a.tdiv b * b := by
  have e := Int.mul_tdiv_add_tmod a b
  have c : a.tdiv b * b = b * a.tdiv b := Int.mul_comm ..
  omega
theorem notless_of_tmod (a b : Int) (h : 0 ≤ a.tmod b) : a.tdiv b * b ≤ a := by
  have e := Int.mul_tdiv_add_tmod a b
  have c : a.tdiv b * b = b * a.tdiv b := Int.mul_comm ..
  omega
theorem cmpT_eq (a b c d : Int) (hv : vldB a b = true) (hk : vldB c d = true) : cmpT a b c d = Lib.compareInt (a * d) (c * b) := by unfold cmpT Lib.compareInt; rw [hv, hk]; rfl
theorem cmpT_no1 (a b c d : Int) (hv : vldB a b = false) : cmpT a b c d = 0 := by unfold cmpT; rw [hv]; rfl
theorem cmpT_no2 (a b c d : Int) (hv : vldB a b = true) (hk : vldB c d = false) : cmpT a b c d = 0 := by unfold cmpT; rw [hv, hk]; rfl

end Go.Proofs.Ytgkjdaeihjedkaa

/-
  Layer 1 (ratio): Compare orders fractions as rational numbers are ordered; sums, positive factors and floors respect it. Plain mathematics; no condition.
-/
import Derived.Test.YtpdkmmiedkkpeaaDoorPrRat2
namespace Go.Proofs.YtpdkmmiedkkpeaaDoor
open Go Go.RowKit Go.Lib

/-- The order of two rational numbers as a number. -/
def ordR (p q : Rat) : Int := if p < q then -1 else if q < p then 1 else 0
theorem cmp_ord (a b c d : Int) (h : vldB a b = true) (k : vldB c d = true) : cmpT a b c d = ordR (Rat.divInt a b) (Rat.divInt c d) := by
  obtain ⟨_, h1, h2⟩ := out_valid a b h
  obtain ⟨_, k1, k2⟩ := out_valid c d k
  have e1 : (Rat.divInt a b < Rat.divInt c d) ↔ a * d < c * b := by rw [Rat.lt_iff, h1, h2, k1, k2]
  have e2 : (Rat.divInt c d < Rat.divInt a b) ↔ c * b < a * d := by rw [Rat.lt_iff, h1, h2, k1, k2]
  unfold cmpT ordR
  rw [h, k]
  simp only [Bool.and_self, if_true, e1, e2]
theorem ord_cases (p q : Rat) : (p < q ∧ ordR p q = -1 ∧ ordR q p = 1) ∨ (p = q ∧ ordR p q = 0 ∧ ordR q p = 0) ∨ (q < p ∧ ordR p q = 1 ∧ ordR q p = -1) := by
  unfold ordR
  by_cases h1 : p < q
  · have h2 : ¬ q < p := Rat.not_lt.2 (Rat.le_of_lt h1)
    exact .inl ⟨h1, by rw [if_pos h1], by rw [if_neg h2, if_pos h1]⟩
  · by_cases h2 : q < p
    · exact .inr (.inr ⟨h2, by rw [if_neg h1, if_pos h2], by rw [if_pos h2]⟩)
    · exact .inr (.inl ⟨Rat.le_antisymm (Rat.not_lt.1 h2) (Rat.not_lt.1 h1), by rw [if_neg h1, if_neg h2], by rw [if_neg h2, if_neg h1]⟩)
theorem div_inj (a b c d : Int) (h : vldB a b = true) (k : vldB c d = true) (e : Rat.divInt a b = Rat.divInt c d) : a = c ∧ b = d := by
  obtain ⟨_, h1, h2⟩ := out_valid a b h
  obtain ⟨_, k1, k2⟩ := out_valid c d k
  rw [e] at h1 h2
  exact ⟨h1.symm.trans k1, h2.symm.trans k2⟩
theorem ord_anti (a b c d : Int) (h : vldB a b = true) (k : vldB c d = true) : cmpT a b c d = -cmpT c d a b := by
  rw [cmp_ord _ _ _ _ h k, cmp_ord _ _ _ _ k h]
  rcases ord_cases (Rat.divInt a b) (Rat.divInt c d) with ⟨_, e1, e2⟩ | ⟨_, e1, e2⟩ | ⟨_, e1, e2⟩ <;> rw [e1, e2] <;> rfl
theorem ord_eq (a b c d : Int) (h : vldB a b = true) (k : vldB c d = true) : (cmpT a b c d == 0) = (a == c && b == d) := by
  rw [cmp_ord _ _ _ _ h k]
  by_cases e : a = c ∧ b = d
  · obtain ⟨rfl, rfl⟩ := e
    rcases ord_cases (Rat.divInt a b) (Rat.divInt a b) with ⟨h1, _⟩ | ⟨_, e1, _⟩ | ⟨h1, _⟩
    · exact absurd h1 (Rat.not_lt.2 Rat.le_refl)
    · rw [e1]; simp
    · exact absurd h1 (Rat.not_lt.2 Rat.le_refl)
  · have hr : (a == c && b == d) = false := by
      rw [Bool.eq_false_iff]; intro h2; simp at h2; exact e h2
    rw [hr]
    rcases ord_cases (Rat.divInt a b) (Rat.divInt c d) with ⟨_, e1, _⟩ | ⟨h1, _, _⟩ | ⟨_, e1, _⟩
    · rw [e1]; rfl
    · exact absurd (div_inj _ _ _ _ h k h1) e
    · rw [e1]; rfl
theorem ord_le (p q : Rat) : ordR p q ≤ 0 ↔ p ≤ q := by
  rcases ord_cases p q with ⟨h, e, _⟩ | ⟨h, e, _⟩ | ⟨h, e, _⟩
  · rw [e]; exact ⟨fun _ => Rat.le_of_lt h, fun _ => by omega⟩
  · rw [e, h]; exact ⟨fun _ => Rat.le_refl, fun _ => by omega⟩
  · rw [e]; exact ⟨fun h1 => by omega, fun h1 => absurd h (Rat.not_lt.2 h1)⟩
theorem ord_trans (a b c d f g : Int) (h : vldB a b = true) (k : vldB c d = true) (l : vldB f g = true) (h1 : cmpT a b c d ≤ 0) (h2 : cmpT c d f g ≤ 0) : cmpT a b f g ≤ 0 := by
  rw [cmp_ord _ _ _ _ h k, ord_le] at h1
  rw [cmp_ord _ _ _ _ k l, ord_le] at h2
  rw [cmp_ord _ _ _ _ h l, ord_le]
  exact Rat.le_trans h1 h2
theorem ord_add (a b c d f g : Int) (h : vldB a b = true) (k : vldB c d = true) (l : vldB f g = true) (h1 : (addT a b f g).2.2 = 0) (h2 : (addT c d f g).2.2 = 0) :
    cmpT (addT a b f g).1 (addT a b f g).2.1 (addT c d f g).1 (addT c d f g).2.1 = cmpT a b c d := by
  obtain ⟨v1, r1⟩ := out_back _ _ (addT_out a b f g h l) h1
  obtain ⟨v2, r2⟩ := out_back _ _ (addT_out c d f g k l) h2
  rw [cmp_ord _ _ _ _ v1 v2, cmp_ord _ _ _ _ h k, r1, r2]
  unfold ordR
  simp only [Rat.add_lt_add_right]
theorem ord_mul (a b c d f g : Int) (h : vldB a b = true) (k : vldB c d = true) (l : vldB f g = true) (hf : 0 < f) (h1 : (mulT a b f g).2.2 = 0) (h2 : (mulT c d f g).2.2 = 0) :
    cmpT (mulT a b f g).1 (mulT a b f g).2.1 (mulT c d f g).1 (mulT c d f g).2.1 = cmpT a b c d := by
  obtain ⟨v1, r1⟩ := out_back _ _ (mulT_out a b f g h l) h1
  obtain ⟨v2, r2⟩ := out_back _ _ (mulT_out c d f g k l) h2
  have hp : 0 < Rat.divInt f g := by
    rw [Rat.lt_iff]
    have := (out_valid f g l).2.1
    rw [this]; simpa using hf
  rw [cmp_ord _ _ _ _ v1 v2, cmp_ord _ _ _ _ h k, r1, r2]
  unfold ordR
  simp only [Rat.mul_lt_mul_right hp]
theorem one_vld (n : Int) (h0 : -1000000000000 ≤ n) (h1 : n ≤ 1000000000000) : vldB n 1 = true := vld_mk ⟨by omega, by omega, h0, h1⟩ (by simp)
theorem floor_le (a b : Int) (h : vldB a b = true) : cmpT (floorT a b) 1 a b ≤ 0 := by
  obtain ⟨h1, h2, h3, h4⟩ := vld_bd h
  have e : floorT a b = a / b := by unfold floorT; rw [h]; rfl
  have m := Int.ediv_mul_le a (b := b) (by omega)
  rw [e]
  unfold cmpT
  cases hv : vldB (a / b) 1
  · simp
  · rw [h]
    simp only [Bool.and_self, if_true, Int.mul_one]
    split
    · omega
    · rw [if_neg (by omega)]; omega
theorem floor_gt (a b : Int) (h : vldB a b = true) (hn : floorT a b < 1000000000000) : cmpT (floorT a b + 1) 1 a b > 0 := by
  obtain ⟨h1, h2, h3, h4⟩ := vld_bd h
  have e : floorT a b = a / b := by unfold floorT; rw [h]; rfl
  have m := Int.lt_ediv_add_one_mul_self a (b := b) (by omega)
  have lo : -1000000000000 ≤ a / b := by
    rcases Int.lt_or_le (a / b) (-1000000000000) with k | k
    · have q : b * (a / b + 1) ≤ 1 * (a / b + 1) := Int.mul_le_mul_of_nonpos_right h1 (by omega)
      rw [Int.mul_comm b] at q
      omega
    · exact k
  rw [e] at hn ⊢
  unfold cmpT
  rw [one_vld (a / b + 1) (by omega) (by omega), h]
  simp only [Bool.and_self, if_true, Int.mul_one]
  rw [if_neg (by omega), if_pos (by omega)]; omega
end Go.Proofs.YtpdkmmiedkkpeaaDoor

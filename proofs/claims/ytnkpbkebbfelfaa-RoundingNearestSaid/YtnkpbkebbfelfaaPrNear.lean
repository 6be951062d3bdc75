/-
  Layer 2 (rounding): how far a rounded number is from the exact one, and on which side. Conditions: a positive divisor, a known mode.
-/
import Derived.Test.YtnkpbkebbfelfaaPrMono
import Derived.Test.YtnkpbkebbfelfaaPrRat2
namespace Go.Proofs.Ytnkpbkebbfelfaa
open Go Go.RowKit Go.Lib
set_option linter.unusedVariables false

/-- What is true of the difference E of the rounded number (times the divisor D) and n. -/
structure NearF (n D m X E : Int) : Prop where
  lo : -D < E
  hi : E < D
  floor : m = 2 → E ≤ 0
  ceil : m = 3 → 0 ≤ E
  down : m = 0 → E = 0 ∨ (E < 0 ↔ 0 < n)
  up : m = 1 → E = 0 ∨ (0 < E ↔ 0 < n)
  half : 4 ≤ m → 2 * E ≤ D ∧ -D ≤ 2 * E
  tie4 : m = 4 → 2 * E = D ∨ 2 * E = -D → (0 < E ↔ 0 < n)
  tie5 : m = 5 → 2 * E = D ∨ 2 * E = -D → (E < 0 ↔ 0 < n)
  tie6 : m = 6 → 2 * E = D ∨ 2 * E = -D → X % 2 = 0
theorem near_fact {n D m : Int} (hD : 1 ≤ D) (h0 : 0 ≤ m) (h1 : m ≤ 6) : NearF n D m (rndT n D m) (rndT n D m * D - n) := by
  have e := Int.mul_ediv_add_emod n D
  have a1 := Int.emod_nonneg n (show D ≠ 0 by omega)
  have a2 := Int.emod_lt_of_pos n (show 0 < D by omega)
  have c : n / D * D = D * (n / D) := Int.mul_comm ..
  have sg : n < 0 ↔ n / D < 0 := div_neg_iff (by omega)
  rcases (by omega : n % D = 0 ∨ 0 < n % D) with hz | hz
  · have hX : rndT n D m = n / D := rnd_zero n D m hz
    have hE : n / D * D - n = 0 := by omega
    rw [hX, hE]
    exact ⟨by omega, by omega, by omega, by omega, by omega, by omega, by omega, by omega, by omega, by omega⟩
  · have hn : n ≠ 0 := by intro h; subst h; simp at hz
    have lowE : n / D * D - n = -(n % D) := by omega
    have highE : (n / D + 1) * D - n = D - n % D := by rw [Int.add_mul, Int.one_mul]; omega
    have low : ∀ {s : Bool}, rndT n D m = pickT (n / D) (n % D) D m s → pickT (n / D) (n % D) D m s = n / D → rndT n D m = n / D := fun a b => a.trans b
    by_cases hneg : n < 0
    · have hp : rndT n D m = pickT (n / D) (n % D) D m true := by unfold rndT; rw [decide_eq_true hneg]
      rcases mode7 h0 h1 with rfl | rfl | rfl | rfl | rfl | rfl | rfl
      · rw [hp, pick_m0 hz, if_pos rfl, highE]; exact ⟨by omega, by omega, by omega, by omega, by omega, by omega, by omega, by omega, by omega, by omega⟩
      · rw [hp, pick_m1 hz, if_pos rfl, lowE]; exact ⟨by omega, by omega, by omega, by omega, by omega, by omega, by omega, by omega, by omega, by omega⟩
      · rw [hp, pick_m2 hz, lowE]; exact ⟨by omega, by omega, by omega, by omega, by omega, by omega, by omega, by omega, by omega, by omega⟩
      · rw [hp, pick_m3 hz, highE]; exact ⟨by omega, by omega, by omega, by omega, by omega, by omega, by omega, by omega, by omega, by omega⟩
      all_goals
        rcases (by omega : n % D < D - n % D ∨ n % D = D - n % D ∨ D - n % D < n % D) with c | c | c
      · rw [hp, pick_lo hz (by omega) c, lowE]; exact ⟨by omega, by omega, by omega, by omega, by omega, by omega, by omega, by omega, by omega, by omega⟩
      · rw [hp, pick_t4 hz c, if_pos rfl, lowE]; exact ⟨by omega, by omega, by omega, by omega, by omega, by omega, by omega, by omega, by omega, by omega⟩
      · rw [hp, pick_hi hz (by omega) c, highE]; exact ⟨by omega, by omega, by omega, by omega, by omega, by omega, by omega, by omega, by omega, by omega⟩
      · rw [hp, pick_lo hz (by omega) c, lowE]; exact ⟨by omega, by omega, by omega, by omega, by omega, by omega, by omega, by omega, by omega, by omega⟩
      · rw [hp, pick_t5 hz c, if_pos rfl, highE]; exact ⟨by omega, by omega, by omega, by omega, by omega, by omega, by omega, by omega, by omega, by omega⟩
      · rw [hp, pick_hi hz (by omega) c, highE]; exact ⟨by omega, by omega, by omega, by omega, by omega, by omega, by omega, by omega, by omega, by omega⟩
      · rw [hp, pick_lo hz (by omega) c, lowE]; exact ⟨by omega, by omega, by omega, by omega, by omega, by omega, by omega, by omega, by omega, by omega⟩
      · by_cases ev : n / D % 2 = 0
        · rw [hp, pick_t6e hz c ev, lowE]; exact ⟨by omega, by omega, by omega, by omega, by omega, by omega, by omega, by omega, by omega, by omega⟩
        · rw [hp, pick_t6o hz c ev, highE]; exact ⟨by omega, by omega, by omega, by omega, by omega, by omega, by omega, by omega, by omega, by omega⟩
      · rw [hp, pick_hi hz (by omega) c, highE]; exact ⟨by omega, by omega, by omega, by omega, by omega, by omega, by omega, by omega, by omega, by omega⟩
    · have hp : rndT n D m = pickT (n / D) (n % D) D m false := by unfold rndT; rw [decide_eq_false hneg]
      rcases mode7 h0 h1 with rfl | rfl | rfl | rfl | rfl | rfl | rfl
      · rw [hp, pick_m0 hz, if_neg (by simp), lowE]; exact ⟨by omega, by omega, by omega, by omega, by omega, by omega, by omega, by omega, by omega, by omega⟩
      · rw [hp, pick_m1 hz, if_neg (by simp), highE]; exact ⟨by omega, by omega, by omega, by omega, by omega, by omega, by omega, by omega, by omega, by omega⟩
      · rw [hp, pick_m2 hz, lowE]; exact ⟨by omega, by omega, by omega, by omega, by omega, by omega, by omega, by omega, by omega, by omega⟩
      · rw [hp, pick_m3 hz, highE]; exact ⟨by omega, by omega, by omega, by omega, by omega, by omega, by omega, by omega, by omega, by omega⟩
      all_goals
        rcases (by omega : n % D < D - n % D ∨ n % D = D - n % D ∨ D - n % D < n % D) with c | c | c
      · rw [hp, pick_lo hz (by omega) c, lowE]; exact ⟨by omega, by omega, by omega, by omega, by omega, by omega, by omega, by omega, by omega, by omega⟩
      · rw [hp, pick_t4 hz c, if_neg (by simp), highE]; exact ⟨by omega, by omega, by omega, by omega, by omega, by omega, by omega, by omega, by omega, by omega⟩
      · rw [hp, pick_hi hz (by omega) c, highE]; exact ⟨by omega, by omega, by omega, by omega, by omega, by omega, by omega, by omega, by omega, by omega⟩
      · rw [hp, pick_lo hz (by omega) c, lowE]; exact ⟨by omega, by omega, by omega, by omega, by omega, by omega, by omega, by omega, by omega, by omega⟩
      · rw [hp, pick_t5 hz c, if_neg (by simp), lowE]; exact ⟨by omega, by omega, by omega, by omega, by omega, by omega, by omega, by omega, by omega, by omega⟩
      · rw [hp, pick_hi hz (by omega) c, highE]; exact ⟨by omega, by omega, by omega, by omega, by omega, by omega, by omega, by omega, by omega, by omega⟩
      · rw [hp, pick_lo hz (by omega) c, lowE]; exact ⟨by omega, by omega, by omega, by omega, by omega, by omega, by omega, by omega, by omega, by omega⟩
      · by_cases ev : n / D % 2 = 0
        · rw [hp, pick_t6e hz c ev, lowE]; exact ⟨by omega, by omega, by omega, by omega, by omega, by omega, by omega, by omega, by omega, by omega⟩
        · rw [hp, pick_t6o hz c ev, highE]; exact ⟨by omega, by omega, by omega, by omega, by omega, by omega, by omega, by omega, by omega, by omega⟩
      · rw [hp, pick_hi hz (by omega) c, highE]; exact ⟨by omega, by omega, by omega, by omega, by omega, by omega, by omega, by omega, by omega, by omega⟩
end Go.Proofs.Ytnkpbkebbfelfaa

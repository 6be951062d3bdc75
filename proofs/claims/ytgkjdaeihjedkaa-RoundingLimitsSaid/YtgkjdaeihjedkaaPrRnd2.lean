/-
  Layer 2 (rounding): contracts of the reference's nearest, of within, known and Mode. Conditions: a positive denominator; the numbers are small enough.
-/
import Derived.Test.YtgkjdaeihjedkaaPrRnd
namespace Go.Proofs.Ytgkjdaeihjedkaa
open Go Go.RowKit Go.Lib
set_option linter.unusedVariables false

theorem rest_eq (n d : Int) : n - n / d * d = n % d := by
  have f := Int.mul_ediv_add_emod n d
  have c : n / d * d = d * (n / d) := Int.mul_comm ..
  omega
theorem pick_m0 {q r d : Int} {neg : Bool} (hr : 0 < r) : pickT q r d 0 neg = if neg then q + 1 else q := by unfold pickT; rw [if_neg (by omega)]; rfl
theorem pick_m1 {q r d : Int} {neg : Bool} (hr : 0 < r) : pickT q r d 1 neg = if neg then q else q + 1 := by unfold pickT; rw [if_neg (by omega)]; rfl
theorem pick_m2 {q r d : Int} {neg : Bool} (hr : 0 < r) : pickT q r d 2 neg = q := by unfold pickT; rw [if_neg (by omega)]; rfl
theorem pick_m3 {q r d : Int} {neg : Bool} (hr : 0 < r) : pickT q r d 3 neg = q + 1 := by unfold pickT; rw [if_neg (by omega)]; rfl
theorem pick_lo {q r d m : Int} {neg : Bool} (hr : 0 < r) (hm : 4 ≤ m) (c : r < d - r) : pickT q r d m neg = q := by
  unfold pickT; rw [if_neg (by omega), if_neg (by omega), if_neg (by omega), if_neg (by omega), if_neg (by omega), if_neg (by omega), if_pos c]
theorem pick_hi {q r d m : Int} {neg : Bool} (hr : 0 < r) (hm : 4 ≤ m) (c : d - r < r) : pickT q r d m neg = q + 1 := by
  unfold pickT; rw [if_neg (by omega), if_neg (by omega), if_neg (by omega), if_neg (by omega), if_neg (by omega), if_pos c]
theorem pick_t4 {q r d : Int} {neg : Bool} (hr : 0 < r) (c : r = d - r) : pickT q r d 4 neg = if neg then q else q + 1 := by
  unfold pickT; rw [if_neg (by omega), if_neg (by omega), if_neg (by omega), if_neg (by omega), if_neg (by omega), if_neg (by omega), if_neg (by omega)]; rfl
theorem pick_t5 {q r d : Int} {neg : Bool} (hr : 0 < r) (c : r = d - r) : pickT q r d 5 neg = if neg then q + 1 else q := by
  unfold pickT; rw [if_neg (by omega), if_neg (by omega), if_neg (by omega), if_neg (by omega), if_neg (by omega), if_neg (by omega), if_neg (by omega)]; rfl
theorem pick_t6e {q r d : Int} {neg : Bool} (hr : 0 < r) (c : r = d - r) (h : q % 2 = 0) : pickT q r d 6 neg = q := by
  unfold pickT; rw [if_neg (by omega), if_neg (by omega), if_neg (by omega), if_neg (by omega), if_neg (by omega), if_neg (by omega), if_neg (by omega), if_neg (by omega), if_neg (by omega), if_pos h]
theorem pick_t6o {q r d : Int} {neg : Bool} (hr : 0 < r) (c : r = d - r) (h : ¬ q % 2 = 0) : pickT q r d 6 neg = q + 1 := by
  unfold pickT; rw [if_neg (by omega), if_neg (by omega), if_neg (by omega), if_neg (by omega), if_neg (by omega), if_neg (by omega), if_neg (by omega), if_neg (by omega), if_neg (by omega), if_neg h]

/-- What within answers. -/
def witB (n lo hi : Int) : Bool := decide (lo ≤ n) && decide (n ≤ hi)
theorem wit_yes {n lo hi : Int} (h0 : lo ≤ n) (h1 : n ≤ hi) : witB n lo hi = true := by unfold witB; rw [decide_eq_true h0, decide_eq_true h1]; rfl
theorem wit_no {n lo hi : Int} (h : ¬ (lo ≤ n ∧ n ≤ hi)) : witB n lo hi = false := by unfold witB; simp; omega
set_option maxHeartbeats 1000000 in
theorem wit_any (n lo hi : Int) (w : World) : Calls Try.prog 13 #[.int .i64 n, .int .i64 lo, .int .i64 hi] w fun e w' => e = .returned (.bool (witB n lo hi)) ∧ w = w' := by
  by_cases h0 : lo ≤ n
  · have H : Hid (witB n lo hi = decide (n ≤ hi)) := Lib.hid (by unfold witB; rw [decide_eq_true h0]; rfl)
    go_enter Try.func13, Try.ntmps13
    go_wp2
    go_ret
    exact ⟨by rw [H.out]; rfl, rfl⟩
  · have H : Hid (witB n lo hi = false) := Lib.hid (wit_no (by omega))
    have h1 : decide (lo ≤ n) = false := decide_eq_false h0
    go_enter Try.func13, Try.ntmps13
    go_wp2
    go_ret
    exact ⟨by rw [H.out]; rfl, rfl⟩
set_option maxHeartbeats 1000000 in
theorem known_any (m : Int) (w : World) : Calls Try.prog 23 #[.int .i64 m] w fun e w' => e = .returned (.bool (witB m 0 6)) ∧ w = w' := by
  go_enter Try.func23, Try.ntmps23
  go_wp2_with (go_at_call 13; refine (wit_any _ _ _ _).mono ?_; rintro e w' ⟨rfl, rfl⟩)
  go_ret
  exact ⟨rfl, rfl⟩
end Go.Proofs.Ytgkjdaeihjedkaa

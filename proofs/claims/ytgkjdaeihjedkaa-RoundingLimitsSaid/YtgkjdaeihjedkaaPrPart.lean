/-
  Layer 2 (rounding): contracts of Part and of the reference's Part. Conditions: the arguments fit their kinds.
-/
import Derived.Test.YtgkjdaeihjedkaaPrRnd2
namespace Go.Proofs.Ytgkjdaeihjedkaa
open Go Go.RowKit Go.Lib
set_option linter.unusedVariables false

/-- The rounded quotient is within one divisor of the number. -/
theorem rndT_mul (n d m : Int) (hd : 1 ≤ d) : n - d < rndT n d m * d ∧ rndT n d m * d < n + d := by
  have a1 := Int.mul_ediv_add_emod n d
  have a2 := Int.emod_nonneg n (show d ≠ 0 by omega)
  have a3 := Int.emod_lt_of_pos n (show 0 < d by omega)
  have c : n / d * d = d * (n / d) := Int.mul_comm ..
  rcases rndT_near n d m with e | ⟨e, hr⟩
  · rw [e]; omega
  · rw [e, Int.add_mul]; omega
theorem rnd_unit (n b c m N : Int) (hb : 1 ≤ b) (hc : 1 ≤ c) (h0 : -N ≤ n) (h1 : n ≤ N) (hbc : b * c ≤ N) : -(2 * N) ≤ rndT n (b * c) m * c ∧ rndT n (b * c) m * c ≤ 2 * N := by
  have hp : 0 < b * c := Int.mul_pos (by omega) (by omega)
  obtain ⟨k1, k2⟩ := rndT_mul n (b * c) m (by omega)
  generalize rndT n (b * c) m = x at *
  have e : x * (b * c) = b * (x * c) := by rw [← Int.mul_assoc, Int.mul_comm x b, Int.mul_assoc]
  rw [e] at k1 k2
  generalize x * c = y at *
  rcases Int.le_total 0 y with h | h
  · have : 1 * y ≤ b * y := Int.mul_le_mul_of_nonneg_right hb h
    omega
  · have : b * y ≤ 1 * y := Int.mul_le_mul_of_nonpos_right hb h
    omega
theorem mul_pos_bd {a b A B : Int} (ha : 1 ≤ a) (ha1 : a ≤ A) (hb : 1 ≤ b) (hb1 : b ≤ B) : 1 ≤ a * b ∧ a * b ≤ A * B := by
  have h := mul_bd (n := a) (d := b) (N := A) (D := B) (by omega) ha1 (by omega) hb1 (by omega)
  have : 0 < a * b := Int.mul_pos (by omega) (by omega)
  omega

/-- What Part computes. -/
def cutP (x : Int) : Int × Int := if -1000000000000 ≤ x ∧ x ≤ 1000000000000 then (x, 0) else (0, 4)
def partOk (a n d u m : Int) : Bool := witB a (-1000000000000) 1000000000000 && witB n 0 1000000 && witB d 1 1000000 && witB u 1 1000000 && witB m 0 6
def partT (a n d u m : Int) : Int × Int := if partOk a n d u m then cutP (u * rndT (a * n) (d * u) m) else (0, 2)
theorem partT_no {a n d u m : Int} (h : partOk a n d u m = false) : partT a n d u m = (0, 2) := by unfold partT; rw [h]; rfl
theorem partT_yes {a n d u m : Int} (h : partOk a n d u m = true) : partT a n d u m = cutP (u * rndT (a * n) (d * u) m) := by unfold partT; rw [h]; rfl
theorem cutP_in {x : Int} (h0 : -1000000000000 ≤ x) (h1 : x ≤ 1000000000000) : cutP x = (x, 0) := by unfold cutP; rw [if_pos ⟨h0, h1⟩]
theorem cutP_out {x : Int} (h : ¬ (-1000000000000 ≤ x ∧ x ≤ 1000000000000)) : cutP x = (0, 4) := by unfold cutP; rw [if_neg h]
theorem wit_of {n lo hi : Int} (h : witB n lo hi = true) : lo ≤ n ∧ n ≤ hi := by unfold witB at h; simpa using h
theorem wit_not {n lo hi : Int} (h : witB n lo hi = false) : n < lo ∨ (lo ≤ n ∧ hi < n) := by unfold witB at h; simp at h; omega
theorem pair_of {a b : Int} {t : Int × Int} (h : t = (a, b)) : Ending.returned (.tuple #[.int .i64 a, .int .i64 b]) = .returned (.tuple #[.int .i64 t.1, .int .i64 t.2]) := by rw [h]

theorem part_facts {a n d u m : Int} (e1 : witB a (-1000000000000) 1000000000000 = true) (e2 : witB n 0 1000000 = true) (e3 : witB d 1 1000000 = true) (e4 : witB u 1 1000000 = true) (e5 : witB m 0 6 = true) :
    (1 ≤ d * u ∧ d * u ≤ 1000000000000000000) ∧ (-1000000000000000000 ≤ a * n ∧ a * n ≤ 1000000000000000000) ∧ (0 ≤ m ∧ m ≤ 6) ∧ (-2000000000000000000 ≤ u * rndT (a * n) (d * u) m ∧ u * rndT (a * n) (d * u) m ≤ 2000000000000000000) ∧ partOk a n d u m = true := by
  have h1 := wit_of e1
  have h2 := wit_of e2
  have h3 := wit_of e3
  have h4 := wit_of e4
  have h5 := wit_of e5
  have k1 := mul_pos_bd (a := d) (b := u) (A := 1000000) (B := 1000000) h3.1 h3.2 h4.1 h4.2
  have k2 := mul_bd (n := a) (d := n) (N := 1000000000000) (D := 1000000) h1.1 h1.2 h2.1 h2.2 (by omega)
  have k3 := rnd_unit (a * n) d u m 1000000000000000000 h3.1 h4.1 (by omega) (by omega) (by omega)
  refine ⟨by omega, by omega, h5, ?_, by unfold partOk; rw [e1, e2, e3, e4, e5]; rfl⟩
  rw [Int.mul_comm u]
  omega

set_option maxHeartbeats 4000000 in
theorem part_any (a n d u m : Int) (ha0 : -9223372036854775808 ≤ a) (ha1 : a ≤ 9223372036854775807) (hn0 : -9223372036854775808 ≤ n) (hn1 : n ≤ 9223372036854775807) (hd0 : -9223372036854775808 ≤ d) (hd1 : d ≤ 9223372036854775807) (hu0 : -9223372036854775808 ≤ u) (hu1 : u ≤ 9223372036854775807) (hm0 : -9223372036854775808 ≤ m) (hm1 : m ≤ 9223372036854775807) (w : World) :
    Calls Try.prog 17 #[.int .i64 a, .int .i64 n, .int .i64 d, .int .i64 u, .int .i64 m] w fun e w' => e = .returned (.tuple #[.int .i64 (partT a n d u m).1, .int .i64 (partT a n d u m).2]) ∧ ∃ k, w' = w.drewN k := by
  cases e1 : witB a (-1000000000000) 1000000000000
  · have H := Lib.hid (partT_no (a := a) (n := n) (d := d) (u := u) (m := m) (by unfold partOk; simp [e1]))
    go_enter Try.func17, Try.ntmps17
    go_wp2_with (first | (go_at_call 13; refine (wit_any _ _ _ _).mono ?_; rintro e w' ⟨rfl, rfl⟩) | (go_at_call 23; refine (known_any _ _).mono ?_; rintro e w' ⟨rfl, rfl⟩))
    go_ret2
    exact ⟨pair_of H.out, 0, rfl⟩
  cases e2 : witB n 0 1000000
  · have H := Lib.hid (partT_no (a := a) (n := n) (d := d) (u := u) (m := m) (by unfold partOk; simp [e1, e2]))
    go_enter Try.func17, Try.ntmps17
    go_wp2_with (first | (go_at_call 13; refine (wit_any _ _ _ _).mono ?_; rintro e w' ⟨rfl, rfl⟩) | (go_at_call 23; refine (known_any _ _).mono ?_; rintro e w' ⟨rfl, rfl⟩))
    go_ret2
    exact ⟨pair_of H.out, 0, rfl⟩
  cases e3 : witB d 1 1000000
  · have H := Lib.hid (partT_no (a := a) (n := n) (d := d) (u := u) (m := m) (by unfold partOk; simp [e1, e2, e3]))
    go_enter Try.func17, Try.ntmps17
    go_wp2_with (first | (go_at_call 13; refine (wit_any _ _ _ _).mono ?_; rintro e w' ⟨rfl, rfl⟩) | (go_at_call 23; refine (known_any _ _).mono ?_; rintro e w' ⟨rfl, rfl⟩))
    go_ret2
    exact ⟨pair_of H.out, 0, rfl⟩
  cases e4 : witB u 1 1000000
  · have H := Lib.hid (partT_no (a := a) (n := n) (d := d) (u := u) (m := m) (by unfold partOk; simp [e1, e2, e3, e4]))
    go_enter Try.func17, Try.ntmps17
    go_wp2_with (first | (go_at_call 13; refine (wit_any _ _ _ _).mono ?_; rintro e w' ⟨rfl, rfl⟩) | (go_at_call 23; refine (known_any _ _).mono ?_; rintro e w' ⟨rfl, rfl⟩))
    go_ret2
    exact ⟨pair_of H.out, 0, rfl⟩
  cases e5 : witB m 0 6
  · have H := Lib.hid (partT_no (a := a) (n := n) (d := d) (u := u) (m := m) (by unfold partOk; simp [e1, e2, e3, e4, e5]))
    go_enter Try.func17, Try.ntmps17
    go_wp2_with (first | (go_at_call 13; refine (wit_any _ _ _ _).mono ?_; rintro e w' ⟨rfl, rfl⟩) | (go_at_call 23; refine (known_any _ _).mono ?_; rintro e w' ⟨rfl, rfl⟩))
    go_ret2
    exact ⟨pair_of H.out, 0, rfl⟩
  obtain ⟨⟨k1, k2⟩, ⟨k3, k4⟩, ⟨k5, k6⟩, ⟨k7, k8⟩, k9⟩ := part_facts e1 e2 e3 e4 e5
  have H0 := partT_yes k9
  clear k9
  cases e6 : witB (u * rndT (a * n) (d * u) m) (-1000000000000) 1000000000000
  · rw [cutP_out (by have := wit_not e6; omega)] at H0
    have H := Lib.hid H0
    clear H0
    go_enter Try.func17, Try.ntmps17
    go_wp2_with (first | (go_at_call 13; refine (wit_any _ _ _ _).mono ?_; rintro e w' ⟨rfl, rfl⟩) | (go_at_call 23; refine (known_any _ _).mono ?_; rintro e w' ⟨rfl, rfl⟩))
    refine (quo_any _ _ _ k1 k2 k3 k4 k5 k6 _).mono ?_
    rintro e w' ⟨rfl, k, rfl⟩
    go_wp2_with (first | (go_at_call 13; refine (wit_any _ _ _ _).mono ?_; rintro e w' ⟨rfl, rfl⟩) | (go_at_call 23; refine (known_any _ _).mono ?_; rintro e w' ⟨rfl, rfl⟩))
    go_ret2
    exact ⟨pair_of H.out, k, rfl⟩
  · rw [cutP_in (wit_of e6).1 (wit_of e6).2] at H0
    have H := Lib.hid H0
    clear H0
    go_enter Try.func17, Try.ntmps17
    go_wp2_with (first | (go_at_call 13; refine (wit_any _ _ _ _).mono ?_; rintro e w' ⟨rfl, rfl⟩) | (go_at_call 23; refine (known_any _ _).mono ?_; rintro e w' ⟨rfl, rfl⟩))
    refine (quo_any _ _ _ k1 k2 k3 k4 k5 k6 _).mono ?_
    rintro e w' ⟨rfl, k, rfl⟩
    go_wp2_with (first | (go_at_call 13; refine (wit_any _ _ _ _).mono ?_; rintro e w' ⟨rfl, rfl⟩) | (go_at_call 23; refine (known_any _ _).mono ?_; rintro e w' ⟨rfl, rfl⟩))
    go_ret2
    exact ⟨pair_of H.out, k, rfl⟩

end Go.Proofs.Ytgkjdaeihjedkaa
